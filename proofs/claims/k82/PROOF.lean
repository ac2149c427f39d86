import PyProof.Rows.All
import Wide.All
import OpenK.AllK
import Wide.FinOn
import Lean
import PyProof.EqAt
import PyProof.EqKinds
import PyProof.TupleCall
import PySem.Challenge.RW_leastmiss_k82_whole_rising_rows_by_text
set_option Elab.async false
set_option linter.all false
set_option maxRecDepth 100000
set_option compiler.extract_closed false
noncomputable section
open Nat (le_refl le_trans le_of_lt lt_of_lt_of_le zero_le ne_of_lt mul_le_mul mul_comm lt_of_le_of_lt lt_irrefl pow_succ pow_add dvd_refl lt_trans mul_le_mul_right not_lt_zero succ_mul pos_of_ne_zero dvd_trans mul_assoc le_mul_of_pos_right lt_or_ge log2_lt gcd_dvd_left div_le_self add_mul one_mul pow_le_pow_right pow_pos le_of_dvd gcd_pos_of_pos_left mul_le_mul_left ne_of_gt dvd_mul_right sub_self)
open List (length_map mem_cons mem_cons_self mem_cons_of_mem mem_map length_append map_cons length_cons mem_of_getElem? zipWith replicate size_toArray mem_singleton map_append length_zip mem_append flatten_cons not_mem_nil getD getElem?_eq_getElem mem_append_right length_take getElem_mem getElem?_map take_of_length_le lookup_cons forall_mem_cons take_length append_assoc length_zipWith length_replicate append_nil mem_of_mem_take of_mem_zip length_drop pairwise_cons zipWith_cons_cons getElem_zip range take_append_drop length_pos_iff map_map getElem_of_mem mem_append_left replicate_succ length_range take_add_one pairwise_append cons_append nodup_cons length_set length_eq_zero_iff mem_flatten mem_reverse filterMap_cons getElem?_append_right find?_cons getD_eq_getElem?_getD getElem?_zip_eq_some drop_drop mem_range mem_filterMap getElem?_append_left length_singleton length_nil Pairwise all_eq_true drop_zero map_take take flatten_append drop_left getElem?_set_self getElem?_set_ne length any_cons pairwise_singleton sum_cons map_congr_left mem_filter getElem?_take_of_lt eraseIdx_cons_succ foldl nil_append map_nil take_zero getElem?_of_mem Perm drop_eq_getElem_cons take_succ_cons reverse_cons map_zipWith)
open Rat (divInt mul_nonneg not_lt intCast_mul intCast_natCast intCast_add intCast_pos intCast_le_intCast mul_pos natCast_mul num_nonneg le_antisymm not_le intCast_neg div_def zero_mul add_zero intCast_nonneg num_divInt_den zero_add den_divInt divInt_eq_div sub_eq_add_neg mul_add num_divInt div_mul_cancel mul_lt_mul_of_pos_right le_total mul_zero intCast_lt_intCast inv_pos)
open PySem.Heap (lt_size get?_push_of_some get?_push_size SameBut size_push IsList get?_update_other)
open Int (natAbs_mul toNat_natCast natAbs_natCast emod_nonneg gcd_comm natCast_ediv emod_lt_of_pos fdiv_eq_ediv_of_nonneg mul_fdiv_cancel_left mul_ne_zero toNat mul_one sign_eq_one_of_pos ofNat_dvd_left divExact_eq_tdiv tdiv_eq_ediv_of_dvd natAbs)
open Bool (and_eq_true not_eq_true' and_eq_false_iff)
open Array (length_toList getElem?_toList toList_append)
open Option (isSome_map)
namespace L2
open PySem PySem.Spec PyProof.Rows
abbrev gY:=Sum Int Str
def sU:gY->Value->Bool
 | .inl k,v=>Value.isInt k v
 | .inr x,v=>Value.isStrOf x v
def aNe (w:World):gY->Int
 | .inl k=>hashInt k
 | .inr x=>hashStr w x
theorem dR:∀ {k:gY} {v:Value},sU k v = true->(∃ i t,k = Sum.inl i/\v = Value.int i t)\/(∃ x t,k = Sum.inr x/\v = Value.str x t)
 | .inl i,v,h=>by
  obtain ⟨t,e⟩:=Value.isInt_shape (k:=i) (v:=v) h;exact .inl ⟨i,t,rfl,e⟩
 | .inr x,v,h=>by
  obtain ⟨t,e⟩:=Value.isStrOf_shape (x:=x) (v:=v) h;exact .inr ⟨x,t,rfl,e⟩
theorem Kd (i:Int) (t:Tok):sU (.inl i) (.int i t) = true:=by simp [sU,Value.isInt]
theorem Kc (x:Str) (t:Tok):sU (.inr x) (.str x t) = true:=by simp [sU,Value.isStrOf]
theorem aEe (a b:Int):decide ((Sum.inl a:gY) = Sum.inl b) = (a == b):=by
 by_cases e:a = b
 ·subst e; simp
 ·have h:¬ (Sum.inl a:gY) = Sum.inl b:=fun q=>e (Sum.inl.inj q);rw [decide_eq_false h];exact (beq_eq_false_iff_ne.mpr e).symm
theorem aEb (a b:Str):decide ((Sum.inr a:gY) = Sum.inr b) = decide (a = b):=by
 by_cases e:a = b
 ·subst e; simp
 ·have h:¬ (Sum.inr a:gY) = Sum.inr b:=fun q=>e (Sum.inr.inj q);rw [decide_eq_false h,decide_eq_false e]
theorem aEd (a:Int) (b:Str):decide ((Sum.inl a:gY) = Sum.inr b) = false:=decide_eq_false (fun q=>nomatch q)
theorem aEc (a:Str) (b:Int):decide ((Sum.inr a:gY) = Sum.inl b) = false:=decide_eq_false (fun q=>nomatch q)
def fI (prog:Program) (w:World):PySem.KeyKind prog w gY where
 is:=sU
 hash:=aNe w
 inj:=fun v a b ha hb=>by
  rcases dR ha with ⟨i,t,rfl,rfl⟩ | ⟨x,t,rfl,rfl⟩
  ·rcases dR hb with ⟨j,u,rfl,e⟩ | ⟨y,u,rfl,e⟩
   ·injection e with e1 _; rw [e1]
   ·exact nomatch e
  ·rcases dR hb with ⟨j,u,rfl,e⟩ | ⟨y,u,rfl,e⟩
   ·exact nomatch e
   ·injection e with e1 _; rw [e1]
 byValue:=fun k v h=>by
  rcases dR h with ⟨i,t,rfl,rfl⟩ | ⟨x,t,rfl,rfl⟩ <;> rfl
 pyHash:=fun hv h=>by
  rcases dR hv with ⟨i,t,rfl,rfl⟩ | ⟨x,t,rfl,rfl⟩
  ·exact wpAny_pyHash_int h
  ·exact wpAny_pyHash_str h
 eqBool:=fun hu hv h=>by
  rcases dR hu with ⟨i,t,rfl,rfl⟩ | ⟨x,t,rfl,rfl⟩
  ·rcases dR hv with ⟨j,u,rfl,rfl⟩ | ⟨y,u,rfl,rfl⟩
   ·rw [aEe] at h; exact wpAny_eqBool_int h
   ·rw [aEd] at h; exact SeqAt.EqAt.int_str i t y u _ _ _ _ h
  ·rcases dR hv with ⟨j,u,rfl,rfl⟩ | ⟨y,u,rfl,rfl⟩
   ·rw [aEc] at h; exact SeqAt.EqAt.str_int x t j u _ _ _ _ h
   ·rw [aEb] at h; exact wpAny_eqBool_str h
 «strs»:=fun k x t v h=>by
  rcases dR h with ⟨i,u,rfl,e⟩ | ⟨y,u,rfl,e⟩
  ·exact nomatch e
  ·injection e with e1 _
   subst e1;cases v <;> rfl
theorem Ak (prog:Program) (w:World) (i:Int) (t:Tok):(fI prog w).is (.inl i) (.int i t) = true:=Kd i t
theorem Aj (prog:Program) (w:World) (x:Str) (t:Tok):(fI prog w).is (.inr x) (.str x t) = true:=Kc x t
inductive V where
 | non | bl (b:Bool) | int (i:Int) | str (x:Str) | byt (b:Array UInt8) | flt (b:UInt64) | ref (a:Addr) | ty (n:String)
 deriving DecidableEq
def RelV:V->Value->Prop
 | .non,u=>u = Value.none
 | .bl b,u=>u = Value.bool b
 | .int i,u=>∃ t,u = Value.int i t
 | .str x,u=>∃ t,u = Value.str x t
 | .byt b,u=>∃ t,u = Value.bytes b t
 | .flt b,u=>∃ t,u = Value.float b t
 | .ref a,u=>u = Value.ref a
 | .ty n,u=>u = Value.type n
abbrev Vals:List V->List Value->Prop:=Paired RelV
theorem Vals.length {xs:List V} {us:List Value} (r:Vals xs us):xs.length = us.length:=Paired.length r
theorem Vals.get:∀ {xs:List V} {us:List Value} {i:Nat} {x:V},Vals xs us->xs[i]? = some x->∃ u,us[i]? = some u/\RelV x u
 | _,_,_,_,.nil,e=>by simp at e
 | _,_,0,_,.cons r _,e=>by simp at e; subst e; exact ⟨_,rfl,r⟩
 | _,_,i + 1,x,.cons _ t,e=>by
  obtain ⟨u,h1,h2⟩:=Vals.get (i:=i) (x:=x) t (by simpa using e);exact ⟨u,by simpa using h1,h2⟩
theorem Vals.set {x:V} {u:Value} (r:RelV x u):∀ {xs:List V} {us:List Value} (i:Nat),Vals xs us->Vals (xs.set i x) (us.set i u)
 | _,_,_,.nil=>.nil
 | _,_,0,.cons _ t=>.cons r t
 | _,_,i + 1,.cons q t=>.cons q (Vals.set r i t)
theorem Vals.append:∀ {xs ys:List V} {us ws:List Value},Vals xs us->Vals ys ws->Vals (xs ++ ys) (us ++ ws)
 | _,_,_,_,.nil,s=>s
 | _,_,_,_,.cons r t,s=>.cons r (Vals.append t s)
theorem Vals.take:∀ {xs:List V} {us:List Value} (n:Nat),Vals xs us->Vals (xs.take n) (us.take n)
 | _,_,0,_=>.nil
 | _,_,_ + 1,.nil=>.nil
 | _,_,n + 1,.cons r t=>.cons r (Vals.take n t)
theorem Vals.drop:∀ {xs:List V} {us:List Value} (n:Nat),Vals xs us->Vals (xs.drop n) (us.drop n)
 | _,_,0,r=>r
 | _,_,_ + 1,.nil=>.nil
 | _,_,n + 1,.cons _ t=>Vals.drop n t
def RelO:Option V->Option Value->Prop
 | some v,some u=>RelV v u
 | none,none=>True
 | _,_=>False
def KV {κ:Type}:List (κ × V)->List (κ × Value)->Prop:=Paired fun (p:κ × V) (q:κ × Value)=>p.1 = q.1/\RelV p.2 q.2
def kV:gY->V
 | .inl i=>.int i
 | .inr x=>.str x
inductive HO where
  | lst (xs:List V)
  | tup (xs:List V)
  | dK (kvs:List (gY × V)) | dT (kvs:List (List gY × V))
  | set (S:Int->Bool) (n:Nat)
  | ins (C dx:Addr) (fs:List (Str × V))
  | own (x:Addr)
  | xd (fs:List (Str × V))
  | met (f x:Addr)
  | rng (lo hi:Int)
  | frz (o:Obj) (u:HO)
  | tbl (ps:Array Value)
  | ext (φ:Heap->Prop)
abbrev Hp:=Addr->Option HO
def eT (H:Hp) (a:Addr) (o:HO):Hp:=fun b=>if b = a then some o else H b
theorem bM {H:Hp} {a:Addr} {o:HO}:eT H a o a = some o:=by unfold eT; rw [if_pos rfl]
theorem bJ {H:Hp} {a b:Addr} {o:HO} (h:b ≠ a):eT H a o b = H b:=by unfold eT; rw [if_neg h]
theorem aJq {H:Hp} {a b:Addr} {o u:HO} (h:H a = some o) (h':H b = some u) (d:o ≠ u):a ≠ b:=by
 intro e; subst e; rw [h] at h'; exact d (Option.some.inj h')
theorem bS {H:Hp} {a b:Addr} {o:HO} (h:H a = some o) (h':H b = none):a ≠ b:=by
 intro e; subst e; rw [h] at h'; cases h'
section
variable (P:Program) (w:World)
def ObjOk (H:Hp) (h:Heap) (a:Addr):HO->Prop
 | .lst xs=>xs.length<=sizeLine/\∃ (its:List Value) (n:Nat),Vals xs its/\h.get? a = some { cls:=.type "list",data:=.seq its.toArray n }
 | .tup xs=>xs.length<=sizeLine/\∃ its:List Value,Vals xs its/\IsTup h a its.toArray
 | .dK kvs=>kvs.length<=sizeLine/\(a == sysModules) = false/\∃ vs,KV kvs vs/\h.DictOf (fI P w) a vs
 | .dT kvs=>kvs.length<=sizeLine/\(a == sysModules) = false/\∃ xs:List (List gY × Addr × Value),
   Paired (fun (p:List gY × V) (q:List gY × Addr × Value)=>p.1 = q.1/\H q.2.1 = some (.tup (p.1.map kV))/\RelV p.2 q.2.2) kvs xs /\
   ∃ o es ep,h.get? a = some o/\o.ExactDict/\o.data = .dict es ep/\es.toList = xs.map (entryOfKey (tupleKind (fI P w)))/\(xs.map (·.1)).Nodup
 | .set S n=>h.SetOf (intKind P w) a S n
 | .ins C dx fs=>H dx = some (.own a)/\fs.length<=1000/\dx ≠ a/\h.get? a = some (W.instObj C dx) /\
   ∃ mA,h.Ns1 dx mA/\(∀ f,RelO (fs.lookup f) (mA f))/\Within mA (fs.map (·.1))
 | .own _=>∃ o,h.get? a = some o
 | .xd fs=>∃ mA,h.Ns1 a mA/\∀ f,RelO (fs.lookup f) (mA f)
 | .rng lo hi=>∃ t u v,h.get? a = some { cls:=.type "range",data:=.fields #[.int lo t,.int hi u,.int 1 v] }
 | .frz o u=>h.get? a = some o/\ObjOk H h a u
 | .tbl ps=>h.get? a = some { cls:=.none,data:=.fields ps }
 | .met f x=>h.get? a = some (W.methodObj (.ref f) (.ref x))
 | .ext φ=>φ h/\(∃ o,h.get? a = some o)/\∀ h1 h2:Heap,φ h1->(∀ o,h1.get? a = some o->h2.get? a = some o)->φ h2
def HOk (H:Hp) (h:Heap):Prop:=∀ a o,H a = some o->ObjOk P w H h a o
end
section
variable {P:Program} {w:World} {H H':Hp} {h h':Heap} {a:Addr} {o:HO}
theorem ObjOk.lt (x:ObjOk P w H h a o):a < h.objs.size:=by
 cases o with
 | lst xs=>obtain ⟨_,_,_,_,e⟩:=x; exact lt_size e
 | tup xs=>obtain ⟨_,_,_,p⟩:=x; exact p.lt
 | dK kvs=>obtain ⟨_,_,_,_,o,_,_,e,_⟩:=x; exact lt_size e
 | dT kvs=>obtain ⟨_,_,_,_,o,_,_,e,_⟩:=x; exact lt_size e
 | set S n=>obtain ⟨o,_,_,_,e,_⟩:=x; exact lt_size e
 | ins C dx fs=>obtain ⟨_,_,_,e,_⟩:=x; exact lt_size e
 | own y=>obtain ⟨_,e⟩:=x; exact lt_size e
 | xd fs=>obtain ⟨_,⟨_,_,_,e,_⟩,_⟩:=x; exact lt_size e
 | rng lo hi=>obtain ⟨_,_,_,e⟩:=x; exact lt_size e
 | frz ob u=>obtain ⟨e,_⟩:=x; exact lt_size e
 | tbl ps=>exact lt_size (show h.get? a = some _ from x)
 | met f y=>exact lt_size (show h.get? a = some _ from x)
 | ext φ=>obtain ⟨_,⟨_,e⟩,_⟩:=x; exact lt_size e
theorem Paired.mapP {α β:Type} {F G:α->β->Prop}:∀ {l₁:List α} {l₂:List β},Paired F l₁ l₂->(∀ a b,F a b->G a b)->Paired G l₁ l₂
 | _,_,.nil,_=>.nil
 | _,_,.cons r t,f=>.cons (f _ _ r) (Paired.mapP t f)
theorem ObjOk.stay (x:ObjOk P w H h a o) (k:∀ b u,(b = a\/H b = some (.own a))->h.get? b = some u->h'.get? b = some u)
  (ho:∀ b,H b = some (.own a)->H' b = some (.own a)) (ht:∀ b xs,H b = some (.tup xs)->H' b = some (.tup xs)):ObjOk P w H' h' a o:=by
 induction o with
 | lst xs=>obtain ⟨z,its,n,r,e⟩:=x; exact ⟨z,its,n,r,k _ _ (.inl rfl) e⟩
 | tup xs=>obtain ⟨z,its,r,ob,e,c⟩:=x; exact ⟨z,its,r,ob,k _ _ (.inl rfl) e,c⟩
 | dK kvs=>obtain ⟨z,y,vs,r,ob,es,ep,e,c⟩:=x; exact ⟨z,y,vs,r,ob,es,ep,k _ _ (.inl rfl) e,c⟩
 | dT kvs =>
  obtain ⟨z,y,xs,r,ob,es,ep,e,c⟩:=x;exact ⟨z,y,xs,Paired.mapP r fun p q z=>⟨z.1,ht _ _ z.2.1,z.2.2⟩,ob,es,ep,k _ _ (.inl rfl) e,c⟩
 | set S n=>obtain ⟨ob,es,ep,t,e,c⟩:=x; exact ⟨ob,es,ep,t,k _ _ (.inl rfl) e,c⟩
 | ins C dx fs =>
  obtain ⟨d,z,ne,e,mA,⟨od,es,ep,e2,c⟩,r⟩:=x;exact ⟨ho _ d,z,ne,k _ _ (.inl rfl) e,mA,⟨od,es,ep,k _ _ (.inr d) e2,c⟩,r⟩
 | own y=>obtain ⟨ob,e⟩:=x; exact ⟨ob,k _ _ (.inl rfl) e⟩
 | xd fs=>obtain ⟨mA,⟨od,es,ep,e,c⟩,r⟩:=x; exact ⟨mA,⟨od,es,ep,k _ _ (.inl rfl) e,c⟩,r⟩
 | rng lo hi=>obtain ⟨t,u,v,e⟩:=x; exact ⟨t,u,v,k _ _ (.inl rfl) e⟩
 | frz ob u ih=>obtain ⟨e,q⟩:=x; exact ⟨k _ _ (.inl rfl) e,ih q⟩
 | tbl ps =>
  have e:h.get? a = some { cls:=.none,data:=.fields ps }:=x;show h'.get? a = some { cls:=.none,data:=.fields ps };exact k a _ (.inl rfl) e
 | met f y =>
  have e:h.get? a = some (W.methodObj (.ref f) (.ref y)):=x;show h'.get? a = some (W.methodObj (.ref f) (.ref y));exact k a _ (.inl rfl) e
 | ext φ=>obtain ⟨p,⟨o,e⟩,st⟩:=x; exact ⟨st _ _ p fun o q=>k _ _ (.inl rfl) q,⟨o,k _ _ (.inl rfl) e⟩,st⟩
theorem HOk.lt (x:HOk P w H h) (e:H a = some o):a < h.objs.size:=(x a o e).lt
theorem HOk.fresh (x:HOk P w H h) (e:h.objs.size<=a):H a = none:=by
 cases q:H a with
 | none=>rfl
 | some u=>exact absurd (lt_of_lt_of_le (x.lt q) e) (lt_irrefl _)
theorem HOk.kept (x:HOk P w H h) (k:∀ b u,h.get? b = some u->h'.get? b = some u):HOk P w H h':=fun a o e =>
 (x a o e).stay (fun b u _ q=>k b u q) (fun _ q=>q) fun _ _ q=>q
theorem HOk.laid (x:HOk P w H h) (k:∀ b u,h.get? b = some u->h'.get? b = some u) (hp:h.objs.size<=a) (new:ObjOk P w (eT H a o) h' a o):HOk P w (eT H a o) h':=fun b u e=>by
 have hn:=x.fresh hp;by_cases hb:b = a
 ·subst hb; rw [bM] at e; cases e; exact new
 ·rw [bJ hb] at e;exact (x b u e).stay (fun c v _ q=>k c v q) (fun c q=>by rw [bJ (bS q hn)]; exact q) fun c xs q=>by rw [bJ (bS q hn)]; exact q
end
def Rd (H:Hp) (a:Addr) (u:HO):Prop:=H a = some u\/∃ o,H a = some (.frz o u)
theorem Rd.ok {P:Program} {w:World} {H:Hp} {h:Heap} {a:Addr} {u:HO} (r:Rd H a u) (x:HOk P w H h):ObjOk P w H h a u:=by
 rcases r with r | ⟨o,r⟩
 ·exact x a u r
 ·obtain ⟨_,q⟩:=x a _ r;exact q
def Mut:Option HO->Prop
 | some (.lst _)=>True
 | some (.dK _)=>True
 | some (.dT _)=>True
 | some (.set _ _)=>True
 | some (.ins _ _ _)=>True
 | some (.ext _)=>True
 | _=>False
section
variable {P:Program} {w:World} {H:Hp} {h h':Heap} {x e:Addr} {o':HO}
theorem HOk.write (ok:HOk P w H h) (mu:Mut (H x)) (he:e = x\/H e = some (.own x)) (k:∀ b u,b ≠ e->h.get? b = some u->h'.get? b = some u) (heo:∃ u,h'.get? e = some u)
  (new:ObjOk P w (eT H x o') h' x o'):HOk P w (eT H x o') h':=fun b u q=>by
 have nown:∀ c y,H c = some (.own y)->c ≠ x:=fun c y r z=>by subst z; rw [r] at mu; exact mu
 have ntup:∀ c xs,H c = some (.tup xs)->c ≠ x:=fun c xs r z=>by subst z; rw [r] at mu; exact mu
 by_cases hb:b = x
 ·subst hb; rw [bM] at q; cases q; exact new
 ·rw [bJ hb] at q;by_cases hbe:b = e
  ·have q':H b = some (.own x):=by
    rcases he with z | z
    ·exact absurd (hbe.trans z) hb
    ·rw [hbe]; exact z
   rw [q] at q'; cases q';obtain ⟨v,hv⟩:=heo;exact ⟨v,by rw [hbe]; exact hv⟩
  ·refine (ok b u q).stay (fun c v hc r=>k c v ?_ r) (fun c r=>by rw [bJ (nown c b r)]; exact r) fun c xs r=>by rw [bJ (ntup c xs r)]; exact r
   rcases hc with rfl | hc
   ·exact hbe
   ·rintro rfl;rcases he with z | z
    ·exact nown c b hc z
    ·rw [hc] at z; cases z; exact hb rfl
end
structure Un (fs ex:List Addr) (H H':Hp) (h h':Heap):Prop where
 keep:∀ b o,h.get? b = some o->H b = none->b ∉ fs->b ∉ ex->h'.get? b = some o
 slot:∀ b o,h.get? b = some o->H b = none->b∈fs->b ∉ ex->∃ sl,h'.get? b = some { o with slots:=sl }
 free:∀ b o,h.get? b = some o->H b = none->b ∉ ex->H' b = none
 there:∀ b o,h.get? b = some o->b ∉ ex->∃ o',h'.get? b = some o'
 tups:∀ b xs,H b = some (.tup xs)->H' b = some (.tup xs)
 frzs:∀ b o u,H b = some (.frz o u)->H' b = some (.frz o u)
 tbls:∀ b ps,H b = some (.tbl ps)->∃ more,H' b = some (.tbl (ps ++ more))
section
variable {fs fs' ex ex':List Addr} {H H1 H2:Hp} {h h1 h2 h':Heap} {a x e:Addr} {o:HO}
theorem Un.any (u:Un fs ex H H1 h h1) {b:Addr} {ob:Obj} (q:h.get? b = some ob) (n:H b = none) (hx:b ∉ ex):∃ sl,h1.get? b = some { ob with slots:=sl }:=by
 by_cases hb:b∈fs
 ·exact u.slot b ob q n hb hx
 ·exact ⟨ob.slots,u.keep b ob q n hb hx⟩
theorem Un.trans (a:Un fs ex H H1 h h1) (b:Un fs ex H1 H2 h1 h2):Un fs ex H H2 h h2 where
 keep:=fun c ob q n hc hx=>b.keep c ob (a.keep c ob q n hc hx) (a.free c ob q n hx) hc hx
 slot:=fun c ob q n hc hx=>by
  obtain ⟨sl,e1⟩:=a.slot c ob q n hc hx;obtain ⟨sl',e2⟩:=b.slot c _ e1 (a.free c ob q n hx) hc hx;exact ⟨sl',e2⟩
 free:=fun c ob q n hx=>by
  obtain ⟨o',e1⟩:=a.there c ob q hx;exact b.free c o' e1 (a.free c ob q n hx) hx
 there:=fun c ob q hx=>by
  obtain ⟨o',e1⟩:=a.there c ob q hx;exact b.there c o' e1 hx
 tups:=fun c xs q=>b.tups c xs (a.tups c xs q)
 frzs:=fun c ob xs q=>b.frzs c ob xs (a.frzs c ob xs q)
 tbls:=fun c ps q=>by
  obtain ⟨m1,e1⟩:=a.tbls c ps q;obtain ⟨m2,e2⟩:=b.tbls c _ e1;exact ⟨m1 ++ m2,by rw [e2,Array.append_assoc]⟩
theorem Un.kept (k:∀ b u,h.get? b = some u->h'.get? b = some u):Un fs ex H H h h' :=
 ⟨fun b ob q _ _ _=>k b ob q,fun b ob q _ _ _=>⟨ob.slots,k b ob q⟩,fun _ _ _ n _=>n,fun b ob q _=>⟨ob,k b ob q⟩,fun _ _ q=>q,fun _ _ _ q=>q,fun _ ps q=>⟨#[],by rw [q]; simp⟩⟩
theorem Un.refl:Un fs ex H H h h:=Un.kept fun _ _ q=>q
theorem Un.laid (k:∀ b u,h.get? b = some u->h'.get? b = some u) (hp:h.objs.size<=a) (hn:H a = none):Un fs ex H (eT H a o) h h' where
 keep:=fun b u q _ _ _=>k b u q
 slot:=fun b u q _ _ _=>⟨u.slots,k b u q⟩
 free:=fun b u q n _=>by rw [bJ (ne_of_lt (lt_of_lt_of_le (lt_size q) hp))]; exact n
 there:=fun b u q _=>⟨u,k b u q⟩
 tups:=fun b xs q=>by rw [bJ (bS q hn)]; exact q
 frzs:=fun b u xs q=>by rw [bJ (bS q hn)]; exact q
 tbls:=fun b ps q=>⟨#[],by rw [bJ (bS q hn),q]; simp⟩
theorem Un.write (mu:Mut (H x)) (he:e = x\/H e = some (.own x)) (k:∀ b u,b ≠ e->h.get? b = some u->h'.get? b = some u) (heo:∃ u,h'.get? e = some u):Un fs ex H (eT H x o) h h':=by
 have hx:∀ b,H b = none->b ≠ x:=fun b n z=>by subst z; rw [n] at mu; exact mu
 have hb:∀ b,H b = none->b ≠ e:=fun b n z=>by
  subst z;rcases he with r | r
  ·exact hx b n r
  ·rw [n] at r; cases r
 have hm:∀ b u,H b = some u->¬ Mut (some u)->b ≠ x:=fun b u q nm z=>by subst z; rw [q] at mu; exact nm mu
 refine ⟨fun b u q n _ _=>k b u (hb b n) q,fun b u q n _ _=>⟨u.slots,k b u (hb b n) q⟩,fun b u q n _=>by rw [bJ (hx b n)]; exact n,fun b u q _=>?_,
  fun b xs q=>by rw [bJ (hm b _ q fun z=>z)]; exact q,fun b u xs q=>by rw [bJ (hm b _ q fun z=>z)]; exact q,fun b ps q=>⟨#[],by rw [bJ (hm b _ q fun z=>z),q]; simp⟩⟩
 by_cases hbe:b = e
 ·subst hbe; exact heo
 ·exact ⟨u,k b u hbe q⟩
end
def trk (h:Heap) (H:Hp):List Addr:=(range h.objs.size).filter fun a=>(H a).isSome
def xV (h:Heap) (H:Hp):Heap:=W.hideAll h (trk h H)
theorem Kh (h:Heap) (H:Hp):(xV h H).objs.size = h.objs.size:=W.hideAll_size _ _
theorem Qq {h:Heap} {H:Hp} {b:Addr} {o:Obj} (e:h.get? b = some o) (n:H b = none):(xV h H).get? b = some o :=
 W.hideAll_get _ e fun hm=>by
  have q:(H b).isSome = true:=(mem_filter.mp hm).2;rw [n] at q; simp at q
theorem Uz {h:Heap} {H:Hp} {b:Addr} {o:Obj} (e:(xV h H).get? b = some o):h.get? b = some o/\H b = none:=by
 have e':h.get? b = some o:=W.of_hideAll (trk h H) e;refine ⟨e',?_⟩;cases q:H b with
 | none=>rfl
 | some x =>
  have hm:b∈trk h H:=mem_filter.mpr ⟨mem_range.mpr (lt_size e'),by simp [q]⟩;have z:(xV h H).get? b = none:=W.hideAll_none (trk h H) hm;rw [z] at e; cases e
def Wx (g h:Heap) (L:Addr):List (Addr × Obj):=(range h.objs.size).filterMap fun a=>if a = L\/(g.get? a).isSome = true then none else (h.get? a).map fun o=>(a,o)
def rest (g h:Heap) (L d:Addr):List (Addr × Obj):=(Wx g h L).filter fun p=>decide (p.1 ≠ d)
structure Mod (K:W.Frag) (mg:Str->Option Value) (base:Heap):Prop where
 kin:K.In base
 glob:base.Ns mainGlobals mg
 blt:∃ mb,base.Ns builtinsNs mb/\∀ x:Str,x ≠ "__name__"->mb x = bootBuiltins x
 nolimit:base.NoLimit
structure Cx where
 prog:Program
 w:World
 K:W.Frag
 mg:Str->Option Value
 base:Heap
 A:Around
 N:List Str
 s₀:Shared
 H₀:Hp
 env:Env
 outer:List Env
 stack:List Env
 ex:List Addr
 fn:Str->Bool
 calm:Bool
 pn:List (Addr × Obj)
 xe:Value->Shared->Prop
def pD (l:List Env):List Addr:=l.filterMap (·.frame)
abbrev Cx.fs (X:Cx):List Addr:=pD X.outer
def Vis (sc:Scope) (x:Str):Prop:=sc.names.lookup x = some .local\/sc.names.lookup x = some .cell\/sc.names.lookup x = some .free
def Loc (sc:Scope) (x:Str):Prop:=sc.names.lookup x = some .local\/sc.names.lookup x = some .cell
def aNu (env:Env) (h:Heap) (m:Str->Option Value) (x:Str) (u:Value):Prop :=
 (env.kindOf x = some .local/\m x = some u)\/((env.kindOf x = some .cell\/env.kindOf x = some .free)/\∃ c,env.cells.lookup x = some c/\h.IsCell c (some u))
structure Cx.Ok (X:Cx):Prop where
 mod:Mod X.K X.mg X.base
 kind:X.env.scope.kind = .function
 glob:X.env.globals = mainGlobals
 blt:X.env.builtins = builtinsNs
 above:X.s₀.heap.objs.size<=X.env.locals
 inj:∀ x y c,X.env.cells.lookup x = some c->X.env.cells.lookup y = some c->x = y
 has:∀ x,(X.env.kindOf x = some .cell\/X.env.kindOf x = some .free)->∃ c,X.env.cells.lookup x = some c
 cab:∀ x c,X.fn x = true->X.env.cells.lookup x = some c->X.s₀.heap.objs.size<=c
 hd:X.calm = true->X.A.handled = none
 frames:X.A.frames = some X.stack
 stk:X.stack = X.outer\/(X.stack = X.env :: X.outer/\X.env.frame = some X.env.locals)
 exf:∀ b∈X.ex,b ≠ X.env.locals/\∀ x c,X.env.cells.lookup x = some c->c ≠ b
 bs:∀ b o,X.base.get? b = some o->X.s₀.heap.get? b = some o/\X.H₀ b = none
 bsz:X.base.objs.size<=X.s₀.heap.objs.size
 noex:∀ b o,X.base.get? b = some o->b ∉ X.ex
 exfs:∀ b∈X.ex,b ∉ X.fs
 funs:X.s₀.heap.FunFrames X.base X.outer
 frf:∀ b∈X.fs,X.H₀ b = none
structure Inv (X:Cx) (pins:List (Addr × Obj)) (σ:List (Option V)) (H:Hp) (s:Shared):Prop where
 ok:X.Ok
 os:s.os = X.s₀.os
 bare:AllBare s.gens
 base:Un X.fs X.ex X.H₀ H X.s₀.heap s.heap
 loc:∃ m,s.heap.Ns X.env.locals m/\∀ (i:Nat) (x:Str) (v:V),X.N[i]? = some x->σ[i]? = some (some v)->Vis X.env.scope x->∃ u,RelV v u/\aNu X.env s.heap m x u
 cell:∀ x c,X.env.cells.lookup x = some c->∃ v,s.heap.IsCell c v
 free:H X.env.locals = none
 freeC:∀ x c,X.env.cells.lookup x = some c->H c = none
 pin:∀ p∈X.pn ++ pins,s.heap.get? p.1 = some p.2/\H p.1 = none/\p.1 ≠ X.env.locals/\p.1 ∉ X.fs/\∀ v,p.2.data ≠ .cell v
 hok:HOk X.prog X.w H s.heap
 len:σ.length = X.N.length
section
variable {X:Cx} {pins:List (Addr × Obj)} {σ:List (Option V)} {H H':Hp} {s:Shared} {h':Heap}
theorem Cx.Ok.nofr (ok:X.Ok) {b:Addr} {o:Obj} (e:X.base.get? b = some o):b ∉ X.fs:=fun hb=>by
 have:=(ok.funs.mem hb).1;rw [e] at this; cases this
theorem Inv.bs (I:Inv X pins σ H s):∀ b o,X.base.get? b = some o->s.heap.get? b = some o/\H b = none:=fun b o e =>
 ⟨I.base.keep b o (I.ok.bs b o e).1 (I.ok.bs b o e).2 (I.ok.nofr e) (I.ok.noex b o e),I.base.free b o (I.ok.bs b o e).1 (I.ok.bs b o e).2 (I.ok.noex b o e)⟩
theorem Inv.bk (I:Inv X pins σ H s):∀ b o,X.base.get? b = some o->s.heap.get? b = some o:=fun b o e=>(I.bs b o e).1
theorem Inv.mod (I:Inv X pins σ H s):Mod X.K X.mg X.base:=I.ok.mod
theorem Inv.kIn (I:Inv X pins σ H s):X.K.In s.heap:=I.ok.mod.kin.keeps I.bk
theorem Inv.lt (I:Inv X pins σ H s):X.env.locals < s.heap.objs.size:=let ⟨_,hn,_⟩:=I.loc; hn.lt
theorem Inv.sz (I:Inv X pins σ H s):X.s₀.heap.objs.size<=s.heap.objs.size:=le_trans I.ok.above (le_of_lt I.lt)
theorem Inv.nofs (I:Inv X pins σ H s) {a:Addr} (h:s.heap.objs.size<=a):a ∉ X.fs:=fun hb=>by
 obtain ⟨_,o,ho,_⟩:=I.ok.funs.mem hb;exact absurd (lt_of_lt_of_le (lt_size ho) (le_trans I.sz h)) (lt_irrefl _)
theorem Inv.cne (I:Inv X pins σ H s):∀ x c,X.env.cells.lookup x = some c->c ≠ X.env.locals:=fun x c e z=>by
 obtain ⟨v,o,ho,hd⟩:=I.cell x c e;obtain ⟨m,⟨o',es,ep,ho',hd',_⟩,_⟩:=I.loc;rw [z,ho'] at ho; cases ho; rw [hd'] at hd; cases hd
theorem Inv.funs (I:Inv X pins σ H s):s.heap.FunFrames X.base X.outer:=by
 have all:∀ (l:List Env),(∀ b∈pD l,b∈X.fs)->X.s₀.heap.FunFrames X.base l->s.heap.FunFrames X.base l:=by
  intro l
  induction l with
  | nil=>intro _ _; trivial
  | cons env r ih =>
   intro hs hl;obtain ⟨hk,⟨L,o,hf,hn,ho,hd⟩,hr⟩:=hl;have hL:L∈X.fs:=hs L (by unfold pD; rw [filterMap_cons,hf]; exact mem_cons_self);obtain ⟨sl,e⟩:=I.base.slot L o ho (I.ok.frf L hL) hL fun z=>I.ok.exfs L z hL;exact ⟨hk,⟨L,_,hf,hn,e,hd⟩,ih (fun b hb=>hs b (by unfold pD; rw [filterMap_cons,hf]; exact mem_cons_of_mem _ hb)) hr⟩
 exact all X.outer (fun _ hb=>hb) I.ok.funs
theorem Inv.stack (I:Inv X pins σ H s):s.heap.FunFrames X.base X.stack:=by
 rcases I.ok.stk with e | ⟨e,hf⟩
 ·rw [e]; exact I.funs
 ·rw [e];obtain ⟨m,hn,_⟩:=I.loc;refine .cons (by rw [I.ok.kind]; decide) hf hn ?_ I.funs;exact Heap.get?_none_of_le (le_trans I.ok.bsz I.ok.above)
theorem Inv.stkSub (I:Inv X pins σ H s):∀ b∈pD X.stack,b∈X.env.locals :: X.fs:=fun b hb=>by
 rcases I.ok.stk with e | ⟨e,hf⟩
 ·rw [e] at hb; exact mem_cons_of_mem _ hb
 ·rw [e] at hb;unfold pD at hb;rw [filterMap_cons,hf] at hb;exact hb
theorem Inv.stkFree (I:Inv X pins σ H s):∀ b∈pD X.stack,H b = none:=fun b hb=>by
 rcases mem_cons.mp (I.stkSub b hb) with e | hb
 ·rw [e]; exact I.free
 ·obtain ⟨_,o,ho,_⟩:=I.ok.funs.mem hb;exact I.base.free b o ho (I.ok.frf b hb) fun z=>I.ok.exfs b z hb
theorem Inv.step {g':Array GenState} {t':Nat} {d':Drawn} {ch:List Addr} (I:Inv X pins σ H s)
  (hch:∀ b∈ch,(b∈X.ex\/X.s₀.heap.objs.size<=b)/\b ≠ X.env.locals/\(∀ x c,X.env.cells.lookup x = some c->c ≠ b)/\∀ p∈X.pn ++ pins,p.1 ≠ b)
  (keep:∀ b o,b ≠ X.env.locals->b ∉ X.fs->b ∉ ch->s.heap.get? b = some o->H b = none->h'.get? b = some o)
  (slot:∀ b o,b ≠ X.env.locals->b∈X.fs->b ∉ ch->s.heap.get? b = some o->H b = none->∃ sl,h'.get? b = some { o with slots:=sl }) (free:∀ b o,b ∉ ch->s.heap.get? b = some o->H b = none->H' b = none)
  (there:∀ b o,b ∉ ch->s.heap.get? b = some o->∃ o',h'.get? b = some o')
  (tups:∀ b xs,H b = some (.tup xs)->H' b = some (.tup xs)) (frzs:∀ b o u,H b = some (.frz o u)->H' b = some (.frz o u)) (tbls:∀ b ps,H b = some (.tbl ps)->∃ more,H' b = some (.tbl (ps ++ more)))
  (ns:∀ m,s.heap.Ns X.env.locals m->h'.Ns X.env.locals m) (hok:HOk X.prog X.w H' h') (hg:AllBare g') :
  Inv X pins σ H' { s with heap:=h',gens:=g',drawn:=d',toks:=t' }:=by
 have neL:∀ b o,X.s₀.heap.get? b = some o->b ≠ X.env.locals:=fun b o e=>ne_of_lt (lt_of_lt_of_le (lt_size e) I.ok.above);have neC:∀ b o,X.s₀.heap.get? b = some o->b ∉ X.ex->b ∉ ch:=fun b o e hx hb=>by
  rcases (hch b hb).1 with z | z
  ·exact hx z
  ·exact absurd (lt_of_lt_of_le (lt_size e) z) (lt_irrefl _)
 have cellK:∀ x c,X.env.cells.lookup x = some c->∀ v,s.heap.IsCell c v->h'.IsCell c v:=fun x c e v ⟨o,ho,hd⟩=>by
  have nch:c ∉ ch:=fun z=>(hch c z).2.2.1 x c e rfl;by_cases hc:c∈X.fs
  ·obtain ⟨sl,q⟩:=slot c o (I.cne x c e) hc nch ho (I.freeC x c e);exact ⟨_,q,hd⟩
  ·exact ⟨o,keep c o (I.cne x c e) hc nch ho (I.freeC x c e),hd⟩
 refine ⟨I.ok,I.os,hg,⟨fun b o e n hb hx=>?_,fun b o e n hb hx=>?_,fun b o e n hx=>?_,fun b o e hx=>?_,fun b xs e=>tups b xs (I.base.tups b xs e),fun b o xs e=>frzs b o xs (I.base.frzs b o xs e),fun b ps e=>?_⟩,?_,fun x c e=>?_,?_,fun x c e=>?_,fun p hp=>?_,hok,I.len⟩
 ·exact keep b o (neL b o e) hb (neC b o e hx) (I.base.keep b o e n hb hx) (I.base.free b o e n hx)
 ·obtain ⟨sl,e1⟩:=I.base.slot b o e n hb hx;obtain ⟨sl',e2⟩:=slot b _ (neL b o e) hb (neC b o e hx) e1 (I.base.free b o e n hx);exact ⟨sl',e2⟩
 ·obtain ⟨o',e1⟩:=I.base.there b o e hx;exact free b o' (neC b o e hx) e1 (I.base.free b o e n hx)
 ·obtain ⟨o',e1⟩:=I.base.there b o e hx;exact there b o' (neC b o e hx) e1
 ·obtain ⟨m1,e1⟩:=I.base.tbls b ps e;obtain ⟨m2,e2⟩:=tbls b _ e1;exact ⟨m1 ++ m2,by rw [e2,Array.append_assoc]⟩
 ·obtain ⟨m,hn,hl⟩:=I.loc;refine ⟨m,ns m hn,fun i x v e1 e2 e3=>?_⟩;obtain ⟨u,r,l⟩:=hl i x v e1 e2 e3;refine ⟨u,r,?_⟩;rcases l with l | ⟨k,c,e,z⟩
  ·exact .inl l
  ·exact .inr ⟨k,c,e,cellK x c e _ z⟩
 ·obtain ⟨v,z⟩:=I.cell x c e;exact ⟨v,cellK x c e v z⟩
 ·obtain ⟨m,⟨o,_,_,ho,_⟩,_⟩:=I.loc;exact free _ o (fun z=>(hch _ z).2.1 rfl) ho I.free
 ·obtain ⟨v,o,ho,hd⟩:=I.cell x c e;exact free c o (fun z=>(hch c z).2.2.1 x c e rfl) ho (I.freeC x c e)
 ·obtain ⟨e,n,ne,nf,d⟩:=I.pin p hp;have nch:p.1 ∉ ch:=fun z=>(hch p.1 z).2.2.2 p hp rfl;exact ⟨keep p.1 p.2 ne nf nch e n,free p.1 p.2 nch e n,ne,nf,d⟩
theorem Inv.un {t':Nat} (I:Inv X pins σ H s) (u:Un X.fs [] H H' s.heap h') (hok:HOk X.prog X.w H' h'):Inv X pins σ H' { s with heap:=h',toks:=t' }:=by
 obtain ⟨m,⟨o,es,ep,ho,r⟩,_⟩:=id I.loc;obtain ⟨sl,hL⟩:=u.any ho I.free (by simp)
 exact I.step (g':=s.gens) (d':=s.drawn) (ch:=[]) (fun _ z=>nomatch z) (fun b o _ hb _ e n=>u.keep b o e n hb (by simp)) (fun b o _ hb _ e n=>u.slot b o e n hb (by simp)) (fun b o _ e n=>u.free b o e n (by simp)) (fun b o _ e=>u.there b o e (by simp)) u.tups u.frzs u.tbls (fun m' hm=>by
  obtain ⟨o',es',ep',ho',r'⟩:=hm
  rw [ho] at ho'; cases ho'
  exact ⟨_,es',ep',hL,r'⟩) hok I.bare
theorem Inv.call {g':Array GenState} {t':Nat} {d':Drawn} {ch:List Addr} (I:Inv X pins σ H s) (u:Un (pD X.stack) ch H H' s.heap h') (hok:HOk X.prog X.w H' h') (hg:AllBare g')
  (hch:∀ b∈ch,(b∈X.ex\/X.s₀.heap.objs.size<=b)/\b ≠ X.env.locals/\(∀ x c,X.env.cells.lookup x = some c->c ≠ b)/\∀ p∈X.pn ++ pins,p.1 ≠ b) :
  Inv X pins σ H' { s with heap:=h',gens:=g',drawn:=d',toks:=t' }:=by
 obtain ⟨m,⟨o,es,ep,ho,r⟩,_⟩:=id I.loc;obtain ⟨sl,hL⟩:=u.any ho I.free fun z=>(hch _ z).2.1 rfl
 exact I.step (ch:=ch) hch (fun b o hL hb hc e n=>u.keep b o e n (fun z=>(mem_cons.mp (I.stkSub b z)).elim hL hb) hc) (fun b o _ _ hc e n=>u.any e n hc) (fun b o hc e n=>u.free b o e n hc) (fun b o hc e=>u.there b o e hc) u.tups u.frzs u.tbls (fun m' hm=>by
  obtain ⟨o',es',ep',ho',r'⟩:=hm
  rw [ho] at ho'; cases ho'
  exact ⟨_,es',ep',hL,r'⟩) hok hg
theorem Inv.turned {t':Nat} {it:Addr} (I:Inv X pins σ H s) (k:∀ b o,b ≠ it->s.heap.get? b = some o->h'.get? b = some o) (hn:H it = none) (hL:it ≠ X.env.locals)
  (h1:it∈X.ex\/X.s₀.heap.objs.size<=it) (h2:∀ x c,X.env.cells.lookup x = some c->c ≠ it) (h3:∀ p∈X.pn ++ pins,p.1 ≠ it):Inv X pins σ H { s with heap:=h',toks:=t' }:=by
 have nit:∀ b u,H b = some u->b ≠ it:=fun b u e z=>by rw [z,hn] at e; cases e
 refine I.step (g':=s.gens) (d':=s.drawn) (ch:=[it]) (fun b hb=>?_) (fun b o _ _ hc e _=>k b o (fun z=>hc (by simp [z])) e) (fun b o _ _ hc e _=>⟨o.slots,k b o (fun z=>hc (by simp [z])) e⟩) (fun _ _ _ _ n=>n)
  (fun b o hc e=>⟨o,k b o (fun z=>hc (by simp [z])) e⟩) (fun _ _ e=>e) (fun _ _ _ e=>e) (fun b ps e=>⟨#[],by rw [e]; simp⟩) (fun m hm=>?_) (fun b u e=>?_) I.bare
 ·have e:b = it:=by simpa using hb
  subst e;exact ⟨h1,hL,h2,h3⟩
 ·obtain ⟨o,es,ep,ho,r⟩:=hm;exact ⟨o,es,ep,k _ o (Ne.symm hL) ho,r⟩
 ·refine (I.hok b u e).stay (fun c v hc q=>k c v ?_ q) (fun _ q=>q) fun _ _ q=>q;rcases hc with z | z
  ·rw [z]; exact nit b u e
  ·exact nit c _ z
theorem Inv.tok (I:Inv X pins σ H s) (t:Nat):Inv X pins σ H { s with toks:=t }:=I.un (h':=s.heap) (t':=t) Un.refl I.hok
theorem Inv.kept {t':Nat} (I:Inv X pins σ H s) (k:∀ b u,s.heap.get? b = some u->h'.get? b = some u):Inv X pins σ H { s with heap:=h',toks:=t' }:=I.un (Un.kept k) (I.hok.kept k)
theorem Inv.laid {a:Addr} {o:HO} {t':Nat} (I:Inv X pins σ H s) (k:∀ b u,s.heap.get? b = some u->h'.get? b = some u) (hp:s.heap.objs.size<=a) (new:ObjOk X.prog X.w (eT H a o) h' a o) :
  Inv X pins σ (eT H a o) { s with heap:=h',toks:=t' }:=I.un (Un.laid k hp (I.hok.fresh hp)) (I.hok.laid k hp new)
theorem Inv.write {x e:Addr} {o:HO} {t':Nat} (I:Inv X pins σ H s) (mu:Mut (H x)) (he:e = x\/H e = some (.own x)) (k:∀ b u,b ≠ e->s.heap.get? b = some u->h'.get? b = some u) (heo:∃ u,h'.get? e = some u)
  (new:ObjOk X.prog X.w (eT H x o) h' x o):Inv X pins σ (eT H x o) { s with heap:=h',toks:=t' }:=I.un (Un.write mu he k heo) (I.hok.write mu he k heo new)
theorem Inv.pins_of {pins':List (Addr × Obj)} (I:Inv X pins σ H s) (h:∀ p∈pins',s.heap.get? p.1 = some p.2/\H p.1 = none/\p.1 ≠ X.env.locals/\p.1 ∉ X.fs/\∀ v,p.2.data ≠ .cell v):Inv X pins' σ H s :=
 ⟨I.ok,I.os,I.bare,I.base,I.loc,I.cell,I.free,I.freeC,fun p hp=>(mem_append.mp hp).elim (fun z=>I.pin p (mem_append_left _ z)) (h p),I.hok,I.len⟩
theorem Ag {N:List Str} (hN:N.Nodup) {i j:Nat} {x:Str} (a:N[i]? = some x) (b:N[j]? = some x):i = j:=by
 obtain ⟨h1,e1⟩:=List.getElem?_eq_some_iff.mp a;obtain ⟨h2,e2⟩:=List.getElem?_eq_some_iff.mp b;exact (List.getElem_inj hN).mp (e1.trans e2.symm)
theorem uQ {M:Model} {A:Around} {E:Value->Shared->Prop} {i:Nat} {x:Str} {v:V} {u:Value} {Q:Unit->Shared->Prop} (I:Inv X pins σ H s) (hN:X.N.Nodup) (hi:X.N[i]? = some x) (hx:Loc X.env.scope x) (r:RelV v u)
  (h:∀ s',Inv X pins (σ.set i (some v)) H s'->(∃ a,SameBut a s.heap s'.heap/\(a = X.env.locals\/X.env.cells.lookup x = some a))->Q () s') (hf:X.fn x = true\/X.env.scope.names.lookup x = some .local:=by first | exact .inl rfl | exact .inr rfl | assumption):wpAny M A (storeName X.env x u) Q E s:=by
 obtain ⟨m,hn,hl⟩:=id I.loc;have hcls:(X.env.scope.kind == .class || (X.env.scope.kind == .module && X.env.locals != X.env.globals)) = false:=by rw [I.ok.kind]; rfl
 have hiσ:i < σ.length:=by rw [I.len]; exact (List.getElem?_eq_some_iff.mp hi).1
 have cne:=I.cne;have tracked:∀ {a:Addr} {h':Heap},(∃ o,s.heap.get? a = some o/\H a = none)->SameBut a s.heap h'->HOk X.prog X.w H h':=fun {a h'} ha hs b ob e=>by
  obtain ⟨_,_,hfree⟩:=ha;refine (I.hok b ob e).stay (fun c w' hc q=>(hs.2 c ?_).trans q) (fun _ q=>q) fun _ _ q=>q;rintro rfl;rcases hc with rfl | hc
  ·rw [hfree] at e; cases e
  ·rw [hfree] at hc; cases hc
 rcases hx with hk | hk
 ·refine wpAny_storeName_local hk hn (fun h' hn' hs=>?_) hcls;obtain ⟨oL,_,_,hoL,_⟩:=id hn;refine h _ ⟨I.ok,I.os,I.bare,⟨fun b o e n hb hx=>?_,fun b o e n hb hx=>?_,I.base.free,fun b o e hx=>?_,I.base.tups,I.base.frzs,I.base.tbls⟩,⟨_,hn',fun j y v' e1 e2 e3=>?_⟩,fun y c e=>?_,I.free,I.freeC,fun p hp=>?_,tracked ⟨oL,hoL,I.free⟩ hs,by simpa using I.len⟩ ⟨_,hs,.inl rfl⟩
  ·exact (hs.2 b (ne_of_lt (lt_of_lt_of_le (lt_size e) I.ok.above))).trans (I.base.keep b o e n hb hx)
  ·obtain ⟨sl,e1⟩:=I.base.slot b o e n hb hx;exact ⟨sl,(hs.2 b (ne_of_lt (lt_of_lt_of_le (lt_size e) I.ok.above))).trans e1⟩
  ·obtain ⟨o',e1⟩:=I.base.there b o e hx;exact ⟨o',(hs.2 b (ne_of_lt (lt_of_lt_of_le (lt_size e) I.ok.above))).trans e1⟩
  ·by_cases hj:j = i
   ·subst hj;rw [hi] at e1; cases e1;rw [getElem?_set_self hiσ] at e2;cases e2;exact ⟨u,r,.inl ⟨hk,by simp⟩⟩
   ·rw [getElem?_set_ne (Ne.symm hj)] at e2;obtain ⟨u',r',q⟩:=hl j y v' e1 e2 e3;refine ⟨u',r',?_⟩;rcases q with ⟨k,e⟩ | ⟨k,c,e,z⟩
    ·refine .inl ⟨k,?_⟩;have:y ≠ x:=fun e=>hj (Ag hN e1 (e ▸ hi));simp [this,e]
    ·exact .inr ⟨k,c,e,z.sameBut hs (cne y c e)⟩
  ·obtain ⟨w',z⟩:=I.cell y c e;exact ⟨w',z.sameBut hs (cne y c e)⟩
  ·obtain ⟨e,n,ne,nf,d⟩:=I.pin p hp;exact ⟨(hs.2 p.1 ne).trans e,n,ne,nf,d⟩
 ·have hfn:X.fn x = true:=by
   rcases hf with z | z
   ·exact z
   ·rw [z] at hk; cases hk
  obtain ⟨c,hc⟩:=I.ok.has x (.inl hk);obtain ⟨w',z⟩:=I.cell x c hc;refine wpAny_storeName_cell I.ok.kind hk hc z (fun h' hc' hs=>?_);obtain ⟨oc,hoc,hocd⟩:=id z;refine h { s with heap:=h' } ⟨I.ok,I.os,I.bare,⟨fun b o e n hb hx=>?_,fun b o e n hb hx=>?_,I.base.free,fun b o e hx=>?_,I.base.tups,I.base.frzs,I.base.tbls⟩,⟨m,hn.sameBut hs (Ne.symm (cne x c hc)),fun j y v' e1 e2 e3=>?_⟩,fun y c' e=>?_,I.free,I.freeC,fun p hp=>?_,tracked ⟨oc,hoc,I.freeC x c hc⟩ hs,by simpa using I.len⟩ ⟨c,hs,.inr hc⟩
  ·exact (hs.2 b (ne_of_lt (lt_of_lt_of_le (lt_size e) (I.ok.cab x c hfn hc)))).trans (I.base.keep b o e n hb hx)
  ·obtain ⟨sl,e1⟩:=I.base.slot b o e n hb hx;exact ⟨sl,(hs.2 b (ne_of_lt (lt_of_lt_of_le (lt_size e) (I.ok.cab x c hfn hc)))).trans e1⟩
  ·obtain ⟨o',e1⟩:=I.base.there b o e hx;exact ⟨o',(hs.2 b (ne_of_lt (lt_of_lt_of_le (lt_size e) (I.ok.cab x c hfn hc)))).trans e1⟩
  ·by_cases hj:j = i
   ·subst hj;rw [hi] at e1; cases e1;rw [getElem?_set_self hiσ] at e2;cases e2;exact ⟨u,r,.inr ⟨.inl hk,c,hc,hc'⟩⟩
   ·rw [getElem?_set_ne (Ne.symm hj)] at e2;obtain ⟨u',r',q⟩:=hl j y v' e1 e2 e3;refine ⟨u',r',?_⟩;rcases q with q | ⟨k,c',e,z'⟩
    ·exact .inl q
    ·refine .inr ⟨k,c',e,z'.sameBut hs ?_⟩;rintro rfl;exact hj (Ag hN e1 (I.ok.inj _ _ _ e hc ▸ hi))
  ·by_cases hcc:c' = c
   ·subst hcc; exact ⟨_,hc'⟩
   ·obtain ⟨w2,z2⟩:=I.cell y c' e;exact ⟨w2,z2.sameBut hs hcc⟩
  ·obtain ⟨e,n,ne,nf,d⟩:=I.pin p hp;refine ⟨(hs.2 p.1 ?_).trans e,n,ne,nf,d⟩;intro q;rw [q,hoc] at e;have q':oc = p.2:=Option.some.inj e;exact d w' (by rw [<- q']; exact hocd)
theorem nU {M:Model} {A:Around} {E:Value->Shared->Prop} {i:Nat} {x:Str} {v:V} {u:Value} {Q:Unit->Shared->Prop} (I:Inv X pins σ H s) (hN:X.N.Nodup) (hi:X.N[i]? = some x) (hx:Loc X.env.scope x) (r:RelV v u)
  (h:∀ s',Inv X pins (σ.set i (some v)) H s'->Q () s') (hf:X.fn x = true\/X.env.scope.names.lookup x = some .local:=by first | exact .inl rfl | exact .inr rfl | assumption):wpAny M A (storeName X.env x u) Q E s :=
 uQ I hN hi hx r (fun s' I' _=>h s' I') hf
theorem Inv.call' {s':Shared} {ch:List Addr} (I:Inv X pins σ H s) (ho:s'.os = s.os) (u:Un (pD X.stack) ch H H' s.heap s'.heap) (hok:HOk X.prog X.w H' s'.heap) (hg:AllBare s'.gens)
  (hch:∀ b∈ch,(b∈X.ex\/X.s₀.heap.objs.size<=b)/\b ≠ X.env.locals/\(∀ x c,X.env.cells.lookup x = some c->c ≠ b)/\∀ p∈X.pn ++ pins,p.1 ≠ b):Inv X pins σ H' s':=by
 obtain ⟨h',g',d',t',o'⟩:=s';have e:o' = s.os:=ho;subst e;exact I.call (g':=g') (t':=t') (d':=d') u hok hg hch
end
abbrev XK:=Value->Option Addr->Hp->Prop
abbrev St:=List (Option V)
abbrev VK:=V->Hp->Prop
abbrev TE:=St->Hp->VK->Prop
abbrev TT:=St->Hp->(Bool->Hp->Prop)->Prop
abbrev TA:=St->Hp->(List V->Hp->Prop)->Prop
structure Ends where
 nx:St->Hp->Prop
 rt:VK
 bk:St->Hp->Prop:=fun _ _=>False
 ct:St->Hp->Prop:=fun _ _=>False
abbrev TS:=Ends->St->Hp->Prop
def EP (X:Cx) (pins:List (Addr × Obj)) (σ:St) (Q:VK) (u:Value) (s':Shared):Prop:=∃ v H',Inv X pins σ H' s'/\RelV v u/\Q v H'
def TP (X:Cx) (pins:List (Addr × Obj)) (σ:St) (Q:Bool->Hp->Prop) (b:Bool) (s':Shared):Prop:=∃ H',Inv X pins σ H' s'/\Q b H'
def AP (X:Cx) (pins:List (Addr × Obj)) (σ:St) (Q:List V->Hp->Prop) (us:List Value) (s':Shared):Prop:=∃ vs H',Inv X pins σ H' s'/\Vals vs us/\Q vs H'
def SP (X:Cx) (pins:List (Addr × Obj)) (D:Ends) (f:Flow) (s':Shared):Prop :=
 match f with
 | .next=>∃ σ' H',Inv X pins σ' H' s'/\D.nx σ' H'
 | .brk=>∃ σ' H',Inv X pins σ' H' s'/\D.bk σ' H'
 | .cont=>∃ σ' H',Inv X pins σ' H' s'/\D.ct σ' H'
 | .ret u=>∃ v σ' H',Inv X pins σ' H' s'/\RelV v u/\D.rt v H'
def PE (X:Cx) (e:Expr) (t:TE):Prop :=
 ∀ (pins:List (Addr × Obj)) (s:Shared) (σ:St) (H:Hp) (Q:VK),Inv X pins σ H s->t σ H Q->wpAny (model X.prog X.w) X.A (eval e X.env) (EP X pins σ Q) X.xe s
def PT (X:Cx) (e:Expr) (t:TT):Prop :=
 ∀ (pins:List (Addr × Obj)) (s:Shared) (σ:St) (H:Hp) (Q:Bool->Hp->Prop),Inv X pins σ H s->t σ H Q->wpAny (model X.prog X.w) X.A (isTrue e X.env (eval e X.env)) (TP X pins σ Q) X.xe s
def PW (X:Cx) (e:Expr) (t:TT):Prop :=
 ∀ (whole:Sem Value) (pins:List (Addr × Obj)) (s:Shared) (σ:St) (H:Hp) (Q:Bool->Hp->Prop),Inv X pins σ H s->t σ H Q->wpAny (model X.prog X.w) X.A (isTrue e X.env whole) (TP X pins σ Q) X.xe s
theorem PW.pt {X:Cx} {e:Expr} {t:TT} (h:PW X e t):PT X e t:=h _
def PA (X:Cx) (es:List Expr) (t:TA):Prop :=
 ∀ (pos:Pos) (pins:List (Addr × Obj)) (s:Shared) (σ:St) (H:Hp) (Q:List V->Hp->Prop),Inv X pins σ H s->t σ H Q->wpAny (model X.prog X.w) X.A (spliced (backTo pos (starEach es X.env))) (AP X pins σ Q) X.xe s
def PS (X:Cx) (st:Stmt) (t:TS):Prop :=
 ∀ (pins:List (Addr × Obj)) (s:Shared) (σ:St) (H:Hp) (D:Ends),Inv X pins σ H s->t D σ H->wpAny (model X.prog X.w) X.A (exec st X.env) (SP X pins D) X.xe s
def Ii (X:Cx) (st:List Stmt) (t:TS):Prop :=
 ∀ (pins:List (Addr × Obj)) (s:Shared) (σ:St) (H:Hp) (D:Ends),Inv X pins σ H s->t D σ H->wpAny (model X.prog X.w) X.A (execs st X.env) (SP X pins D) X.xe s
theorem eU {α:Type} {t:Sem α} {Q Q':α->Shared->Prop} {M:Model} {A:Around} {E:Value->Shared->Prop} {s:Shared} (h:wpAny M A t Q E s) (hQ:∀ a s,Q a s->Q' a s):wpAny M A t Q' E s:=wpAny_mono h hQ fun _ _ x=>x
section
variable {X:Cx}
def iB (i:Nat):TE:=fun σ H Q=>∃ v,σ[i]? = some (some v)/\Q v H
def tC (v:V):TE:=fun _ H Q=>Q v H
theorem aCh {i:Nat} {x:Str} {pos:Pos} (hN:X.N[i]? = some x) (hv:Vis X.env.scope x) (hd:(x == ("__debug__":Str)) = false:=by decide) (hcd:(x == ("__classdict__":Str)) = false:=by decide):PE X (.Name x pos) (iB i):=by
 intro pins s σ H Q I h;obtain ⟨v,e,h⟩:=h;obtain ⟨m,hn,hl⟩:=I.loc;obtain ⟨u,r,l⟩:=hl i x v hN e hv;have fin:EP X pins σ Q u s:=⟨v,H,I,r,h⟩;rcases l with ⟨hk,hm⟩ | ⟨hk,c,hc,hcell⟩
 ·exact wpAny_Name (wpAny_loadName_local I.ok.kind hk hn hm fin) hd
 ·rcases hk with hk | hk
  ·exact wpAny_Name (wpAny_loadName_cell I.ok.kind hk hc hcell fin) hd
  ·exact wpAny_Name (wpAny_loadName_free I.ok.kind hk hc hcell fin hcd) hd
theorem aP {i j pos}:PE X (.Constant (.int i) j pos) (tC (.int i)):=fun _ _ _ H _ I h=>wpAny_Constant_int ⟨.int i,H,I.tok _,⟨_,rfl⟩,h⟩
theorem gG {b j pos}:PE X (.Constant (.bool b) j pos) (tC (.bl b)):=fun _ _ _ H _ I h=>Constant_bool ⟨.bl b,H,I,rfl,h⟩
theorem jJ {j pos}:PE X (.Constant .none j pos) (tC .non):=fun _ _ _ H _ I h=>Constant_none ⟨.non,H,I,rfl,h⟩
theorem bF {x j pos}:PE X (.Constant (.str x) j pos) (tC (.str x)):=fun _ _ _ H _ I h=>Calls.Constant_str ⟨.str x,H,I.tok _,⟨_,rfl⟩,h⟩
def Gl (X:Cx) (x:Str):Prop:=X.env.kindOf x = some .globalImplicit
theorem qT {E:Value->Shared->Prop} {pins:List (Addr × Obj)} {s:Shared} {σ:St} {H:Hp} {x:Str} {u:Value} {pos:Pos} {Q:Value->Shared->Prop} (I:Inv X pins σ H s) (hg:Gl X x) (hm:X.mg x = some u) (h:Q u s)
  (hd:(x == ("__debug__":Str)) = false:=by decide):wpAny (model X.prog X.w) X.A (eval (.Name x pos) X.env) Q E s :=
 Calls.Name_function_global I.ok.kind hg (Calls.loadGlobal_global (by rw [I.ok.glob]; exact I.mod.glob.keeps I.bk) hm h) hd
theorem jL {E:Value->Shared->Prop} {pins:List (Addr × Obj)} {s:Shared} {σ:St} {H:Hp} {x:Str} {u:Value} {pos:Pos} {Q:Value->Shared->Prop} (I:Inv X pins σ H s) (hg:Gl X x) (hm:X.mg x = none) (hv:bootBuiltins x = some u) (h:Q u s)
  (hn:x ≠ "__name__":=by decide) (hd:(x == ("__debug__":Str)) = false:=by decide):wpAny (model X.prog X.w) X.A (eval (.Name x pos) X.env) Q E s:=by
 obtain ⟨mb,h1,h2⟩:=I.mod.blt;exact Calls.Name_function_global I.ok.kind hg (Calls.loadGlobal_builtin (by rw [I.ok.glob]; exact I.mod.glob.keeps I.bk) hm (by rw [I.ok.blt]; exact h1.keeps I.bk) ((h2 x hn).trans hv) h) hd
theorem fH {x:Str} {v:V} {u:Value} {pos:Pos} (hg:Gl X x) (hm:X.mg x = some u) (r:RelV v u) (hd:(x == ("__debug__":Str)) = false:=by decide):PE X (.Name x pos) (tC v) :=
 fun _ _ _ H _ I h=>qT I hg hm ⟨v,H,I,r,h⟩ hd
theorem qR {x:Str} {v:V} {u:Value} {pos:Pos} (hg:Gl X x) (hm:X.mg x = none) (hv:bootBuiltins x = some u) (r:RelV v u) (hn:x ≠ "__name__":=by decide) (hd:(x == ("__debug__":Str)) = false:=by decide):PE X (.Name x pos) (tC v) :=
 fun _ _ _ H _ I h=>jL I hg hm hv ⟨v,H,I,r,h⟩ hn hd
variable {a b:Expr} {ta tb:TE} {pos:Pos}
def PC (X:Cx) (op:CmpOp) (a b:Expr) (t:TE):Prop :=
 ∀ (pins:List (Addr × Obj)) (s:Shared) (σ:St) (H:Hp) (Q:VK),Inv X pins σ H s->t σ H Q ->
  wpAny (model X.prog X.w) X.A (eval a X.env) (fun v s₁=>wpAny (model X.prog X.w) X.A (eval b X.env) (fun u s₂=>wpAny (model X.prog X.w) X.A (compareOp op v u) (EP X pins σ Q) X.xe s₂) X.xe s₁) X.xe s
def tB (t:TE):TT:=fun σ H Q=>t σ H fun x H1=>∃ c,x = .bl c/\Q c H1
theorem aCd {op:CmpOp} {t:TE} (h:PC X op a b t) (h1:behindInMarks op b = false:=by first | exact nobehind _ (by decide) (by decide) | rfl):PT X (.Compare a [op] [b] pos) (tB t):=by
 intro pins s σ H Q I hw;refine wpAny_isTrue_Compare1 (eU (h pins s σ H _ I hw) fun v s1 h1=>eU h1 fun u s2 h2=>eU h2 fun c s3 ⟨x,H1,I1,r1,q1⟩=>?_) h1;obtain ⟨d,rfl,q⟩:=q1;cases r1;exact wpAny_truthy_bool ⟨H1,I1,q⟩
theorem eL {e:Expr} {t:TE} (h:PE X e t) (he:∀ whole,isTrue e X.env whole = (do let v <- whole; standAt e.pos; holding [v] (truthy v)):=by intro _; rfl):PT X e (tB t):=by
 intro pins s σ H Q I hw;refine isTrue_plain (eU (h pins s σ H _ I hw) fun v s1 ⟨x,H1,I1,r1,q1⟩=>?_) (he _);obtain ⟨d,rfl,q⟩:=q1;cases r1;exact wpAny_truthy_bool ⟨H1,I1,q⟩
variable {tA tB':TT} {rest:List Expr}
def aHw (t u:TT):TT:=fun σ H Q=>t σ H fun c H1=>if c = true then u σ H1 Q else Q false H1
def tOr (t u:TT):TT:=fun σ H Q=>t σ H fun c H1=>if c = true then Q true H1 else u σ H1 Q
def aHr (t:TT):TT:=fun σ H Q=>t σ H fun c H1=>Q (!c) H1
theorem kG (ha:PT X a tA):PW X (.BoolOp .And [a] pos) tA:=by
 intro wh pins s σ H Q I h;refine isTrue_and (eU (ha pins s σ H Q I h) fun c s1 e=>?_);cases c with
 | true=>exact isTrue_and_nil e
 | false=>exact e
theorem fU (ha:PT X a tA):PW X (.BoolOp .Or [a] pos) tA:=by
 intro wh pins s σ H Q I h;refine isTrue_or (eU (ha pins s σ H Q I h) fun c s1 e=>?_);cases c with
 | false=>exact isTrue_or_nil e
 | true=>exact e
theorem mY (ha:PT X a tA) (hb:PW X (.BoolOp .And (b :: rest) pos) tB'):PW X (.BoolOp .And (a :: b :: rest) pos) (aHw tA tB'):=by
 intro wh pins s σ H Q I h;refine isTrue_and (eU (ha pins s σ H _ I h) fun c s1 ⟨H1,I1,q1⟩=>?_);cases c with
 | true=>exact hb wh pins s1 σ H1 Q I1 q1
 | false=>exact ⟨H1,I1,q1⟩
theorem gA (ha:PT X a tA) (hb:PW X (.BoolOp .Or (b :: rest) pos) tB'):PW X (.BoolOp .Or (a :: b :: rest) pos) (tOr tA tB'):=by
 intro wh pins s σ H Q I h;refine isTrue_or (eU (ha pins s σ H _ I h) fun c s1 ⟨H1,I1,q1⟩=>?_);cases c with
 | true=>exact ⟨H1,I1,q1⟩
 | false=>exact hb wh pins s1 σ H1 Q I1 q1
theorem kH (ha:PT X a tA):PT X (.UnaryOp .Not a pos) (aHr tA):=by
 intro pins s σ H Q I h;exact isTrue_not (ha pins s σ H (fun c H1=>Q (!c) H1) I h)
def Xi (ta tb:TE):TE:=fun σ H Q=>ta σ H fun x H1=>∃ c,x = .bl c/\if c = true then tb σ H1 Q else Q (.bl false) H1
def aHq (ta tb:TE):TE:=fun σ H Q=>ta σ H fun x H1=>∃ c,x = .bl c/\if c = true then Q (.bl true) H1 else tb σ H1 Q
theorem Pb {op} {t:TE} (h:PE X a t):PE X (.BoolOp op [a] pos) t:=fun pins s σ H Q I hw=>BoolOp_one (h pins s σ H Q I hw)
theorem aCj (ha:PE X a ta) (hb:PE X (.BoolOp .And (b :: rest) pos) tb):PE X (.BoolOp .And (a :: b :: rest) pos) (Xi ta tb):=by
 intro pins s σ H Q I h;refine BoolOp_and (eU (ha pins s σ H _ I h) fun v s1 ⟨x,H1,I1,r1,q1⟩=>?_);obtain ⟨c,rfl,q1⟩:=q1;cases r1;refine wpAny_truthy_bool ?_;cases c with
 | true=>exact hb pins s1 σ H1 Q I1 q1
 | false=>exact ⟨.bl false,H1,I1,rfl,q1⟩
theorem aIu (ha:PE X a ta) (hb:PE X (.BoolOp .Or (b :: rest) pos) tb):PE X (.BoolOp .Or (a :: b :: rest) pos) (aHq ta tb):=by
 intro pins s σ H Q I h;refine BoolOp_or (eU (ha pins s σ H _ I h) fun v s1 ⟨x,H1,I1,r1,q1⟩=>?_);obtain ⟨c,rfl,q1⟩:=q1;cases r1;refine wpAny_truthy_bool ?_;cases c with
 | false=>exact hb pins s1 σ H1 Q I1 q1
 | true=>exact ⟨.bl true,H1,I1,rfl,q1⟩
def tIf (t:TT) (ta tb:TE):TE:=fun σ H Q=>t σ H fun c H1=>if c = true then ta σ H1 Q else tb σ H1 Q
theorem sC {c:Expr} (hc:PT X c tA) (ha:PE X a ta) (hb:PE X b tb):PE X (.IfExp c a b pos) (tIf tA ta tb):=by
 intro pins s σ H Q I h;refine wpAny_IfExp (eU (hc pins s σ H _ I h) fun d s1 ⟨H1,I1,q1⟩=>?_);cases d with
 | true=>exact ha pins s1 σ H1 Q I1 q1
 | false=>exact hb pins s1 σ H1 Q I1 q1
end
def SqL (K:W.Frag) (H:Hp) (a:Addr) (xs:List V):Prop :=
 Rd H a (.lst xs) \/
  ∃ (o:Obj) (its:Array Value) (n:Nat),K.lookup a = some o/\o.cls = .type "list"/\o.dict = none/\o.data = .seq its n/\its.size<=sizeLine/\Vals xs its.toList
def SqT (K:W.Frag) (H:Hp) (a:Addr) (xs:List V):Prop :=
 Rd H a (.tup xs) \/
  ∃ (o:Obj) (its:Array Value) (n:Nat),K.lookup a = some o/\o.cls = .type "tuple"/\o.data = .seq its n/\its.size<=sizeLine/\Vals xs its.toList
def aNn:Value->Option V
 | .none=>some .non
 | .bool b=>some (.bl b)
 | .int i _=>some (.int i)
 | .str x _=>some (.str x)
 | .bytes b _=>some (.byt b)
 | .float b _=>some (.flt b)
 | .ref a=>some (.ref a)
 | .type n=>some (.ty n)
 | _=>none
theorem RelV.abs {x:V} {u:Value} (r:RelV x u):aNn u = some x:=by
 cases x with
 | non=>cases r; rfl
 | bl _=>cases r; rfl
 | int _=>obtain ⟨t,rfl⟩:=r; rfl
 | str _=>obtain ⟨t,rfl⟩:=r; rfl
 | byt _=>obtain ⟨t,rfl⟩:=r; rfl
 | flt _=>obtain ⟨t,rfl⟩:=r; rfl
 | ref _=>cases r; rfl
 | ty _=>cases r; rfl
theorem RelV.inj {x y:V} {u:Value} (r:RelV x u) (q:RelV y u):x = y:=Option.some.inj (r.abs.symm.trans q.abs)
theorem Vals.inj:∀ {xs ys:List V} {us:List Value},Vals xs us->Vals ys us->xs = ys
 | _,_,_,.nil,.nil=>rfl
 | _,_,_,.cons r t,.cons r' t'=>by rw [r.inj r',Vals.inj t t']
section
variable {X:Cx} {pins:List (Addr × Obj)} {σ:St} {H:Hp} {s:Shared} {a:Addr} {xs ys:List V}
theorem SqL.of {K:W.Frag} (h:H a = some (.lst xs)):SqL K H a xs:=.inl (.inl h)
theorem SqT.of {K:W.Frag} (h:H a = some (.tup xs)):SqT K H a xs:=.inl (.inl h)
theorem Inv.list (I:Inv X pins σ H s) (h:SqL X.K H a xs):∃ its:List Value,Vals xs its/\PlainL s.heap a its.toArray/\xs.length<=sizeLine:=by
 rcases h with h | ⟨o,its,n,hk,hc,hd,hs,hz,r⟩
 ·obtain ⟨z,its,n,r,e⟩:=h.ok I.hok;exact ⟨its,r,⟨_,n,e,rfl,rfl,rfl⟩,z⟩
 ·refine ⟨its.toList,r,⟨o,n,I.kIn a o hk,hc,hd,by simpa using hs⟩,?_⟩;have e:=r.length;simp only [length_toList] at e;omega
theorem Inv.tuple (I:Inv X pins σ H s) (h:SqT X.K H a xs):∃ its:List Value,Vals xs its/\IsTup s.heap a its.toArray/\xs.length<=sizeLine:=by
 rcases h with h | ⟨o,its,n,hk,hc,hs,hz,r⟩
 ·obtain ⟨z,its,r,p⟩:=h.ok I.hok;exact ⟨its,r,p,z⟩
 ·refine ⟨its.toList,r,⟨o,I.kIn a o hk,hc,n,by simpa using hs⟩,?_⟩;have e:=r.length;simp only [length_toList] at e;omega
theorem Inv.list_inj (I:Inv X pins σ H s) (h:SqL X.K H a xs) (h':SqL X.K H a ys):xs = ys:=by
 obtain ⟨its,r,⟨o,n,e,_,_,d⟩,_⟩:=I.list h;obtain ⟨its',r',⟨o',n',e',_,_,d'⟩,_⟩:=I.list h';rw [e] at e'; cases e';rw [d] at d';injection d' with d1 _
 have:its = its':=by simpa using congrArg Array.toList d1
 subst this;exact r.inj r'
end
abbrev Cx.wish (X:Cx) (E:Value->Shared->Prop):Cx:={ X with xe:=E }
abbrev Cx.nox (X:Cx):Cx:=X.wish fun _ _=>False
section
variable {X:Cx} {st:Stmt} {rest:List Stmt} {t u:TS} {e:Expr} {te:TE} {pos:Pos}
def zH:TS:=fun D σ H=>D.nx σ H
def wO (t u:TS):TS:=fun D σ H=>t { D with nx:=u D } σ H
theorem aW:Ii X [] zH:=fun _ _ σ H _ I h=>wpAny_execs_nil ⟨σ,H,I,h⟩
theorem aF (h1:PS X st t) (h2:Ii X rest u):Ii X (st :: rest) (wO t u):=by
 intro pins s σ H D I h;refine wpAny_execs_cons (eU (h1 pins s σ H { D with nx:=u D } I h) fun f s1 q=>?_);cases f with
 | next =>
  obtain ⟨σ',H',I',q⟩:=q;exact h2 pins s1 σ' H' D I' q
 | ret v=>exact q
 | brk=>exact q
 | cont=>exact q
theorem aH (h1:PS X st t):Ii X [st] t:=by
 intro pins s σ H D I h;refine wpAny_execs_cons (eU (h1 pins s σ H D I h) fun f s1 q=>?_);cases f with
 | next=>exact wpAny_execs_nil q
 | ret v=>exact q
 | brk=>exact q
 | cont=>exact q
theorem Inv.quiet {pins:List (Addr × Obj)} {σ:St} {H:Hp} {s:Shared} (I:Inv X pins σ H s):interactive X.env = false:=by simp [interactive,I.ok.kind]
def uN (te:TE):TS:=fun D σ H=>te σ H fun _ H1=>D.nx σ H1
theorem eG (he:PE X e te) (hs:swapsWith e none pos.line X.env = pure false:=by rfl):PS X (.Expr e pos) (uN te):=by
 intro pins s σ H D I h;exact wpAny_Expr_any (eU (he pins s σ H _ I h) fun v s1 ⟨x,H1,I1,r1,q1⟩=>⟨σ,H1,I1,q1⟩) I.quiet hs
def zG (te:TE):TS:=fun D σ H=>te σ H D.rt
theorem aV (he:PE X e te):PS X (.Return (some e) pos) (zG te):=by
 intro pins s σ H D I h;exact wpAny_Return_some (eU (he pins s σ H _ I h) fun v s1 ⟨x,H1,I1,r1,q1⟩=>⟨x,σ,H1,I1,r1,q1⟩)
def Jb (c:TT) (t u:TS):TS:=fun D σ H=>c σ H fun b H1=>if b = true then t D σ H1 else u D σ H1
theorem bK {c:Expr} {a b:List Stmt} {tc:TT} (hc:PT X c tc) (ha:Ii X a t) (hb:Ii X b u):PS X (.If c a b pos) (Jb tc t u):=by
 intro pins s σ H D I h;refine wpAny_If (eU (hc pins s σ H _ I h) fun d s1 ⟨H1,I1,q1⟩=>?_);cases d with
 | true=>exact ha pins s1 σ H1 D I1 q1
 | false=>exact hb pins s1 σ H1 D I1 q1
end
abbrev TG:=V->St->Hp->(St->Hp->Prop)->Prop
abbrev Te:=List V->St->Hp->(St->Hp->Prop)->Prop
def PG (X:Cx) (target:Expr) (t:TG):Prop :=
 ∀ (pins:List (Addr × Obj)) (s:Shared) (σ:St) (H:Hp) (v:V) (u:Value) (Q:St->Hp->Prop),Inv X pins σ H s->RelV v u->t v σ H Q ->
  wpAny (model X.prog X.w) X.A (assign target X.env u) (fun _ s'=>∃ σ' H',Inv X pins σ' H' s'/\Q σ' H') X.xe s
def PGs (X:Cx) (ts:List Expr) (t:Te):Prop :=
 ∀ (pins:List (Addr × Obj)) (s:Shared) (σ:St) (H:Hp) (vs:List V) (us:List Value) (Q:St->Hp->Prop),Inv X pins σ H s->Vals vs us->t vs σ H Q ->
  wpAny (model X.prog X.w) X.A (assignInOrder ((assignEach ts X.env).map (·.2)) us) (fun _ s'=>∃ σ' H',Inv X pins σ' H' s'/\Q σ' H') X.xe s
abbrev aGd:=V->V->V->Hp->(Hp->Prop)->Prop
def aLj (X:Cx) (t:aGd):Prop :=
 ∀ (pins:List (Addr × Obj)) (s:Shared) (σ:St) (H:Hp) (o i v:V) (ov iv u:Value) (Q:Hp->Prop),Inv X pins σ H s->RelV o ov->RelV i iv->RelV v u->t o i v H Q ->
  wpAny (model X.prog X.w) X.A (setItem ov iv u) (fun _ s'=>∃ H',Inv X pins σ H' s'/\Q H') X.xe s
section
variable {X:Cx} {pos:Pos}
def mQ (i:Nat):TG:=fun v σ H Q=>Q (σ.set i (some v)) H
theorem xF {i:Nat} {x:Str} (hN:X.N.Nodup) (hi:X.N[i]? = some x) (hx:Loc X.env.scope x) (hf:X.fn x = true\/X.env.scope.names.lookup x = some .local:=by first | exact .inl rfl | exact .inr rfl | assumption):PG X (.Name x pos) (mQ i):=by
 intro pins s σ H v u Q I r h;exact wpAny_assign_Name (nU I hN hi hx r (fun s' I'=>⟨_,H,I',h⟩) hf)
def aKa:Te:=fun vs σ H Q=>vs = []/\Q σ H
def Xx (t:TG) (u:Te):Te:=fun vs σ H Q=>∃ v r,vs = v :: r/\t v σ H fun σ' H'=>u r σ' H' Q
theorem eV:PGs X [] aKa:=by
 intro pins s σ H vs us Q I r h;obtain ⟨e,h⟩:=h;subst e;cases r;exact assignInOrder_nil ⟨σ,H,I,h⟩
theorem bQ {e:Expr} {es:List Expr} {t:TG} {u:Te} (h1:PG X e t) (h2:PGs X es u)
  (hs:(assignEach (e :: es) X.env).map (·.2) = assign e X.env :: (assignEach es X.env).map (·.2):=by rfl):PGs X (e :: es) (Xx t u):=by
 intro pins s σ H vs us Q I r h;obtain ⟨v,vr,e1,h⟩:=h;subst e1;cases r with
 | cons r rr =>
  rw [hs];refine assignInOrder_cons (eU (h1 pins s σ H _ _ _ I r h) fun _ s1 ⟨σ1,H1,I1,q1⟩=>?_);exact h2 pins s1 σ1 H1 _ _ Q I1 rr q1
def aEr (K:W.Frag) (n:Nat) (t:Te):TG:=fun v σ H Q=>∃ a xs,v = .ref a/\SqT K H a xs/\xs.length = n/\t xs σ H Q
theorem aCg {es:List Expr} {k:Nat} {t:Te} {n:Nat} (hc:X.calm = true) (h:PGs X es t)
  (hn:(assignEach es X.env).length = n:=by rfl) (hst:(assignEach es X.env).findIdx? (·.1) = none:=by rfl):PG X (.Tuple es k pos) (aEr X.K n t):=by
 intro pins s σ H v u Q I r hw;obtain ⟨a,xs,e1,hq,hl,hw⟩:=hw;subst e1;cases r;obtain ⟨its,rv,ht,hz⟩:=I.tuple hq;refine assign_Tuple_tuple (I.ok.hd hc) ht (by simp [hn,<- hl,rv.length]) hst fun h' hx=>?_;have I1:Inv X pins σ H { s with heap:=h' }:=I.kept (t':=s.toks) fun b o e=>hx b o (ne_of_lt (lt_size e)) e;exact h pins _ σ H xs _ Q I1 (by simpa using rv) hw
def aJz (to ti:TE) (t:aGd):TG:=fun v σ H Q=>to σ H fun o H1=>ti σ H1 fun i H2=>t o i v H2 fun H3=>Q σ H3
theorem Pa {o i:Expr} {to ti:TE} {t:aGd} (ho:PE X o to) (hi:PE X i ti) (hs:aLj X t)
  (ha:∀ v,assign (.Subscript o i pos) X.env v = (do
   let ov <- holding [v] (eval o X.env)
   let iv <- holding [v,ov] (eval i X.env)
   standAt pos
   holding [v,ov,iv] (setItem ov iv v)
   release [v,ov,iv] []):=by intro _; rfl):PG X (.Subscript o i pos) (aJz to ti t):=by
 intro pins s σ H v u Q I r h;rw [ha];refine wpAny_bind (wpAny_holding (eU (ho pins s σ H _ I h) fun ov s1 ⟨x,H1,I1,r1,q1⟩=>?_));refine wpAny_bind (wpAny_holding (eU (hi pins s1 σ H1 _ I1 q1) fun iv s2 ⟨y,H2,I2,r2,q2⟩=>?_));refine wpAny_bind (wpAny_standAt (wpAny_bind (wpAny_holding (eU (hs pins s2 σ H2 x y v ov iv u _ I2 r1 r2 r q2) fun _ s3 ⟨H3,I3,q3⟩=>?_))));exact wpAny_release ⟨σ,H3,I3,q3⟩
def qC (te:TE) (g:TG):TS:=fun D σ H=>te σ H fun x H1=>g x σ H1 D.nx
theorem Cu {tg e:Expr} {te:TE} {g:TG} (he:PE X e te) (hg:PG X tg g) (hs:swapsWithSole [tg] e pos.line X.env = pure false:=by rfl) (hw:swappedStores [tg] e X.env = pure none:=by rfl)
  (h1:(assignEach [tg] X.env).map (·.2) = [assign tg X.env]:=by rfl):PS X (.Assign [tg] e pos) (qC te g):=by
 intro pins s σ H D I h;refine wpAny_Assign_stores (eU (he pins s σ H _ I h) fun v s1 ⟨x,H1,I1,r1,q1⟩=>?_) hs hw;rw [h1];exact eU (hg pins s1 σ H1 x v _ I1 r1 q1) fun _ s2 q=>q
theorem rY {i:Nat} {x:Str} {e:Expr} {te:TE} {pos':Pos} (hN:X.N.Nodup) (hi:X.N[i]? = some x) (hx:Loc X.env.scope x) (he:PE X e te) (hs:swapsWith e (some (.Name x pos')) pos.line X.env = pure false:=by rfl) (hf:X.fn x = true\/X.env.scope.names.lookup x = some .local:=by first | exact .inl rfl | exact .inr rfl | assumption) :
  PS X (.Assign [.Name x pos'] e pos) (qC te (mQ i)):=by
 intro pins s σ H D I h;refine wpAny_Assign_Name (eU (he pins s σ H _ I h) fun v s1 ⟨y,H1,I1,r1,q1⟩=>?_) hs;exact nU I1 hN hi hx r1 (fun s2 I2=>⟨_,H1,I2,q1⟩) hf
def aHp (i j:Nat) (ta:TA):TS:=fun D σ H=>ta σ H fun vs H1=>∃ v w,vs = [v,w]/\D.nx ((σ.set i (some v)).set j (some w)) H1
theorem aCe {i j:Nat} {x y:Str} {a b:Expr} {ta:TA} {px py pt:Pos} {kt k2 pt2} (hc:X.calm = true) (hN:X.N.Nodup) (hi:X.N[i]? = some x) (hj:X.N[j]? = some y) (hij:i ≠ j)
  (hx:X.env.scope.names.lookup x = some .local) (hy:X.env.scope.names.lookup y = some .local) (ha:PA X [a,b] ta)
  (hw:swappedStores [.Tuple [.Name x px,.Name y py] kt pt] (.Tuple [a,b] k2 pt2) X.env = pure (some [x,y]))
  (hs:swapsWithSole [.Tuple [.Name x px,.Name y py] kt pt] (.Tuple [a,b] k2 pt2) pos.line X.env = pure false:=by rfl) :
  PS X (.Assign [.Tuple [.Name x px,.Name y py] kt pt] (.Tuple [a,b] k2 pt2) pos) (aHp i j ta):=by
 intro pins s σ H D I h;rw [exec_Assign_arm];refine wpAny_bind (wpAny_standAt ?_);rw [hs];refine wpAny_bind (wpAny_pure ?_);rw [if_neg (by decide)];refine wpAny_bind (Tuple_ (eU (ha _ pins s σ H _ I h) fun us s1 ⟨vs,H1,I1,r1,q1⟩=>?_));obtain ⟨v,w,e1,q1⟩:=q1;subst e1;obtain ⟨u1,u2,rfl,rv,rw'⟩:∃ u1 u2,us = [u1,u2]/\RelV v u1/\RelV w u2:=by
  cases r1 with
  | cons p q =>
   cases q with
   | cons p' q' =>
    cases q';exact ⟨_,_,rfl,p,p'⟩
 refine wpAny_newObj_type ?_ (by show 2<=sizeLine; decide);have I2:Inv X pins σ H1 { s1 with heap:=s1.heap.push { cls:=.type "tuple",data:=.seq [u1,u2].toArray } }:=I1.kept (t':=s1.toks) fun b o e=>get?_push_of_some _ e;rw [hw];refine wpAny_bind (wpAny_pure ?_);show wpAny (model X.prog X.w) X.A (do rule "assign.swapped-stores"; let items <- unpackItems (.ref s1.heap.objs.size) 2 none; assignInOrder [fun v=>bindName X.env y v,fun v=>bindName X.env x v] items.reverse; pure Flow.next) _ _ _;refine wpAny_bind (wpAny_rule (wpAny_bind (unpackItems_tuple (items:=#[u1,u2]) (I.ok.hd hc) (IsTup.new s1.heap _) fun h' hx'=>?_)));have I3:=I2.kept (h':=h') (t':=s1.toks) fun b o e=>hx' b o (ne_of_lt (lt_size e)) e;show wpAny _ _ (assignInOrder [fun v=>bindName X.env y v,fun v=>bindName X.env x v] [u2,u1] >>= fun _=>pure Flow.next) _ _ _;refine wpAny_bind (assignInOrder_cons (wpAny_bindName (nU I3 hN hj (.inl hy) rw' (fun s2 I4=>?_) (.inr hy))));refine assignInOrder_cons (wpAny_bindName (nU I4 hN hi (.inl hx) rv (fun s3 I5=>assignInOrder_nil (wpAny_pure ?_)) (.inr hx)));rw [List.set_comm _ _ (Ne.symm hij)] at I5;exact ⟨_,H1,I5,q1⟩
end
section
variable {X:Cx} {pos:Pos}
def Lp (c:TT) (tb:TS):TS:=fun D σ H=>∃ W:Nat->St->Hp->Prop,(∃ m,W m σ H)/\∀ m σ H,W m σ H ->
 c σ H fun b H1=>if b = true then ∃ N:St->Hp->Prop,(∀ σ' H',N σ' H'->∃ m',m' < m/\W m' σ' H')/\tb { D with nx:=N,ct:=N,bk:=D.nx } σ H1 else D.nx σ H1
theorem lH {c:Expr} {body:List Stmt} {tc:TT} {tb:TS} (hp:PassesOwn (model X.prog X.w) X.A X.env X.xe) (hc:PT X c tc) (hb:Ii X body tb):PS X (.While c body [] pos) (Lp tc tb):=by
 intro pins s σ H D I h;obtain ⟨W,⟨m0,w0⟩,turn⟩:=h;refine wpAny_While (codeAny_whileLoop (fun n s'=>∃ σ' H',Inv X pins σ' H' s'/\W n σ' H') ?_ m0 ⟨σ,H,I,w0⟩);rintro n s1 ⟨σ1,H1,I1,w1⟩;refine wpAny_passesOwn hp (eU (hc pins s1 σ1 H1 _ I1 (turn n σ1 H1 w1)) fun b s2 ⟨H2,I2,q2⟩=>?_);cases b with
 | true =>
  obtain ⟨N,hN,q2⟩:=q2;rw [if_pos rfl];refine wpAny_passesOwn hp (eU (hb pins s2 σ1 H2 _ I2 q2) fun f s3 q3=>?_);cases f with
  | next =>
   obtain ⟨σ3,H3,I3,n3⟩:=q3;obtain ⟨m',hm,w3⟩:=hN σ3 H3 n3;exact ⟨m',hm,σ3,H3,I3,w3⟩
  | cont =>
   obtain ⟨σ3,H3,I3,n3⟩:=q3;obtain ⟨m',hm,w3⟩:=hN σ3 H3 n3;exact ⟨m',hm,σ3,H3,I3,w3⟩
  | brk=>exact q3
  | ret v=>exact q3
 | false =>
  rw [if_neg Bool.false_ne_true];exact wpAny_execs_nil ⟨σ1,H2,I2,q2⟩
end
structure It where
 go:Nat->Hp->Prop
 yld:Nat->Hp->V->Hp->Prop
 stop:Nat->Hp->Prop
def kT (X:Cx) (pins:List (Addr × Obj)) (H:Hp) (b:Addr):Prop :=
 H b = none/\b ≠ X.env.locals/\b ∉ X.fs/\(b∈X.ex\/X.s₀.heap.objs.size<=b)/\(∀ x c,X.env.cells.lookup x = some c->c ≠ b)/\∀ p∈X.pn ++ pins,p.1 ≠ b
theorem Inv.fpOk {X:Cx} {pins:List (Addr × Obj)} {σ:St} {H H':Hp} {s:Shared} {b:Addr} (I:Inv X pins σ H s) (hb:s.heap.objs.size<=b) (hn:H' b = none):kT X pins H' b:=by
 refine ⟨hn,ne_of_gt (lt_of_lt_of_le I.lt hb),I.nofs hb,.inr (le_trans I.sz hb),fun x c e z=>?_,fun p hp z=>?_⟩
 ·obtain ⟨v,q⟩:=I.cell x c e;exact absurd (lt_of_lt_of_le q.lt (by rw [z]; exact hb)) (lt_irrefl _)
 ·exact absurd (lt_of_lt_of_le (lt_size (I.pin p hp).1) (by rw [z]; exact hb)) (lt_irrefl _)
structure Turn (P:Program) (w:World) (K:W.Frag) (tg:Expr) (J:It) (fp:List Addr) (it:Addr) (tn:Nat->Heap->Prop):Prop where
 mem:it∈fp
 obj:∀ i h,tn i h->∀ b∈fp,∃ o,h.get? b = some o/\∀ v,o.data ≠ .cell v
 keep:∀ i h h',tn i h->(∀ b∈fp,∀ o,h.get? b = some o->h'.get? b = some o)->tn i h'
 item:∀ (X:Cx),X.prog = P->X.w = w->X.K = K->X.calm = true->∀ (i:Nat) (pins:List (Addr × Obj)) (s:Shared) (σ:St) (H:Hp) (E:Value->Shared->Prop),Inv X pins σ H s->(∀ b∈fp,kT X pins H b)->tn i s.heap->J.go i H ->
  wpAny (model P w) X.A (pyNext (.ref it)) (fun r s1=>∃ u,r = some u /\
   wpAny (model P w) X.A (letOwnedTupleGo tg (.ref it) u) (fun _ s2=>∃ x H',Inv X pins σ H' s2/\RelV x u/\J.yld i H x H'/\tn (i + 1) s2.heap/\∀ b∈fp,H' b = none) E s1) E s
 done:∀ (X:Cx),X.prog = P->X.w = w->X.K = K->X.calm = true->∀ (i:Nat) (pins:List (Addr × Obj)) (s:Shared) (σ:St) (H:Hp) (E:Value->Shared->Prop),Inv X pins σ H s->(∀ b∈fp,kT X pins H b)->tn i s.heap->J.stop i H ->
  wpAny (model P w) X.A (pyNext (.ref it)) (fun r s1=>r = none/\Inv X pins σ H s1) E s
 self:∀ (A:Around) (i:Nat) (s:Shared) (Q:Value->Shared->Prop) (E:Value->Shared->Prop),tn i s.heap->Q (.ref it) s->wpAny (model P w) A (pyIter (.ref it)) Q E s
abbrev TI:=St->Hp->(It->Hp->Prop)->Prop
def PIE (X:Cx) (pins:List (Addr × Obj)) (σ:St) (tg:Expr) (R:It->Hp->Prop) (itv:Value) (s2:Shared):Prop :=
 ∃ (it:Addr) (fp:List Addr) (tn:Nat->Heap->Prop) (J:It) (H':Hp),itv = .ref it/\Inv X pins σ H' s2/\Turn X.prog X.w X.K tg J fp it tn/\tn 0 s2.heap/\(∀ b∈fp,kT X pins H' b)/\R J H'
def PI (X:Cx) (tg iter:Expr) (wi:TI):Prop :=
 ∀ (pins:List (Addr × Obj)) (s:Shared) (σ:St) (H:Hp) (R:It->Hp->Prop),Inv X pins σ H s->wi σ H R ->
  wpAny (model X.prog X.w) X.A (eval iter X.env) (fun v s1=>wpAny (model X.prog X.w) X.A (pyIter v) (PIE X pins σ tg R) X.xe s1) X.xe s
theorem vL {M:Model} {A:Around} {E:Value->Shared->Prop} {s:Shared} {tg:Expr} {it:Addr} {u:Value} {o:Obj} {n:String} {vs:Array Value} {Q:Unit->Shared->Prop} (ho:s.heap.get? it = some o) (hc:o.cls = .type n) (hd:o.data = .fields vs)
  (hn:["enumerate","zip","dict_itemiterator","dict_reverseitemiterator","odict_iterator","itertools.zip_longest","itertools.pairwise"].contains n = false) (hQ:Q () s):wpAny M A (letOwnedTupleGo tg (.ref it) u) Q E s:=by
 unfold letOwnedTupleGo;cases tg <;> first
  | exact wpAny_pure hQ
  | (cases u <;> first
    | exact wpAny_pure hQ
    | (refine wpAny_bind (wpAny_load ho ?_)
       rw [hc,hd]
       show wpAny M A (if (["enumerate","zip","dict_itemiterator","dict_reverseitemiterator","odict_iterator","itertools.zip_longest","itertools.pairwise"].contains n && vs[0]? == some (rawInt _)) = true then _ else _) Q E s
       rw [if_neg (by intro h; rw [hn,Bool.false_and] at h; cases h)]
       exact wpAny_pure hQ))
def Itl (K:W.Frag) (a:Addr):It :=
 ⟨fun i H=>∃ xs x,SqL K H a xs/\xs[i]? = some x,fun i H x H'=>H' = H/\∀ xs,SqL K H a xs->xs[i]? = some x,fun i H=>∃ xs,SqL K H a xs/\xs.length<=i⟩
def Itr (lo:Int) (n:Nat):It:=⟨fun i _=>i < n,fun i H x H'=>H' = H/\x = .int (lo + i),fun i _=>n<=i⟩
theorem Iz {P:Program} {w:World} {K:W.Frag} {tg:Expr} (a it:Addr):Turn P w K tg (Itl K a) [it] it (fun i h=>h.IsListIter it a i) where
 mem:=by simp
 obj:=fun i h st b hb=>by
  have e:b = it:=by simpa using hb
  subst e;obtain ⟨o,e,c,d⟩:=st;exact ⟨o,e,fun v z=>by rw [d] at z; cases z⟩
 keep:=fun i h h' st k=>st.at fun o e=>k it (by simp) o e
 item:=by
  intro X hP hw hK hc i pins s σ H E I hf st hg;subst hP hw hK;obtain ⟨xs,x,hq,hx⟩:=hg;obtain ⟨its,rv,p,hz⟩:=I.list hq;obtain ⟨u,hu,ru⟩:=rv.get hx;obtain ⟨f0,f1,f2,f3,f4,f5⟩:=hf it (by simp);refine wpAny_pyNext_list_item st p.isList (x:=u) (by simpa using hu) fun h' st' sb=>?_;have I1:Inv X pins σ H { s with heap:=h' }:=I.turned (t':=s.toks) (fun b o hb e=>(sb.2 b hb).trans e) f0 f1 f3 f4 f5;obtain ⟨o,e,c,d⟩:=id st';exact ⟨u,rfl,vL (s:={ s with heap:=h' }) e c d (by decide) ⟨x,H,I1,ru,⟨rfl,fun ys hy=>by rw [I.list_inj hy hq]; exact hx⟩,st',fun b hb=>(hf b hb).1⟩⟩
 done:=by
  intro X hP hw hK hc i pins s σ H E I hf st hg;subst hP hw hK;obtain ⟨xs,hq,hx⟩:=hg;obtain ⟨its,rv,p,hz⟩:=I.list hq;obtain ⟨f0,f1,f2,f3,f4,f5⟩:=hf it (by simp);have hl:=rv.length;exact wpAny_pyNext_list_end (I.ok.hd hc) st p.isList (by simp; omega) fun h' eb=>⟨rfl,I.turned (t':=s.toks) (fun b o hb e=>eb b o hb e) f0 f1 f3 f4 f5⟩
 self:=fun _ _ _ _ _ st h=>wpAny_pyIter_listiter st h
theorem Cj {P:Program} {w:World} {K:PySem.W.Frag} {tg:Expr} (it:Addr) (lo:Int) (n:Nat):Turn P w K tg (Itr lo n) [it] it (fun i h=>IsRangeIter h it (lo + (i:Nat) * 1) ((n:Int) - (i:Nat)) 1) where
 mem:=by simp
 obj:=fun i h st b hb=>by
  have e:b = it:=by simpa using hb
  subst e
  exact ⟨_,st,fun v z=>by
   have z':Data.fields _ = Data.cell v:=z
   cases z'⟩
 keep:=fun i h h' st k=>k it (by simp) _ st
 item:=by
  intro X hP hw hK hc i pins s σ H E I hf st hg;subst hP hw hK;obtain ⟨f0,f1,f2,f3,f4,f5⟩:=hf it (by simp);have W:=Walks.range (prog:=X.prog) (w:=X.w) (I.ok.hd hc) it lo 1 n;refine W.item i s _ _ hg st fun v h' tk hv st' kk=>?_;obtain ⟨t,rfl⟩:=hv;have I1:Inv X pins σ H { s with heap:=h',toks:=tk }:=I.turned (fun b o hb e=>kk b o (by simpa using hb) e) f0 f1 f3 f4 f5;refine ⟨_,rfl,vL (s:={ s with heap:=h',toks:=tk }) (n:="range_iterator") st' rfl rfl (by decide) ⟨.int (lo + i),H,I1,⟨t,?_⟩,⟨rfl,rfl⟩,st',fun b hb=>(hf b hb).1⟩⟩;rw [mul_one]
 done:=by
  intro X hP hw hK hc i pins s σ H E I hf st hg;subst hP hw hK;obtain ⟨f0,f1,f2,f3,f4,f5⟩:=hf it (by simp);exact wpAny_pyNext_range_end (I.ok.hd hc) st (by have:n<=i:=hg; omega) fun h' eb=>⟨rfl,I.turned (t':=s.toks) (fun b o hb e=>eb b o hb e) f0 f1 f3 f4 f5⟩
 self:=fun _ _ _ _ _ st h=>wpAny_pyIter_rangeiter st h
section
variable {X:Cx} {tg:Expr}
def Gw (K:W.Frag) (tl:TE):TI:=fun σ H R=>tl σ H fun x H1=>∃ a,x = .ref a/\(∃ xs,SqL K H1 a xs)/\R (Itl K a) H1
theorem Us {l:Expr} {tl:TE} (hl:PE X l tl):PI X tg l (Gw X.K tl):=by
 intro pins s σ H R I h;refine eU (hl pins s σ H _ I h) fun v s1 ⟨x,H1,I1,r1,q1⟩=>?_;obtain ⟨a,e,⟨xs,hq⟩,q⟩:=q1;subst e;cases r1;obtain ⟨its,rv,p,hz⟩:=I1.list hq;refine wpAny_pyIter_list p.isList ?_;refine ⟨s1.heap.objs.size,[s1.heap.objs.size],_,_,H1,rfl,I1.kept (t':=s1.toks) fun b o e=>get?_push_of_some _ e,Iz a _,⟨_,get?_push_size _ rfl,rfl,rfl⟩,fun b hb=>?_,q⟩;have e:b = s1.heap.objs.size:=by simpa using hb
 subst e;exact I1.fpOk (le_refl _) (I1.hok.fresh (le_refl _))
theorem zT {pins:List (Addr × Obj)} {σ:St} {H:Hp} {s:Shared} {R:It->Hp->Prop} {E:Value->Shared->Prop} {lo hi:Int} {t u v:Tok} {tk:Nat} (I:Inv X pins σ H s) (h1:-(2 ^ 62)<=lo) (h2:lo < 2 ^ 62) (h3:-(2 ^ 62)<=hi) (h4:hi < 2 ^ 62)
  (q:R (Itr lo (hi - lo).toNat) H):wpAny (model X.prog X.w) X.A (pyIter (.ref s.heap.objs.size)) (PIE X pins σ tg R) E { s with heap:=s.heap.push { cls:=.type "range",data:=.fields #[.int lo t,.int hi u,.int 1 v] },toks:=tk }:=by
 refine wpAny_pyIter_range (IsRange.new ..) (small_one h1 h2 h3 h4) ?_;have I1:Inv X pins σ H { s with heap:=s.heap.push { cls:=.type "range",data:=.fields #[.int lo t,.int hi u,.int 1 v] },toks:=tk }:=I.kept fun b o e=>get?_push_of_some _ e
 refine ⟨(s.heap.push { cls:=.type "range",data:=.fields #[.int lo t,.int hi u,.int 1 v] }).objs.size,[(s.heap.push { cls:=.type "range",data:=.fields #[.int lo t,.int hi u,.int 1 v] }).objs.size],_,_,H,rfl,
  I1.kept (t':=tk) fun b o e=>get?_push_of_some _ e,Cj _ lo (hi - lo).toNat,?_,fun b hb=>?_,q⟩
 ·have e1:lo + ((0:Nat):Int) * 1 = lo:=by simp
  have e2:(((hi - lo).toNat:Nat):Int) - ((0:Nat):Int) = Builtin.Range.rangeSize lo hi 1:=by rw [rangeSize_one]; split <;> omega
  show IsRangeIter _ _ (lo + ((0:Nat):Int) * 1) ((((hi - lo).toNat:Nat):Int) - ((0:Nat):Int)) 1;rw [e1,e2];exact get?_push_size _ rfl
 ·have e:b = (s.heap.push { cls:=.type "range",data:=.fields #[.int lo t,.int hi u,.int 1 v] }).objs.size:=by simpa using hb
  subst e;exact I1.fpOk (le_refl _) (I1.hok.fresh (le_refl _))
def Xv (ta:TA):TI:=fun σ H R=>ta σ H fun vs H1=>∃ j:Int,vs = [.int j]/\-(2 ^ 62)<=j/\j < 2 ^ 62/\R (Itr 0 j.toNat) H1
def Xu (ta:TA):TI:=fun σ H R=>ta σ H fun vs H1=>∃ i j:Int,vs = [.int i,.int j]/\(-(2 ^ 62)<=i/\i < 2 ^ 62/\-(2 ^ 62)<=j/\j < 2 ^ 62)/\R (Itr i (j - i).toNat) H1
theorem vA {a:Expr} {ta:TA} {p pos:Pos} (hg:Gl X "range") (hm:X.mg "range" = none) (ha:PA X [a] ta) (hs:starEach [a] X.env = [(false,eval a X.env)]:=by rfl):PI X tg (.Call (.Name "range" p) [a] [] pos) (Xv ta):=by
 intro pins s σ H R I h;refine Call_ (jL I hg hm boot_range (PyProof.Rows.callWith_type1 (eU (ha pos pins s σ H _ I h) fun us s1 ⟨vs,H1,I1,r1,q1⟩=>?_) hs rfl));obtain ⟨j,e,q1,q2,q⟩:=q1;subst e;cases r1 with
 | cons r rr =>
  cases rr;obtain ⟨t,rfl⟩:=r;exact call_range_1 (zT I1 (by omega) (by omega) q1 q2 (by simpa using q))
theorem uZ {a b:Expr} {ta:TA} {p pos:Pos} (hg:Gl X "range") (hm:X.mg "range" = none) (ha:PA X [a,b] ta) (hs:starEach [a,b] X.env = [(false,eval a X.env),(false,eval b X.env)]:=by rfl) (hs2:starEach [b] X.env = [(false,eval b X.env)]:=by rfl) :
  PI X tg (.Call (.Name "range" p) [a,b] [] pos) (Xu ta):=by
 intro pins s σ H R I h;refine Call_ (jL I hg hm boot_range (PyProof.Rows.callWith_type1 (eU (ha pos pins s σ H _ I h) fun us s1 ⟨vs,H1,I1,r1,q1⟩=>?_) (by rw [hs,hs2]) (by rw [hs2]; rfl)));obtain ⟨i,j,e,⟨q1,q2,q3,q4⟩,q⟩:=q1;subst e;cases r1 with
 | cons r rr =>
  cases rr with
  | cons r' rr =>
   cases rr;obtain ⟨t,rfl⟩:=r;obtain ⟨t',rfl⟩:=r';exact call_range_2 (zT I1 q1 q2 q3 q4 q)
def Zt (wi:TI) (g:TG) (tb:TS):TS:=fun D σ H=>wi σ H fun J H1=>∃ W:Nat->Nat->St->Hp->Prop,(∃ m,W 0 m σ H1)/\∀ i m σ H,W i m σ H ->
 (J.stop i H/\D.nx σ H)\/(J.go i H/\∃ N:St->Hp->Prop,(∀ σ' H',N σ' H'->∃ m',m' < m/\W (i + 1) m' σ' H')/\∀ x H',J.yld i H x H'->g x σ H' fun σ2 H2=>tb { D with nx:=N,ct:=N,bk:=D.nx } σ2 H2)
def sB (fp:List Addr) (h:Heap):List (Addr × Obj):=fp.filterMap fun b=>(h.get? b).map fun o=>(b,o)
theorem kJ {fp:List Addr} {h:Heap} {b:Addr} {o:Obj} (hb:b∈fp) (e:h.get? b = some o):(b,o)∈sB fp h:=mem_filterMap.mpr ⟨b,hb,by rw [e]; rfl⟩
theorem Jq {fp:List Addr} {h:Heap} {p:Addr × Obj} (hp:p∈sB fp h):p.1∈fp/\h.get? p.1 = some p.2:=by
 obtain ⟨b,hb,e⟩:=mem_filterMap.mp hp;cases q:h.get? b with
 | none=>rw [q] at e; cases e
 | some o =>
  rw [q] at e;have e':(b,o) = p:=Option.some.inj e;subst e';exact ⟨hb,q⟩
theorem Inv.pinned {pins:List (Addr × Obj)} {σ:St} {H:Hp} {s:Shared} {fp:List Addr} (I:Inv X pins σ H s) (hf:∀ b∈fp,kT X pins H b) (ho:∀ b∈fp,∃ o,s.heap.get? b = some o/\∀ v,o.data ≠ .cell v):Inv X (pins ++ sB fp s.heap) σ H s :=
 I.pins_of fun p hp=>(mem_append.mp hp).elim (fun z=>I.pin p (mem_append_right _ z)) fun z=>by
  obtain ⟨hb,e⟩:=Jq z;obtain ⟨f0,f1,f2,_⟩:=hf p.1 hb;obtain ⟨o,e',d⟩:=ho p.1 hb;rw [e] at e'; cases e';exact ⟨e,f0,f1,f2,d⟩
theorem Inv.unpinned {pins pl:List (Addr × Obj)} {σ:St} {H:Hp} {s:Shared} (I:Inv X (pins ++ pl) σ H s):Inv X pins σ H s:=I.pins_of fun p hp=>I.pin p (mem_append_right _ (mem_append_left _ hp))
theorem dU {iter:Expr} {body:List Stmt} {wi:TI} {g:TG} {tb:TS} {pos:Pos} (hp:PassesOwn (model X.prog X.w) X.A X.env X.xe) (hc:X.calm = true) (hi:PI X tg iter wi) (hg:PG X tg g) (hb:Ii X body tb)
  (hs:∀ x,foldedSetIterable iter X.env x = pure x:=by intro _; rfl):PS X (.For tg iter body [] pos) (Zt wi g tb):=by
 intro pins s σ H D I h;refine wpAny_For (eU (hi pins s σ H _ I h) fun v s1 h1=>eU h1 fun itv s2 h2=>?_) hs;obtain ⟨it,fp,tn,J,H2,e,I2,T,st2,f2,W,⟨m0,w0⟩,turn⟩:=h2;subst e;have stat:∀ {H':Hp},(∀ b∈fp,H' b = none)->∀ b∈fp,kT X pins H' b:=fun hn b hb=>⟨hn b hb,(f2 b hb).2⟩;refine codeAny_forLoop_any (fun n s'=>∃ i σ' H',Inv X pins σ' H' s'/\tn i s'.heap/\(∀ b∈fp,H' b = none)/\W i n σ' H') ?_ m0 ⟨0,σ,H2,I2,st2,fun b hb=>(f2 b hb).1,w0⟩;rintro n s3 ⟨i,σ3,H3,I3,st3,fr3,w3⟩;rcases turn i n σ3 H3 w3 with ⟨stop,qn⟩ | ⟨go,N,hN,step⟩
 ·refine wpAny_passesOwn hp (eU (T.done X rfl rfl rfl hc i pins s3 σ3 H3 X.xe I3 (stat fr3) st3 stop) fun r s4 ⟨hr,I4⟩=>?_);subst hr;exact wpAny_execs_nil ⟨σ3,H3,I4,qn⟩
 ·refine wpAny_passesOwn hp (eU (T.item X rfl rfl rfl hc i pins s3 σ3 H3 X.xe I3 (stat fr3) st3 go) fun r s4 ⟨u,hr,h4⟩=>?_);subst hr;refine wpAny_passesOwn hp (eU h4 fun _ s5 ⟨x,H5,I5,r5,y5,st5,fr5⟩=>?_);have I5':=I5.pinned (stat fr5) (T.obj _ _ st5);refine wpAny_passesOwn hp (eU (hg _ s5 σ3 H5 x u _ I5' r5 (step x H5 y5)) fun _ s6 ⟨σ6,H6,I6,q6⟩=>?_);refine wpAny_passesOwn hp (eU (hb _ s6 σ6 H6 _ I6 q6) fun f s7 q7=>?_);have again:∀ {σ7:St} {H7:Hp},Inv X (pins ++ sB fp s5.heap) σ7 H7 s7->N σ7 H7->∃ m,m < n/\∃ i σ' H',Inv X pins σ' H' s7/\tn i s7.heap/\(∀ b∈fp,H' b = none)/\W i m σ' H':=fun {σ7 H7} I7 n7=>by
   obtain ⟨m',hm,w7⟩:=hN σ7 H7 n7;refine ⟨m',hm,i + 1,σ7,H7,I7.unpinned,T.keep _ _ _ st5 fun b hb o e=>(I7.pin (b,o) (mem_append_right _ (mem_append_right _ (kJ hb e)))).1,fun b hb=>?_,w7⟩;obtain ⟨o,e,d⟩:=T.obj _ _ st5 b hb;exact (I7.pin (b,o) (mem_append_right _ (mem_append_right _ (kJ hb e)))).2.1
  cases f with
  | next=>obtain ⟨σ7,H7,I7,n7⟩:=q7; exact again I7 n7
  | cont=>obtain ⟨σ7,H7,I7,n7⟩:=q7; exact again I7 n7
  | brk=>obtain ⟨σ7,H7,I7,q7⟩:=q7; exact ⟨σ7,H7,I7.unpinned,q7⟩
  | ret v=>obtain ⟨x7,σ7,H7,I7,r7,q7⟩:=q7; exact ⟨x7,σ7,H7,I7.unpinned,r7,q7⟩
end
abbrev R2:=V->V->Hp->VK->Prop
def mL (X:Cx) (f:Value->Value->Sem Value) (r:R2):Prop :=
 ∀ (pins:List (Addr × Obj)) (s:Shared) (σ:St) (H:Hp) (x y:V) (v u:Value) (Q:VK),Inv X pins σ H s->RelV x v->RelV y u->r x y H Q ->
  wpAny (model X.prog X.w) X.A (f v u) (EP X pins σ Q) X.xe s
def UnR (X:Cx) (f:Value->Sem Value) (r:V->Hp->VK->Prop):Prop :=
 ∀ (pins:List (Addr × Obj)) (s:Shared) (σ:St) (H:Hp) (x:V) (v:Value) (Q:VK),Inv X pins σ H s->RelV x v->r x H Q ->
  wpAny (model X.prog X.w) X.A (f v) (EP X pins σ Q) X.xe s
def iG (X:Cx) (f:Value) (r:List V->Hp->VK->Prop):Prop :=
 ∀ (pins:List (Addr × Obj)) (s:Shared) (σ:St) (H:Hp) (xs:List V) (us:List Value) (Q:VK),Inv X pins σ H s->Vals xs us->r xs H Q ->
  wpAny (model X.prog X.w) X.A (call f us) (EP X pins σ Q) X.xe s
def wP (r:R2) (ta tb:TE):TE:=fun σ H Q=>ta σ H fun x H1=>tb σ H1 fun y H2=>r x y H2 Q
def tUn (r:V->Hp->VK->Prop) (ta:TE):TE:=fun σ H Q=>ta σ H fun x H1=>r x H1 Q
def rI (C:Int->Int->Prop) (g:Int->Int->V):R2:=fun x y H Q=>∃ i j,x = .int i/\y = .int j/\C i j/\Q (g i j) H
def Uo (g:Int->Int->V):R2:=fun x y H Q=>∃ i j,x = .int i/\y = .int j/\Q (g i j) H
def rU (g:Int->V):V->Hp->VK->Prop:=fun x H Q=>∃ i,x = .int i/\Q (g i) H
section
variable {X:Cx} {a b c:Expr} {ta tb tc:TE} {pos:Pos}
theorem aFs (ha:PE X a ta) (hb:PE X b tb) {pins:List (Addr × Obj)} {s:Shared} {σ:St} {H:Hp} {R:V->V->Hp->Prop} (I:Inv X pins σ H s)
  (h:ta σ H fun x H1=>tb σ H1 fun y H2=>R x y H2) {Q:Value->Shared->Prop} {f:Value->Value->Sem Value}
  (hf:∀ v u s2 x y H2,Inv X pins σ H2 s2->RelV x v->RelV y u->R x y H2->wpAny (model X.prog X.w) X.A (f v u) Q X.xe s2) :
  wpAny (model X.prog X.w) X.A (eval a X.env) (fun v s₁=>wpAny (model X.prog X.w) X.A (eval b X.env) (fun u s₂=>wpAny (model X.prog X.w) X.A (f v u) Q X.xe s₂) X.xe s₁) X.xe s:=by
 refine eU (ha pins s σ H _ I h) fun v s1 ⟨x,H1,I1,r1,q1⟩=>?_;refine eU (hb pins s1 σ H1 _ I1 q1) fun u s2 ⟨y,H2,I2,r2,q2⟩=>?_;exact hf v u s2 x y H2 I2 r1 r2 q2
theorem aY {op:Operator} {r:R2} (ho:mL X (binaryOp op) r) (ha:PE X a ta) (hb:PE X b tb):PE X (.BinOp a op b pos) (wP r ta tb):=by
 intro pins s σ H Q I h;exact wpAny_BinOp (aFs ha hb I h fun v u s2 x y H2 I2 rx ry q=>ho pins s2 σ H2 x y v u Q I2 rx ry q)
theorem pP {op:UnaryOp} {r:V->Hp->VK->Prop} (ho:UnR X (unaryOp op) r) (ha:PE X a ta):PE X (.UnaryOp op a pos) (tUn r ta):=by
 intro pins s σ H Q I h;exact UnaryOp_ (eU (ha pins s σ H _ I h) fun v s1 ⟨x,H1,I1,r1,q1⟩=>ho pins s1 σ H1 x v Q I1 r1 q1)
theorem opI {f:Value->Value->Sem Value} {C:Int->Int->Prop} {g:Int->Int->Int}
  (rule:∀ (i j:Int) (t u:Tok) (s:Shared) (Q:Value->Shared->Prop) (E:Value->Shared->Prop),C i j->Q (.int (g i j) s.toks) { s with toks:=s.toks + 1 }->wpAny (model X.prog X.w) X.A (f (.int i t) (.int j u)) Q E s) :
  mL X f (rI C fun i j=>.int (g i j)):=by
 intro pins s σ H x y v u Q I rx ry h;obtain ⟨i,j,rfl,rfl,hc,q⟩:=h;obtain ⟨t,rfl⟩:=rx;obtain ⟨t',rfl⟩:=ry;exact rule i j t t' s _ _ hc ⟨.int (g i j),H,I.tok _,⟨_,rfl⟩,q⟩
theorem aIw {f:Value->Value->Sem Value} {g:Int->Int->Int}
  (rule:∀ (i j:Int) (t u:Tok) (s:Shared) (Q:Value->Shared->Prop) (E:Value->Shared->Prop),Q (.int (g i j) s.toks) { s with toks:=s.toks + 1 }->wpAny (model X.prog X.w) X.A (f (.int i t) (.int j u)) Q E s) :
  mL X f (Uo fun i j=>.int (g i j)):=by
 intro pins s σ H x y v u Q I rx ry h;obtain ⟨i,j,rfl,rfl,q⟩:=h;obtain ⟨t,rfl⟩:=rx;obtain ⟨t',rfl⟩:=ry;exact rule i j t t' s _ _ ⟨.int (g i j),H,I.tok _,⟨_,rfl⟩,q⟩
theorem aCq {f:Value->Value->Sem Value} {g:Int->Int->Bool}
  (rule:∀ (i j:Int) (t u:Tok) (s:Shared) (Q:Value->Shared->Prop) (E:Value->Shared->Prop),Q (.bool (g i j)) s->wpAny (model X.prog X.w) X.A (f (.int i t) (.int j u)) Q E s) :
  mL X f (Uo fun i j=>.bl (g i j)):=by
 intro pins s σ H x y v u Q I rx ry h;obtain ⟨i,j,rfl,rfl,q⟩:=h;obtain ⟨t,rfl⟩:=rx;obtain ⟨t',rfl⟩:=ry;exact rule i j t t' s _ _ ⟨.bl (g i j),H,I,rfl,q⟩
def aLv (i j:Int):Prop:=0<=j/\j<=1000000/\i.natAbs < 2 ^ 64
def CMul (i j:Int):Prop:=(-(2 ^ 64) < i/\i < 2 ^ 64)\/(-(2 ^ 64) < j/\j < 2 ^ 64)
theorem eR:mL X (binaryOp .Add) (Uo fun i j=>.int (i + j)):=aIw fun _ _ _ _ _ _ _ q=>add_int q
theorem lI:mL X (binaryOp .Sub) (Uo fun i j=>.int (i - j)):=aIw fun _ _ _ _ _ _ _ q=>sub_int q
theorem eN:mL X (binaryOp .Mod) (rI (fun _ j=>0 < j) fun i j=>.int (i % j)):=opI fun i j _ _ _ _ _ hc q=>by
 have h1:(0:Int) < j:=hc;exact mod_int' (by omega) (by rw [Int.fmod_eq_emod_of_nonneg i (by omega)]; exact q)
theorem Ph:mL X (binaryOp .Pow) (rI aLv fun i j=>.int (i ^ j.toNat)):=opI fun _ _ _ _ _ _ _ hc q=>pow_int_small hc.1 hc.2.1 hc.2.2 q
theorem unI {f:Value->Sem Value} {g:Int->Int}
  (rule:∀ (i:Int) (t:Tok) (s:Shared) (Q:Value->Shared->Prop) (E:Value->Shared->Prop),Q (.int (g i) s.toks) { s with toks:=s.toks + 1 }->wpAny (model X.prog X.w) X.A (f (.int i t)) Q E s) :
  UnR X f (rU fun i=>.int (g i)):=by
 intro pins s σ H x v Q I rx h;obtain ⟨i,rfl,q⟩:=h;obtain ⟨t,rfl⟩:=rx;exact rule i t s _ _ ⟨.int (g i),H,I.tok _,⟨_,rfl⟩,q⟩
theorem kZ:UnR X (unaryOp .USub) (rU fun i=>.int (-i)):=unI fun _ _ _ _ _ q=>neg_int q
end
def aHy:V->V->Bool
 | .non,.non=>true | .non,.int _=>true | .int _,.non=>true | .non,.bl _=>true | .bl _,.non=>true | .non,.str _=>true | .str _,.non=>true
 | .int _,.int _=>true | .bl _,.bl _=>true | .str _,.str _=>true | .byt _,.byt _=>true
 | .int _,.str _=>true | .str _,.int _=>true | .bl _,.str _=>true | .str _,.bl _=>true
 | _,_=>false
def rEq:R2:=fun x y H Q=>aHy x y = true/\Q (.bl (decide (x = y))) H
def rNe:R2:=fun x y H Q=>aHy x y = true/\Q (.bl (!decide (x = y))) H
theorem Hm {i j:Int}:decide (V.int i = V.int j) = (i == j):=by
 rw [Bool.eq_iff_iff];simp
theorem Rp {i j:Bool}:decide (V.bl i = V.bl j) = (i == j):=by
 rw [Bool.eq_iff_iff];simp
theorem Hl {i j:Str}:decide (V.str i = V.str j) = (i == j):=by
 rw [Bool.eq_iff_iff];simp
theorem Hn {i j:Array UInt8}:decide (V.byt i = V.byt j) = (i.toList == j.toList):=by
 rw [Bool.eq_iff_iff];cases i;cases j;simp
section
variable {X:Cx} {a b c:Expr} {ta tb tc:TE} {pos:Pos}
theorem cJ {pins:List (Addr × Obj)} {σ:St} {H:Hp} {s:Shared} {Q:VK} {k k':Bool} (I:Inv X pins σ H s) (q:Q (.bl k) H) (e:k = k'):EP X pins σ Q (.bool k') s:=by
 subst e;exact ⟨.bl k,H,I,rfl,q⟩
theorem cP:mL X (compareOp .Eq) rEq:=by
 intro pins s σ H x y v u Q I rx ry h;obtain ⟨hs,q⟩:=h;cases x with
 | non =>
  cases rx;cases y with
  | non=>cases ry; exact EqNone.eq_none_none (cJ I q (by simp))
  | bl j=>cases ry; exact EqNone.eq_none_bool (cJ I q (by simp))
  | int j=>obtain ⟨t',rfl⟩:=ry; exact EqNone.eq_none_int (cJ I q (by simp))
  | str j=>obtain ⟨t',rfl⟩:=ry; exact EqNone.eq_none_str (cJ I q (by simp))
  | _=>exact absurd (show false = true from hs) Bool.false_ne_true
 | bl i =>
  cases rx;cases y with
  | non=>cases ry; exact EqNone.eq_bool_none (cJ I q (by simp))
  | bl j=>cases ry; exact eq_bool (cJ I q Rp)
  | str j=>obtain ⟨t',rfl⟩:=ry; exact EqMixed.eq_bool_str (cJ I q (by simp))
  | _=>exact absurd (show false = true from hs) Bool.false_ne_true
 | int i =>
  obtain ⟨t,rfl⟩:=rx;cases y with
  | non=>cases ry; exact EqNone.eq_int_none (cJ I q (by simp))
  | int j=>obtain ⟨t',rfl⟩:=ry; exact eq_int (cJ I q Hm)
  | str j=>obtain ⟨t',rfl⟩:=ry; exact EqMixed.eq_int_str (cJ I q (by simp))
  | _=>exact absurd (show false = true from hs) Bool.false_ne_true
 | str i =>
  obtain ⟨t,rfl⟩:=rx;cases y with
  | non=>cases ry; exact EqNone.eq_str_none (cJ I q (by simp))
  | bl j=>cases ry; exact EqMixed.eq_str_bool (cJ I q (by simp))
  | int j=>obtain ⟨t',rfl⟩:=ry; exact EqMixed.eq_str_int (cJ I q (by simp))
  | str j=>obtain ⟨t',rfl⟩:=ry; exact eq_str (cJ I q Hl)
  | _=>exact absurd (show false = true from hs) Bool.false_ne_true
 | byt i =>
  obtain ⟨t,rfl⟩:=rx;cases y with
  | byt j=>obtain ⟨t',rfl⟩:=ry; exact W.eq_bytes (cJ I q Hn)
  | _=>exact absurd (show false = true from hs) Bool.false_ne_true
 | _=>cases y <;> exact absurd (show false = true from hs) Bool.false_ne_true
theorem nZ:mL X (compareOp .NotEq) rNe:=by
 intro pins s σ H x y v u Q I rx ry h;obtain ⟨hs,q⟩:=h;cases x with
 | non =>
  cases rx;cases y with
  | non=>cases ry; exact EqNone.ne_none_none (cJ I q (by simp))
  | bl j=>cases ry; exact EqNone.ne_none_bool (cJ I q (by simp))
  | int j=>obtain ⟨t',rfl⟩:=ry; exact EqNone.ne_none_int (cJ I q (by simp))
  | str j=>obtain ⟨t',rfl⟩:=ry; exact EqNone.ne_none_str (cJ I q (by simp))
  | _=>exact absurd (show false = true from hs) Bool.false_ne_true
 | bl i =>
  cases rx;cases y with
  | non=>cases ry; exact EqNone.ne_bool_none (cJ I q (by simp))
  | bl j=>cases ry; exact ne_bool (cJ I q (congrArg not Rp))
  | str j=>obtain ⟨t',rfl⟩:=ry; exact EqMixed.ne_bool_str (cJ I q (by simp))
  | _=>exact absurd (show false = true from hs) Bool.false_ne_true
 | int i =>
  obtain ⟨t,rfl⟩:=rx;cases y with
  | non=>cases ry; exact EqNone.ne_int_none (cJ I q (by simp))
  | int j=>obtain ⟨t',rfl⟩:=ry; exact ne_int (cJ I q (congrArg not Hm))
  | str j=>obtain ⟨t',rfl⟩:=ry; exact EqMixed.ne_int_str (cJ I q (by simp))
  | _=>exact absurd (show false = true from hs) Bool.false_ne_true
 | str i =>
  obtain ⟨t,rfl⟩:=rx;cases y with
  | non=>cases ry; exact EqNone.ne_str_none (cJ I q (by simp))
  | bl j=>cases ry; exact EqMixed.ne_str_bool (cJ I q (by simp))
  | int j=>obtain ⟨t',rfl⟩:=ry; exact EqMixed.ne_str_int (cJ I q (by simp))
  | str j=>obtain ⟨t',rfl⟩:=ry; exact ne_str (cJ I q (congrArg not Hl))
  | _=>exact absurd (show false = true from hs) Bool.false_ne_true
 | byt i =>
  obtain ⟨t,rfl⟩:=rx;cases y with
  | byt j=>obtain ⟨t',rfl⟩:=ry; exact W.ne_bytes (cJ I q (congrArg not Hn))
  | _=>exact absurd (show false = true from hs) Bool.false_ne_true
 | _=>cases y <;> exact absurd (show false = true from hs) Bool.false_ne_true
theorem lJ:mL X (compareOp .Lt) (Uo fun i j=>.bl (decide (i < j))):=aCq fun _ _ _ _ _ _ _ q=>lt_int q
theorem aIv:mL X (compareOp .LtE) (Uo fun i j=>.bl (decide (i<=j))):=aCq fun _ _ _ _ _ _ _ q=>le_int q
theorem jP:mL X (compareOp .Gt) (Uo fun i j=>.bl (decide (j < i))):=aCq fun _ _ _ _ _ _ _ q=>gt_int q
theorem vD:mL X (compareOp .In) (fun x y H Q=>∃ i j,x = .str i/\y = .str j/\Q (.bl (!(Builtin.Str.occurrences j i 0 j.length 1).isEmpty)) H):=by
 intro pins s σ H x y v u Q I rx ry h;obtain ⟨i,j,rfl,rfl,q⟩:=h;obtain ⟨t,rfl⟩:=rx;obtain ⟨t',rfl⟩:=ry;exact in_str (cJ I q rfl)
theorem Cz:mL X (compareOp .Is) (fun x y H Q=>y = .non/\Q (.bl (decide (x = .non))) H):=by
 intro pins s σ H x y v u Q I rx ry h;obtain ⟨rfl,q⟩:=h;cases ry;refine is_none_gen (cJ I q ?_);cases x <;> first
  | (cases rx; rfl)
  | (obtain ⟨t,rfl⟩:=rx; rfl)
theorem nY:mL X (compareOp .NotIn) (fun x y H Q=>∃ i j,x = .str i/\y = .str j/\Q (.bl (!(!(Builtin.Str.occurrences j i 0 j.length 1).isEmpty))) H):=by
 intro pins s σ H x y v u Q I rx ry h;obtain ⟨i,j,rfl,rfl,q⟩:=h;obtain ⟨t,rfl⟩:=rx;obtain ⟨t',rfl⟩:=ry;exact notIn_str (cJ I q rfl)
theorem aX (b:Expr) {op:CmpOp} (h:op ≠ .In:=by decide) (h2:op ≠ .NotIn:=by decide):behindInMarks op b = false:=by
 have e1:(op == CmpOp.In) = false:=by cases op <;> first | rfl | exact absurd rfl h
 have e2:(op == CmpOp.NotIn) = false:=by cases op <;> first | rfl | exact absurd rfl h2
 cases b <;> simp [behindInMarks,e1,e2]
theorem iK {op:CmpOp} {r:R2} (ho:mL X (compareOp op) r) (ha:PE X a ta) (hb:PE X b tb) (hm:behindInMarks op b = false):PE X (.Compare a [op] [b] pos) (wP r ta tb):=by
 intro pins s σ H Q I h;exact wpAny_Compare1 (aFs ha hb I h fun v u s2 x y H2 I2 rx ry q=>ho pins s2 σ H2 x y v u Q I2 rx ry q) hm
def Lq (t:TE):TT:=fun σ H Q=>t σ H fun x H'=>∃ k,x = .bl k/\Q k H'
theorem aT {op:CmpOp} {r:R2} (ho:mL X (compareOp op) r) (ha:PE X a ta) (hb:PE X b tb) (hm:behindInMarks op b = false):PT X (.Compare a [op] [b] pos) (Lq (wP r ta tb)):=by
 intro pins s σ H Q I h
 refine wpAny_isTrue_Compare1 (eU (ha pins s σ H _ I h) fun v s1 ⟨x,H1,I1,r1,q1⟩=>eU (hb pins s1 σ H1 _ I1 q1) fun u s2 ⟨y,H2,I2,r2,q2⟩ =>
  eU (ho pins s2 σ H2 x y v u _ I2 r1 r2 q2) fun c s3 ⟨z,H3,I3,r3,k,e,q3⟩=>?_) hm
 subst e;cases r3;exact wpAny_truthy_bool ⟨H3,I3,q3⟩
theorem nF:(sizeLine:Nat) < 2 ^ 63:=by rw [sizeLine_eq]; decide
theorem cQ:mL X (binaryOp .Add) (fun x y H Q=>∃ i j,x = .str i/\y = .str j/\i.length + j.length<=sizeLine/\Q (.str (i ++ j)) H):=by
 intro pins s σ H x y v u Q I rx ry h;obtain ⟨i,j,rfl,rfl,hz,q⟩:=h;obtain ⟨t,rfl⟩:=rx;obtain ⟨t',rfl⟩:=ry;exact add_str (fun t' tk=>⟨.str (i ++ j),H,I.tok _,⟨_,rfl⟩,q⟩) hz
theorem iR {x:V} {us:List Value} (r:Vals [x] us):∃ u,us = [u]/\RelV x u:=by
 cases r with
 | cons r1 r2=>cases r2; exact ⟨_,rfl,r1⟩
theorem uH {x y:V} {us:List Value} (r:Vals [x,y] us):∃ u w',us = [u,w']/\RelV x u/\RelV y w':=by
 cases r with
 | cons r1 r2 =>
  cases r2 with
  | cons r3 r4=>cases r4; exact ⟨_,_,rfl,r1,r3⟩
theorem gK:iG X (.builtin "abs") (fun xs H Q=>∃ i,xs = [.int i]/\Q (.int (if i < 0 then -i else i)) H):=by
 intro pins s σ H xs us Q I r h;obtain ⟨i,rfl,q⟩:=h;obtain ⟨u,rfl,t,rfl⟩:=iR r;exact call_abs_int fun u tk=>⟨.int (if i < 0 then -i else i),H,I.tok _,⟨_,rfl⟩,q⟩
theorem wA (hc:X.calm = true):iG X (.builtin "max") (fun xs H Q=>∃ i j,xs = [.int i,.int j]/\Q (.int (if j > i then j else i)) H):=by
 intro pins s σ H xs us Q I r h;obtain ⟨i,j,rfl,q⟩:=h;obtain ⟨u,w',rfl,⟨t,rfl⟩,⟨t',rfl⟩⟩:=uH r;refine max_two_ints (I.ok.hd hc) fun h' tk k=>⟨_,H,I.kept k,?_,q⟩;by_cases hj:j > i
 ·rw [if_pos hj,if_pos hj]; exact ⟨_,rfl⟩
 ·rw [if_neg hj,if_neg hj]; exact ⟨_,rfl⟩
theorem pJ (hc:X.calm = true):iG X (.builtin "min") (fun xs H Q=>∃ i j,xs = [.int i,.int j]/\Q (.int (if j < i then j else i)) H):=by
 intro pins s σ H xs us Q I r h;obtain ⟨i,j,rfl,q⟩:=h;obtain ⟨u,w',rfl,⟨t,rfl⟩,⟨t',rfl⟩⟩:=uH r;refine min_two_ints (I.ok.hd hc) fun h' tk k=>⟨_,H,I.kept k,?_,q⟩;by_cases hj:j < i
 ·rw [if_pos hj,if_pos hj]; exact ⟨_,rfl⟩
 ·rw [if_neg hj,if_neg hj]; exact ⟨_,rfl⟩
theorem Ks:iG X (.type "int") (fun xs H Q=>(∃ i,xs = [.int i]/\Q (.int i) H)\/∃ k,xs = [.bl k]/\Q (.int (if k then 1 else 0)) H):=by
 intro pins s σ H xs us Q I r h;rcases h with ⟨i,rfl,q⟩ | ⟨k,rfl,q⟩
 ·obtain ⟨u,rfl,t,rfl⟩:=iR r;exact call_int_int ⟨.int i,H,I,⟨_,rfl⟩,q⟩
 ·obtain ⟨u,rfl,r1⟩:=iR r;cases r1;exact call_int_bool ⟨.int (if k then 1 else 0),H,I.tok _,⟨_,rfl⟩,q⟩
theorem eK:iG X (.type "str") (fun xs H Q=>∃ i,xs = [.int i]/\i.natAbs.log2 < 1920/\Q (.str (toString i)) H):=by
 intro pins s σ H xs us Q I r h;obtain ⟨i,rfl,hz,q⟩:=h;obtain ⟨u,rfl,t,rfl⟩:=iR r;exact PySem.P.str_of_int hz ⟨.str _,H,I.tok _,⟨_,rfl⟩,q⟩
end
structure ObjM (h:Heap) (x dx C:Addr) (mA:Str->Option Value):Prop where
 obj:h.get? x = some (W.instObj C dx)
 ns:h.Ns1 dx mA
 ne:dx ≠ x
theorem Jz {h:Heap} {dx:Addr} {mA:Str->Option Value} (n:h.Ns1 dx mA):∃ od,h.get? dx = some od/\∀ name,W.lookIn name od = some (mA name):=by
 obtain ⟨o,es,ep,ho,hd,hk,_,hm⟩:=n;refine ⟨o,ho,fun name=>?_⟩;have e:=hm name;unfold nsFind findBy at e;rw [<- Array.find?_toList] at e;unfold W.lookIn;rw [hd];dsimp only;split
 ·rename_i y q
  rw [q] at e;exact congrArg some e
 ·rename_i q
  rw [q] at e;have a:es.toList.any (·.refKey) = false:=by
   rw [List.any_eq_false];intro y hy;obtain ⟨z,t,hkey⟩:=hk y (Array.mem_toList_iff.mp hy);simp [DictEntry.refKey,hkey]
  have a':¬ es.toList.any (·.refKey) = true:=by rw [a]; exact Bool.false_ne_true
  rw [if_neg a'];exact congrArg some e
theorem ObjM.look {h:Heap} {x dx C:Addr} {mA:Str->Option Value} (I:ObjM h x dx C mA):∃ od,W.InstAt h x (W.instObj C dx) C (some od)/\∀ name,W.lookIn name od = some (mA name) :=
 let ⟨od,ho,hl⟩:=Jz I.ns
 ⟨od,⟨I.obj,rfl,rfl,ho⟩,hl⟩
section
variable {prog:Program} {w:World} {A:Around} {E:Value->Shared->Prop} {s:Shared} {K:W.Frag} {x dx C f:Addr} {mA:Str->Option Value} {name:Str} {v:Value}
theorem Wb {expr:Bool} {Q:Value->Shared->Prop} (X:K.In s.heap) (I:ObjM s.heap x dx C mA) (hg:W.plainGet K C name = true) (hh:W.hasDictIn K C = true)
  (ha:W.findIn K (.ref C) name = some none) (hv:mA name = some v) (hv':W.handedIn v = true) (h:Q v { s with toks:=s.toks + 1 }) :
  wpAny (model prog w) A (getAttr (.ref x) name expr) Q E s:=by
 obtain ⟨od,J,hl⟩:=I.look;exact W.get_value X J (W.plainGet_of hg).1 (W.findObj_own hh ha rfl (by rw [hl,hv])) hv' h
theorem Qt {pl:Sem Bool} {Q:Value × List Value->Shared->Prop} (X:K.In s.heap) (I:ObjM s.heap x dx C mA) (hg:W.plainGet K C name = true)
  (hf:W.findIn K (.ref C) name = some (some (.ref f))) (ht:W.isFn K (.ref f) = true) (hv:mA name = none) (h:Q (.ref f,[.ref x]) s) :
  wpAny (model prog w) A (getMethod (.ref x) name pl) Q E s:=by
 obtain ⟨od,J,hl⟩:=I.look;exact W.method_fn X J (W.plainGet_of hg).1 (W.plainGet_of hg).2 hf (beq_iff_eq.mp ht) (by show (W.lookIn name od).map (·.isSome) = some false; rw [hl,hv]; rfl) h
theorem Ui {ns:List Str} {Q:Unit->Shared->Prop} (X:K.In s.heap) (I:ObjM s.heap x dx C mA)
  (hs:W.findIn K (.ref C) "__setattr__" = some (some (.builtin "object.__setattr__"))) (hp:W.plainOver K C = true) (ht:W.takerIn K C name = some none) (hh:W.hasDictIn K C = true)
  (hw:Within mA ns) (hsz:ns.length<=sizeLine)
  (h:∀ h',ObjM h' x dx C (fun y=>if y = name then some v else mA y)->SameBut dx s.heap h'->Q () { s with heap:=h',toks:=s.toks + 2 }) :
  wpAny (model prog w) A (setAttr (.ref x) name v) Q E s:=by
 obtain ⟨od,J,hl⟩:=I.look;refine W.set_plain X J hs (W.osa_open (s:={ s with toks:=s.toks + 1 }) (r:=none) X J hp ht fun b=>?_);obtain ⟨cd,hc,hd'⟩:=W.any_some hh;have hx:s.heap.get? x = some ⟨.ref C,some dx,.plain,#[]⟩:=I.obj;refine wpAny_bind (wpAny_pure (wpAny_bind (wpAny_bind (wpAny_loadPart hx (wpAny_bind (W.Looks.here (s:={ s with toks:=s.toks + 1 }) (W.looks_clsIn X hc) ?_))))));rw [hd'];refine wpAny_pure (a:=some dx) (wpAny_bind (wpAny_pure (wpAny_bind ?_)));refine wpAny_nsSet1 (s:={ s with toks:=s.toks + 1 }) I.ns fun h' hn2 hs2=>?_;obtain ⟨oD,esD,epD,hoD,hdD,hcD⟩:=hn2.count (Within.cons name v hw);refine wpAny_bind (wpAny_lookBehind hoD (by rw [hdD]; exact pastItsLine_dict (le_trans hcD (by rw [length_cons]; omega))) ?_);exact wpAny_pure (h _ ⟨(hs2.2 _ (Ne.symm I.ne)).trans I.obj,hn2,I.ne⟩ hs2)
theorem Qc {R:Result->Shared->Prop} {vs:List Value} {kw:List (Str × Value)} (X:K.In s.heap) (hm:W.makesIn K C = true)
  (hi:W.findIn K (.ref C) "__init__" = some (some (.ref f))) (hf:W.typeIn K (.ref f) = some (.type "function"))
  (h:codeAny (model prog w) (A.under (.builtin "type.__call__" ⟨.ref C :: vs,kw⟩)) (.call (.ref f) ⟨.ref (s.heap.objs.size + 1) :: vs,kw⟩) (W.InitBack (s.heap.objs.size + 1) R)
   { s with heap:=(s.heap.push W.emptyDict).push (W.instObj C s.heap.objs.size) }) :
  codeAny (model prog w) A (.call (.ref C) ⟨vs,kw⟩) R s:=by
 obtain ⟨hh,g,d,t,os⟩:=s;exact W.make_core (W.makes_of X hm) (W.looks_findIn X hi) (fun self=>W.bind_fn X self hf) (.inl rfl) h
end
def mM (f:Str) (v:V):List (Str × V)->List (Str × V)
 | []=>[(f,v)]
 | (g,x) :: r=>if g = f then (g,v) :: r else (g,x) :: mM f v r
theorem pX (f g:Str) (v:V):∀ fs:List (Str × V),(mM f v fs).lookup g = if g = f then some v else fs.lookup g
 | []=>by
  show List.lookup g [(f,v)] = _;by_cases h:g = f
  ·have hb:(g == f) = true:=beq_iff_eq.mpr h;simp only [List.lookup,hb,if_pos h]
  ·have hb:(g == f) = false:=beq_eq_false_iff_ne.mpr h;simp only [List.lookup,hb,if_neg h]
 | (k,x) :: r=>by
  have ih:=pX f g v r;rw [show mM f v ((k,x) :: r) = (if k = f then (k,v) :: r else (k,x) :: mM f v r) from rfl];by_cases hk:k = f
  ·rw [if_pos hk];by_cases h:g = k
   ·have hb:(g == k) = true:=beq_iff_eq.mpr h;simp only [List.lookup,hb,if_pos (h.trans hk)]
   ·have hb:(g == k) = false:=beq_eq_false_iff_ne.mpr h;simp only [List.lookup,hb,if_neg (fun e:g = f=>h (e.trans hk.symm))]
  ·rw [if_neg hk];by_cases h:g = k
   ·have hb:(g == k) = true:=beq_iff_eq.mpr h;simp only [List.lookup,hb,if_neg (fun e:g = f=>hk (h.symm.trans e))]
   ·have hb:(g == k) = false:=beq_eq_false_iff_ne.mpr h;simp only [List.lookup,hb];exact ih
theorem pA (f:Str) (v:V):∀ fs:List (Str × V),f∈(mM f v fs).map (·.1)/\∀ g,g∈fs.map (·.1)->g∈(mM f v fs).map (·.1)
 | []=>⟨by simp [mM],fun g h=>by simp at h⟩
 | (k,x) :: r=>by
  obtain ⟨i1,i2⟩:=pA f v r;rw [show mM f v ((k,x) :: r) = (if k = f then (k,v) :: r else (k,x) :: mM f v r) from rfl];by_cases hk:k = f
  ·rw [if_pos hk];subst hk;exact ⟨by simp,fun g h=>by simpa using h⟩
  ·rw [if_neg hk];refine ⟨?_,fun g h=>?_⟩
   ·rw [map_cons];exact mem_cons_of_mem _ i1
   ·rw [map_cons] at h ⊢;rcases mem_cons.mp h with e | e
    ·exact mem_cons.mpr (.inl e)
    ·exact mem_cons_of_mem _ (i2 g e)
theorem pZ (f:Str) (v:V):∀ fs:List (Str × V),(mM f v fs).length<=fs.length + 1
 | []=>by simp [mM]
 | (k,x) :: r=>by
  have ih:=pZ f v r;rw [show mM f v ((k,x) :: r) = (if k = f then (k,v) :: r else (k,x) :: mM f v r) from rfl];by_cases hk:k = f
  ·rw [if_pos hk,length_cons,length_cons]; omega
  ·rw [if_neg hk,length_cons,length_cons]; omega
theorem RelO.some_of {v:V} {o:Option Value} (r:RelO (some v) o):∃ u,o = some u/\RelV v u:=by
 cases o with
 | none=>exact (show False from r).elim
 | some u=>exact ⟨u,rfl,r⟩
theorem RelO.none_of {o:Option Value} (r:RelO none o):o = none:=by
 cases o with
 | none=>rfl
 | some u=>exact (show False from r).elim
theorem Ki {v:V} {u:Value} (r:RelV v u):W.handedIn u = true:=by
 cases v with
 | non=>cases (show u = Value.none from r); rfl
 | bl b=>cases (show u = Value.bool b from r); rfl
 | int i=>obtain ⟨t,e⟩:=(show ∃ t,u = Value.int i t from r); cases e; rfl
 | str x=>obtain ⟨t,e⟩:=(show ∃ t,u = Value.str x t from r); cases e; rfl
 | byt b=>obtain ⟨t,e⟩:=(show ∃ t,u = Value.bytes b t from r); cases e; rfl
 | flt b=>obtain ⟨t,e⟩:=(show ∃ t,u = Value.float b t from r); cases e; rfl
 | ref a=>cases (show u = Value.ref a from r); rfl
 | ty n=>cases (show u = Value.type n from r); rfl
section
variable {P:Program} {w:World} {H H':Hp} {h h':Heap} {a C dx:Addr} {fs fs':List (Str × V)}
theorem qV (hok:HOk P w H h) (e:H a = some (.ins C dx fs)):∃ mA,ObjM h a dx C mA/\(∀ f,RelO (fs.lookup f) (mA f))/\Within mA (fs.map (·.1))/\fs.length<=1000/\H dx = some (.own a):=by
 obtain ⟨d,z,ne,ob,mA,n,r,q⟩:=(show ObjOk P w H h a (.ins C dx fs) from hok a _ e);exact ⟨mA,⟨ob,n,ne⟩,r,q,z,d⟩
end
structure Cls (K:W.Frag) (C:Addr):Prop where
 pg:W.plainGet K C Str.empty = true
 hd:W.hasDictIn K C = true
 po:W.plainOver K C = true
 sa:W.findIn K (.ref C) "__setattr__" = some (some (.builtin "object.__setattr__"))
theorem Cls.get {K:W.Frag} {C:Addr} (c:Cls K C) (f:Str):W.plainGet K C f = true:=c.pg
def NoAttr (K:W.Frag) (C:Addr) (f:Str):Prop:=W.findIn K (.ref C) f = some none
theorem NoAttr.taker {K:W.Frag} {C:Addr} {f:Str} (n:NoAttr K C f):W.takerIn K C f = some none:=by
 unfold W.takerIn;rw [show W.findIn K (.ref C) f = some none from n];rfl
structure Con (K:W.Frag) (C:Addr) (f:Str) (v:V) (u:Value):Prop where
 at_:W.findIn K (.ref C) f = some (some u)
 rel:RelV v u
 get:W.specialIn K u "__get__" = some none
 cp:W.copiedNames.contains f = false
structure Meth (K:W.Frag) (C:Addr) (m:Str) (f:Addr):Prop where
 at_:W.findIn K (.ref C) m = some (some (.ref f))
 fn:W.isFn K (.ref f) = true
 kp:W.keepIn K (.ref f) = true
section
variable {X:Cx} {pins:List (Addr × Obj)} {σ:St} {H:Hp} {s:Shared} {a C dx:Addr} {fs:List (Str × V)} {f:Str} {v:V} {A:Around} {E:Value->Shared->Prop}
theorem Ea {b:Bool} {Q:Value->Shared->Prop} (I:Inv X pins σ H s) (e:H a = some (.ins C dx fs)) (c:Cls X.K C) (n:NoAttr X.K C f) (l:fs.lookup f = some v)
  (h:∀ u s',Inv X pins σ H s'->RelV v u->Q u s'):wpAny (model X.prog X.w) A (getAttr (.ref a) f b) Q E s:=by
 obtain ⟨mA,O,r,_,_,_⟩:=qV I.hok e;obtain ⟨u,hu,ru⟩:=RelO.some_of (v:=v) (o:=mA f) (by rw [<- l]; exact r f);exact Wb I.kIn O (c.get f) c.hd n hu (Ki ru) (h u _ (I.tok _) ru)
theorem Dz {m:Str} {g:Addr} {pl:Sem Bool} {Q:Value × List Value->Shared->Prop} (I:Inv X pins σ H s) (e:H a = some (.ins C dx fs)) (c:Cls X.K C) (k:Meth X.K C m g) (l:fs.lookup m = none)
  (h:Q (.ref g,[.ref a]) s):wpAny (model X.prog X.w) A (getMethod (.ref a) m pl) Q E s:=by
 obtain ⟨mA,O,r,_,_,_⟩:=qV I.hok e;have hn:mA m = none:=RelO.none_of (by rw [<- l]; exact r m);exact Qt I.kIn O (c.get m) k.at_ k.fn hn h
theorem Cp {y:V} {u:Value} {Q:Unit->Shared->Prop} (I:Inv X pins σ H s) (e:H a = some (.ins C dx fs)) (c:Cls X.K C) (n:NoAttr X.K C f) (hl:fs.length < 1000) (ry:RelV y u)
  (h:∀ s',Inv X pins σ (eT H a (.ins C dx (mM f y fs))) s'->Q () s'):wpAny (model X.prog X.w) A (setAttr (.ref a) f u) Q E s:=by
 obtain ⟨mA,O,r,wi,_,ho⟩:=qV I.hok e;have hz:(fs.map (·.1)).length<=sizeLine:=by rw [length_map,sizeLine_eq]; omega
 refine Ui I.kIn O c.sa c.po n.taker c.hd wi hz fun h' O' sb=>h _ ?_;have hd:∃ o,h'.get? dx = some o:=let ⟨o,_,_,e',_⟩:=O'.ns; ⟨o,e'⟩
 refine I.write (x:=a) (e:=dx) (by rw [e]; exact True.intro) (.inr ho) (fun b q hb z=>(sb.2 b hb).trans z) hd ?_;refine ⟨by rw [bJ O.ne]; exact ho,?_,O.ne,O'.obj,_,O'.ns,fun g=>?_,fun g hg=>?_⟩
 ·have:=pZ f y fs; omega
 ·show RelO ((mM f y fs).lookup g) (if g = f then some u else mA g);rw [pX];by_cases q:g = f
  ·rw [if_pos q,if_pos q]; exact ry
  ·rw [if_neg q,if_neg q]; exact r g
 ·by_cases q:g = f
  ·rw [q]; exact (pA f y fs).1
  ·refine (pA f y fs).2 g (wi g fun z=>hg ?_);show (if g = f then some u else mA g) = none;rw [if_neg q]; exact z
theorem Inv.made (I:Inv X pins σ H s):Inv X pins σ (eT (eT H s.heap.objs.size (.own (s.heap.objs.size + 1))) (s.heap.objs.size + 1) (.ins C s.heap.objs.size []))
  { s with heap:=(s.heap.push W.emptyDict).push (W.instObj C s.heap.objs.size) }:=by
 have e1:(s.heap.push W.emptyDict).get? s.heap.objs.size = some W.emptyDict:=get?_push_size s.heap rfl;have e2:((s.heap.push W.emptyDict).push (W.instObj C s.heap.objs.size)).get? (s.heap.objs.size + 1) = some (W.instObj C s.heap.objs.size):=by
  have:=get?_push_size (s.heap.push W.emptyDict) (o:=W.instObj C s.heap.objs.size) rfl
  rwa [size_push] at this
 have e3:(s.heap.push W.emptyDict).Ns s.heap.objs.size (fun _=>none):=⟨W.emptyDict,#[],_,e1,rfl,(fun e he=>absurd he (by simp)),fun _=>rfl⟩;have I1:=I.laid (a:=s.heap.objs.size) (o:=.own (s.heap.objs.size + 1)) (h':=s.heap.push W.emptyDict) (t':=s.toks) (fun b u q=>get?_push_of_some _ q) (le_refl _) ⟨_,e1⟩;refine I1.laid (a:=s.heap.objs.size + 1) (o:=.ins C s.heap.objs.size []) (t':=s.toks) (fun b u q=>get?_push_of_some _ q) (Nat.le_of_eq (size_push _ _)) ?_;have ne:s.heap.objs.size ≠ s.heap.objs.size + 1:=ne_of_lt (Nat.lt_succ_self _);refine ⟨by rw [bJ ne,bM],zero_le _,ne,e2,fun _=>none,(Heap.Ns1.of_empty e3).at fun o q=>get?_push_of_some _ q,fun _=>True.intro,fun y hy=>absurd rfl hy⟩
theorem Wv {prog:Program} {w:World} {env:Env} {e:Expr} {f:Str} {pos:Pos} {s:Shared} {Q:Value->Shared->Prop} (hb:attributeBase e f env (eval e env) = eval e env)
  (h:wpAny (model prog w) A (eval e env) (fun o s₁=>wpAny (model prog w) A (getAttr o f true) Q E s₁) E s):wpAny (model prog w) A (eval (.Attribute e f pos) env) Q E s :=
 Attribute_any_ h (by rw [arm_eval_Attribute,hb])
end
def Tw (K:W.Frag) (ta:TE) (f:Str):TE:=fun σ H Q=>ta σ H fun x H1=>∃ a C dx fs v,x = .ref a/\H1 a = some (.ins C dx fs)/\Cls K C/\NoAttr K C f/\fs.lookup f = some v/\Q v H1
def aIi (K:W.Frag) (ta tv:TE) (f:Str):TS:=fun D σ H=>tv σ H fun y H1=>ta σ H1 fun x H2=>∃ a C dx fs,x = .ref a/\H2 a = some (.ins C dx fs)/\Cls K C/\NoAttr K C f/\fs.length < 1000 /\
 D.nx σ (eT H2 a (.ins C dx (mM f y fs)))
section
variable {X:Cx} {o e value:Expr} {f:Str} {pos pos' tpos:Pos} {ta tv:TE}
theorem Cy (he:PE X e ta) (hb:attributeBase e f X.env (eval e X.env) = eval e X.env):PE X (.Attribute e f pos) (Tw X.K ta f):=by
 intro pins s σ H Q I h;refine Wv hb (eU (he pins s σ H _ I h) fun u s1 ⟨x,H1,I1,rx,a,C,dx,fs,v,ex,ea,c,n,l,q⟩=>?_);subst ex;obtain rfl:u = Value.ref a:=rx;exact Ea I1 ea c n l fun u' s2 I2 ru=>⟨v,H1,I2,ru,q⟩
theorem aCf (ha:PE X o ta) (hv:PE X value tv) (hs:swapsWith value (some (.Attribute o f pos')) pos.line X.env = pure false):PS X (.Assign [.Attribute o f pos'] value pos) (aIi X.K ta tv f):=by
 intro pins s σ H D I h;refine plainObj_wpAny_Assign_Attribute (eU (hv pins s σ H _ I h) fun u s1 ⟨y,H1,I1,ry,q⟩=>eU (ha pins s1 σ H1 _ I1 q) fun ov s2 ⟨x,H2,I2,rx,a,C,dx,fs,ex,ea,c,n,l,q2⟩=>?_) hs;subst ex;obtain rfl:ov = Value.ref a:=rx;exact Cp I2 ea c n l ry fun s3 I3=>⟨σ,_,I3,q2⟩
end
section
variable {X:Cx} {pins:List (Addr × Obj)} {σ:St} {H:Hp} {s:Shared} {A:Around} {E:Value->Shared->Prop} {Q:Value->Shared->Prop} {c:Value} {b:Bool}
inductive TyOf (K:W.Frag) (H:Hp):V->Value->Prop where
 | non:TyOf K H .non (.type "NoneType")
 | bl (x:Bool):TyOf K H (.bl x) (.type "bool")
 | int (i:Int):TyOf K H (.int i) (.type "int")
 | str (x:Str):TyOf K H (.str x) (.type "str")
 | flt (x:UInt64):TyOf K H (.flt x) (.type "float")
 | lst {a:Addr} {xs:List V} (e:H a = some (.lst xs)):TyOf K H (.ref a) (.type "list")
 | frz {a:Addr} {o:Obj} {xs:List V} (e:H a = some (.frz o (.lst xs))):TyOf K H (.ref a) (.type "list")
 | tup {a:Addr} {xs:List V} (e:H a = some (.tup xs)):TyOf K H (.ref a) (.type "tuple")
 | dK {a:Addr} {kvs:List (gY × V)} (e:H a = some (.dK kvs)):TyOf K H (.ref a) (.type "dict")
 | dT {a:Addr} {kvs:List (List gY × V)} (e:H a = some (.dT kvs)):TyOf K H (.ref a) (.type "dict")
 | ins {a C dx:Addr} {fs:List (Str × V)} (e:H a = some (.ins C dx fs)) (cl:Cls K C) (ha:W.findIn K (.ref C) "__class__" = some (some (.builtin "object.__class__")))
   (hn:W.specialIn K (.builtin "object.__class__") "__get__" = some (some (.builtin "getset_descriptor.__get__"))) (htk:W.takesIn K (.builtin "object.__class__") = some true)
   (hm:W.mroIn K C (.type "object") = some true):TyOf K H (.ref a) (.ref C)
theorem jS {x:V} {u t:Value} (I:Inv X pins σ H s) (rx:RelV x u) (ty:TyOf X.K H x t) (e:W.kitOne X.K t c = some b) (h:∀ tk,Q (.bool b) { s with toks:=tk }) :
  wpAny (model X.prog X.w) A (call (.builtin "isinstance") [u,c]) Q E s:=by
 cases ty with
 | non=>cases (show u = Value.none from rx); exact W.kia_one W.kitx_none I.kIn True.intro e (fun z=>nomatch z) h
 | bl y=>cases (show u = Value.bool y from rx); exact W.kia_one W.kitx_bool I.kIn True.intro e (fun z=>nomatch z) h
 | int i=>obtain ⟨t,q⟩:=(show ∃ t,u = Value.int i t from rx); cases q; exact W.kia_one W.kitx_int I.kIn True.intro e (fun z=>nomatch z) h
 | str y=>obtain ⟨t,q⟩:=(show ∃ t,u = Value.str y t from rx); cases q; exact W.kia_one W.kitx_str I.kIn True.intro e (fun z=>nomatch z) h
 | flt y=>obtain ⟨t,q⟩:=(show ∃ t,u = Value.float y t from rx); cases q; exact W.kia_one W.kitx_float I.kIn True.intro e (fun z=>nomatch z) h
 | @lst a xs ea =>
  cases (show u = Value.ref a from rx);obtain ⟨_,_,n,_,h1⟩:=(show ObjOk X.prog X.w H s.heap a (.lst xs) from I.hok a _ ea);exact W.kia_one W.kitx_list I.kIn ⟨_,h1,rfl⟩ e (fun z=>nomatch z) h
 | @frz a ob xs ea =>
  cases (show u = Value.ref a from rx);obtain ⟨_,_,_,n,_,h1⟩:=(show ObjOk X.prog X.w H s.heap a (.frz ob (.lst xs)) from I.hok a _ ea);exact W.kia_one W.kitx_list I.kIn ⟨_,h1,rfl⟩ e (fun z=>nomatch z) h
 | @tup a xs ea =>
  cases (show u = Value.ref a from rx);obtain ⟨_,_,_,p⟩:=(show ObjOk X.prog X.w H s.heap a (.tup xs) from I.hok a _ ea);obtain ⟨o,h1,h2,_⟩:=p;exact W.kia_one W.kitx_tuple I.kIn ⟨o,h1,h2⟩ e (fun z=>nomatch z) h
 | @dK a kvs ea =>
  cases (show u = Value.ref a from rx);obtain ⟨_,_,vs,_,p⟩:=(show ObjOk X.prog X.w H s.heap a (.dK kvs) from I.hok a _ ea);obtain ⟨o,es,ep,h1,h2,_⟩:=p;exact W.kia_one W.kitx_dict I.kIn ⟨o,h1,h2.1⟩ e (fun z=>nomatch z) h
 | @dT a kvs ea =>
  cases (show u = Value.ref a from rx);obtain ⟨_,_,xs,_,o,es,ep,h1,h2,_⟩:=(show ObjOk X.prog X.w H s.heap a (.dT kvs) from I.hok a _ ea);exact W.kia_one W.kitx_dict I.kIn ⟨o,h1,h2.1⟩ e (fun z=>nomatch z) h
 | @ins a C dx fs ea cl ha hn htk hm =>
  cases (show u = Value.ref a from rx);obtain ⟨mA,O,_⟩:=qV I.hok ea;obtain ⟨od,J,_⟩:=O.look;exact W.kia_one (W.kitx_own (cl.get _) cl.hd ha hn htk hm) I.kIn J e (fun z=>nomatch z) h
end
structure Room (k:Nat) (A:Around):Prop where
 hd:A.handled = none
 dp:A.depth + 3 * k + 5 < recursionLimit
 un:A.units + 16 * k + 200 < cLine
theorem Room.mono {j k:Nat} {A:Around} (r:Room k A) (h:j<=k):Room j A:=⟨r.hd,by have:=r.dp; omega,by have:=r.un; omega⟩
theorem Room.deeper {k:Nat} {A:Around} (r:Room (k + 1) A) (env:Env):Room k (A.deeper env) :=
 ⟨r.hd,by have:=r.dp; show A.depth + 1 + 3 * k + 5 < _; omega,by have:=r.un; show A.units + 3 + 16 * k + 200 < _; omega⟩
theorem Dt {A:Around} {C:Addr} {us:List Value} {kw:List (Str × Value)}:(A.under (.builtin "type.__call__" ⟨.ref C :: us,kw⟩)).depth = A.depth + 1:=by
 first | rfl | simp [Around.under,Code.weight,Code.isCreation,Code.isGuard,Code.isCaller,Code.frames,Code.isFrame,guardIds]
theorem Ds {A:Around} {C:Addr} {us:List Value} {kw:List (Str × Value)}:(A.under (.builtin "type.__call__" ⟨.ref C :: us,kw⟩)).units = A.units + 1:=by
 first | rfl | simp [Around.under,Code.cUnits,Code.frames,Code.isFrame]
theorem Room.make {k:Nat} {A:Around} (r:Room (k + 1) A) (C:Addr) (us:List Value) (kw:List (Str × Value)):Room k (A.under (.builtin "type.__call__" ⟨.ref C :: us,kw⟩)) :=
 ⟨r.hd,by have:=r.dp; rw [Dt]; omega,by have:=r.un; rw [Ds]; omega⟩
theorem Room.depth {k:Nat} {A:Around} (r:Room k A):A.depth < recursionLimit:=by have:=r.dp; omega
theorem Room.units {k:Nat} {A:Around} (r:Room k A):A.units + 64 < cLine:=by have:=r.un; omega
def iS:TA:=fun _ H Q=>Q [] H
def eF (ta:TE) (tr:TA):TA:=fun σ H Q=>ta σ H fun x H1=>tr σ H1 fun xs H2=>Q (x :: xs) H2
section
variable {X:Cx} {e:Expr} {es:List Expr} {te:TE} {t:TA} {pos:Pos}
theorem aD:PA X [] iS:=fun _ _ _ _ H Q I h=>Calls.spliced_nil ⟨[],H,I,.nil,h⟩
theorem aA (ha:PE X e te) (hr:PA X es t) (hs:starEach (e :: es) X.env = (false,eval e X.env) :: starEach es X.env:=by rfl):PA X (e :: es) (eF te t):=by
 intro pos pins s σ H Q I h;rw [hs];show wpAny _ _ (spliced ((false,eval e X.env) :: backTo pos (starEach es X.env))) _ _ s;refine Calls.spliced_cons (eU (ha pins s σ H _ I h) fun u s1 ⟨x,H1,I1,r1,q1⟩=>?_);exact eU (hr pos pins s1 σ H1 _ I1 q1) fun us s2 ⟨xs,H2,I2,r2,q2⟩=>⟨x :: xs,H2,I2,.cons r1 r2,q2⟩
def Zs (t:TA):TE:=fun σ H Q=>t σ H fun xs H1=>xs.length<=sizeLine/\∀ p,H1 p = none->Q (.ref p) (eT H1 p (.tup xs))
def aHt (t:TA):TE:=fun σ H Q=>t σ H fun xs H1=>xs.length<=sizeLine/\∀ p,H1 p = none->Q (.ref p) (eT H1 p (.lst xs))
theorem cA {x1} (h:PA X es t):PE X (.Tuple es x1 pos) (Zs t):=by
 intro pins s σ H Q I hq;refine wpAny_Tuple_spliced (eU (h pos pins s σ H _ I hq) fun us s1 ⟨xs,H1,I1,r,z,q⟩=>⟨by rw [<- r.length]; exact z,?_⟩);have hf:H1 s1.heap.objs.size = none:=I1.hok.fresh (le_refl _);refine ⟨.ref s1.heap.objs.size,eT H1 s1.heap.objs.size (.tup xs),I1.laid (t':=s1.toks) (fun b u e=>get?_push_of_some _ e) (le_refl _) ?_,rfl,q _ hf⟩;exact ⟨z,us,r,⟨_,get?_push_size _ rfl,rfl,_,rfl⟩⟩
theorem dN (h:PA X es t):PE X (.List es pos) (aHt t):=by
 intro pins s σ H Q I hq;refine wpAny_List_spliced (eU (h pos pins s σ H _ I hq) fun us s1 ⟨xs,H1,I1,r,z,q⟩=>⟨by rw [<- r.length]; exact z,?_⟩);have hf:H1 s1.heap.objs.size = none:=I1.hok.fresh (le_refl _);refine ⟨.ref s1.heap.objs.size,eT H1 s1.heap.objs.size (.lst xs),I1.laid (t':=s1.toks) (fun b u e=>get?_push_of_some _ e) (le_refl _) ?_,rfl,q _ hf⟩;exact ⟨z,us,0,r,get?_push_size _ rfl⟩
end
abbrev Sp:=List V->Hp->VK->XK->Prop
abbrev Il:=List Env->Hp->Shared->XK->Value->Shared->Prop
structure Env0 (P:Program) (w:World) (K:W.Frag) (mg:Str->Option Value) (base:Heap) (A:Around) (outer:List Env) (s:Shared) (H:Hp):Prop where
 frames:A.frames = some outer
 mod:Mod K mg base
 bs:∀ b o,base.get? b = some o->s.heap.get? b = some o/\H b = none
 bsz:base.objs.size<=s.heap.objs.size
 funs:s.heap.FunFrames base outer
 frf:∀ b∈pD outer,H b = none
 hok:HOk P w H s.heap
 bare:AllBare s.gens
def CE (outer:List Env) (P:Program) (w:World) (H:Hp) (s:Shared) (Q:VK) (u:Value) (s':Shared):Prop :=
 ∃ v H',s'.os = s.os/\AllBare s'.gens/\Un (pD outer) [] H H' s.heap s'.heap/\HOk P w H' s'.heap/\RelV v u/\Q v H'
def CR (CX:Il) (outer:List Env) (P:Program) (w:World) (H:Hp) (s:Shared) (Q:VK) (E:XK) (r:Result) (s':Shared):Prop :=
 match r with
 | .ok (.ret u)=>CE outer P w H s Q u s'
 | .ok _=>False
 | .error e=>CX outer H s E e s'
structure FnOk (P:Program) (w:World) (K:W.Frag) (mg:Str->Option Value) (base:Heap) (CX:Il) (k:Nat) (f:Addr) (fd:FuncData) (ps:List Str) (sp:Sp):Prop where
 len:∀ vs H Q E,sp vs H Q E->vs.length = ps.length
 run:∀ (A:Around) (outer:List Env) (s:Shared) (H:Hp) (args:Args) (us:List Value) (vs:List V) (Q:VK) (E:XK),Room k A->Env0 P w K mg base A outer s H->BindsTo s fd args (ps.zip us)->Vals vs us->sp vs H Q E ->
  codeAny (model P w) A (.call (.ref f) args) (CR CX outer P w H s Q E) s
theorem FnOk.imp {P:Program} {w:World} {K:W.Frag} {mg:Str->Option Value} {base:Heap} {CX:Il} {k:Nat} {f:Addr} {fd:FuncData} {ps:List Str} {sp sp':Sp} (F:FnOk P w K mg base CX k f fd ps sp)
  (h:∀ vs H Q E,sp' vs H Q E->sp vs H Q E):FnOk P w K mg base CX k f fd ps sp' :=
 ⟨fun vs H Q E q=>F.len vs H Q E (h _ _ _ _ q),fun A outer s H args us vs Q E hr he hb hv hs=>F.run A outer s H args us vs Q E hr he hb hv (h _ _ _ _ hs)⟩
theorem Env0.make {P:Program} {w:World} {K:W.Frag} {mg:Str->Option Value} {base:Heap} {A:Around} {outer:List Env} {s:Shared} {H:Hp} (e:Env0 P w K mg base A outer s H) (C:Addr) (us:List Value) (kw:List (Str × Value)) :
  Env0 P w K mg base (A.under (.builtin "type.__call__" ⟨.ref C :: us,kw⟩)) outer s H:=⟨by first | exact e.frames | (simpa [Around.under,Code.envs,Code.isFrame,pushEnvs] using e.frames),e.mod,e.bs,e.bsz,e.funs,e.frf,e.hok,e.bare⟩
section
variable {X:Cx} {pins:List (Addr × Obj)} {σ:St} {H:Hp} {s s':Shared}
theorem Inv.env0 (I:Inv X pins σ H s):Env0 X.prog X.w X.K X.mg X.base X.A X.stack s H :=
 ⟨I.ok.frames,I.ok.mod,I.bs,le_trans I.ok.bsz I.sz,I.stack,I.stkFree,I.hok,I.bare⟩
theorem Inv.after {Q:VK} {u:Value} (I:Inv X pins σ H s) (h:CE X.stack X.prog X.w H s Q u s'):EP X pins σ Q u s':=by
 obtain ⟨v,H',os,bare,un,hok,r,q⟩:=h;obtain ⟨hh,g,d,t,os'⟩:=s';obtain rfl:os' = s.os:=os;exact ⟨v,H',I.call (h':=hh) (g':=g) (d':=d) (t':=t) (ch:=[]) un hok bare (fun b z=>absurd z (by simp)),r,q⟩
end
def nQ (sp:Sp) (dvs:List V) (E:XK) (t:TA):TE:=fun σ H Q=>t σ H fun vs H1=>sp (vs ++ dvs) H1 Q E
def zI (C:Addr) (m:Str) (sp:Sp) (dvs:List V) (E:XK) (ta:TE) (t:TA):TE:=fun σ H Q=>ta σ H fun x H1=>∃ a dx fs,x = .ref a/\H1 a = some (.ins C dx fs)/\fs.lookup m = none /\
 t σ H1 fun vs H2=>sp (x :: (vs ++ dvs)) H2 Q E
def Xg (C:Addr) (sp:Sp) (dvs:List V) (E:XK) (t:TA):TE:=fun σ H Q=>t σ H fun vs H1=>∀ x dx,H1 x = none->H1 dx = none->dx ≠ x ->
 sp (.ref x :: (vs ++ dvs)) (eT (eT H1 dx (.own x)) x (.ins C dx [])) (fun v H2=>v = .non/\Q (.ref x) H2) E
def Binds (K:W.Frag) (fd:FuncData) (ps:List Str) (ds:List Value):Prop :=
 ∀ (s:Shared) (us:List Value),K.In s.heap->(us ++ ds).length = ps.length->BindsTo s fd ⟨us,[]⟩ (ps.zip (us ++ ds))
theorem Binds.all {K:W.Frag} {fd:FuncData} {ps:List Str} (h:∀ us:List Value,us.length = ps.length->bindArgs fd ⟨us,[]⟩ = pure (ps.zip us)):Binds K fd ps []:=fun s us _ hl=>by
 rw [append_nil] at hl ⊢;exact .of_eq (h us hl)
def kN (CX:Il) (X:Cx) (E:XK):Prop:=∀ (pins:List (Addr × Obj)) (σ:St) (H:Hp) (s:Shared) (e:Value) (s':Shared),Inv X pins σ H s->CX X.stack H s E e s'->X.xe e s'
section
variable {X:Cx} {CX:Il} {k:Nat} {f C:Addr} {fd:FuncData} {ps:List Str} {sp:Sp} {dvs:List V} {ds:List Value} {E:XK} {x m:Str} {p pos apos:Pos} {e o:Expr} {es:List Expr} {ta:TE} {t:TA}
theorem Ol {pins:List (Addr × Obj)} {σ:St} {H:Hp} {s:Shared} {Q:VK} {us:List Value} {vs:List V} (F:FnOk X.prog X.w X.K X.mg X.base CX k f fd ps sp) (hr:Room k X.A) (hb:Binds X.K fd ps ds) (hd:Vals dvs ds) (hx:kN CX X E)
  (I:Inv X pins σ H s) (r:Vals vs us) (h:sp (vs ++ dvs) H Q E):wpAny (model X.prog X.w) X.A (call (.ref f) us) (EP X pins σ Q) X.xe s:=by
 have r2:Vals (vs ++ dvs) (us ++ ds):=r.append hd;have hl:(us ++ ds).length = ps.length:=by rw [<- r2.length]; exact F.len _ _ _ _ h
 refine wpAny_call (codeAny_mono (F.run X.A X.stack s H ⟨us,[]⟩ (us ++ ds) (vs ++ dvs) Q E hr I.env0 (hb s us I.kIn hl) r2 h) fun r s' hq=>?_);cases r with
 | error e=>exact hx pins σ H s e s' I hq
 | ok fl =>
  cases fl with
  | ret u=>exact I.after hq
  | next=>exact False.elim hq
  | brk=>exact False.elim hq
  | cont=>exact False.elim hq
theorem Uu (F:FnOk X.prog X.w X.K X.mg X.base CX k f fd ps sp) (hr:Room k X.A) (hg:Gl X x) (hm:X.mg x = some (.ref f)) (hk:W.keepIn X.K (.ref f) = true) (hb:Binds X.K fd ps ds) (hd:Vals dvs ds) (hx:kN CX X E)
  (ha:PA X (e :: es) t) (hdb:(x == ("__debug__":Str)) = false:=by decide) (he:starEach (e :: es) X.env = (false,eval e X.env) :: starEach es X.env:=by rfl) (hpl:(backTo pos (starEach es X.env)).any (·.1) = false:=by rfl) :
  PE X (.Call (.Name x p) (e :: es) [] pos) (nQ sp dvs E t):=by
 intro pins s σ H Q I h;refine wpAny_Call_Name_kw (qT I hg hm ?_ hdb);refine W.callWith_K (h₀:=X.base) I.ok.mod.kin hk (eU (ha pos pins s σ H _ I h) fun us s1 ⟨vs,H1,I1,r,q⟩=>⟨I1.kIn,?_⟩) he hpl;exact Ol F hr hb hd hx I1 r q
theorem mH {pl:Sem Bool} (he:PE X o ta) (c:Cls X.K C) (hm:Meth X.K C m f) (F:FnOk X.prog X.w X.K X.mg X.base CX k f fd ps sp) (hr:Room k X.A) (hb:Binds X.K fd ps ds) (hd:Vals dvs ds) (hx:kN CX X E) (ha:PA X (e :: es) t)
  (hst:starEach (e :: es) X.env = (false,eval e X.env) :: starEach es X.env:=by rfl) (hpl:(backTo pos (starEach es X.env)).any (·.1) = false:=by rfl)
  (ht:eval (.Call (.Attribute o m apos) (e :: es) [] pos) X.env = (do
   let ov <- eval o X.env
   standAt apos.atName
   let (f,first) <- holding [ov] (getMethod ov m pl)
   callWith pos f first (backTo pos (starEach (e :: es) X.env)) (backToKw pos (keywordEach [] X.env))):=by rfl) :
  PE X (.Call (.Attribute o m apos) (e :: es) [] pos) (zI C m sp dvs E ta t):=by
 intro pins s σ H Q I h;refine W.methodCall_KW (pl:=pl) (eU (he pins s σ H _ I h) fun u s1 ⟨x,H1,I1,rx,a,dx,fs,ex,ea,l,q⟩=>?_) ht;subst ex;obtain rfl:u = Value.ref a:=rx;refine Dz I1 ea c hm l ?_;refine W.callWith_K (first:=[.ref a]) (h₀:=X.base) I.ok.mod.kin hm.kp (eU (ha pos pins s1 σ H1 _ I1 q) fun us s2 ⟨vs,H2,I2,r,q2⟩=>⟨I2.kIn,?_⟩) hst hpl;exact Ol (us:=.ref a :: us) (vs:=.ref a :: vs) F hr hb hd hx I2 (.cons rfl r) q2
structure Mk (K:W.Frag) (C f:Addr):Prop where
 makes:W.makesIn K C = true
 init:W.findIn K (.ref C) "__init__" = some (some (.ref f))
 fn:W.isFn K (.ref f) = true
 kp:W.keepIn K (.ref C) = true
theorem Oj {pins:List (Addr × Obj)} {σ:St} {H:Hp} {s:Shared} {Q:VK} {us:List Value} {vs:List V} (M:Mk X.K C f) (F:FnOk X.prog X.w X.K X.mg X.base CX k f fd ps sp) (hr:Room (k + 1) X.A) (hb:Binds X.K fd ps ds) (hd:Vals dvs ds)
  (hx:kN CX X E) (I:Inv X pins σ H s) (r:Vals vs us)
  (h:∀ x dx,H x = none->H dx = none->dx ≠ x->sp (.ref x :: (vs ++ dvs)) (eT (eT H dx (.own x)) x (.ins C dx [])) (fun v H2=>v = .non/\Q (.ref x) H2) E) :
  wpAny (model X.prog X.w) X.A (call (.ref C) us) (EP X pins σ Q) X.xe s:=by
 have hq:=h (s.heap.objs.size + 1) s.heap.objs.size (I.hok.fresh (Nat.le_succ _)) (I.hok.fresh (le_refl _)) (ne_of_lt (Nat.lt_succ_self _));have I2:=Inv.made (C:=C) I;have r2:Vals (V.ref (s.heap.objs.size + 1) :: (vs ++ dvs)) (Value.ref (s.heap.objs.size + 1) :: (us ++ ds)):=.cons rfl (r.append hd);have hl:(Value.ref (s.heap.objs.size + 1) :: us ++ ds).length = ps.length:=by
  have e:=r2.length;rw [F.len _ _ _ _ hq] at e;exact e.symm
 refine wpAny_call (Qc (f:=f) I.kIn M.makes M.init (beq_iff_eq.mp M.fn) (codeAny_mono (F.run _ X.stack _ _ ⟨Value.ref (s.heap.objs.size + 1) :: us,[]⟩ (Value.ref (s.heap.objs.size + 1) :: (us ++ ds)) _ _ E (hr.make C us [])
  (I2.env0.make C us []) (hb _ (Value.ref (s.heap.objs.size + 1) :: us) I2.kIn hl) r2 hq) fun r s' hq'=>?_))
 cases r with
 | error e=>exact hx pins σ _ _ e s' I2 hq'
 | ok fl =>
  cases fl with
  | ret u =>
   obtain ⟨v,H',I3,rv,ev,q3⟩:=I2.after hq';subst ev;exact ⟨rv,⟨V.ref (s.heap.objs.size + 1),H',I3,rfl,q3⟩⟩
  | next=>exact False.elim hq'
  | brk=>exact False.elim hq'
  | cont=>exact False.elim hq'
theorem Pc (M:Mk X.K C f) (F:FnOk X.prog X.w X.K X.mg X.base CX k f fd ps sp) (hr:Room (k + 1) X.A) (hg:Gl X x) (hm:X.mg x = some (.ref C)) (hb:Binds X.K fd ps ds) (hd:Vals dvs ds) (hx:kN CX X E)
  (hdb:(x == ("__debug__":Str)) = false:=by decide):PE X (.Call (.Name x p) [] [] pos) (Xg C sp dvs E iS):=by
 intro pins s σ H Q I h;refine wpAny_Call_Name_kw (qT I hg hm ?_ hdb);exact W.callWith_K0 I.kIn M.kp (Oj (us:=[]) M F hr hb hd hx I .nil h)
end
section
variable {X:Cx} {CX:Il} {k:Nat} {f C:Addr} {fd:FuncData} {ps ks:List Str} {sp:Sp} {E:XK} {x m:Str} {p pos apos kpos:Pos} {e o:Expr} {es:List Expr} {kws:List Keyword} {te ta:TE} {t tk:TA} {nm:Option Str}
structure KBinds (K:W.Frag) (fd:FuncData) (ps ks:List Str) (g:List Value->List Value->List Value) (gV:List V->List V->List V):Prop where
 to:∀ (s:Shared) (us ws:List Value),K.In s.heap->(g us ws).length = ps.length->BindsTo s fd ⟨us,ks.zip ws⟩ (ps.zip (g us ws))
 rel:∀ {vs:List V} {us:List Value} {zs:List V} {ws:List Value},Vals vs us->Vals zs ws->Vals (gV vs zs) (g us ws)
variable {g:List Value->List Value->List Value} {gV:List V->List V->List V}
end
structure FnScope (N P:List Str) (sc:Scope):Prop where
 kind:sc.kind = .function
 co:sc.isCoroutine = false
 gen:sc.isGenerator = false
 nd:N.Nodup
 pre:N.take P.length = P
 par:∀ x∈P,sc.names.lookup x = some .local\/sc.names.lookup x = some .cell
 nofree:∀ y∈sc.names,y.2 ≠ .free
theorem wC {kindOf:Str->Option NameKind} {x:Str}:∀ {binds:List (Str × Value)} {m:Str->Option Value},(∀ v,(x,v) ∉ binds)->bindL kindOf binds m x = m x
 | [],_,_=>rfl
 | (n,v) :: r,m,h=>by
  unfold bindL;rw [wC fun w hw=>h w (mem_cons_of_mem _ hw)];split
  ·have:x ≠ n:=by rintro rfl; exact h v mem_cons_self
   simp [this]
  ·rfl
theorem wE {kindOf:Str->Option NameKind} {x:Str}:∀ {binds:List (Str × Value)} {m:Str->Option Value},(∀ v,(x,v) ∉ binds)->bindC kindOf binds m x = m x
 | [],_,_=>rfl
 | (n,v) :: r,m,h=>by
  unfold bindC;rw [wE fun w hw=>h w (mem_cons_of_mem _ hw)];split
  ·rfl
  ·have:x ≠ n:=by rintro rfl; exact h v mem_cons_self
   simp [this]
theorem wD {kindOf:Str->Option NameKind} {x:Str} {v:Value}:∀ {P:List Str} {vs:List Value} {i:Nat} {m:Str->Option Value},P.Nodup->P[i]? = some x->vs[i]? = some v->kindOf x = some .local ->
  bindL kindOf (P.zip vs) m x = some v
 | [],_,_,_,_,h,_,_=>by simp at h
 | _ :: _,[],_,_,_,_,h,_=>by simp at h
 | p :: P,w :: vs,0,m,nd,h1,h2,hk=>by
  simp at h1 h2; subst h1; subst h2;show bindL kindOf ((p,w) :: P.zip vs) m p = _;unfold bindL;rw [wC fun v hv=>(nodup_cons.mp nd).1 (of_mem_zip hv).1,if_pos hk];simp
 | p :: P,w :: vs,i + 1,m,nd,h1,h2,hk=>by
  show bindL kindOf ((p,w) :: P.zip vs) m x = _;unfold bindL;exact wD (i:=i) (nodup_cons.mp nd).2 (by simpa using h1) (by simpa using h2) hk
theorem wF {kindOf:Str->Option NameKind} {x:Str} {v:Value}:∀ {P:List Str} {vs:List Value} {i:Nat} {m:Str->Option Value},P.Nodup->P[i]? = some x->vs[i]? = some v->kindOf x ≠ some .local ->
  bindC kindOf (P.zip vs) m x = some v
 | [],_,_,_,_,h,_,_=>by simp at h
 | _ :: _,[],_,_,_,_,h,_=>by simp at h
 | p :: P,w :: vs,0,m,nd,h1,h2,hk=>by
  simp at h1 h2; subst h1; subst h2;show bindC kindOf ((p,w) :: P.zip vs) m p = _;unfold bindC;rw [wE fun v hv=>(nodup_cons.mp nd).1 (of_mem_zip hv).1,if_neg hk];simp
 | p :: P,w :: vs,i + 1,m,nd,h1,h2,hk=>by
  show bindC kindOf ((p,w) :: P.zip vs) m x = _;unfold bindC;exact wF (i:=i) (nodup_cons.mp nd).2 (by simpa using h1) (by simpa using h2) hk
def start (N:List Str) (vs:List V):St:=vs.map some ++ replicate (N.length - vs.length) none
def pH (CX:Il) (P:Program) (w:World) (K:W.Frag) (mg:Str->Option Value) (base:Heap) (N:List Str) (qual:Str) (scope:Scope) (f:Addr) (cd:Value) (A:Around) (outer:List Env) (s:Shared) (H:Hp) (E:XK):Cx where
 prog:=P
 w:=w
 K:=K
 mg:=mg
 base:=base
 A:=A.deeper (envOfC qual scope s.heap.objs.size f cd)
 N:=N
 s₀:=s
 H₀:=H
 env:=envOfC qual scope s.heap.objs.size f cd
 outer:=outer
 stack:=envOfC qual scope s.heap.objs.size f cd :: outer
 ex:=[]
 calm:=true
 fn:=fun _=>true
 pn:=[]
 xe:=fun e s'=>wpAny (model P w) (A.deeper (envOfC qual scope s.heap.objs.size f cd)) (leaving (envOfC qual scope s.heap.objs.size f cd) e) (fun _ s''=>CX outer H s E e s'') (fun e' s''=>CX outer H s E e' s'') s'
theorem Bv {sc:Scope} {n:Nat} {x:Str} (h:sc.names.lookup x = some .cell):∃ c,(cellsFrom n sc.names []).lookup x = some c:=by
 have q:=W.cellsFrom_some sc.names n [] (.inl h);exact Option.isSome_iff_exists.mp q
theorem Kg {CX:Il} {P:Program} {w:World} {K:W.Frag} {mg:Str->Option Value} {base:Heap} {N ps:List Str} {qual:Str} {scope:Scope} {f:Addr} {cd:Value} {A:Around} {outer:List Env} {s s1:Shared} {H:Hp} {E:XK} {us:List Value} {vs:List V}
  (S:FnScope N ps scope) (hd:A.handled = none) (e0:Env0 P w K mg base A outer s H) (hl:vs.length = ps.length) (r:Vals vs us)
  (x:InCallC s s.heap.objs.size (bindL (envOfC qual scope s.heap.objs.size f cd).kindOf (ps.zip us) fun _=>none) (cellsFrom (s.heap.objs.size + 1) scope.names []) (bindC (envOfC qual scope s.heap.objs.size f cd).kindOf (ps.zip us) fun _=>none) s1) :
  Inv (pH CX P w K mg base N qual scope f cd A outer s H E) [] (start N vs) H s1:=by
 have hpl:ps.length<=N.length:=by have:=congrArg length S.pre; rw [length_take] at this; omega
 obtain ⟨h1,tk,rfl,hk⟩:=x.done;have noA:∀ b:Addr,b ∉ (pH CX P w K mg base N qual scope f cd A outer s H E).ex:=fun b z=>absurd (show b∈([]:List Addr) from z) (by simp)
 refine ⟨⟨e0.mod,S.kind,rfl,rfl,le_refl _,fun y z c h1 h2=>?_,fun y hy=>?_,fun y c _ h=>?_,fun _=>hd,Around.frames_deeper e0.frames,.inr ⟨rfl,rfl⟩,fun b z=>absurd z (noA b),e0.bs,e0.bsz,fun b _ _=>noA b,fun b z=>absurd z (noA b),e0.funs,e0.frf⟩,
  rfl,e0.bare,Un.kept hk,⟨_,x.toInCall.ns,fun i y v h1 h2 h3=>?_⟩,fun y c h=>⟨_,x.cell y c h⟩,e0.hok.fresh (le_refl _),fun y c h=>?_,fun p hp=>absurd (show p∈([]:List (Addr × Obj)) from hp) (by simp),e0.hok.kept hk,?_⟩
 ·exact name_of_addr x.apart (PySem.mem_of_lookup h1) (PySem.mem_of_lookup h2)
 ·have hy:scope.names.lookup y = some .cell\/scope.names.lookup y = some .free:=hy;rcases hy with hy | hy
  ·exact Bv hy
  ·exact absurd rfl (S.nofree _ (PySem.mem_of_lookup hy))
 ·exact le_of_lt (x.above y c (PySem.mem_of_lookup h))
 ·have hi:i < vs.length:=by
   unfold start at h2;by_cases hi:i < vs.length
   ·exact hi
   ·rw [getElem?_append_right (by simpa using hi)] at h2;rw [List.getElem?_replicate] at h2;split at h2 <;> cases h2
  have ha:vs[i]? = some v:=by
   unfold start at h2;rw [getElem?_append_left (by simpa using hi),getElem?_map] at h2;cases e:vs[i]? with
   | none=>rw [e] at h2; cases h2
   | some a=>rw [e] at h2; cases h2; rfl
  obtain ⟨u,hu,rv⟩:=r.get ha;have hp:ps[i]? = some y:=by
   rw [<- S.pre,getElem?_take_of_lt (by omega)]; exact h1
  have ndP:ps.Nodup:=by rw [<- S.pre]; exact S.nd.sublist (List.take_sublist _ _)
  refine ⟨u,rv,?_⟩;rcases S.par y (mem_of_getElem? hp) with k | k
  ·exact .inl ⟨k,wD ndP hp hu k⟩
  ·obtain ⟨c,e⟩:=Bv (n:=s.heap.objs.size + 1) k;refine .inr ⟨.inl k,c,e,?_⟩;have q:=x.cell y c e;rw [wF ndP hp hu (by show scope.names.lookup y ≠ _; rw [k]; decide)] at q;exact q
 ·exact e0.hok.fresh (le_of_lt (x.above y c (PySem.mem_of_lookup h)))
 ·unfold start;show _ = N.length;rw [length_append,length_map,length_replicate];omega
theorem aKb {CX:Il} {P:Program} {w:World} {K:W.Frag} {mg:Str->Option Value} {base:Heap} {k:Nat} {f:Addr} {name qual:Str} {params:Arguments} {body:List Stmt} {scope:Scope} {dV kV doc pm cdv ct oc:Value} {an od:Option Addr}
  {osl:Array (Option Value)} {N ps:List Str} {sp:Sp} (lk:K.lookup f = some ⟨oc,od,.func (W.fnOf name qual params body scope dV kV doc pm an cdv ct),osl⟩) (hcd:W.codeIn K cdv qual = true) (S:FnScope N ps scope)
  (len:∀ vs H Q E,sp vs H Q E->vs.length = ps.length)
  (hbody:∀ (A:Around) (outer:List Env) (s:Shared) (H:Hp) (vs:List V) (Q:VK) (E:XK),Room k (A.deeper (envOfC qual scope s.heap.objs.size f cdv))->sp vs H Q E ->
   ∃ t,Ii (pH CX P w K mg base N qual scope f cdv A outer s H E) body t/\t { nx:=fun _ H'=>Q .non H',rt:=Q } (start N vs) H) :
  FnOk P w K mg base CX (k + 1) f (W.fnOf name qual params body scope dV kV doc pm an cdv ct) ps sp:=by
 refine ⟨len,fun A outer s H args us vs Q E hr e0 hb r hsp=>?_⟩;have hl:=len _ _ _ _ hsp;have KX:K.In s.heap:=e0.mod.kin.keeps fun b o e=>(e0.bs b o e).1;have lim:s.heap.NoLimit:=e0.mod.nolimit.keeps fun b o e=>(e0.bs b o e).1;have hkind:∀ y∈ps.zip us,scope.names.lookup y.1 = some .local\/(scope.names.lookup y.1 = some .cell/\((cellsFrom (s.heap.objs.size + 1) scope.names []).lookup y.1).isSome = true):=fun ⟨n,v⟩ hy=>by
  rcases S.par n (of_mem_zip hy).1 with q | q
  ·exact .inl q
  ·exact .inr ⟨q,W.cellsFrom_some _ _ _ (.inl q)⟩
 refine codeAny_call_function hr.depth (KX _ _ lk) rfl S.co S.gen rfl (W.codeRec_of KX hcd) (hb _ _ _ _ ?_);refine wpAny_newFunctionEnv_cells S.kind hkind fun env he s1 x=>?_;subst he;refine ⟨lim.keeps x.toInCall.keep,codeAny_func ?_⟩;obtain ⟨t,ht,hq⟩:=hbody A outer s H vs Q E (hr.deeper _) hsp;have I:Inv (pH CX P w K mg base N qual scope f cdv A outer s H E) [] (start N vs) H s1:=Kg S hr.hd e0 hl r x;refine wpAny_mono (ht [] s1 (start N vs) H _ I hq) (fun fl s' hs=>?_) fun e s' hs=>hs;have fin:∀ {σ':St} {H':Hp} {v:V} {u:Value},Inv (pH CX P w K mg base N qual scope f cdv A outer s H E) [] σ' H' s'->RelV v u->Q v H'->CE outer P w H s Q u s' :=
  fun {σ' H' v u} J rv q=>⟨v,H',J.os,J.bare,J.base,J.hok,rv,q⟩
 cases fl with
 | ret u =>
  obtain ⟨v,σ',H',J,rv,q⟩:=hs;exact fin J rv q
 | next =>
  obtain ⟨σ',H',J,q⟩:=hs;exact fin (v:=V.non) (u:=Value.none) J rfl q
 | brk =>
  obtain ⟨_,_,_,q⟩:=hs;exact False.elim q
 | cont =>
  obtain ⟨_,_,_,q⟩:=hs;exact False.elim q
section
variable {X:Cx} {x:Str} {p pos:Pos} {e:Expr} {es:List Expr} {t:TA} {id T:String} {r:List V->Hp->VK->Prop}
def tCB (r:List V->Hp->VK->Prop) (t:TA):TE:=fun σ H Q=>t σ H fun vs H1=>r vs H1 Q
theorem bB (hc:iG X (.builtin id) r) (hg:Gl X x) (hm:X.mg x = none) (hv:bootBuiltins x = some (.builtin id)) (ha:PA X (e :: es) t) (hn:x ≠ "__name__":=by decide) (hdb:(x == ("__debug__":Str)) = false:=by decide)
  (he:starEach (e :: es) X.env = (false,eval e X.env) :: starEach es X.env:=by rfl) (hpl:(backTo pos (starEach es X.env)).any (·.1) = false:=by rfl):PE X (.Call (.Name x p) (e :: es) [] pos) (tCB r t):=by
 intro pins s σ H Q I h;refine wpAny_Call_Name_kw (jL I hg hm hv ?_ hn hdb);exact PyProof.Rows.callWith_builtin1 (eU (ha pos pins s σ H _ I h) fun us s1 ⟨vs,H1,I1,r1,q1⟩=>hc pins s1 σ H1 vs us Q I1 r1 q1) he hpl
theorem dS (hc:iG X (.type T) r) (hg:Gl X x) (hm:X.mg x = none) (hv:bootBuiltins x = some (.type T)) (ha:PA X (e :: es) t) (hn:x ≠ "__name__":=by decide) (hdb:(x == ("__debug__":Str)) = false:=by decide)
  (he:starEach (e :: es) X.env = (false,eval e X.env) :: starEach es X.env:=by rfl) (hpl:(backTo pos (starEach es X.env)).any (·.1) = false:=by rfl):PE X (.Call (.Name x p) (e :: es) [] pos) (tCB r t):=by
 intro pins s σ H Q I h;refine wpAny_Call_Name_kw (jL I hg hm hv ?_ hn hdb);exact PyProof.Rows.callWith_type1 (eU (ha pos pins s σ H _ I h) fun us s1 ⟨vs,H1,I1,r1,q1⟩=>hc pins s1 σ H1 vs us Q I1 r1 q1) he hpl
end
end L2
namespace HT
open PySem PyProof.Rows
section
variable {prog:Program} {w:World} {A:Around} {E:Value->Shared->Prop} {s:Shared}
def sIx (n d:Nat):Option Int->Nat
 | none=>d
 | some v=>if v < 0 then (v + (n:Int)).toNat else min v.toNat n
theorem sIx_none (n d:Nat):sIx n d none = d:=rfl
theorem sIx_nat (n d k:Nat):sIx n d (some (k:Int)) = min k n:=by
 show (if (k:Int) < 0 then ((k:Int) + (n:Int)).toNat else min (k:Int).toNat n) = min k n;rw [if_neg (by omega),toNat_natCast]
end
end HT
namespace L2
open PySem PySem.Spec PyProof.Rows
abbrev TO:=St->Hp->(Option Int->Hp->Prop)->Prop
def PO (X:Cx) (e:Option Expr) (t:TO):Prop :=
 ∀ (pins:List (Addr × Obj)) (s:Shared) (σ:St) (H:Hp) (Q:Option Int->Hp->Prop),Inv X pins σ H s->t σ H Q ->
  wpAny (model X.prog X.w) X.A (evalPart e X.env) (fun u s'=>∃ o H',Inv X pins σ H' s'/\IsPart u o/\Q o H') X.xe s
def Fb:TO:=fun _ H Q=>Q none H
def Xf (t:TE):TO:=fun σ H Q=>t σ H fun x H1=>∃ i,x = .int i/\Q (some i) H1
section
variable {X:Cx} {e:Expr} {te:TE} {lo hi:Option Expr} {tl th:TO} {pos p2:Pos}
theorem jB:PO X none Fb:=by
 intro pins s σ H Q I h;rw [evalPart_none];exact wpAny_pure ⟨none,H,I,.none,h⟩
theorem jA (h:PE X e te):PO X (some e) (Xf te):=by
 intro pins s σ H Q I hw;rw [evalPart_some];refine eU (h pins s σ H _ I hw) fun u s1 ⟨x,H1,I1,r1,q1⟩=>?_;obtain ⟨i,rfl,q⟩:=q1;obtain ⟨t,rfl⟩:=r1;exact ⟨some i,H1,I1,.int i t,q⟩
def SlR (X:Cx) (r:V->Option Int->Option Int->Hp->VK->Prop):Prop :=
 ∀ (pins:List (Addr × Obj)) (s:Shared) (σ:St) (H:Hp) (x:V) (v vl vu:Value) (lo hi:Option Int) (sl:Addr) (Q:VK),Inv X pins σ H s->RelV x v->s.heap.IsSliceOf sl vl vu .none->IsPart vl lo->IsPart vu hi->r x lo hi H Q ->
  ∃ T id,typeLookup (.type T) "__getitem__" = pure (some (.builtin id))/\s.TypeIs v T/\wpAny (model X.prog X.w) X.A (getItem v (.ref sl)) (EP X pins σ Q) X.xe s
def tSl (r:V->Option Int->Option Int->Hp->VK->Prop) (te:TE) (tl th:TO):TE:=fun σ H Q=>te σ H fun x H1=>tl σ H1 fun l H2=>th σ H2 fun u H3=>r x l u H3 Q
theorem iC {r:V->Option Int->Option Int->Hp->VK->Prop} (hr:SlR X r) (he:PE X e te) (hl:PO X lo tl) (hu:PO X hi th):PE X (.Subscript e (.Slice lo hi none p2) pos) (tSl r te tl th):=by
 intro pins s σ H Q I h;refine Subscript_ (eU (he pins s σ H _ I h) fun v s1 ⟨x,H1,I1,r1,q1⟩=>?_);refine wpAny_Slice (eU (hl pins s1 σ H1 _ I1 q1) fun vl s2 ⟨l,H2,I2,pl,q2⟩=>eU (hu pins s2 σ H2 _ I2 q2) fun vu s3 ⟨u,H3,I3,pu,q3⟩=>?_);rw [evalPart_none];refine wpAny_pure ?_;have I4:Inv X pins σ H3 { s3 with heap:=s3.heap.push { cls:=.type "slice",data:=.fields #[vl,vu,.none] } }:=I3.kept (t':=s3.toks) fun b ob q=>get?_push_of_some _ q;obtain ⟨T,id,hT,ht,hg⟩:=hr pins { s3 with heap:=s3.heap.push { cls:=.type "slice",data:=.fields #[vl,vu,.none] } } σ H3 x v vl vu l u s3.heap.objs.size Q I4 r1 (Heap.IsSliceOf.new ..) pl pu q3;show wpAny (model X.prog X.w) X.A (subscriptTail e (.Slice lo hi none p2) v (.ref s3.heap.objs.size)) (EP X pins σ Q) X.xe { s3 with heap:=s3.heap.push { cls:=.type "slice",data:=.fields #[vl,vu,.none] } };exact tail_any (ops:=[.ref s3.heap.objs.size,v]) ht hT hg (by with_unfolding_all rfl)
def Ef (xs:List V) (lo hi:Option Int):List V:=(xs.drop (HT.sIx xs.length 0 lo)).take (HT.sIx xs.length xs.length hi - HT.sIx xs.length 0 lo)
theorem Bt (xs:List V) (lo hi:Option Int):(Ef xs lo hi).length<=xs.length:=by
 unfold Ef;rw [length_take,length_drop];omega
end
def Gr (n:Nat) (i:Int):Option Nat:=if 0<=i then (if i < n then some i.toNat else none) else if -(n:Int)<=i then some (i + n).toNat else none
def nI {α:Type} (xs:List α) (i:Int):Option α:=(Gr xs.length i).bind fun j=>xs[j]?
theorem Gq {n:Nat} {i:Int} {j:Nat} (h:Gr n i = some j):seqIndex? i n = some j/\j < n/\-(n:Int)<=i/\i < n:=by
 unfold Gr at h;by_cases h0:0<=i
 ·rw [if_pos h0] at h;by_cases h1:i < n
  ·rw [if_pos h1] at h;have e:i.toNat = j:=Option.some.inj h;exact ⟨by rw [seqIndex_of h0 h1,e],by omega,by omega,h1⟩
  ·rw [if_neg h1] at h; cases h
 ·rw [if_neg h0] at h;by_cases h1:-(n:Int)<=i
  ·rw [if_pos h1] at h;have e:(i + n).toNat = j:=Option.some.inj h;exact ⟨by rw [seqIndex_neg (by omega) h1,e],by omega,h1,by omega⟩
  ·rw [if_neg h1] at h; cases h
theorem yM {α:Type} {xs:List α} {i:Int} {v:α} (h:nI xs i = some v):∃ j,seqIndex? i xs.length = some j/\xs[j]? = some v/\j < xs.length/\-(xs.length:Int)<=i/\i < xs.length:=by
 unfold nI at h;cases e:Gr xs.length i with
 | none=>rw [e] at h; cases h
 | some j =>
  rw [e] at h;obtain ⟨h1,h2,h3,h4⟩:=Gq e;exact ⟨j,h1,h,h2,h3,h4⟩
theorem fS {α:Type} {xs:List α} {j:Nat} {v:α} (h:xs[j]? = some v):nI xs (j:Int) = some v:=by
 have hj:j < xs.length:=(List.getElem?_eq_some_iff.mp h).1;have e:Gr xs.length (j:Int) = some j:=by
  unfold Gr;rw [if_pos (by omega),if_pos (by omega)]; simp
 unfold nI; rw [e]; exact h
def Wy (b:Expr):Prop:=∀ o i,subscripted b false o i = operate [o,i] (getItem o i)
def IxR (X:Cx) (r:R2):Prop :=
 ∀ (value slice:Expr) (pins:List (Addr × Obj)) (s:Shared) (σ:St) (H:Hp) (x y:V) (v u:Value) (Q:VK),Inv X pins σ H s->RelV x v->RelV y u->r x y H Q ->
  subscripted slice false v u = operate [v,u] (getItem v u)->wpAny (model X.prog X.w) X.A (subscriptTail value slice v u) (EP X pins σ Q) X.xe s
def MtR (X:Cx) (id:String) (r:V->List V->Hp->VK->Prop):Prop :=
 ∀ (pins:List (Addr × Obj)) (s:Shared) (σ:St) (H:Hp) (x:V) (xs:List V) (v:Value) (us:List Value) (Q:VK),Inv X pins σ H s->RelV x v->Vals xs us->r x xs H Q ->
  wpAny (model X.prog X.w) X.A (call (.builtin id) (v :: us)) (EP X pins σ Q) X.xe s
section
variable {X:Cx} {a b:Expr} {ta tb:TE} {pos:Pos}
theorem gB {r:R2} (hr:IxR X r) (ha:PE X a ta) (hb:PE X b tb) (hs:Wy b):PE X (.Subscript a b pos) (wP r ta tb):=by
 intro pins s σ H Q I h;exact Subscript_ (aFs ha hb I h fun v u s2 x y H2 I2 rx ry q=>hr a b pins s2 σ H2 x y v u Q I2 rx ry q (hs _ _))
def Um (K:W.Frag):R2:=fun x y H Q=>∃ p xs i v,x = .ref p/\y = .int i/\SqL K H p xs/\nI xs i = some v/\Q v H
def Ow (K:W.Frag):R2:=fun x y H Q=>∃ p xs i v,x = .ref p/\y = .int i/\SqT K H p xs/\nI xs i = some v/\Q v H
def aIp:R2:=fun x y H Q=>∃ z i c,x = .str z/\y = .int i/\z.length<=sizeLine/\nI z.cps.toList i = some c/\Q (.str ⟨#[c]⟩) H
theorem Vu:IxR X (Um X.K):=by
 intro value slice pins s σ H x y v u Q I rx ry h hs;obtain ⟨p,xs,i,z,rfl,rfl,hq,he,q⟩:=h;cases rx;obtain ⟨t,rfl⟩:=ry;obtain ⟨its,r,pl,hz⟩:=I.list hq;obtain ⟨j,h1,h2,h3,h4,h5⟩:=yM he;obtain ⟨w,ew,rw'⟩:=r.get h2;have hl:=r.length;have hn:=nF;have fin:EP X pins σ Q w s:=⟨z,H,I,rw',q⟩;by_cases h0:0<=i
 ·have hj:i.toNat = j:=by
   rw [seqIndex_of h0 h5] at h1;exact Option.some.inj h1
  exact item_listR pl.isList h0 (by omega) (by rw [hj]; simpa using ew) fin hs
 ·have hj:(i + (its.toArray.size:Int)).toNat = j:=by
   rw [seqIndex_neg (by omega) h4] at h1;rw [size_toArray,<- hl];exact Option.some.inj h1
  exact subscriptTail_builtinR (x:=w) pl.isList.typeIs slot_list_getitem.lookup
   (wpAny_getItem_list_neg (Q:=fun r s'=>r = w/\EP X pins σ Q r s') pl.isList (by omega) (by rw [size_toArray] <;> omega) (by omega) (by rw [hj]; simpa using ew) ⟨rfl,fin⟩) hs
theorem aEg:IxR X (Ow X.K):=by
 intro value slice pins s σ H x y v u Q I rx ry h hs;obtain ⟨p,xs,i,z,rfl,rfl,hq,he,q⟩:=h;cases rx;obtain ⟨t,rfl⟩:=ry;obtain ⟨its,r,pl,hz⟩:=I.tuple hq;obtain ⟨j,h1,h2,h3,h4,h5⟩:=yM he;obtain ⟨w,ew,rw'⟩:=r.get h2;have hl:=r.length;have hn:=nF;have fin:EP X pins σ Q w s:=⟨z,H,I,rw',q⟩;exact subscriptTail_builtinR (x:=w) pl.typeIs slot_tuple_getitem.lookup
  (getItem_tuple (j:=j) (Q:=fun r s'=>r = w/\EP X pins σ Q r s') pl (by omega) (by omega) (by rw [size_toArray,<- hl]; exact h1) (by simpa using ew) ⟨rfl,fin⟩) hs
theorem aEi:IxR X aIp:=by
 intro value slice pins s σ H x y v u Q I rx ry h hs;obtain ⟨z,i,c,rfl,rfl,hz,he,q⟩:=h;obtain ⟨t,rfl⟩:=rx;obtain ⟨t',rfl⟩:=ry;obtain ⟨j,h1,h2,h3,h4,h5⟩:=yM he;have hl:z.cps.toList.length = z.length:=by simp [Str.length]
 rw [hl] at h1 h4 h5;have hn:=nF
 exact tail_any (typeIs_str s z t) slot_str_getitem.lookup (getItem_str (c:=c) (by
  have e1:decide (i < -(2 ^ 63:Int)) = false:=decide_eq_false (by omega)
  have e2:decide (i >= 2 ^ 63) = false:=decide_eq_false (by omega)
  rw [e1,e2,Bool.or_false]) (by rw [h1]; simpa using h2) ⟨.str ⟨#[c]⟩,H,I.tok _,⟨_,rfl⟩,q⟩) hs
theorem Dq (its:List Value) (n j:Nat) (u:Value):Obj.mapSeq (·.setIfInBounds j u) { cls:=.type "list",data:=.seq its.toArray n } = { cls:=.type "list",data:=.seq (its.set j u).toArray n }:=by
 simp [Obj.mapSeq]
theorem Inv.lst {pins:List (Addr × Obj)} {σ:St} {H:Hp} {s:Shared} {p:Addr} {xs:List V} (I:Inv X pins σ H s) (h:H p = some (.lst xs)) :
  ∃ (its:List Value) (n:Nat),Vals xs its/\s.heap.get? p = some { cls:=.type "list",data:=.seq its.toArray n }/\xs.length<=sizeLine:=by
 obtain ⟨z,its,n,r,e⟩:=I.hok p _ h;exact ⟨its,n,r,e,z⟩
theorem Inv.lstUpd {pins:List (Addr × Obj)} {σ:St} {H:Hp} {s:Shared} {p:Addr} {xs ys:List V} {its its':List Value} {n n':Nat} {f:Obj->Obj} (I:Inv X pins σ H s) (h:H p = some (.lst xs))
  (ho:s.heap.get? p = some { cls:=.type "list",data:=.seq its.toArray n }) (hf:f { cls:=.type "list",data:=.seq its.toArray n } = { cls:=.type "list",data:=.seq its'.toArray n' }) (r:Vals ys its') (hz:ys.length<=sizeLine) (t:Nat) :
  Inv X pins σ (eT H p (.lst ys)) { s with heap:=s.heap.update p f,toks:=t }:=by
 have e:(s.heap.update p f).get? p = some { cls:=.type "list",data:=.seq its'.toArray n' }:=by
  rw [Heap.get?_update_self f ho (by rw [hf] <;> rfl),hf]
 refine I.write (x:=p) (e:=p) (by rw [h]; trivial) (.inl rfl) (fun b u hb q=>(get?_update_other _ _ (Ne.symm hb)).trans q) ⟨_,e⟩ ?_;exact ⟨hz,its',n',r,e⟩
def Xm:V->V->V->Hp->(Hp->Prop)->Prop:=fun o i v H Q=>∃ p xs k j,o = .ref p/\i = .int k/\H p = some (.lst xs)/\Gr xs.length k = some j/\Q (eT H p (.lst (xs.set j v)))
theorem zQ:aLj X Xm:=by
 intro pins s σ H o i v ov iv u Q I ro ri rv h;obtain ⟨p,xs,k,j,rfl,rfl,hp,hj,q⟩:=h;cases ro;obtain ⟨t,rfl⟩:=ri;obtain ⟨its,n,r,ho,hz⟩:=I.lst hp;obtain ⟨h1,h2,h3,h4⟩:=Gq hj;have hl:=r.length;have hn:=nF;have I':Inv X pins σ (eT H p (.lst (xs.set j v))) { s with heap:=s.heap.update p (Obj.mapSeq (·.setIfInBounds j u)) } :=
  I.lstUpd hp ho (Dq its n j u) (r.set rv j) (by rw [length_set]; exact hz) s.toks
 by_cases h0:0<=k
 ·have hk:k.toNat = j:=by
   rw [seqIndex_of h0 h4] at h1;exact Option.some.inj h1
  exact W.ki_setAt ho h0 (by omega) (by rw [size_toArray,<- hl]; exact h4) (by rw [hk]; exact ⟨_,I',q⟩)
 ·have hk:(k + (its.toArray.size:Int)).toNat = j:=by
   rw [seqIndex_neg (by omega) h3] at h1;rw [size_toArray,<- hl];exact Option.some.inj h1
  exact W.ki_setBack ho (by omega) (by rw [size_toArray,<- hl]; exact h3) (by omega) (by rw [hk]; exact ⟨_,I',q⟩)
theorem wS (lo hi:Option Int) (n:Nat):(sliceBounds lo hi none n).1 = ((HT.sIx n 0 lo:Nat):Int)/\(sliceBounds lo hi none n).2.1 = ((HT.sIx n n hi:Nat):Int)/\(sliceBounds lo hi none n).2.2 = 1:=by
 refine ⟨?_,?_,rfl⟩
 ·cases lo with
  | none=>simp [sliceBounds,HT.sIx]
  | some i =>
   simp only [sliceBounds,HT.sIx,Option.getD_none,show (1:Int) > 0 by decide,if_true];by_cases h:i < 0
   ·simp only [h,if_true] <;> omega
   ·simp only [h,if_false] <;> omega
 ·cases hi with
  | none=>simp [sliceBounds,HT.sIx]
  | some i =>
   simp only [sliceBounds,HT.sIx,Option.getD_none,show (1:Int) > 0 by decide,if_true];by_cases h:i < 0
   ·simp only [h,if_true] <;> omega
   ·simp only [h,if_false] <;> omega
theorem tT (its:List Value) (lo hi:Option Int):slicePick its.toArray lo hi none = ((its.drop (HT.sIx its.length 0 lo)).take (HT.sIx its.length its.length hi - HT.sIx its.length 0 lo)).toArray:=by
 obtain ⟨h1,h2,h3⟩:=wS lo hi its.toArray.size;unfold slicePick;rw [h1,h2,h3];simp only [sliceRange_one,pick_run,size_toArray] <;> rfl
def aCb (K:W.Frag):V->Option Int->Option Int->Hp->VK->Prop:=fun x lo hi H Q=>∃ a xs,x = .ref a/\SqL K H a xs/\∀ p,H p = none->Q (.ref p) (eT H p (.lst (Ef xs lo hi)))
theorem Ue:SlR X (aCb X.K):=by
 intro pins s σ H x v vl vu lo hi sl Q I rx hs pl pu h;obtain ⟨a,xs,rfl,hx,q⟩:=h;cases rx;obtain ⟨its,r,ht,hz⟩:=I.list hx;have hlen:=r.length;refine ⟨"list",_,slot_list_getitem.lookup,ht.isList.typeIs,?_⟩;refine wpAny_getItem_list_slice ht.isList hs pl pu .none (by simp) ?_ (by rw [size_toArray] <;> omega);rw [tT,<- hlen];refine ⟨.ref s.heap.objs.size,_,I.laid (t':=s.toks) (o:=.lst (Ef xs lo hi)) (fun b ob q=>get?_push_of_some _ q) (le_refl _) ?_,rfl,q _ (I.hok.fresh (le_refl _))⟩;exact ⟨le_trans (Bt xs lo hi) hz,_,0,(r.drop (HT.sIx xs.length 0 lo)).take (HT.sIx xs.length xs.length hi - HT.sIx xs.length 0 lo),get?_push_size _ rfl⟩
theorem yI:iG X (.builtin "len") (fun xs H Q=>∃ p ys,xs = [.ref p]/\(SqL X.K H p ys\/SqT X.K H p ys)/\Q (.int ys.length) H):=by
 intro pins s σ H xs us Q I r h;obtain ⟨p,ys,rfl,hq,q⟩:=h;obtain ⟨u,rfl,rx⟩:=iR r;cases rx;have hn:=nF;rcases hq with hq | hq
 ·obtain ⟨its,r',pl,hz⟩:=I.list hq;have hlen:=r'.length;exact Calls.call_len_list pl.isList (by simp only [size_toArray] <;> omega) ⟨.int ys.length,H,I.tok _,⟨s.toks + 1,by rw [size_toArray,hlen]⟩,q⟩
 ·obtain ⟨its,r',pl,hz⟩:=I.tuple hq;have hlen:=r'.length;exact len_tuple pl (by simp only [size_toArray] <;> omega) ⟨.int ys.length,H,I.tok _,⟨s.toks + 1,by rw [size_toArray,hlen]⟩,q⟩
theorem fK:iG X (.builtin "len") (fun xs H Q=>∃ z,xs = [.str z]/\z.length<=sizeLine/\Q (.int z.length) H):=by
 intro pins s σ H xs us Q I r h;obtain ⟨z,rfl,hz,q⟩:=h;obtain ⟨u,rfl,t,rfl⟩:=iR r;have hn:=nF;exact len_str (by omega) ⟨.int z.length,H,I.tok _,⟨_,rfl⟩,q⟩
theorem yH:iG X (.type "list") (fun xs H Q=>∃ p ys,xs = [.ref p]/\(SqL X.K H p ys\/SqT X.K H p ys)/\∀ l,H l = none->Q (.ref l) (eT H l (.lst ys))):=by
 intro pins s σ H xs us Q I r h;obtain ⟨p,ys,rfl,hq,q⟩:=h;obtain ⟨u,rfl,rx⟩:=iR r;cases rx;have fin:∀ (its:List Value),Vals ys its->ys.length<=sizeLine->∀ (h':Heap) (c':Nat),(∀ b o',s.heap.get? b = some o'->h'.get? b = some o') ->
   h'.get? s.heap.objs.size = some { cls:=.type "list",dict:=none,data:=.seq its.toArray c',slots:=#[] }->EP X pins σ Q (.ref s.heap.objs.size) { s with heap:=h' }:=fun its r' hz h' c' kp e =>
  ⟨.ref s.heap.objs.size,_,I.laid (t':=s.toks) kp (le_refl _) (show ObjOk X.prog X.w _ h' _ (.lst ys) from ⟨hz,its,c',r',e⟩),rfl,q _ (I.hok.fresh (le_refl _))⟩
 rcases hq with hq | hq
 ·obtain ⟨its,r',pl,hz⟩:=I.list hq;have hlen:=r'.length;obtain ⟨o,ho,hc,n,hd⟩:=pl.isList;exact call_list_seq p (.inl rfl) ho hc hd (fun h' c' kp e=>fin its r' hz h' c' kp e) (by simp only [size_toArray] <;> omega)
 ·obtain ⟨its,r',pl,hz⟩:=I.tuple hq;have hlen:=r'.length;obtain ⟨o,ho,hc,n,hd⟩:=pl;exact call_list_seq p (.inr rfl) ho hc hd (fun h' c' kp e=>fin its r' hz h' c' kp e) (by simp only [size_toArray] <;> omega)
def tyV (K:W.Frag) (T:String) (x:V) (H:Hp):Prop:=match x with
 | .str _=>T = "str"
 | .int _=>T = "int"
 | .ref p=>(T = "list"/\∃ xs,SqL K H p xs)\/(T = "tuple"/\∃ o,K.lookup p = some o/\o.cls = .type "tuple"/\o.dict = none) \/
   (T = "dict"/\((∃ kvs,H p = some (.dK kvs))\/∃ kvs,H p = some (.dT kvs)))\/(T = "set"/\∃ S n,H p = some (.set S n))
 | _=>False
theorem Li {pins:List (Addr × Obj)} {σ:St} {H:Hp} {s:Shared} {T:String} {x:V} {v:Value} (I:Inv X pins σ H s) (r:RelV x v) (ty:tyV X.K T x H) :
  s.TypeIs v T/\∀ a,v = .ref a->∃ ob,s.heap.get? a = some ob/\ob.dict = none:=by
 cases x with
 | str z =>
  obtain ⟨t,rfl⟩:=r;cases (show T = "str" from ty);exact ⟨typeIs_str s z t,fun _ e=>nomatch e⟩
 | int i =>
  obtain ⟨t,rfl⟩:=r;cases (show T = "int" from ty);exact ⟨typeIs_int s i t,fun _ e=>nomatch e⟩
 | ref p =>
  cases r;rcases ty with ⟨rfl,xs,hq⟩ | ⟨rfl,o,hk,hc,hd⟩ | ⟨rfl,hk⟩ | ⟨rfl,S,n,hk⟩
  ·obtain ⟨its,_,pl,_⟩:=I.list hq;refine ⟨pl.isList.typeIs,fun a e=>?_⟩;cases e;obtain ⟨o,n,e,c,hd,_⟩:=pl;exact ⟨o,e,hd⟩
  ·refine ⟨⟨o,I.kIn p o hk,hc⟩,fun a e=>?_⟩;cases e;exact ⟨o,I.kIn _ o hk,hd⟩
  ·have z:∃ o,s.heap.get? p = some o/\o.ExactDict:=by
    rcases hk with ⟨kvs,hk⟩ | ⟨kvs,hk⟩
    ·obtain ⟨_,_,_,_,o,_,_,e,ex,_⟩:=I.hok p _ hk;exact ⟨o,e,ex⟩
    ·obtain ⟨_,_,_,_,o,_,_,e,ex,_⟩:=I.hok p _ hk;exact ⟨o,e,ex⟩
   obtain ⟨o,e,ex⟩:=z;refine ⟨⟨o,e,ex.1⟩,fun a e2=>?_⟩;cases e2;exact ⟨o,e,ex.2.1⟩
  ·obtain ⟨o,_,_,_,e,ex,_⟩:=I.hok p _ hk;refine ⟨⟨o,e,ex.1⟩,fun a e2=>?_⟩;cases e2;exact ⟨o,e,ex.2.1⟩
 | _=>exact False.elim ty
def aHv (K:W.Frag) (T:String) (r:V->List V->Hp->VK->Prop) (to:TE):TE:=fun σ H Q=>to σ H fun x H1=>tyV K T x H1/\r x [] H1 Q
def Tx (K:W.Frag) (T:String) (r:V->List V->Hp->VK->Prop) (to:TE) (t:TA):TE:=fun σ H Q=>to σ H fun x H1=>tyV K T x H1/\t σ H1 fun xs H2=>r x xs H2 Q
variable {o e:Expr} {es:List Expr} {to:TE} {t:TA} {name:Str} {apos cpos:Pos} {T id:String} {r:V->List V->Hp->VK->Prop}
theorem aCi (pa:PlainAttrs T) (slot:Slot T name id) (hty:typeOf (.builtin id) = pure (.type "method_descriptor")) (hm:MtR X id r) (ho:PE X o to)
  (hbase:attributeBase o name X.env (eval o X.env) = eval o X.env:=by rfl) (hline:(apos.endLine == cpos.line) = true:=by rfl):PE X (.Call (.Attribute o name apos) [] [] cpos) (aHv X.K T r to):=by
 intro pins s σ H Q I h;refine wpAny_Call_method0_late hbase hline (eU (ho pins s σ H _ I h) fun v s1 ⟨x,H1,I1,r1,ty,q1⟩=>?_);obtain ⟨h1,h2⟩:=Li I1 r1 ty;exact ⟨T,id,pa,slot,hty,h1,h2,Calls.callWith_builtin rfl (PySem.evalArgs_none (hm pins s1 σ H1 x [] v [] Q I1 r1 .nil q1))⟩
theorem fB (pa:PlainAttrs T) (slot:Slot T name id) (hty:typeOf (.builtin id) = pure (.type "method_descriptor")) (hm:MtR X id r) (ho:PE X o to) (ha:PA X (e :: es) t)
  (hbase:attributeBase o name X.env (eval o X.env) = eval o X.env:=by rfl)
  (hfew:((backTo cpos (starEach (e :: es) X.env)).all (fun x=>!x.1) && (backToKw cpos (keywordEach [] X.env)).all (fun x=>x.1.isSome)
   && decide ((e :: es).length + ([]:List Keyword).length + (if ([]:List Keyword).isEmpty then 0 else 1) < 30)) = true:=by rfl)
  (hline:(apos.endLine == cpos.line) = true:=by rfl) (hs:starEach (e :: es) X.env = (false,eval e X.env) :: starEach es X.env:=by rfl) (hplain:(backTo cpos (starEach es X.env)).any (·.1) = false:=by rfl) :
  PE X (.Call (.Attribute o name apos) (e :: es) [] cpos) (Tx X.K T r to t):=by
 intro pins s σ H Q I h;refine wpAny_Call_method_late hbase hfew hline rfl (eU (ho pins s σ H _ I h) fun v s1 ⟨x,H1,I1,r1,ty,q1⟩=>?_);obtain ⟨h1,h2⟩:=Li I1 r1 ty;refine ⟨T,id,pa,slot,hty,h1,h2,?_⟩;have hA:=ha cpos pins s1 σ H1 _ I1 q1;rw [hs] at hA ⊢;refine Calls.callWith_builtin (by show (false || (backTo cpos (starEach es X.env)).any (·.1)) = false; rw [hplain] <;> rfl) (Calls.evalArgs_plain ?_);exact eU hA fun us s2 ⟨vs,H2,I2,r2,q2⟩=>hm pins s2 σ H2 x vs v us Q I2 r1 r2 q2
end
def Xa (X:Cx) (id:String) (r:V->List V->Hp->VK->Prop):Prop :=
 ∀ (pins:List (Addr × Obj)) (s:Shared) (σ:St) (H:Hp) (x:V) (xs:List V) (v:Value) (us:List Value) (Q:VK),Inv X pins σ H s->RelV x v->Vals xs us->r x xs H Q ->
  wpAny (model X.prog X.w) X.A (call (.builtin id) (v :: us)) (EP X pins σ Q) X.xe s
theorem Vals.one:∀ {x:V} {us:List Value},Vals [x] us->∃ u,us = [u]/\RelV x u
 | _,_,.cons r .nil=>⟨_,rfl,r⟩
theorem Vals.zero:∀ {us:List Value},Vals [] us->us = []
 | _,.nil=>rfl
theorem Vals.dropLast {xs:List V} {us:List Value} (h:Vals xs us):Vals xs.dropLast us.dropLast:=by
 induction h with
 | nil=>exact .nil
 | cons r t ih =>
  cases t with
  | nil=>exact .nil
  | cons q t'=>exact .cons r ih
theorem Vals.eraseIdx:∀ {xs:List V} {us:List Value} (i:Nat),Vals xs us->Vals (xs.eraseIdx i) (us.eraseIdx i)
 | _,_,_,.nil=>.nil
 | _,_,0,.cons _ t=>t
 | _,_,i + 1,.cons r t=>.cons r (Vals.eraseIdx i t)
theorem Vals.rep {xs:List V} {us:List Value} (h:Vals xs us):∀ k:Nat,Vals (replicate k xs).flatten (replicate k us).flatten
 | 0=>.nil
 | k + 1=>by
  rw [replicate_succ,replicate_succ,flatten_cons,flatten_cons];exact Vals.append h (Vals.rep h k)
theorem Ec {α:Type} (l:List α):l.eraseIdx (l.length - 1) = l.dropLast:=by
 induction l with
 | nil=>rfl
 | cons a r ih =>
  cases r with
  | nil=>rfl
  | cons b r =>
   have e:(a :: b :: r).length - 1 = ((b :: r).length - 1) + 1:=by
    have h1:(a :: b :: r).length = r.length + 2:=rfl;have h2:(b :: r).length = r.length + 1:=rfl;omega
   rw [e,eraseIdx_cons_succ,ih]
   all_goals rfl
theorem vP (its:List Value):∀ (k:Nat) (acc:List Value),
  foldl (fun x1 x2=>x1 ++ x2) acc.toArray (replicate k its.toArray) = (acc ++ (replicate k its).flatten).toArray
 | 0,acc=>by simp
 | k + 1,acc=>by
  have e:acc.toArray ++ its.toArray = (acc ++ its).toArray:=by simp
  have e2:(acc ++ its) ++ (replicate k its).flatten = acc ++ (replicate (k + 1) its).flatten:=by
   rw [replicate_succ,flatten_cons,append_assoc]
  rw [<- e2,<- vP its k (acc ++ its),<- e,replicate_succ,List.foldl_cons]
section
variable {X:Cx} {pins:List (Addr × Obj)} {σ:St} {H:Hp} {s:Shared} {l b:Addr} {xs ys zs:List V}
theorem Inv.lset {its its':List Value} {n:Nat} {f:Array Value->Array Value} {t':Nat} (I:Inv X pins σ H s) (hH:H l = some (.lst xs))
  (e:s.heap.get? l = some { cls:=.type "list",data:=.seq its.toArray n }) (hf:f its.toArray = its'.toArray) (hv:Vals ys its') (hz:ys.length<=sizeLine) :
  Inv X pins σ (eT H l (.lst ys)) { s with heap:=s.heap.update l (Obj.mapSeq f),toks:=t' }:=by
 have q:=PySem.IsL.update e f;rw [hf] at q;refine I.write (x:=l) (e:=l) (by rw [hH]; exact trivial) (.inl rfl) (fun b' u hb hu=>(get?_update_other s.heap (Obj.mapSeq f) (Ne.symm hb)).trans hu) ⟨_,q⟩ ?_;exact ⟨hz,its',_,hv,q⟩
theorem Inv.lnew {its:List Value} {t':Nat} (I:Inv X pins σ H s) (hv:Vals ys its) (hz:ys.length<=sizeLine) :
  Inv X pins σ (eT H s.heap.objs.size (.lst ys)) { s with heap:=s.heap.push { cls:=.type "list",data:=.seq its.toArray },toks:=t' } :=
 I.laid (fun _ _ q=>get?_push_of_some _ q) (le_refl _) ⟨hz,its,0,hv,get?_push_size _ rfl⟩
theorem Inv.fresh (I:Inv X pins σ H s):H s.heap.objs.size = none:=I.hok.fresh (le_refl _)
theorem Inv.lstM (I:Inv X pins σ H s) (hH:H l = some (.lst xs)):xs.length<=sizeLine/\∃ (its:List Value) (n:Nat),Vals xs its/\xs.length = its.length/\s.heap.get? l = some { cls:=.type "list",data:=.seq its.toArray n }:=by
 obtain ⟨z,its,n,r,e⟩:=I.hok l _ hH;exact ⟨z,its,n,r,r.length,e⟩
theorem Af {n:Nat} (h:n<=sizeLine):Builtin.List.listTooLong n = false:=by
 unfold Builtin.List.listTooLong;exact decide_eq_false (by omega)
end
section
variable {X:Cx}
def Fx:V->List V->Hp->VK->Prop:=fun x vs H Q=>∃ l xs y,x = .ref l/\vs = [y]/\H l = some (.lst xs)/\xs.length < sizeLine/\Q .non (eT H l (.lst (xs ++ [y])))
theorem gW:Xa X "list.append" Fx:=by
 intro pins s σ H x vs v us Q I rx rv h;obtain ⟨l,xs,y,rfl,rfl,hH,hz,q⟩:=h;cases rx;obtain ⟨u,rfl,ru⟩:=rv.one;obtain ⟨z,its,n,r,hl,e⟩:=I.lstM hH;refine call_meets F.slot_list_append ⟨_,e,rfl⟩ F.entry_list_append (F.args_list_append_2 _ _) (PySem.list_append l its.toArray n u (by rw [size_toArray]; omega)) ⟨e,?_⟩;refine ⟨.non,_,I.lset (its':=its ++ [u]) hH e (by simp) (r.append (.cons ru .nil)) ?_,rfl,q⟩;rw [length_append,length_singleton];omega
def aIo:V->List V->Hp->VK->Prop:=fun x vs H Q=>∃ l xs y,x = .ref l/\vs = []/\H l = some (.lst xs)/\xs[xs.length - 1]? = some y/\Q y (eT H l (.lst xs.dropLast))
theorem aDv:Xa X "list.pop" aIo:=by
 intro pins s σ H x vs v us Q I rx rv h;obtain ⟨l,xs,y,rfl,rfl,hH,hy,q⟩:=h;cases rx;have hus:=rv.zero;subst hus;obtain ⟨z,its,n,r,hl,e⟩:=I.lstM hH;obtain ⟨u,hu,ru⟩:=r.get hy;have hy':its.toArray[its.toArray.size - 1]? = some u:=by
  show its.toArray[its.length - 1]? = some u;rw [<- getElem?_toList,<- hl];exact hu
 refine call_meets F.slot_list_pop ⟨_,e,rfl⟩ F.entry_list_pop (F.args_list_pop_1 _) (MeetsSeq.list_pop_last l its.toArray n u hy' (by rw [size_toArray]; omega)) ⟨e,?_⟩;refine ⟨y,_,I.lset (its':=its.dropLast) hH e ?_ r.dropLast ?_,ru,q⟩
 ·show its.toArray.eraseIdxIfInBounds (its.toArray.size - 1) = its.dropLast.toArray;rw [size_toArray,List.eraseIdxIfInBounds_toArray,Ec]
 ·rw [List.length_dropLast];omega
def aIs:R2:=fun x y H Q=>∃ l b xs zs,x = .ref l/\y = .ref b/\H l = some (.lst xs)/\H b = some (.lst zs)/\xs.length + zs.length<=sizeLine/\∀ p,H p = none->Q (.ref p) (eT H p (.lst (xs ++ zs)))
theorem aCp:mL X (binaryOp .Add) aIs:=by
 intro pins s σ H x y v u Q I rx ry h;obtain ⟨l,b,xs,zs,rfl,rfl,hH,hB,hz,q⟩:=h;cases rx;cases ry;obtain ⟨z,its,n,r,hl,e⟩:=I.lstM hH;obtain ⟨z2,its2,n2,r2,hl2,e2⟩:=I.lstM hB;refine PySem.P.add_list e e2 ?_ (by rw [size_toArray,size_toArray]; omega);have ea:its.toArray ++ its2.toArray = (its ++ its2).toArray:=by simp
 rw [ea];exact ⟨.ref _,_,I.lnew (t':=s.toks) (r.append r2) (by rw [length_append]; omega),rfl,q _ I.fresh⟩
def aIn:R2:=fun x y H Q=>∃ l k xs,x = .ref l/\y = .int k/\H l = some (.lst xs)/\-(2 ^ 63)<=k/\k < 2 ^ 63/\xs.length * k.toNat<=sizeLine /\
 ∀ p,H p = none->Q (.ref p) (eT H p (.lst (replicate k.toNat xs).flatten))
theorem Vo {α:Type} (xs:List α) (k:Nat):(replicate k xs).flatten.length = k * xs.length:=by
 induction k with
 | zero=>simp
 | succ k ih=>rw [replicate_succ,flatten_cons,length_append,ih,succ_mul,Nat.add_comm]
theorem Pg:mL X (binaryOp .Mult) aIn:=by
 intro pins s σ H x y v u Q I rx ry h;obtain ⟨l,k,xs,rfl,rfl,hH,h1,h2,hz,q⟩:=h;cases rx;obtain ⟨t,rfl⟩:=ry;obtain ⟨z,its,n,r,hl,e⟩:=I.lstM hH;have hlen:its.toArray.size * k.toNat<=sizeLine:=by rw [size_toArray,<- hl]; exact hz
 have hcap:¬ its.toArray.size * k.toNat > (2 ^ 63 - 1) / 8:=by
  have:(sizeLine:Nat)<=(2 ^ 63 - 1) / 8:=by decide
  omega
 have hfit:¬ (!Builtin.List.listFitsIndex k) = true:=by
  rw [fitsIndex_both h1 h2];exact Bool.false_ne_true
 have hlong:¬ Builtin.List.listTooLong (its.toArray.size * k.toNat) = true:=by
  rw [Af hlen];exact Bool.false_ne_true
 have hnew:foldl (fun x1 x2=>x1 ++ x2) #[] (replicate (if its.toArray.isEmpty = true then 0 else k.toNat) its.toArray) = (replicate k.toNat its).flatten.toArray:=by
  have f0:∀ m:Nat,foldl (fun x1 x2=>x1 ++ x2) #[] (replicate m its.toArray) = (replicate m its).flatten.toArray:=fun m=>by
   have:=vP its m [];rw [nil_append] at this;exact this
  rw [f0];cases its with
  | nil=>simp
  | cons a r'=>rw [if_neg (by simp)]
 refine wpAny_binaryOp_repeat_ref (T:="list") (U:="int") (by decide) ⟨_,e,rfl⟩ (fun s'=>typeIs_int s' k t) noFill_list_mul F.fills_int_mul F.slot_int_rmul repeat_list F.slot_int_index.lookup
  (call_meets F.slot_int_rmul (typeIs_int s k t) F.entry_int_rmul (F.args_int_rmul_2 _ _) (int___rmul___int_list k t l its.toArray n)
   ⟨e,rfl,⟨_,e,rfl⟩,call_meets F.slot_list_mul ⟨_,e,rfl⟩ F.entry_list_mul (F.args_list_mul_2 _ _) (AutoListH.list___mul___list_int_3 l its.toArray n k t hfit hcap hlong) ⟨e,?_⟩⟩)
 rw [hnew];exact ⟨.ref _,_,I.lnew (t':=s.toks) (r.rep k.toNat) (by rw [Vo,mul_comm]; exact hz),rfl,q _ I.fresh⟩
end
end L2
namespace Att
open PySem PySem.W PySem.Calls PyProof.Rows
theorem qF {P:Params} {h:Heap}:∀ (ns:List Int) (vs:List Value),WellAll P h vs (ns.map WData.int)->IntsAre vs ns:=by
 intro ns
 induction ns with
 | nil =>
  intro vs w;rw [map_nil] at w;cases w;exact .nil
 | cons n ns ih =>
  intro vs w;rw [map_cons] at w;cases w with
  | cons a b =>
   cases a;exact .cons _ _ (ih _ b)
theorem Jg {l:OpenLaw} {n:Nat} (hn:l.most = some n) {P:Params} {h:Heap} {args:List WData} {vals:List Value}
  (hpre:l.row.toRowW.claim.pre args = true) (hwl:WellAll P h vals args) :
  ∃ a vs ns,vals = [Value.ref a]/\args = [WData.list (ns.map WData.int)]/\h.get? a = some { cls:=.type "list",data:=.seq vs.toArray }/\IntsAre vs ns/\ns.length<=n:=by
 have hsh:WShape.hasAll [] args [.list .int] = true:=(pre_splitW hpre).1;have hc:l.pre.holds [] { args:=args } = true:=(pre_splitW hpre).2;obtain ⟨d,r,rfl,h1,h2⟩:=hasAllW_cons hsh;obtain rfl:=hasAllW_nil h2;obtain ⟨xs,rfl,h3⟩:=hasW_list h1;obtain ⟨ns,rfl⟩:=items_int h3;have hlen:ns.length<=n:=by
  unfold OpenLaw.pre at hc;have h4:(WTm.not (.lt (.lit (.int (n:Int))) (.len (.arg 0)))).holds [] { args:=[.list (ns.map .int)] } = true:=by
   have h4:=(holds_andW hc).1;rw [hn] at h4;exact h4
  have h5:=condW_of h4 (w_not (w_lt w_lit (w_len_list (w_arg rfl))));rw [length_map] at h5;refine Nat.le_of_not_lt fun q=>?_;have q':(n:Int) < ((ns.length:Nat):Int):=by omega
  first
   | (rw [decide_eq_true q'] at h5; exact absurd h5 (by decide))
   | (simp at h5; omega)
 cases hwl with
 | cons w1 w2 =>
  cases w2;cases w1 with
  | list ho hall=>exact ⟨_,_,ns,rfl,rfl,ho,qF ns _ hall,hlen⟩
theorem Jn (l:OpenLaw) (args:List WData):l.row.toRowW.claim.post args (.bool true) args = true :=
 postW_of (r:=l.row.toRowW) (X:=(true == true))
  (show WShape.has [] (.bool true) .bool = true by first | rfl | decide | simp [WShape.has,WShape.arms,WShape.armsAll])
  (show (WTm.eq .res (.lit (.bool true))).value [] { args:=args,res:=some (.bool true),after:=args } = some (.bool (true == true)) from w_eq_bool (w_res rfl) w_lit) rfl
section
variable {prog:Program} {w:World} {A:Around} {E:Value->Shared->Prop} {s:Shared} {K:Frag}
def ledger (h:Heap) (L d:Addr):List (Addr × Obj):=(range h.objs.size).filterMap fun a=>if a = L\/a = d then none else (h.get? a).map fun o=>(a,o)
end
end Att
namespace L2
open PySem PySem.Spec PyProof.Rows
theorem uF:∀ {vs:List Value} {ns:List Int},IntsAre vs ns->Vals (ns.map V.int) vs
 | _,_,.nil=>.nil
 | _,_,.cons n t h=>.cons ⟨t,rfl⟩ (uF h)
def aGe (H:Hp):Prop:=∀ b,H b = none\/∃ o xs,H b = some (.frz o (.lst xs))
theorem Qh {P:Program} {w:World} {K:W.Frag} {mg mb:Str->Option Value} {CX:Il} {k:Nat} {fa a:Addr} {fd:FuncData} {x:Str} {sp:Sp} {s₁:Shared} {vs:List Value} {ns:List Int}
  (KX:K.In s₁.heap) (hns:s₁.heap.Ns mainGlobals mg) (hb:s₁.heap.Ns builtinsNs mb) (hbb:∀ x:Str,x ≠ "__name__"->mb x = bootBuiltins x) (hlim:s₁.heap.NoLimit) (hg:s₁.gens = #[])
  (ha:s₁.heap.get? a = some { cls:=.type "list",data:=.seq vs.toArray }) (hi:IntsAre vs ns) (hl:ns.length<=sizeLine) (hr:Room k callerA)
  (F:∀ base:Heap,K.In base->base.Ns mainGlobals mg->FnOk P w K mg base CX k fa fd [x] sp) (hbind:∀ (s:Shared) (u:Value),BindsTo s fd ⟨[u],[]⟩ [(x,u)])
  (hsp:∀ H:Hp,aGe H->SqL K H a (ns.map V.int)->sp [.ref a] H (fun v _=>v = .bl true) fun _ _ _=>False)
  (hCX:∀ H e s',CX [] H s₁ (fun _ _ _=>False) e s'->False) :
  codeAny (model P w) callerA (.call (.ref fa) ⟨[.ref a],[]⟩) (fun r s'=>r = .ok (.ret (.bool true))/\OldK s₁.heap s'.heap/\s'.os = s₁.os/\AllBare s'.gens) s₁:=by
 have rv:=uF hi;have lenV:=hi.length;have core:∀ H:Hp,aGe H->SqL K H a (ns.map V.int)->HOk P w H s₁.heap->(∀ b,H b ≠ none->b = a)->(H a ≠ none->K.lookup a = none) ->
   codeAny (model P w) callerA (.call (.ref fa) ⟨[.ref a],[]⟩) (fun r s'=>r = .ok (.ret (.bool true))/\OldK s₁.heap s'.heap/\s'.os = s₁.os/\AllBare s'.gens) s₁:=by
  intro H hO hS hok hA hK;have base_of:∀ {b:Addr} {o:Obj},s₁.heap.get? b = some o->H b = none->(xV s₁.heap H).get? b = some o:=fun e n=>Qq e n;have noA:∀ {b:Addr} {o:Obj} {es:Array DictEntry} {ep:Nat},s₁.heap.get? b = some o->o.data = .dict es ep->H b = none:=fun {b o es ep} e d=>by
   cases q:H b with
   | none=>rfl
   | some u =>
    have e':b = a:=hA b (by rw [q]; simp);subst e';rw [ha] at e; cases e;have d':Data.seq vs.toArray _ = Data.dict es ep:=d;cases d'
  have nsK:∀ {b:Addr} {m:Str->Option Value},s₁.heap.Ns b m->(xV s₁.heap H).Ns b m:=fun {b m} ⟨o,es,ep,e,d,r⟩=>⟨o,es,ep,base_of e (noA e d),d,r⟩
  have hKb:K.In (xV s₁.heap H):=fun b o e=>base_of (KX b o e) (by
   cases q:H b with
   | none=>rfl
   | some u =>
    have e':b = a:=hA b (by rw [q]; simp)
    subst e'
    rw [hK (by rw [q]; simp)] at e; cases e)
  have hM:Mod K mg (xV s₁.heap H):=⟨hKb,nsK hns,⟨mb,nsK hb,hbb⟩,let ⟨mc,h1,h2⟩:=hlim; ⟨mc,nsK h1,h2⟩⟩;have e0:Env0 P w K mg (xV s₁.heap H) callerA [] s₁ H:=⟨rfl,hM,fun b o e=>Uz e,Nat.le_of_eq (Kh _ _),trivial,fun b hb=>absurd (show b∈([]:List Addr) from hb) (by simp),hok,.of_eq hg⟩;refine codeAny_mono ((F _ hKb (nsK hns)).run callerA [] s₁ H ⟨[.ref a],[]⟩ [.ref a] [.ref a] _ _ hr e0 (hbind s₁ (.ref a)) (.cons rfl .nil) (hsp H hO hS)) fun r s' h=>?_;cases r with
  | error e=>exact (hCX H e s' h).elim
  | ok fl =>
   cases fl with
   | next=>exact False.elim h
   | brk=>exact False.elim h
   | cont=>exact False.elim h
   | ret u =>
    obtain ⟨v,H',os,bare,un,hok',r',q⟩:=h;have q':v = .bl true:=q;subst q';obtain rfl:u = Value.bool true:=r';refine ⟨rfl,OldK.of_keep fun b o e=>?_,os,bare⟩;cases q:H b with
    | none=>exact un.keep b o e q (by intro z; exact absurd (show b∈([]:List Addr) from z) (by simp)) (by simp)
    | some u =>
     rcases hO b with z | ⟨ob,xs,z⟩
     ·rw [q] at z; cases z
     ·have z2:=un.frzs b ob _ z;obtain ⟨e1,_⟩:=hok b _ z;obtain ⟨e2,_⟩:=hok' b _ z2;rw [e] at e1; cases e1;exact e2
 cases hk:K.lookup a with
 | some o =>
  have e:=KX a o hk;rw [ha] at e;cases e;refine core (fun _=>none) (fun _=>.inl rfl) (.inr ⟨_,vs.toArray,_,hk,rfl,rfl,rfl,by rw [size_toArray,lenV]; exact hl,by simpa using rv⟩) (fun b u z=>by have z':(none:Option HO) = some u:=z; cases z') (fun b z=>absurd rfl z) fun z=>absurd rfl z
 | none =>
  refine core (fun b=>if b = a then some (.frz { cls:=.type "list",data:=.seq vs.toArray } (.lst (ns.map V.int))) else none) (fun b=>?_) (.inl (.inr ⟨{ cls:=.type "list",data:=.seq vs.toArray },if_pos rfl⟩)) (fun b u z=>?_) (fun b z=>?_) fun _=>hk
  ·by_cases hb:b = a
   ·exact .inr ⟨_,_,if_pos hb⟩
   ·exact .inl (if_neg hb)
  ·by_cases hb:b = a
   ·have z':=(if_pos hb).symm.trans z;cases z';subst hb;exact ⟨ha,by rw [length_map]; exact hl,vs,_,rv,ha⟩
   ·have z':=(if_neg hb).symm.trans z;cases z'
  ·by_cases hb:b = a
   ·exact hb
   ·exact absurd (if_neg hb) z
abbrev KOf {K:W.Frag} {h:Heap} (_:K.In h):W.Frag:=K
def qW (s:Stmt) (j:Nat):Stmt:=match s with
 | .ClassDef _ _ _ body _ _ _ _ _ _ _=>body.getD j (.Pass ⟨0,0,0,0⟩)
 | _=>.Pass ⟨0,0,0,0⟩
def kL (s:Stmt):Arguments:=match s with
 | .FunctionDef _ a _ _ _ _ _ _ _ _=>a
 | _=>{ posonlyargs:=[],args:=[],vararg:=none,kwonlyargs:=[],kw_defaults:=[],kwarg:=none,defaults:=[] }
def fR (s:Stmt):List Stmt:=match s with
 | .FunctionDef _ _ b _ _ _ _ _ _ _=>b
 | _=>[]
def aR (s:Stmt):Scope:=match s with
 | .FunctionDef _ _ _ _ _ _ sc _ _ _=>sc
 | _=>{ kind:=.function,names:=[],isGenerator:=false,isCoroutine:=false }
abbrev CX0:Il:=fun _ _ _ _ _ _=>False
abbrev E0:XK:=fun _ _ _=>False
structure Fun (K:W.Frag) (x qual:Str) (st:Stmt) (f:Addr) (fd:FuncData):Prop where
 ex:∃ (oc:Value) (od:Option Addr) (kV doc pm:Value) (an:Option Addr) (cdv ct:Value) (osl:Array (Option Value)),
  fd = W.fnOf x qual (kL st) (fR st) (aR st) .none kV doc pm an cdv ct/\K.lookup f = some ⟨oc,od,.func fd,osl⟩/\W.codeIn K cdv qual = true
 kp:W.keepIn K (.ref f) = true
section
variable {P:Program} {w:World} {K:W.Frag} {mg:Str->Option Value} {base:Heap}
theorem Fun.binds {x qual:Str} {st:Stmt} {f:Addr} {fd:FuncData} {ps:List Str} (F:Fun K x qual st f fd)
  (h:∀ (kV doc pm:Value) (an:Option Addr) (cdv ct:Value) (us:List Value),us.length = ps.length->bindArgs (W.fnOf x qual (kL st) (fR st) (aR st) .none kV doc pm an cdv ct) ⟨us,[]⟩ = pure (ps.zip us)):Binds K fd ps []:=by
 obtain ⟨oc,od,kV,doc,pm,an,cdv,ct,osl,rfl,lk,hcd⟩:=F.ex;exact .all (h kV doc pm an cdv ct)
theorem fun_mk {x qual:Str} {st:Stmt} {f:Addr} {oc:Value} {od an:Option Addr} {osl:Array (Option Value)} {kV doc pm cdv ct:Value} (l:K.lookup f = some ⟨oc,od,.func (W.fnOf x qual (kL st) (fR st) (aR st) .none kV doc pm an cdv ct),osl⟩)
  (c:W.codeIn K cdv qual = true) (k:W.keepIn K (.ref f) = true):Fun K x qual st f (W.fnOf x qual (kL st) (fR st) (aR st) .none kV doc pm an cdv ct):=⟨⟨oc,od,kV,doc,pm,an,cdv,ct,osl,rfl,l,c⟩,k⟩
end
theorem bR {n:Nat} (h:n<=1000):n < sizeLine:=lt_of_le_of_lt h (by decide)
section
variable {X:Cx}
theorem pv (i:Nat) {x:Str} {pos:Pos} (hN:X.N[i]? = some x:=by rfl) (hv:Vis X.env.scope x:=by first | exact Or.inl rfl | exact Or.inr (Or.inl rfl) | exact Or.inr (Or.inr rfl)) (hd:(x == ("__debug__":Str)) = false:=by decide)
  (hcd:(x == ("__classdict__":Str)) = false:=by decide):PE X (.Name x pos) (iB i):=aCh hN hv hd hcd
end
theorem Ql {A B:Prop} (h:B):if false = true then A else B:=by
 rw [if_neg Bool.false_ne_true];exact h
theorem aEl {A B:Prop} (h:A):if true = true then A else B:=by
 rw [if_pos rfl];exact h
theorem bU {c A B:Prop} [Decidable c] (h1:c->A) (h2:¬ c->B):if c then A else B:=by
 by_cases h:c
 ·rw [if_pos h];exact h1 h
 ·rw [if_neg h];exact h2 h
def Same (H H':Hp):Prop:=∀ b o,H b = some o->H' b = some o
theorem Same.refl (H:Hp):Same H H:=fun _ _ h=>h
theorem Same.trans {H H1 H2:Hp} (a:Same H H1) (b:Same H1 H2):Same H H2:=fun c o h=>b c o (a c o h)
theorem Same.free {H H':Hp} (e:Same H H') {l:Addr} (h:H' l = Option.none):H l = Option.none:=by
 cases q:H l with
 | none=>rfl
 | some o =>
  rw [e l o q] at h;cases h
theorem Same.seq {K:W.Frag} {H H':Hp} {a:Addr} {xs:List V} (e:Same H H') (h:SqL K H a xs):SqL K H' a xs:=by
 rcases h with (h | ⟨o,h⟩) | h
 ·exact .inl (.inl (e _ _ h))
 ·exact .inl (.inr ⟨o,e _ _ h⟩)
 ·exact .inr h
section
variable {κ:Type} [DecidableEq κ]
def nO (kvs:List (κ × V)) (k:κ):Option V:=(kvs.find? fun kv=>decide (kv.1 = k)).map (·.2)
def rW (kvs:List (κ × V)) (k:κ) (v:V):List (κ × V) :=
 if (kvs.any fun kv=>decide (kv.1 = k)) = true then kvs.map (fun kv=>if kv.1 = k then (kv.1,v) else kv) else kvs ++ [(k,v)]
def Ya (kvs:List (κ × V)) (k:κ):List (κ × V):=kvs.filter fun kv=>decide (kv.1 ≠ k)
theorem nN {p:κ × V} {r:List (κ × V)} {k:κ} (e:p.1 = k):nO (p :: r) k = some p.2:=by simp [nO,find?_cons,e]
theorem kX {p:κ × V} {r:List (κ × V)} {k:κ} (e:¬ p.1 = k):nO (p :: r) k = nO r k:=by simp [nO,find?_cons,e]
theorem yU (k:κ):∀ kvs:List (κ × V),(kvs.any fun kv=>decide (kv.1 = k)) = (nO kvs k).isSome
 | []=>rfl
 | p :: r=>by
  rw [any_cons];by_cases e:p.1 = k
  ·simp only [nN e,decide_eq_true e,Bool.true_or,Option.isSome_some]
  ·rw [kX e,decide_eq_false e,Bool.false_or]; exact yU k r
theorem pY (kvs:List (κ × V)) (k:κ) (v:V):(rW kvs k v).length<=kvs.length + 1:=by
 unfold rW;split
 ·rw [length_map]; omega
 ·rw [length_append,length_cons,length_nil]; omega
theorem RelO.isSome_eq {o:Option V} {u:Option Value} (r:RelO o u):o.isSome = u.isSome:=by
 cases o with
 | none=>cases u with
  | none=>rfl
  | some _=>exact (show False from r).elim
 | some _=>cases u with
  | none=>exact (show False from r).elim
  | some _=>rfl
theorem KV.val {kvs:List (κ × V)} {vs:List (κ × Value)} (r:KV kvs vs) (k:κ):RelO (nO kvs k) (valueAt vs k):=by
 unfold KV at r
 induction r with
 | nil=>exact True.intro
 | @cons p q ps qs h t ih =>
  obtain ⟨h1,h2⟩:=h;by_cases e:p.1 = k
  ·have e':q.1 = k:=h1.symm.trans e;have b:valueAt (q :: qs) k = some q.2:=by simp [valueAt,find?_cons,e']
   rw [nN e,b]; exact h2
  ·have e':¬ q.1 = k:=fun z=>e (h1.trans z);have b:valueAt (q :: qs) k = valueAt qs k:=by simp [valueAt,find?_cons,e']
   rw [kX e,b]; exact ih
theorem KV.any {kvs:List (κ × V)} {vs:List (κ × Value)} (r:KV kvs vs) (k:κ):(kvs.any fun kv=>decide (kv.1 = k)) = vs.any fun kv=>decide (kv.1 = k):=by
 unfold KV at r
 induction r with
 | nil=>rfl
 | cons h t ih=>rw [any_cons,any_cons,ih,h.1]
theorem KV.repl {kvs:List (κ × V)} {vs:List (κ × Value)} (r:KV kvs vs) (k:κ) {y:V} {u:Value} (ry:RelV y u) :
  KV (kvs.map fun kv=>if kv.1 = k then (kv.1,y) else kv) (vs.map fun kv=>if kv.1 = k then (kv.1,u) else kv):=by
 unfold KV at r ⊢
 induction r with
 | nil=>exact .nil
 | @cons p q ps qs h t ih =>
  rw [map_cons,map_cons];refine .cons ?_ ih;obtain ⟨h1,h2⟩:=h;by_cases e:p.1 = k
  ·rw [if_pos e,if_pos (h1.symm.trans e)]; exact ⟨h1,ry⟩
  ·rw [if_neg e,if_neg (fun z=>e (h1.trans z))]; exact ⟨h1,h2⟩
theorem KV.put {kvs:List (κ × V)} {vs:List (κ × Value)} (r:KV kvs vs) (k:κ) {y:V} {u:Value} (ry:RelV y u):KV (rW kvs k y) (stored vs k u):=by
 unfold rW stored;rw [r.any k];by_cases e:(vs.any fun kv=>decide (kv.1 = k)) = true
 ·rw [if_pos e,if_pos e]; exact r.repl k ry
 ·rw [if_neg e,if_neg e]; exact Paired.snoc r ⟨rfl,ry⟩
theorem KV.drop {kvs:List (κ × V)} {vs:List (κ × Value)} (r:KV kvs vs) (k:κ):KV (Ya kvs k) (without vs k):=by
 unfold KV at r ⊢;unfold Ya without
 induction r with
 | nil=>exact .nil
 | @cons p q ps qs h t ih =>
  obtain ⟨h1,h2⟩:=h;rw [List.filter_cons,List.filter_cons];by_cases e:p.1 = k
  ·have a:¬ decide (p.1 ≠ k) = true:=by simp [e]
   have b:¬ decide (q.1 ≠ k) = true:=by simp [h1.symm.trans e]
   rw [if_neg a,if_neg b]; exact ih
  ·have e':¬ q.1 = k:=fun z=>e (h1.trans z);have a:decide (p.1 ≠ k) = true:=by simp [e]
   have b:decide (q.1 ≠ k) = true:=by simp [e']
   rw [if_pos a,if_pos b]; exact .cons ⟨h1,h2⟩ ih
theorem KV.length {kvs:List (κ × V)} {vs:List (κ × Value)} (r:KV kvs vs):kvs.length = vs.length:=Paired.length r
end
theorem Gp {P:Program} {w:World} {k:gY} {u:Value} (r:RelV (kV k) u):(fI P w).is k u = true:=by
 cases k with
 | inl i=>obtain ⟨t,e⟩:=(show ∃ t,u = Value.int i t from r); subst e; exact Ak P w i t
 | inr x=>obtain ⟨t,e⟩:=(show ∃ t,u = Value.str x t from r); subst e; exact Aj P w x t
theorem vJ {P:Program} {w:World}:∀ {ks:List gY} {us:List Value},Vals (ks.map kV) us->ItemsAre (fI P w) ks us
 | [],_,r=>by rw [map_nil] at r; cases r; exact .nil
 | k :: ks,_,r=>by
  rw [map_cons] at r;cases r with
  | cons h t=>exact .cons (Gp h) (vJ t)
abbrev KT (H:Hp):List (List gY × V)->List (List gY × Addr × Value)->Prop:=Paired fun p q=>p.1 = q.1/\H q.2.1 = some (.tup (p.1.map kV))/\RelV p.2 q.2.2
theorem KT.val {H:Hp} {kvs:List (List gY × V)} {xs:List (List gY × Addr × Value)} (r:KT H kvs xs) (k:List gY):RelO (nO kvs k) ((atKey xs k).map (·.2)):=by
 induction r with
 | nil=>exact True.intro
 | @cons p q ps qs h t ih =>
  obtain ⟨h1,_,h2⟩:=h;by_cases e:p.1 = k
  ·have e':q.1 = k:=h1.symm.trans e;have b:atKey (q :: qs) k = some q.2:=by simp [atKey,find?_cons,e']
   rw [nN e,b]; exact h2
  ·have e':¬ q.1 = k:=fun z=>e (h1.trans z);have b:atKey (q :: qs) k = atKey qs k:=by simp [atKey,find?_cons,e']
   rw [kX e,b]; exact ih
theorem KT.repl {H:Hp} {kvs:List (List gY × V)} {xs:List (List gY × Addr × Value)} (r:KT H kvs xs) (k:List gY) {y:V} {u:Value} (ry:RelV y u) :
  KT H (kvs.map fun kv=>if kv.1 = k then (kv.1,y) else kv) (xs.map (putAt k u)):=by
 induction r with
 | nil=>exact .nil
 | @cons p q ps qs h t ih =>
  rw [map_cons,map_cons];refine .cons ?_ ih;obtain ⟨h1,h2,h3⟩:=h;unfold putAt;by_cases e:p.1 = k
  ·rw [if_pos e,if_pos (h1.symm.trans e)]; exact ⟨h1,h2,ry⟩
  ·rw [if_neg e,if_neg (fun z=>e (h1.trans z))]; exact ⟨h1,h2,h3⟩
theorem KT.put {H:Hp} {kvs:List (List gY × V)} {xs:List (List gY × Addr × Value)} (r:KT H kvs xs) (k:List gY) {b:Addr} {y:V} {u:Value} (hb:H b = some (.tup (k.map kV))) (ry:RelV y u) :
  KT H (rW kvs k y) (storedH xs k b u):=by
 have e:(kvs.any fun kv=>decide (kv.1 = k)) = (atKey xs k).isSome:=by
  rw [yU,(r.val k).isSome_eq,isSome_map]
 unfold rW storedH;rw [e];by_cases q:(atKey xs k).isSome = true
 ·rw [if_pos q,if_pos q]; exact r.repl k ry
 ·rw [if_neg q,if_neg q]; exact Paired.snoc r ⟨rfl,hb,ry⟩
theorem KT.keeps {H H':Hp} {kvs:List (List gY × V)} {xs:List (List gY × Addr × Value)} (r:KT H kvs xs) (ht:∀ b ys,H b = some (.tup ys)->H' b = some (.tup ys)):KT H' kvs xs :=
 Paired.mapP r fun _ _ z=>⟨z.1,ht _ _ z.2.1,z.2.2⟩
section
variable {P:Program} {w:World} {H:Hp} {h:Heap} {a:Addr}
theorem Xl {u:HO} (ok:HOk P w H h) (e:Rd H a u):ObjOk P w H h a u:=e.ok ok
theorem Hj {kvs:List (gY × V)} (ok:HOk P w H h) (e:Rd H a (.dK kvs)):kvs.length<=sizeLine/\(a == sysModules) = false/\∃ vs,KV kvs vs/\h.DictOf (fI P w) a vs :=
 show ObjOk P w H h a (.dK kvs) from Xl ok e
theorem aKg {kvs:List (gY × V)} (ok:HOk P w H h) (e:H a = some (.dK kvs)):kvs.length<=sizeLine/\(a == sysModules) = false/\∃ vs,KV kvs vs/\h.DictOf (fI P w) a vs:=Hj ok (.inl e)
theorem xQ {ks:List gY} (ok:HOk P w H h) (e:H a = some (.tup (ks.map kV))):(tupleKind (fI P w)).is h ks a:=by
 obtain ⟨_,its,r,o,h1,h2,n,h3⟩:=(show ObjOk P w H h a (.tup (ks.map kV)) from ok a _ e);exact ⟨o,its.toArray,n,h1,h2,h3,by simpa using vJ r⟩
theorem Hg {kvs:List (List gY × V)} (ok:HOk P w H h) (e:Rd H a (.dT kvs)):kvs.length<=sizeLine/\(a == sysModules) = false /\
  ∃ xs,KT H kvs xs/\h.DictOfH (tupleKind (fI P w)) a xs:=by
 obtain ⟨z,y,xs,r,o,es,ep,h1,h2,h3,h4,h5⟩:=(show ObjOk P w H h a (.dT kvs) from Xl ok e);refine ⟨z,y,xs,r,o,es,ep,h1,h2,h3,h4,fun x hx=>?_,h5⟩;have all:∀ {l:List (List gY × V)} {m:List (List gY × Addr × Value)},KT H l m->∀ x∈m,(tupleKind (fI P w)).is h x.1 x.2.1:=by
  intro l m q
  induction q with
  | nil=>intro x hx; exact nomatch hx
  | @cons p q ps qs hq t ih =>
   intro x hx;rcases mem_cons.mp hx with e | hx
   ·subst e;exact xQ ok (by rw [<- hq.1]; exact hq.2.1)
   ·exact ih x hx
 exact all r x hx
theorem aKf {kvs:List (List gY × V)} (ok:HOk P w H h) (e:H a = some (.dT kvs)):kvs.length<=sizeLine/\(a == sysModules) = false /\
  ∃ xs,KT H kvs xs/\h.DictOfH (tupleKind (fI P w)) a xs:=Hg ok (.inl e)
end
def DGet (H:Hp) (a:Addr) (y:V) (r:Option V):Prop :=
 (∃ kvs k,Rd H a (.dK kvs)/\y = kV k/\r = nO kvs k)\/∃ kvs k b,Rd H a (.dT kvs)/\y = .ref b/\H b = some (.tup (k.map kV))/\r = nO kvs k
def DPut (H:Hp) (a:Addr) (y v:V) (H':Hp):Prop :=
 (∃ kvs k,H a = some (.dK kvs)/\y = kV k/\kvs.length < sizeLine/\H' = eT H a (.dK (rW kvs k v))) \/
 ∃ kvs k b,H a = some (.dT kvs)/\y = .ref b/\H b = some (.tup (k.map kV))/\kvs.length < sizeLine/\H' = eT H a (.dT (rW kvs k v))
theorem DGet.k {H:Hp} {a:Addr} {kvs:List (gY × V)} {k:gY} (e:H a = some (.dK kvs)):DGet H a (kV k) (nO kvs k):=.inl ⟨kvs,k,.inl e,rfl,rfl⟩
theorem DPut.k {H:Hp} {a:Addr} {kvs:List (gY × V)} {k:gY} {v:V} (e:H a = some (.dK kvs)) (hl:kvs.length < sizeLine):DPut H a (kV k) v (eT H a (.dK (rW kvs k v))):=.inl ⟨kvs,k,e,rfl,hl,rfl⟩
section
variable {X:Cx} {pins:List (Addr × Obj)} {σ:St} {H:Hp} {s:Shared} {a:Addr} {y v:V} {u r:Value} {o:Option V} {A:Around} {E:Value->Shared->Prop}
theorem Inv.big (I:Inv X pins σ H s):sysModules < s.heap.objs.size:=by
 have h:mainGlobals < s.heap.objs.size:=(I.mod.glob.keeps I.bk).lt;exact lt_trans (by decide) h
theorem Ko {Q:Value->Shared->Prop} (hu:A.units + 1 < cLine) (I:Inv X pins σ H s) (g:DGet H a y (some v)) (ry:RelV y u) (h:∀ w' s',Inv X pins σ H s'->RelV v w'->Q w' s') :
  wpAny (model X.prog X.w) A (getItem (.ref a) u) Q E s:=by
 rcases g with ⟨kvs,k,e,ey,l⟩ | ⟨kvs,k,b,e,ey,eb,l⟩
 ·subst ey;obtain ⟨z,hd,vs,rel,dd⟩:=Hj I.hok e;obtain ⟨w',hw,rw'⟩:=RelO.some_of (v:=v) (o:=valueAt vs k) (by rw [l]; exact rel.val k);exact wpAny_getItem_of (Gp ry) dd.mapOf hw (h w' _ (I.tok _) rw')
 ·subst ey;cases (show u = Value.ref b from ry);obtain ⟨z,hd,xs,rel,dd⟩:=Hg I.hok e;obtain ⟨w',hw,rw'⟩:=RelO.some_of (v:=v) (o:=(atKey xs k).map (·.2)) (by rw [l]; exact rel.val k);obtain ⟨p,hp,hp2⟩:=Option.map_eq_some_iff.mp hw;refine wpAny_getItem_heap (tupleKind_room_in1 hu) (xQ I.hok eb) dd hp ?_;rw [hp2];exact h w' _ (I.tok _) rw'
theorem Wl {Q:Value->Shared->Prop} (hu:A.units + 1 < cLine) (I:Inv X pins σ H s) (g:DGet H a y o) (ry:RelV y u) (h:∀ s',Inv X pins σ H s'->Q (.bool (!o.isSome)) s') :
  wpAny (model X.prog X.w) A (compareOp .NotIn u (.ref a)) Q E s:=by
 rcases g with ⟨kvs,k,e,ey,l⟩ | ⟨kvs,k,b,e,ey,eb,l⟩
 ·subst ey;obtain ⟨z,hd,vs,rel,dd⟩:=Hj I.hok e;refine wpAny_notIn_of (Gp ry) hd dd.mapOf ?_;rw [<- (rel.val k).isSome_eq,<- l];exact h _ (I.tok _)
 ·subst ey;cases (show u = Value.ref b from ry);obtain ⟨z,hd,xs,rel,dd⟩:=Hg I.hok e;refine wpAny_notIn_heap (tupleKind_room_in1 hu) (xQ I.hok eb) hd dd ?_;have q:=(rel.val k).isSome_eq;rw [isSome_map] at q;rw [<- q,<- l];exact h _ (I.tok _)
theorem Ho {h':Heap} {t':Nat} {ob:HO} (I:Inv X pins σ H s) (mu:Mut (H a)) (hs:SameBut a s.heap h') (he:∃ q,h'.get? a = some q) (new:ObjOk X.prog X.w (eT H a ob) h' a ob) :
  Inv X pins σ (eT H a ob) { s with heap:=h',toks:=t' } :=
 I.write (x:=a) (e:=a) mu (.inl rfl) (fun b q hb z=>(hs.2 b hb).trans z) he new
theorem aEy {P:Program} {w:World} {H':Hp} {h':Heap} {kvs:List (gY × V)} {vs:List (gY × Value)} (z:kvs.length<=sizeLine) (hd:(a == sysModules) = false) (rel:KV kvs vs) (dd:h'.DictOf (fI P w) a vs) :
  ObjOk P w H' h' a (.dK kvs):=⟨z,hd,vs,rel,dd⟩
theorem Kn {H':Hp} {Q:Unit->Shared->Prop} (hu:A.units + 1 < cLine) (I:Inv X pins σ H s) (g:DPut H a y v H') (ry:RelV y u) (rv:RelV v r) (h:∀ s',Inv X pins σ H' s'->Q () s') :
  wpAny (model X.prog X.w) A (setItem (.ref a) u r) Q E s:=by
 rcases g with ⟨kvs,k,e,ey,l,eH⟩ | ⟨kvs,k,b,e,ey,eb,l,eH⟩
 ·subst ey eH;obtain ⟨z,hd,vs,rel,dd⟩:=aKg I.hok e;have hz:vs.length<=sizeLine:=by rw [<- rel.length]; exact z
  have hl:(rW kvs k v).length<=sizeLine:=by have:=pY kvs k v; omega
  refine wpAny_setItem_pairs (hsz:=hz) (Gp ry) dd fun h' dd' hs=>h _ ?_;have he:∃ q,h'.get? a = some q:=let ⟨q,_,_,hq,_⟩:=dd'; ⟨q,hq⟩
  exact Ho I (by rw [e]; exact True.intro) hs he (aEy hl hd (rel.put k rv) dd')
 ·subst ey eH;cases (show u = Value.ref b from ry);obtain ⟨z,hd,xs,rel,dd⟩:=aKf I.hok e;have hz:xs.length<=sizeLine:=by rw [<- Paired.length rel]; exact z
  have hl:(rW kvs k v).length<=sizeLine:=by have:=pY kvs k v; omega
  refine wpAny_setItem_heap (hsz:=hz) (tupleKind_room_in1 hu) (xQ I.hok eb) dd fun h' dd' hs=>h _ ?_;obtain ⟨q,es,ep,hq,h2,h3,h4,_,h5⟩:=dd';refine Ho I (by rw [e]; exact True.intro) hs ⟨q,hq⟩ ⟨hl,hd,_,(rel.put k eb rv).keeps fun c ys ec=>?_,q,es,ep,hq,h2,h3,h4,h5⟩;rw [bJ (aJq ec e (fun z=>nomatch z))];exact ec
end
def aLl (i:Expr):Prop:=∀ ov iv,subscripted i false ov iv = operate [ov,iv] (getItem ov iv)
theorem Tz {prog:Program} {w:World} {A:Around} {E:Value->Shared->Prop} {s:Shared} {env:Env} {value slice:Expr} {pos:Pos} {T id:String} {Q:Value->Shared->Prop}
  (hl:typeLookup (.type T) "__getitem__" = pure (some (.builtin id))) (hs:aLl slice)
  (h:wpAny (model prog w) A (eval value env) (fun o s₁=>wpAny (model prog w) A (eval slice env) (fun i s₂=>s₂.TypeIs o T/\wpAny (model prog w) A (getItem o i) Q E s₂) E s₁) E s) :
  wpAny (model prog w) A (eval (.Subscript value slice pos) env) Q E s:=by
 refine Subscript_ (wpAny_mono h (fun o s₁ h₁=>wpAny_mono h₁ (fun i s₂ h₂=>?_) fun _ _ x=>x) fun _ _ x=>x);obtain ⟨hT,h₂⟩:=h₂;unfold subscriptTail;refine wpAny_bind ?_;rw [getitemInPython_of_ne hT.not_modules];refine wpAny_bind (wpAny_specialOf hT hl ?_);have fin:wpAny (model prog w) A (subscripted slice false o i) (fun r s₃=>wpAny (model prog w) A (letTemporaryGo value o r >>= fun _=>pure r) Q E s₃) E s₂:=by
  rw [hs o i];exact wpAny_operating (wpAny_mono h₂ (fun r s₃ h₃=>wpAny_bind (wpAny_letTemporaryGo (wpAny_pure h₃))) fun _ _ x=>x)
 first
  | exact wpAny_pure (wpAny_bind fin)
  | exact wpAny_bind (wpAny_pure (wpAny_bind fin))
  | exact wpAny_bind fin
theorem Bs {X:Cx} {pins:List (Addr × Obj)} {σ:St} {H:Hp} {s:Shared} {a:Addr} {y:V} {o:Option V} (I:Inv X pins σ H s) (g:DGet H a y o):s.TypeIs (.ref a) "dict":=by
 rcases g with ⟨kvs,k,e,_,_⟩ | ⟨kvs,k,b,e,_,_,_⟩
 ·obtain ⟨_,_,vs,_,dd⟩:=Hj I.hok e;exact dd.typeIs
 ·obtain ⟨_,_,xs,_,dd⟩:=Hg I.hok e;exact dd.typeIs
def Xh (td ty:TE):TE:=fun σ H Q=>td σ H fun x H1=>ty σ H1 fun y H2=>∃ a v,x = .ref a/\DGet H2 a y (some v)/\Q v H2
def Fc (ty td:TE):TE:=fun σ H Q=>ty σ H fun y H1=>td σ H1 fun x H2=>∃ a o,x = .ref a/\DGet H2 a y o/\Q (.bl (!o.isSome)) H2
def Xk (td ty tv:TE):TS:=fun D σ H=>tv σ H fun v H1=>td σ H1 fun x H2=>ty σ H2 fun y H3=>∃ a H4,x = .ref a/\DPut H3 a y v H4/\D.nx σ H4
section
variable {X:Cx} {o i e value:Expr} {pos pos' tpos:Pos} {td ty tv:TE}
theorem Ut (hu:X.A.units + 1 < cLine) (ho:PE X o td) (hi:PE X i ty) (hs:aLl i):PE X (.Subscript o i pos) (Xh td ty):=by
 intro pins s σ H Q I h;refine Tz F.slot_dict_getitem.lookup hs (eU (ho pins s σ H _ I h) fun u s1 ⟨x,H1,I1,rx,q1⟩=>eU (hi pins s1 σ H1 _ I1 q1) fun iv s2 ⟨y,H2,I2,ry,a,v,ex,g,q2⟩=>?_);subst ex;obtain rfl:u = Value.ref a:=rx;exact ⟨Bs I2 g,Ko hu I2 g ry fun w' s3 I3 rw'=>⟨v,H2,I3,rw',q2⟩⟩
theorem Jp (hu:X.A.units + 1 < cLine) (hi:PE X i ty) (ho:PE X o td):PC X .NotIn i o (Fc ty td):=by
 intro pins s σ H Q I h;refine eU (hi pins s σ H _ I h) fun iv s1 ⟨y,H1,I1,ry,q1⟩=>eU (ho pins s1 σ H1 _ I1 q1) fun u s2 ⟨x,H2,I2,rx,a,ov,ex,g,q2⟩=>?_;subst ex;obtain rfl:u = Value.ref a:=rx;exact Wl hu I2 g ry fun s3 I3=>⟨.bl (!ov.isSome),H2,I3,rfl,q2⟩
theorem Uq (hu:X.A.units + 1 < cLine) (ho:PE X o td) (hi:PE X i ty) (hv:PE X value tv) (hs:swapsWith value (some (.Subscript o i pos')) pos.line X.env = pure false) :
  PS X (.Assign [.Subscript o i pos'] value pos) (Xk td ty tv):=by
 intro pins s σ H D I h;refine wpAny_Assign_Subscript (eU (hv pins s σ H _ I h) fun r s1 ⟨v,H1,I1,rv,q1⟩=>eU (ho pins s1 σ H1 _ I1 q1) fun u s2 ⟨x,H2,I2,rx,q2⟩=>eU (hi pins s2 σ H2 _ I2 q2) fun iv s3 ⟨y,H3,I3,ry,a,H4,ex,g,q3⟩=>?_) hs;subst ex;obtain rfl:u = Value.ref a:=rx;exact Kn hu I3 g ry rv fun s4 I4=>⟨σ,H4,I4,q3⟩
end
theorem Rl {P:Program} {w:World} {H:Hp} (h:Heap) (hb:sysModules < h.objs.size):ObjOk P w H (h.push { cls:=.type "dict",data:=.dict #[] }) h.objs.size (.dK []) :=
 ⟨zero_le _,beq_eq_false_iff_ne.mpr (Ne.symm (ne_of_lt hb)),[],.nil,Heap.DictOf.new h⟩
def Ls:TE:=fun _ H Q=>∀ p,H p = none->Q (.ref p) (eT H p (.dK []))
section
variable {X:Cx} {pos:Pos}
theorem Pd:PE X (.Dict [] [] pos) Ls:=fun pins s σ H Q I h =>
 wpAny_Dict_empty ⟨.ref s.heap.objs.size,_,I.laid (a:=s.heap.objs.size) (o:=.dK []) (t':=s.toks) (fun _ _ q=>get?_push_of_some _ q) (le_refl _) (Rl s.heap I.big),rfl,h _ (I.hok.fresh (le_refl _))⟩
end
structure M1 (X:Cx) (o:Expr) (m:Str) (apos:Pos) (e:Expr) (cpos:Pos):Prop where
 base:attributeBase o m X.env (eval o X.env) = eval o X.env
 few:((backTo cpos (starEach [e] X.env)).all (fun x=>!x.1) && (backToKw cpos (keywordEach [] X.env)).all (fun x=>x.1.isSome)
  && decide (([e]:List Expr).length + ([]:List Keyword).length + (if ([]:List Keyword).isEmpty then 0 else 1) < 30)) = true
 line:(apos.endLine == cpos.line) = true
 trees:backTo cpos (starEach [e] X.env) = [(false,eval e X.env)]
structure M2 (X:Cx) (o:Expr) (m:Str) (apos:Pos) (e f:Expr) (cpos:Pos):Prop where
 base:attributeBase o m X.env (eval o X.env) = eval o X.env
 few:((backTo cpos (starEach [e,f] X.env)).all (fun x=>!x.1) && (backToKw cpos (keywordEach [] X.env)).all (fun x=>x.1.isSome)
  && decide (([e,f]:List Expr).length + ([]:List Keyword).length + (if ([]:List Keyword).isEmpty then 0 else 1) < 30)) = true
 line:(apos.endLine == cpos.line) = true
 trees:backTo cpos (starEach [e,f] X.env) = [(false,eval e X.env),(false,eval f X.env)]
end L2
set_option maxHeartbeats 4000000
namespace Lx
open PySem PySem.Spec PyProof.Rows L2
def ExcAt (h₀ h:Heap) (H:Hp) (x:Addr) (C:Value):Prop :=
 ∃ oe vs,h.get? x = some oe/\oe.cls = C/\oe.data = .fields vs/\H x = none/\h₀.get? x = none /\
  (vs[1]? = some Value.none\/∃ T oT ts,vs[1]? = some (Value.ref T)/\T ≠ x/\h.get? T = some oT/\oT.data = .fields ts/\ts[3]? = some Value.none/\H T = none/\h₀.get? T = none)
theorem ExcAt.older {h₀ h₁ h:Heap} {H:Hp} {x:Addr} {C:Value} (e:ExcAt h₁ h H x C) (k:∀ b,h₁.get? b = none->h₀.get? b = none):ExcAt h₀ h H x C:=by
 obtain ⟨oe,vs,h1,h2,h3,h4,h5,h6⟩:=e;refine ⟨oe,vs,h1,h2,h3,h4,k _ h5,?_⟩;rcases h6 with h6 | ⟨T,oT,ts,g1,g2,g3,g4,g5,g6,g7⟩
 ·exact .inl h6
 ·exact .inr ⟨T,oT,ts,g1,g2,g3,g4,g5,g6,k _ g7⟩
theorem Gh {P:Program} {w:World} {H:Hp} {h:Heap} {a:Addr} {o:HO} (x:ObjOk P w H h a o):∃ u,h.get? a = some u:=by
 cases o with
 | lst xs=>obtain ⟨_,_,_,_,e⟩:=x; exact ⟨_,e⟩
 | tup xs=>obtain ⟨_,_,_,p⟩:=x; obtain ⟨o,h1,_⟩:=p; exact ⟨o,h1⟩
 | dK kvs=>obtain ⟨_,_,_,_,o,_,_,e,_⟩:=x; exact ⟨_,e⟩
 | dT kvs=>obtain ⟨_,_,_,_,o,_,_,e,_⟩:=x; exact ⟨_,e⟩
 | set S n=>obtain ⟨o,_,_,_,e,_⟩:=x; exact ⟨_,e⟩
 | ins C dx fs=>obtain ⟨_,_,_,e,_⟩:=x; exact ⟨_,e⟩
 | own y=>exact x
 | xd fs=>obtain ⟨_,⟨_,_,_,e,_⟩,_⟩:=x; exact ⟨_,e⟩
 | rng lo hi=>obtain ⟨_,_,_,e⟩:=x; exact ⟨_,e⟩
 | frz ob u=>obtain ⟨e,_⟩:=x; exact ⟨_,e⟩
 | tbl ps=>exact ⟨_,(show h.get? a = some _ from x)⟩
 | met f y=>exact ⟨_,(show h.get? a = some _ from x)⟩
 | ext φ=>obtain ⟨_,e,_⟩:=x; exact e
theorem Gk {env:Env} {l:List Env} {a:Addr} (h:env∈l) (hf:env.frame = some a):a∈pD l:=mem_filterMap.mpr ⟨env,h,hf⟩
theorem Js {M:Model} {A:Around} {E:Value->Shared->Prop} {s:Shared} {base h₀:Heap} {env:Env} {outer:List Env} {L x:Addr} {C:Value} {H:Hp} {Q:Unit->Shared->Prop}
  (hfr:A.frames = some (env :: outer)) (hl:s.heap.FunFrames base (env :: outer)) (hf:env.frame = some L) (hx:ExcAt h₀ s.heap H x C)
  (h0:∀ b o,h₀.get? b = some o->∃ u,s.heap.get? b = some u) (hH:∀ b o,H b = some o->∃ u,s.heap.get? b = some u)
  (h:∀ h',(∀ b o,s.heap.get? b = some o->(h₀.get? b ≠ none\/H b ≠ none)->b ∉ pD (env :: outer)->h'.get? b = some o) ->
   (∀ b o,s.heap.get? b = some o->b∈pD (env :: outer)->∃ sl,h'.get? b = some { o with slots:=sl }) ->
   ExcAt h₀ h' H x C->Q () { s with heap:=h' }) :
  wpAny M A (noteFrame (.ref x) env) (fun _ s2=>wpAny M A (setFlight (.ref x) none) Q E s2) E s:=by
 obtain ⟨oe,vs,he,hc,hd,hHx,h0x,htr⟩:=hx;have go:∀ (tr:List Addr) (hxt:x∈tr) (htr:∀ b∈tr,H b = none/\h₀.get? b = none) (h':Heap),Heap.Left (W.hideAll s.heap (tr ++ pD (env :: outer))) (env :: outer) x C s.heap h'->Q () { s with heap:=h' }:=by
  intro tr hxt htr h' hL;obtain ⟨k1,k2,k3,k4⟩:=hL;have kept:∀ b o,s.heap.get? b = some o->(h₀.get? b ≠ none\/H b ≠ none)->b ∉ pD (env :: outer)->h'.get? b = some o:=fun b o e hb hn=>by
   refine k1 b o (W.hideAll_get _ e fun hm=>?_);rcases mem_append.mp hm with z | z
   ·obtain ⟨z1,z2⟩:=htr b z;rcases hb with q | q
    ·exact q z2
    ·exact q z1
   ·exact hn z
  refine h h' kept (fun b o e hb=>?_) ?_
  ·obtain ⟨_,o',e',nf⟩:=hl.mem hb;rw [e] at e'; cases e';exact k4 b o e nf
  ·obtain ⟨oe',vs',T,oT,ts,he',hc',hd',h1',hnT,hTe,hT,hdT,h3⟩:=k3;have hTn:H T = none/\h₀.get? T = none:=by
    by_cases hm:T∈tr ++ pD (env :: outer)
    ·rcases mem_append.mp hm with z | z
     ·exact htr T z
     ·obtain ⟨_,o',e',nf⟩:=k2.mem z;rw [hT] at e'; cases e';exact absurd hdT (nf ts)
    ·have no:s.heap.get? T = none:=by
      cases q:s.heap.get? T with
      | none=>rfl
      | some o =>
       rw [W.hideAll_get _ q hm] at hnT; cases hnT
     refine ⟨?_,?_⟩
     ·cases q:H T with
      | none=>rfl
      | some o =>
       obtain ⟨u,hu⟩:=hH T o q;rw [no] at hu; cases hu
     ·cases q:h₀.get? T with
      | none=>rfl
      | some o =>
       obtain ⟨u,hu⟩:=h0 T o q;rw [no] at hu; cases hu
   exact ⟨oe',vs',he',hc',hd',hHx,h0x,.inr ⟨T,oT,ts,h1',hTe,hT,hdT,h3,hTn.1,hTn.2⟩⟩
 have ff:∀ tr:List Addr,s.heap.FunFrames (W.hideAll s.heap (tr ++ pD (env :: outer))) (env :: outer):=fun tr=>W.funFrames_hide hl fun env' h1 a h2=>mem_append_right _ (Gk h1 h2);have stays:∀ tr:List Addr,(W.hideAll s.heap (tr ++ pD (env :: outer))).StaysIn s.heap:=fun tr b o q=>W.of_hideAll _ q;have hid:∀ (tr:List Addr) (b:Addr),b∈tr->(W.hideAll s.heap (tr ++ pD (env :: outer))).get? b = none:=fun tr b hb=>W.hideAll_none _ (mem_append_left _ hb);rcases htr with h1 | ⟨Tr,oTr,tv,h1,hTx,hTr,hdTr,h3,hHT,h0T⟩
 ·unfold noteFrame;simp only [hf];refine wpAny_bind (wpAny_field (s:=s) he hd h1 ?_);rw [if_neg (by decide:¬ ((Value.none != Value.none) = true))];refine wpAny_newEntry hfr (ff [x]) hf he (stays [x]) (hid [x] x (by simp)) hd (Array.getElem?_eq_some_iff.mp h1).1 fun h' hL=>go [x] (by simp) (fun b hb=>?_) h' (by rw [<- hc]; exact hL);have e:b = x:=by simpa using hb
  subst e;exact ⟨hHx,h0x⟩
 ·unfold noteFrame;simp only [hf];refine wpAny_bind (wpAny_field (s:=s) he hd h1 ?_);rw [if_pos (by simp:(Value.ref Tr != Value.none) = true)];refine wpAny_bind (wpAny_field (s:=s) hTr hdTr h3 ?_);rw [if_neg (by simp [rawInt]:¬ ((Value.none == rawInt L) = true))];refine wpAny_bind (wpAny_setField (s:=s) hTr hdTr (Array.getElem?_eq_some_iff.mp h3).1 ?_);have oth:∀ b,b ≠ Tr->(s.heap.update Tr (Obj.mapFields (·.setIfInBounds 3 Value.none))).get? b = s.heap.get? b:=fun b nb=>get?_update_other _ _ (Ne.symm nb);have nT:∀ b u,s.heap.get? b = some u->(∀ vs,u.data ≠ .fields vs)->b ≠ Tr:=fun b u q nf z=>by
   rw [z,hTr] at q;cases q;exact nf tv hdTr
  refine wpAny_newEntry hfr ((ff [x,Tr]).of_keeps fun b u q nf=>⟨u,(oth b (nT b u q nf)).trans q,rfl⟩) hf ((oth x (Ne.symm hTx)).trans he) (fun b u q=>(oth b fun z=>?_).trans (stays [x,Tr] b u q)) (hid [x,Tr] x (by simp)) hd (Array.getElem?_eq_some_iff.mp h1).1
   fun h' hL=>go [x,Tr] (by simp) (fun b hb=>?_) h' ⟨hL.1,hL.2.1,by rw [<- hc]; exact hL.2.2.1,fun b u q nf=>hL.2.2.2 b u ((oth b (nT b u q nf)).trans q) nf⟩
  ·rw [z,hid [x,Tr] Tr (by simp)] at q;cases q
  ·have e:b = x\/b = Tr:=by simpa using hb
   rcases e with e | e
   ·subst e; exact ⟨hHx,h0x⟩
   ·subst e; exact ⟨hHT,h0T⟩
theorem Av {M:Model} {A:Around} {E:Value->Shared->Prop} {s:Shared} {base h₀:Heap} {env:Env} {outer:List Env} {L x:Addr} {C:Value} {H:Hp} {Q:Unit->Shared->Prop}
  (hfr:A.frames = some (env :: outer)) (hl:s.heap.FunFrames base (env :: outer)) (hf:env.frame = some L) (hx:ExcAt h₀ s.heap H x C)
  (h0:∀ b o,h₀.get? b = some o->∃ u,s.heap.get? b = some u) (hH:∀ b o,H b = some o->∃ u,s.heap.get? b = some u)
  (h:∀ h',(∀ b o,s.heap.get? b = some o->(h₀.get? b ≠ none\/H b ≠ none)->b ∉ pD (env :: outer)->h'.get? b = some o) ->
   (∀ b o,s.heap.get? b = some o->b∈pD (env :: outer)->∃ sl,h'.get? b = some { o with slots:=sl }) ->
   ExcAt h₀ h' H x C->Q () { s with heap:=h' }) :
  wpAny M A (leaving env (.ref x)) Q E s:=wpAny_bind (Js hfr hl hf hx h0 hH h)
def eP (P:Program) (w:World):Il:=fun outer H s E e s' =>
 ∃ (x:Addr) (C:Value) (H':Hp),e = .ref x/\s'.os = s.os/\AllBare s'.gens/\Un (pD outer) [] H H' s.heap s'.heap/\HOk P w H' s'.heap/\ExcAt s.heap s'.heap H' x C/\E C none H'
theorem aO {P:Program} {w:World} {X:Cx}:kN (eP P w) X E0:=fun _ _ _ _ _ _ _ ⟨_,_,_,_,_,_,_,_,_,h⟩=>h.elim
section
variable {P:Program} {w:World} {K:W.Frag} {mg:Str->Option Value} {base:Heap}
theorem Vp {X:Cx} {pins:List (Addr × Obj)} {σ:L2.St} {H':Hp} {s':Shared} {h' h₁:Heap} (I':Inv X pins σ H' s')
  (k:∀ b o,s'.heap.get? b = some o->(h₁.get? b ≠ none\/H' b ≠ none)->b ∉ pD X.stack->h'.get? b = some o):HOk X.prog X.w H' h':=fun a o e =>
 (I'.hok a o e).stay (fun b u hb q=>by
  have t:H' b ≠ none:=by
   rcases hb with z | z
   ·rw [z,e]; simp
   ·rw [z]; simp
  exact k b u q (.inr t) fun hm=>t (I'.stkFree b hm)) (fun _ q=>q) fun _ _ q=>q
theorem bX {N:List Str} {qual:Str} {scope:Scope} {f:Addr} {cdv:Value} {A:Around} {outer:List Env} {s₀:Shared} {H₀:Hp} {E:XK} :
  kN (eP P w) (pH (eP P w) P w K mg base N qual scope f cdv A outer s₀ H₀ E) E:=by
 intro pins σ H s e s' I hc;obtain ⟨x,C,H',rfl,ho,hg,u,hok,hx,hE⟩:=hc;have I':Inv (pH (eP P w) P w K mg base N qual scope f cdv A outer s₀ H₀ E) pins σ H' s':=I.call' ho u hok hg (fun b z=>absurd z (by simp));have there:∀ b o,s₀.heap.get? b = some o->∃ o',s.heap.get? b = some o':=fun b o e=>I.base.there b o e (by intro z; exact absurd (show b∈([]:List Addr) from z) (by simp));show wpAny (model P w) _ (leaving _ (.ref x)) _ _ s';refine Av (h₀:=s.heap) (H:=H') (C:=C) (base:=base) I'.ok.frames I'.stack rfl hx (fun b o e=>u.there b o e (by simp)) (fun b o e=>Gh (hok b o e)) fun h' kp sl hx'=>?_;have noex:∀ b:Addr,b ∉ (pH (eP P w) P w K mg base N qual scope f cdv A outer s₀ H₀ E).ex:=fun b z=>absurd (show b∈([]:List Addr) from z) (by simp);have neL:∀ b o,s₀.heap.get? b = some o->b ∉ pD outer->b ∉ pD (envOfC qual scope s₀.heap.objs.size f cdv :: outer):=fun b o e hb hm=>by
  rcases mem_cons.mp (I'.stkSub b hm) with z | z
  ·exact absurd (z ▸ lt_size e) (Nat.not_lt.mpr I'.ok.above)
  ·exact hb z
 refine ⟨x,C,H',rfl,I'.os,I'.bare,⟨fun b o e n hb _=>?_,fun b o e n hb _=>?_,fun b o e n _=>I'.base.free b o e n (noex b),fun b o e _=>?_,I'.base.tups,I'.base.frzs,I'.base.tbls⟩,Vp I' kp,hx'.older (fun b q=>?_),hE⟩
 ·obtain ⟨o',e'⟩:=there b o e;exact kp b o (I'.base.keep b o e n hb (noex b)) (.inl (by rw [e']; simp)) (neL b o e hb)
 ·obtain ⟨sl1,e1⟩:=I'.base.slot b o e n hb (noex b)
  obtain ⟨sl2,e2⟩:=sl b _ e1 (by
   obtain ⟨env,h1,h2⟩:=mem_filterMap.mp hb
   exact Gk (mem_cons_of_mem _ h1) h2)
  exact ⟨sl2,e2⟩
 ·obtain ⟨o1,e1⟩:=I'.base.there b o e (noex b);by_cases hm:b∈pD (envOfC qual scope s₀.heap.objs.size f cdv :: outer)
  ·obtain ⟨sl2,e2⟩:=sl b _ e1 hm;exact ⟨_,e2⟩
  ·obtain ⟨o',e'⟩:=there b o e;exact ⟨_,kp b o1 e1 (.inl (by rw [e']; simp)) hm⟩
 ·cases q2:s₀.heap.get? b with
  | none=>rfl
  | some o =>
   obtain ⟨o',e'⟩:=there b o q2;rw [q] at e'; cases e'
theorem okE {x qual:Str} {st:Stmt} {f:Addr} {fd:FuncData} {N ps:List Str} {k:Nat} {sp:Sp} (F:Fun K x qual st f fd) (S:FnScope N ps (aR st)) (len:∀ vs H Q E,sp vs H Q E->vs.length = ps.length)
  (hbody:∀ (cdv:Value) (A:Around) (outer:List Env) (s:Shared) (H:Hp) (vs:List V) (Q:VK) (E:XK),Room k (A.deeper (envOfC qual (aR st) s.heap.objs.size f cdv))->sp vs H Q E ->
   ∃ t,Ii (pH (eP P w) P w K mg base N qual (aR st) f cdv A outer s H E) (fR st) t/\t { nx:=fun _ H'=>Q .non H',rt:=Q } (start N vs) H):FnOk P w K mg base (eP P w) (k + 1) f fd ps sp:=by
 obtain ⟨oc,od,kV,doc,pm,an,cdv,ct,osl,rfl,lk,hcd⟩:=F.ex;exact aKb lk hcd S len fun A outer s H vs Q E hr hsp=>hbody cdv A outer s H vs Q E hr hsp
end
abbrev aMo:List Value:=[.type "ValueError",.type "Exception",.type "BaseException",.type "object"]
theorem Uw {K:W.Frag} {h:Heap} {C:Addr} {bmB:List Value} {newId:String} (KI:K.In h) (q:W.excIn K C bmB newId = true) :
  ∃ bm N nm qn bs hdct sn sub ab col dd k0 k1 k2 k3 k5 mN,h.get? C = some (excClassObj nm qn C N bs bm hdct sn sub ab col dd k0 k1 k2 k3 k5 newId)/\h.Ns N mN/\mN "__init__" = none/\OwnTail h bmB bm:=by
 unfold W.excIn at q;split at q
 ·rename_i dct cdat slts hlook
  split at q
  ·rename_i Cx bmx s0 s1 s2 s3 nw s5 hmr hsl
   simp only [and_eq_true,beq_iff_eq,not_eq_true'] at q;obtain ⟨⟨⟨⟨⟨q1,q2⟩,q3⟩,q4⟩,q5⟩,q6⟩:=q;subst q1; subst q2;obtain ⟨f1,f2,f3,f4,f5,f6,f7,f8,f9,f10,f11⟩:=cdat;dsimp only at hmr q3 q5 q6;subst hmr; subst q3;obtain ⟨sl⟩:=slts;dsimp only at hsl;subst hsl;exact ⟨bmx,f4,f1,f5,f2,f6,f7,f8,f9,f10,dct,s0,s1,s2,s3,s5,_,KI _ _ hlook,.of_isNs (W.isNs_of_in KI q5),W.nsMap_none_of_in KI q5 q6,W.tail_of_in KI q4⟩
  ·cases q
 ·cases q
structure ExcCl (K:W.Frag) (mg:Str->Option Value) (x:Str) (C:Addr):Prop where
 ex:W.excIn K C aMo "ValueError.__new__" = true
 mgx:mg x = some (.ref C)
def Lr (E:XK) (C:Addr) (t:TA):TS:=fun _ σ H=>t σ H fun vs H1=>vs.length<=sizeLine/\E (.ref C) none H1
section
variable {X:Cx} {P:Program} {w:World} {E:XK} {x:Str} {C:Addr} {np cpos pos:Pos} {e:Expr} {es:List Expr} {t:TA}
theorem cU (O:ExcCl X.K X.mg x C) (hh:X.A.handled = none) (hx:kN (eP X.prog X.w) X E) (hg:Gl X x) (ha:PA X (e :: es) t) (hd:(x == ("__debug__":Str)) = false:=by decide)
  (he:starEach (e :: es) X.env = (false,eval e X.env) :: starEach es X.env:=by rfl) (hpl:(backTo cpos (starEach es X.env)).any (·.1) = false:=by rfl) :
  PS X (.Raise (some (.Call (.Name x np) (e :: es) [] cpos)) none pos) (Lr E C t):=by
 intro pins s σ H D I h;obtain ⟨bm,N,nm,qn,bs,hdct,sn,sub,ab,col,dd,k0,k1,k2,k3,k5,mN,hC,hN,hni,T⟩:=Uw I.ok.mod.kin O.ex;refine wpAny_Raise_call_subU (C:=C) (nm:=nm) (q:=qn) (N:=N) (bs:=bs) (bm:=bm) (hdct:=hdct) (sn:=sn) (sub:=sub) (ab:=ab) (col:=col) (dd:=dd) (k0:=k0) (k1:=k1) (k2:=k2) (k3:=k3) (k5:=k5)
  F.excBase_ValueError (by decide +kernel) F.excBase_ValueError (mN:=mN) (T.hasType F.excBase_ValueError.hasBase) hh (by rw [he]; show (false || (backTo cpos (starEach es X.env)).any (·.1)) = false; rw [hpl]; rfl) hni (qT I hg O.mgx ⟨rfl,?_⟩ hd)
 have ha1:=eU (ha cpos pins s σ H _ I h) (Q':=fun vs s₂=>vs.length<=sizeLine/\(∀ b o,X.base.get? b = some o->s₂.heap.get? b = some o)/\∀ h' e,Heap.MadeExcOf s₂.heap h' e (.ref C) vs->X.xe (.ref e) { s₂ with heap:=h' }) (fun us s2 ⟨vs,H1,I1,r,z,q⟩=>⟨by rw [<- r.length]; exact z,I1.bk,fun h' e M=>?_⟩)
 ·rw [he] at ha1 ⊢;exact Calls.evalArgs_plain (wpAny_mono ha1 (fun vs s₂ h₂=>⟨rfl,h₂.1,h₂.2.1 _ _ hC,hN.keeps h₂.2.1,T.keeps h₂.2.1,h₂.2.2⟩) fun _ _ y=>y)
 ·refine hx pins σ H1 s2 (.ref e) _ I1 ⟨e,.ref C,H1,rfl,rfl,I1.bare,Un.kept M.keeps,I1.hok.kept M.keeps,?_,q⟩;obtain ⟨tt,t1,t2,t3⟩:=M.there;refine ⟨_,_,t1,rfl,rfl,?_,M.new,.inl rfl⟩;cases z:H1 e with
  | none=>rfl
  | some o =>
   obtain ⟨u,hu⟩:=Gh (I1.hok e o z);rw [M.new] at hu; cases hu
end
abbrev XS:=L2.St->XK
abbrev TSX:=Ends->XS->L2.St->Hp->Prop
def Up (X:Cx) (pins:List (Addr × Obj)) (E:XS) (e:Value) (s':Shared):Prop :=
 ∃ (x:Addr) (C:Value) (σ':L2.St) (H':Hp) (h₁:Heap),e = .ref x/\Inv X pins σ' H' s'/\ExcAt h₁ s'.heap H' x C/\(∀ b o,h₁.get? b = some o->∃ u,s'.heap.get? b = some u) /\
  (∀ b o,X.s₀.heap.get? b = some o->b ∉ X.ex->∃ u,h₁.get? b = some u)/\(∃ u,h₁.get? X.env.locals = some u)/\(∀ p∈X.pn ++ pins,∃ u,h₁.get? p.1 = some u)/\(∀ x c,X.env.cells.lookup x = some c->∃ u,h₁.get? c = some u)/\E σ' C none H'
section
variable {X:Cx} {pins:List (Addr × Obj)} {σ:L2.St} {H:Hp} {s:Shared} {x:Addr}
structure Old (X:Cx) (pins:List (Addr × Obj)) (h₁:Heap):Prop where
 s0:∀ b o,X.s₀.heap.get? b = some o->b ∉ X.ex->∃ u,h₁.get? b = some u
 lo:∃ u,h₁.get? X.env.locals = some u
 pn:∀ p∈X.pn ++ pins,∃ u,h₁.get? p.1 = some u
 ce:∀ x c,X.env.cells.lookup x = some c->∃ u,h₁.get? c = some u
end
theorem Ie {i:Int} {n:Nat} (h:i.natAbs < 2 ^ n):Builtin.Int.intBits i<=n:=by
 unfold Builtin.Int.intBits;split
 ·exact zero_le _
 ·rcases Nat.eq_zero_or_pos i.natAbs with h0 | hp
  ·rename_i hne
   exact absurd (Int.natAbs_eq_zero.mp h0) (by simpa using hne)
  ·have:=(log2_lt (ne_of_gt hp)).mpr h;omega
def Wee (i:Int):Prop:=i.natAbs < 2 ^ 8000
theorem Wee.bits {i:Int} (h:Wee i):Builtin.Int.intBits i<=8000:=Ie h
theorem dQ {i j:Int} (hi:Wee i) (hj:Wee j):IntMulOk i j:=IntMulOk.of_le hi.bits hj.bits (by decide)
theorem Ai {i j:Int} (hi:Builtin.Int.intBits i<=10000000) (hj:Wee j):IntMulOk i j:=IntMulOk.of_le hi hj.bits (by decide)
theorem Ev {i:Int} (h:Wee i):i.natAbs.log2 < 9000:=by
 rcases Nat.eq_zero_or_pos i.natAbs with h0 | hp
 ·rw [h0]; decide
 ·have:=(log2_lt (ne_of_gt hp)).mpr h;omega
def aLw (i j:Int):Prop:=IntMulOk i j
def Im (i j:Int):Prop:=0 < j/\Wee j
def aLx (i j:Int):Prop:=j ≠ 0/\Wee j
section
variable {X:Cx}
theorem bV:mL X (binaryOp .Mult) (rI aLw fun i j=>.int (i * j)):=opI fun _ _ _ _ _ _ _ hc q=>mul_int q hc
theorem Ac:mL X (binaryOp .FloorDiv) (rI aLx fun i j=>.int (i.fdiv j)):=opI fun _ _ _ _ _ _ _ hc q=>floordiv_int hc.1 q (.inl (PyProof.noPylong_of_log2 (Ev hc.2)))
theorem dY:mL X (binaryOp .FloorDiv) (rI Im fun i j=>.int (i / j)):=opI fun i j _ _ _ _ _ hc q=>by
 have h0:(0:Int) < j:=hc.1;refine floordiv_int (Int.ne_of_gt h0) ?_ (.inl (PyProof.noPylong_of_log2 (Ev hc.2)));rw [fdiv_eq_ediv_of_nonneg _ (Int.le_of_lt h0)];exact q
end
theorem bits_of_lay {ns:List Int} (h:W.WData.layableAll [W.WData.list (ns.map W.WData.int)] = true):∀ v∈ns,Builtin.Int.intBits v<=1048576:=fun v hv=>by
 have h1:=W.layableW_arg h _ (mem_singleton.mpr rfl);have h2:=W.layableW_item h1 (W.WData.int v) (mem_map.mpr ⟨v,hv,rfl⟩);obtain ⟨_,_,h3⟩:=W.layableW_iff.mp h2;have e:(2:Nat) ^ 20 = 1048576:=by decide
 rw [e] at h3;simpa only [W.WData.weight,Builtin.Int.intBits] using h3
end Lx
namespace Att
open PySem PySem.W PySem.Calls PyProof.Rows
theorem attachB {l:OpenLaw} {n:Nat} {q:Program} {loose:List Str} {XP:(Str->Option Value)->Heap->Prop} {YP:World->Heap->Prop} {d:DefRec}
  (hn:l.most = some n) (hdf:d.params.defaults = [])
  (call:∀ (w:World) (s₀ s₁:Shared) (mg mb:Str->Option Value) (fa:Addr) (o:Obj) (pm cd doc:Value) (a:Addr) (vs:List Value) (ns:List Int),
   Ground q loose [] XP w s₀ mg mb s₁.heap->YP w s₁.heap ->
   s₁.heap.get? fa = some o->o.data = .func (docDef d.name d.params d.body d.scope pm cd doc)->s₁.heap.CodeRec cd d.name->mg d.name = some (.ref fa) ->
   s₁.heap.get? a = some { cls:=.type "list",data:=.seq vs.toArray }->IntsAre vs ns->ns.length<=n->(∀ v∈ns,Builtin.Int.intBits v<=1048576)->s₁.gens = #[] ->
   codeAny (model l.prog w) callerA (.call (.ref fa) ⟨[.ref a],[]⟩) (fun r s'=>r = .ok (.ret (.bool true))/\OldK s₁.heap s'.heap/\s'.os = s₁.os/\AllBare s'.gens) s₁) :
  WalkO q loose XP YP l.row.toRowW d [] (fun f vs=>PySem.call f vs):=by
 intro w s₀ s₁ mg mb G Y fa o pm cd doc dV kV ho hd hcd hD hmg hg args vals as hpre hlay hrd hwl hlo;obtain rfl:dV = .none:=Dflts.none hD hdf;obtain rfl:kV = .none:=Dflts.noKw hD;obtain ⟨a,vs,ns,rfl,rfl,hobj,hints,hlen⟩:=Jg hn hpre hwl;refine enter_call (codeAny_mono (call w s₀ s₁ mg mb fa o pm cd doc a vs ns G Y ho (fd_plain hd) hcd hmg hobj hints hlen (Lx.bits_of_lay hlay) hg) fun r s' hq=>?_);obtain ⟨rfl,h2,h3,h4⟩:=hq;exact ⟨.inl ⟨.bool true,.bool true,[],rfl,fun _=>rfl,.bool true,Jn l _,fun _=>⟨Pairwise.nil,fun _ hm=>(nomatch hm)⟩⟩,h2,h3,h4⟩
end Att
namespace Lx
open PySem PySem.Spec PyProof.Rows L2
def Fh (K:W.Frag):Sp:=fun vs H Q _=>∃ (a:Addr) (ns:List Int),vs = [.ref a]/\SqL K H a (ns.map V.int)/\ns.length<=63/\(∀ v∈ns,Builtin.Int.intBits v<=1048576)/\aGe H/\∀ H',Q (.bl true) H'
theorem walkB {l:W.OpenLaw} {k:Nat} {q:Program} {loose:List Str} {XP:(Str->Option Value)->Heap->Prop} {YP:World->Heap->Prop} {d:DefRec} {K:Params->W.Frag}
  (hn:l.most = some 63) (hdf:d.params.defaults = []) (hr:Room k callerA)
  (hY:∀ (w:World) (h:Heap),YP w h->(K w.params).In h)
  (F:∀ (w:World) (mg:Str->Option Value) (fa:Addr) (h:Heap),(K w.params).In h->h.Ns mainGlobals mg->mg d.name = some (.ref fa) ->
   ∃ fd:FuncData,(∀ (s:Shared) (u:Value),BindsTo s fd ⟨[u],[]⟩ [("script",u)]) /\
    ∀ base:Heap,(K w.params).In base->base.Ns mainGlobals mg->FnOk l.prog w (K w.params) mg base (eP l.prog w) k fa fd ["script"] (Fh (K w.params))) :
  W.WalkO q loose XP YP l.row.toRowW d [] (fun f vs=>PySem.call f vs):=by
 refine Att.attachB hn hdf fun w s₀ s₁ mg mb fa o pm cd doc a vs ns G Y ho hd hcd hmg hobj hints hlen hbits hg=>?_;have KX:=hY w _ Y;obtain ⟨fd,hb,hF⟩:=F w mg fa _ KX G.T.g hmg;exact Qh KX G.T.g G.T.b G.T.builtins G.T.nolimit hg hobj hints (le_trans hlen (by decide)) hr hF hb (fun H hO hS=>⟨a,ns,rfl,hS,hlen,hbits,hO,fun _=>rfl⟩) fun H e s' ⟨_,_,_,_,_,_,_,_,_,h⟩=>h
def Its (lo st:Int) (n:Nat):It:=⟨fun i _=>i < n,fun i H x H'=>H' = H/\x = .int (lo + i * st),fun i _=>n<=i⟩
theorem zB {P:Program} {w:World} {K:PySem.W.Frag} {tg:Expr} (it:Addr) (lo st:Int) (n:Nat):Turn P w K tg (Its lo st n) [it] it (fun i h=>IsRangeIter h it (lo + (i:Nat) * st) ((n:Int) - (i:Nat)) st) where
 mem:=by simp
 obj:=fun i h z b hb=>by
  have e:b = it:=by simpa using hb
  subst e
  exact ⟨_,z,fun v y=>by
   have y':Data.fields _ = Data.cell v:=y
   cases y'⟩
 keep:=fun i h h' z k=>k it (by simp) _ z
 item:=by
  intro X hP hw hK hc i pins s σ H E I hf z hg;subst hP hw hK;obtain ⟨f0,f1,f2,f3,f4,f5⟩:=hf it (by simp);have W:=Walks.range (prog:=X.prog) (w:=X.w) (I.ok.hd hc) it lo st n;refine W.item i s _ _ hg z fun v h' tk hv z' kk=>?_;obtain ⟨t,rfl⟩:=hv;have I1:Inv X pins σ H { s with heap:=h',toks:=tk }:=I.turned (fun b o hb e=>kk b o (by simpa using hb) e) f0 f1 f3 f4 f5;exact ⟨_,rfl,vL (s:={ s with heap:=h',toks:=tk }) (n:="range_iterator") z' rfl rfl (by decide) ⟨.int (lo + i * st),H,I1,⟨t,rfl⟩,⟨rfl,rfl⟩,z',fun b hb=>(hf b hb).1⟩⟩
 done:=by
  intro X hP hw hK hc i pins s σ H E I hf z hg;subst hP hw hK;obtain ⟨f0,f1,f2,f3,f4,f5⟩:=hf it (by simp);exact wpAny_pyNext_range_end (I.ok.hd hc) z (by have:n<=i:=hg; omega) fun h' eb=>⟨rfl,I.turned (t':=s.toks) (fun b o hb e=>eb b o hb e) f0 f1 f3 f4 f5⟩
 self:=fun _ _ _ _ _ z h=>wpAny_pyIter_rangeiter z h
section
variable {X:Cx} {tg:Expr}
theorem Jk {pins:List (Addr × Obj)} {σ:L2.St} {H:Hp} {s:Shared} {R:It->Hp->Prop} {E:Value->Shared->Prop} {lo hi st:Int} {n:Nat} {t u v:Tok} {tk:Nat} (I:Inv X pins σ H s) (hsm:Builtin.Range.small lo hi st = true) (hn:Builtin.Range.rangeSize lo hi st = (n:Int))
  (q:R (Its lo st n) H):wpAny (model X.prog X.w) X.A (pyIter (.ref s.heap.objs.size)) (PIE X pins σ tg R) E { s with heap:=s.heap.push { cls:=.type "range",data:=.fields #[.int lo t,.int hi u,.int st v] },toks:=tk }:=by
 refine wpAny_pyIter_range (IsRange.new ..) hsm ?_;have I1:Inv X pins σ H { s with heap:=s.heap.push { cls:=.type "range",data:=.fields #[.int lo t,.int hi u,.int st v] },toks:=tk }:=I.kept fun b o e=>get?_push_of_some _ e
 refine ⟨(s.heap.push { cls:=.type "range",data:=.fields #[.int lo t,.int hi u,.int st v] }).objs.size,[(s.heap.push { cls:=.type "range",data:=.fields #[.int lo t,.int hi u,.int st v] }).objs.size],_,_,H,rfl,
  I1.kept (t':=tk) fun b o e=>get?_push_of_some _ e,zB _ lo st n,?_,fun b hb=>?_,q⟩
 ·have e1:lo + ((0:Nat):Int) * st = lo:=by simp
  have e2:(n:Int) - ((0:Nat):Int) = Builtin.Range.rangeSize lo hi st:=by rw [hn]; simp
  show IsRangeIter _ _ (lo + ((0:Nat):Int) * st) ((n:Int) - ((0:Nat):Int)) st;rw [e1,e2];exact get?_push_size _ rfl
 ·have e:b = (s.heap.push { cls:=.type "range",data:=.fields #[.int lo t,.int hi u,.int st v] }).objs.size:=by simpa using hb
  subst e;exact I1.fpOk (le_refl _) (I1.hok.fresh (le_refl _))
def Xt (ta:TA):TI:=fun σ H R=>ta σ H fun vs H1=>∃ (i j k:Int),vs = [.int i,.int j,.int k]/\∃ n:Nat,k ≠ 0/\k.natAbs < 1000000/\Builtin.Range.small i j k = true/\Builtin.Range.rangeSize i j k = (n:Int)/\R (Its i k n) H1
theorem Jo {a b c:Expr} {ta:TA} {p pos:Pos} (hg:Gl X "range") (hm:X.mg "range" = none) (ha:PA X [a,b,c] ta) (hs:starEach [a,b,c] X.env = [(false,eval a X.env),(false,eval b X.env),(false,eval c X.env)]:=by rfl) (hs2:starEach [b,c] X.env = [(false,eval b X.env),(false,eval c X.env)]:=by rfl) :
  PI X tg (.Call (.Name "range" p) [a,b,c] [] pos) (Xt ta):=by
 intro pins s σ H R I h;refine Call_ (jL I hg hm boot_range (PyProof.Rows.callWith_type1 (eU (ha pos pins s σ H _ I h) fun us s1 ⟨vs,H1,I1,r1,q1⟩=>?_) (by rw [hs,hs2]) (by rw [hs2]; rfl)));obtain ⟨i,j,k,e,n,q1,q2,q3,q4,q⟩:=q1;subst e;cases r1 with
 | cons r rr =>
  cases rr with
  | cons r' rr =>
   cases rr with
   | cons r'' rr =>
    cases rr;obtain ⟨t,rfl⟩:=r;obtain ⟨t',rfl⟩:=r';obtain ⟨t'',rfl⟩:=r'';exact call_range_3 q1 (Jk I1 q3 q4 q) (Or.inl (PyProof.noPylong_small (by omega)))
end
theorem Jj {i j k:Int} (hi:-(2 ^ 40) < i/\i < 2 ^ 40) (hj:-(2 ^ 40) < j/\j < 2 ^ 40) (hk:0 < k/\k < 1000000):Builtin.Range.small i j k = true:=by
 unfold Builtin.Range.small Builtin.Range.rangeSize;have h1:∀ z:Int,0<=z->z / k<=z:=fun z hz=>Int.ediv_le_self _ hz;have h2:∀ z:Int,0<=z->0<=z / k:=fun z hz=>Int.ediv_nonneg hz (by omega);have hk0:k > 0:=hk.1;simp only [Builtin.Range.rangeFitsLong,and_eq_true,Bool.or_eq_true,decide_eq_true_eq,beq_iff_eq,hk0,if_true];split
 ·have a1:=h1 (j - i - 1) (by omega);have a2:=h2 (j - i - 1) (by omega);generalize (j - i - 1) / k = z at a1 a2 ⊢;omega
 ·omega
section
variable {prog:Program} {w:World} {A:Around} {R:Result->Shared->Prop} {s:Shared}
theorem Vq {elt target iter:Expr} {ifs:List Expr} {scope:Scope} {pos:Pos} {it acc:Value} {cenv:Env} (J:Nat->Shared->Prop)
  (turn:∀ n s,J n s->∀ E':Value->Shared->Prop,wpAny (model prog w) A (pyNext it) (fun r sa=>match r with
   | none=>R (.ok .next) sa
   | some v=>wpAny (model prog w) A (letOwnedTupleGo target it v) (fun _ sb=>wpAny (model prog w) A (assign target cenv v) (fun _ sc =>
     wpAny (model prog w) A (forIn ifs true fun c r=>if r = true then do let ok <- isTrue c cenv (eval c cenv); pure (ForInStep.yield ok) else pure (ForInStep.yield r)) (fun ok sd =>
      if ok = true then wpAny (model prog w) A (eval elt cenv) (fun x se =>
       wpAny (model prog w) A (call (.builtin "list.append") [acc,x]) (fun _ sf=>∃ m,m < n/\J m sf) E' se) E' sd
      else ∃ m,m < n/\J m sd) E' sc) E' sb) E' sa) E' s)
  (n:Nat) (h:J n s):codeAny (model prog w) A (.compLoop (.ListComp elt [⟨target,iter,ifs,0⟩] scope pos) 0 it acc cenv) R s:=by
 refine codeAny_loop rfl J (fun k sk hJ=>?_) n h;show wpAny _ A ((compTurn (.ListComp elt [⟨target,iter,ifs,0⟩] scope pos) 0 it acc cenv).onRaise (fun y=>do noteFrame y cenv; theTreesLotGoes y)) _ _ sk;refine wpAny_noted ?_;rw [compTurn_list];refine wpAny_bind (wpAny_standAt (wpAny_bind (wpAny_mono (turn k sk hJ _) (fun r sa ha=>?_) fun _ _ z=>z)));cases r with
 | none=>exact wpAny_pure ha
 | some v =>
  refine wpAny_bind (wpAny_mono ha (fun _ sb hb=>wpAny_bind (wpAny_mono hb (fun _ sc hc=>wpAny_bind (wpAny_mono hc (fun ok sd hd=>?_) fun _ _ z=>z)) fun _ _ z=>z)) fun _ _ z=>z);cases ok with
  | false=>exact wpAny_pure ⟨rfl,hd⟩
  | true=>exact wpAny_bind (wpAny_bind (wpAny_mono hd (fun x se he=>wpAny_bind (wpAny_mono he (fun _ sf hf=>wpAny_pure (wpAny_pure ⟨rfl,hf⟩)) fun _ _ z=>z)) fun _ _ z=>z))
end
def tW (X:Cx) (scope:Scope) (cl:List (Str × Addr)) (NC:List Str) (C:Addr) (s₀:Shared) (H₀:Hp) (fp:List Addr):Cx where
 prog:=X.prog
 w:=X.w
 K:=X.K
 mg:=X.mg
 base:=X.base
 A:=X.A
 N:=NC
 s₀:=s₀
 H₀:=H₀
 env:=compEnvC scope cl C X.env
 outer:=X.stack
 stack:=X.stack
 ex:=fp
 fn:=fun _=>false
 calm:=X.calm
 pn:=[]
 xe:=fun _ _=>False
def CapsOk (X:Cx) (scope:Scope) (cl:List (Str × Addr)):List (Option Nat)->List Str->Prop
 | [],[]=>True
 | none :: cs,_ :: ns=>CapsOk X scope cl cs ns
 | some i :: cs,y :: ns=>(∃ c,X.N[i]? = some y/\X.env.scope.names.lookup y = some .cell/\cl.lookup y = some c/\X.env.cells.lookup y = some c/\(relabel scope X.env).names.lookup y = some .cell)/\CapsOk X scope cl cs ns
 | _,_=>False
theorem CapsOk.at {X:Cx} {scope:Scope} {cl:List (Str × Addr)}:∀ {cs:List (Option Nat)} {ns:List Str} {j i:Nat} {y:Str},CapsOk X scope cl cs ns->cs[j]? = some (some i)->ns[j]? = some y ->
  ∃ c,X.N[i]? = some y/\X.env.scope.names.lookup y = some .cell/\cl.lookup y = some c/\X.env.cells.lookup y = some c/\(relabel scope X.env).names.lookup y = some .cell
 | [],_,j,i,y,_,e,_=>by simp at e
 | none :: cs,[],_,_,_,h,_,_=>False.elim h
 | some _ :: cs,[],_,_,_,h,_,_=>False.elim h
 | none :: cs,_ :: ns,0,i,y,h,e,_=>by simp at e
 | none :: cs,_ :: ns,j + 1,i,y,h,e,e'=>CapsOk.at (cs:=cs) (ns:=ns) (j:=j) h (by simpa using e) (by simpa using e')
 | some k :: cs,z :: ns,0,i,y,h,e,e'=>by
  have e1:k = i:=by simpa using e
  have e2:z = y:=by simpa using e'
  subst e1; subst e2;exact h.1
 | some k :: cs,z :: ns,j + 1,i,y,h,e,e'=>CapsOk.at (cs:=cs) (ns:=ns) (j:=j) h.2 (by simpa using e) (by simpa using e')
theorem CapsOk.len {X:Cx} {scope:Scope} {cl:List (Str × Addr)}:∀ {cs:List (Option Nat)} {ns:List Str},CapsOk X scope cl cs ns->cs.length = ns.length
 | [],[],_=>rfl
 | [],_ :: _,h=>False.elim h
 | none :: cs,[],h=>False.elim h
 | some _ :: cs,[],h=>False.elim h
 | none :: cs,_ :: ns,h=>congrArg (· + 1) (CapsOk.len (cs:=cs) (ns:=ns) h)
 | some _ :: cs,_ :: ns,h=>congrArg (· + 1) (CapsOk.len (cs:=cs) (ns:=ns) h.2)
def capσ (cap:List (Option Nat)) (σ:L2.St):L2.St:=cap.map fun o=>o.bind fun i=>(σ[i]?).bind id
def PTs (X:Cx) (ifs:List Expr) (t:TT):Prop :=
 ∀ (pins:List (Addr × Obj)) (s:Shared) (σ:L2.St) (H:Hp) (Q:Bool->Hp->Prop),Inv X pins σ H s->t σ H Q ->
  wpAny (model X.prog X.w) X.A (forIn ifs true fun c r=>if r = true then do let ok <- isTrue c X.env (eval c X.env); pure (ForInStep.yield ok) else pure (ForInStep.yield r)) (TP X pins σ Q) X.xe s
def aHo:TT:=fun _ H Q=>Q true H
theorem cC {X:Cx}:PTs X [] aHo:=fun _ _ _ H _ I h=>wpAny_tests_nil ⟨H,I,h⟩
theorem Fy {X:Cx} {c:Expr} {t:TT} (h:PT X c t):PTs X [c] t:=fun pins s σ H Q I q=>wpAny_tests_one (h pins s σ H Q I q)
def tLC (wi:TI) (cap:List (Option Nat)) (g:TG) (tt:TT) (te:TE):TE:=fun σ H Q=>wi σ H fun J H1=>∀ D,H1 D = none ->
 ∃ W:Nat->Nat->L2.St->Hp->Prop,(∃ m,W 0 m (capσ cap σ) (eT H1 D (.lst [])))/\∀ i m σc Hc,W i m σc Hc ->
  (J.stop i Hc/\Q (.ref D) Hc)\/(J.go i Hc/\∃ N:L2.St->Hp->Prop,(∀ σ' H',N σ' H'->∃ m',m' < m/\W (i + 1) m' σ' H')/\∀ x H',J.yld i Hc x H'->g x σc H' fun σ2 H2=>tt σ2 H2 fun b H3 =>
   if b = true then te σ2 H3 fun y H4=>∃ ys,H4 D = some (.lst ys)/\ys.length < sizeLine/\N σ2 (eT H4 D (.lst (ys ++ [y]))) else N σ2 H3)
structure LcOk (X:Cx) (scope:Scope) (cl:List (Str × Addr)) (cap:List (Option Nat)) (NC:List Str):Prop where
 clos:closureFor scope X.env = pure cl
 kind:scope.kind = .function
 nocell:∀ x∈scope.names,x.2 ≠ .cell
 names:∀ x∈scope.names,x.2 = .local->scope.names.lookup x.1 = some .local
 caps:CapsOk X scope cl cap NC
 cells:∀ p∈cl,X.env.cells.lookup p.1 = some p.2
 has:((relabel scope X.env).names.all fun p=>(p.2 != .cell && p.2 != .free) || (cl.lookup p.1).isSome) = true
section
variable {X:Cx} {elt target iter:Expr} {ifs:List Expr} {scope:Scope} {pos:Pos} {wi:TI} {cap:List (Option Nat)} {NC:List Str} {cl:List (Str × Addr)} {g:TG} {tt:TT} {te:TE}
theorem jR (L:LcOk X scope cl cap NC) {x:Str} {c:Addr} (h:cl.lookup x = some c):X.env.cells.lookup x = some c:=L.cells (x,c) (PySem.mem_of_lookup h)
theorem Aw {pins:List (Addr × Obj)} {σ:L2.St} {s₂:Shared} {H2:Hp} {it:Addr} {fp:List Addr} {tn:Nat->Heap->Prop} {J:It} {Z:Value->Addr->Result->Shared->Prop} {G:V->Hp->Prop}
  (hc:X.calm = true) (L:LcOk X scope cl cap NC) (hg:∀ C s₀ H₀ fp,PG (tW X scope cl NC C s₀ H₀ fp) target g) (ht:∀ C s₀ H₀ fp,PTs (tW X scope cl NC C s₀ H₀ fp) ifs tt) (he:∀ C s₀ H₀ fp,PE (tW X scope cl NC C s₀ H₀ fp) elt te)
  (I2:Inv X pins σ H2 s₂) (T:Turn X.prog X.w X.K target J fp it tn) (st2:tn 0 s₂.heap) (f2:∀ b∈fp,kT X pins H2 b)
  (hW:∀ D,H2 D = none->∃ W:Nat->Nat->L2.St->Hp->Prop,(∃ m,W 0 m (capσ cap σ) (eT H2 D (.lst [])))/\∀ i m σc Hc,W i m σc Hc ->
   (J.stop i Hc/\G (.ref D) Hc)\/(J.go i Hc/\∃ N:L2.St->Hp->Prop,(∀ σ' H',N σ' H'->∃ m',m' < m/\W (i + 1) m' σ' H')/\∀ x H',J.yld i Hc x H'->g x σc H' fun σ2 H2=>tt σ2 H2 fun b H3 =>
    if b = true then te σ2 H3 fun y H4=>∃ ys,H4 D = some (.lst ys)/\ys.length < sizeLine/\N σ2 (eT H4 D (.lst (ys ++ [y]))) else N σ2 H3))
  (hZ:∀ (D C:Addr) (Hc:Hp) (s':Shared) (m:Str->Option Value),s'.heap.Ns C m->(∀ h',SameBut C s'.heap h'->∀ t',Inv X pins σ Hc { s' with heap:=h',toks:=t' })->kT X pins Hc C->G (.ref D) Hc->Z (.ref D) C (.ok .next) s') {E:Value->Shared->Prop} :
  wpAny (model X.prog X.w) X.A (newList []) (fun acc s₃=>wpAny (model X.prog X.w) X.A (newFunctionEnv scope X.env.globals cl [] X.env.qual none .none (some X.env)) (fun cenv s₄ =>
   codeAny (model X.prog X.w) X.A (.compStart (.ListComp elt [⟨target,iter,ifs,0⟩] scope pos) 0 (.ref it) acc { cenv with scope:=relabel scope X.env }) (Z acc cenv.locals) s₄) E s₃) E s₂:=by
 refine wpAny_newObj_type (wpAny_newFunctionEnv L.nocell (by intro y hy; simp at hy) (fun h₁ hns₁ hsb₁=>?_) L.kind);dsimp only at hns₁ hsb₁ ⊢;have nD:H2 s₂.heap.objs.size = none:=I2.hok.fresh (le_refl _);have I3:Inv X pins σ (eT H2 s₂.heap.objs.size (.lst [])) { s₂ with heap:=s₂.heap.push { cls:=.type "list",dict:=none,data:=.seq ([]:List Value).toArray } }:=by
  refine I2.laid (t':=s₂.toks) (fun b u e=>get?_push_of_some _ e) (le_refl _) ?_;exact ⟨zero_le _,[],0,.nil,get?_push_size _ rfl⟩
 obtain ⟨W,⟨m0,w0⟩,turn⟩:=hW s₂.heap.objs.size nD;generalize hD:s₂.heap.objs.size = D at nD I3 turn w0 ⊢;generalize hH:s₂.heap.push { cls:=.type "list",dict:=none,data:=.seq ([]:List Value).toArray } = h₀ at hns₁ hsb₁ I3 ⊢;have hpush:∀ b o,s₂.heap.get? b = some o->h₀.get? b = some o:=fun b o e=>by rw [<- hH]; exact get?_push_of_some _ e
 generalize hC:h₀.objs.size = C at hns₁ hsb₁ ⊢;have belowC:∀ b o,h₀.get? b = some o->b ≠ C:=fun b o e z=>by
  have:=lt_size e;rw [hC,<- z] at this;exact lt_irrefl _ this
 have old:∀ b o,h₀.get? b = some o->h₁.get? b = some o:=fun b o e=>hsb₁.extBut b o (belowC b o e) (get?_push_of_some _ e);have f3:∀ b∈fp,kT X pins (eT H2 D (.lst [])) b:=fun b hb=>by
  obtain ⟨x1,x2⟩:=f2 b hb;obtain ⟨o,e,_⟩:=T.obj 0 _ st2 b hb;refine ⟨?_,x2⟩;rw [bJ (fun z=>by have:=lt_size e; rw [z,<- hD] at this; exact lt_irrefl _ this)];exact x1
 have fpC:∀ b∈fp,b ≠ C:=fun b hb=>by
  obtain ⟨o,e,_⟩:=T.obj 0 _ st2 b hb;exact belowC b o (hpush b o e)
 have clC:∀ x c,cl.lookup x = some c->c ≠ C:=fun x c e=>by
  obtain ⟨v,o,ho,_⟩:=I3.cell x c (jR L e);exact belowC c o ho
 let Y:Cx:=tW X scope cl NC C { s₂ with heap:=h₀ } (eT H2 D (.lst [])) fp
 have noC:(eT H2 D (.lst [])) C = none:=I3.hok.fresh (by show h₀.objs.size<=C; rw [hC]; exact le_refl _);have okY:Y.Ok:=by
  refine ⟨I3.ok.mod,by show (relabel scope X.env).kind = _; exact L.kind,I3.ok.glob,I3.ok.blt,by show h₀.objs.size<=C; rw [hC]; exact le_refl _,fun x y c e1 e2=>I3.ok.inj x y c (jR L e1) (jR L e2),fun x hx=>?_,fun x c z=>(by cases z),I3.ok.hd,I3.ok.frames,.inl rfl,fun b hb=>⟨fpC b hb,fun x c e=>(f3 b hb).2.2.2.2.1 x c (jR L e)⟩,I3.bs,le_trans I3.ok.bsz I3.sz,fun b o e hb=>?_,fun b hb hm=>?_,I3.stack,I3.stkFree⟩
  ·have mem:∃ k,(x,k)∈(relabel scope X.env).names/\(k = .cell\/k = .free):=by
    rcases hx with z | z
    ·exact ⟨_,PySem.mem_of_lookup z,.inl rfl⟩
    ·exact ⟨_,PySem.mem_of_lookup z,.inr rfl⟩
   obtain ⟨k,hk,hk2⟩:=mem;have q:=all_eq_true.mp L.has (x,k) hk;have q2:(cl.lookup x).isSome = true:=by
    rcases hk2 with z | z
    ·subst z; simpa using q
    ·subst z; simpa using q
   exact Option.isSome_iff_exists.mp q2
  ·rcases (f3 b hb).2.2.2.1 with z | z
   ·exact I3.ok.noex b o e z
   ·exact absurd (lt_of_lt_of_le (lt_size e) (le_trans I3.ok.bsz z)) (lt_irrefl _)
  ·rcases mem_cons.mp (I3.stkSub b hm) with z | z
   ·exact (f3 b hb).2.1 z
   ·exact (f3 b hb).2.2.1 z
 have stat:∀ {Hc:Hp},(∀ b∈fp,Hc b = none)->∀ b∈fp,kT Y [] Hc b:=fun hn b hb =>
  ⟨hn b hb,fpC b hb,okY.exfs b hb,.inl hb,fun x c e=>(okY.exf b hb).2 x c e,fun p hp=>absurd (show p∈([] ++ []:List (Addr × Obj)) from hp) (by simp)⟩
 have back:∀ {σc:L2.St} {Hc:Hp} {s':Shared} {pn:List (Addr × Obj)},Inv Y pn σc Hc s'->∀ h',SameBut C s'.heap h'->∀ t',Inv X pins σ Hc { s' with heap:=h',toks:=t' }:=fun {σc Hc s' pn} I' h' sb t'=>by
  have u:=I'.base;have nC:Hc C = none:=I'.free;refine I3.call' (s':={ s' with heap:=h',toks:=t' }) (ch:=fp) I'.os ⟨fun b o e n hb hx=>?_,fun b o e n hb hx=>?_,u.free,fun b o e hx=>?_,u.tups,u.frzs,u.tbls⟩ (fun b o e=>?_) I'.bare (fun b hb=>⟨(f3 b hb).2.2.2.1,(f3 b hb).2.1,(f3 b hb).2.2.2.2.1,(f3 b hb).2.2.2.2.2⟩)
  ·exact (sb.2 b (belowC b o e)).trans (u.keep b o e n hb hx)
  ·obtain ⟨sl,q⟩:=u.slot b o e n hb hx;exact ⟨sl,(sb.2 b (belowC b o e)).trans q⟩
  ·obtain ⟨o',q⟩:=u.there b o e hx;exact ⟨o',(sb.2 b (belowC b o e)).trans q⟩
  ·refine (I'.hok b o e).stay (fun c v hcb q=>(sb.2 c ?_).trans q) (fun _ q=>q) fun _ _ q=>q;rintro rfl;rcases hcb with z | z
   ·subst z;rw [nC] at e; cases e
   ·rw [nC] at z; cases z
 have Ist:∀ t',Inv Y [] (capσ cap σ) (eT H2 D (.lst [])) { s₂ with heap:=h₁,toks:=t' }:=fun t'=>by
  refine ⟨okY,rfl,I3.bare,⟨fun b o e _ _ _=>old b o e,fun b o e _ _ _=>⟨o.slots,old b o e⟩,fun _ _ _ n _=>n,fun b o e _=>⟨o,old b o e⟩,fun _ _ e=>e,fun _ _ _ e=>e,fun b ps e=>⟨#[],by rw [show (eT H2 D (.lst [])) b = _ from e]; simp⟩⟩,⟨_,hns₁,fun j y v e1 e2 e3=>?_⟩,fun y c e=>?_,noC,fun y c e=>I3.freeC y c (jR L e),fun p hp=>absurd (show p∈([] ++ []:List (Addr × Obj)) from hp) (by simp),I3.hok.kept old,by
   show (cap.map _).length = NC.length
   rw [length_map]; exact L.caps.len⟩
  ·have e2':(cap.map fun o=>o.bind fun i=>(σ[i]?).bind id)[j]? = some (some v):=e2;rw [getElem?_map] at e2';cases hq:cap[j]? with
   | none=>rw [hq] at e2'; cases e2'
   | some o =>
    rw [hq] at e2';cases o with
    | none=>cases e2'
    | some i =>
     have e4:(σ[i]?).bind id = some v:=by simpa using e2'
     have e5:σ[i]? = some (some v):=by
      cases hs:σ[i]? with
      | none=>rw [hs] at e4; cases e4
      | some z=>rw [hs] at e4; simpa using e4
     obtain ⟨c,x1,x2,x3,x4,x5⟩:=L.caps.at hq e1;obtain ⟨m,hn,hl⟩:=I3.loc;obtain ⟨u,r,l⟩:=hl i y v x1 e5 (.inr (.inl x2));refine ⟨u,r,.inr ⟨.inl x5,c,x3,?_⟩⟩;rcases l with ⟨k,_⟩ | ⟨_,c',x6,z⟩
     ·have k':X.env.scope.names.lookup y = some .local:=k;rw [x2] at k'; cases k'
     ·rw [x4] at x6; cases x6;obtain ⟨o,ho,hd⟩:=z;exact ⟨o,old _ _ ho,hd⟩
  ·obtain ⟨v,o,ho,hd⟩:=I3.cell y c (jR L e);exact ⟨v,o,old _ _ ho,hd⟩
 have loop:∀ s₃:Shared,s₃ = { s₂ with heap:=h₁,toks:=s₂.toks + ([]:List (Str × Value)).length } ->
   codeAny (model X.prog X.w) X.A (.compLoop (.ListComp elt [⟨target,iter,ifs,0⟩] scope pos) 0 (.ref it) (.ref D) (compEnvC scope cl C X.env)) (Z (.ref D) C) s₃:=by
  rintro s₃ rfl;refine Vq (fun n s'=>∃ i σc Hc,Inv Y [] σc Hc s'/\tn i s'.heap/\(∀ b∈fp,Hc b = none)/\W i n σc Hc) ?_ m0 ⟨0,capσ cap σ,_,Ist _,T.keep _ _ _ st2 (fun b hb o e=>old b o (hpush b o e)),fun b hb=>(f3 b hb).1,w0⟩;rintro n s5 ⟨i,σc,Hc,I5,st5,fr5,w5⟩ E';rcases turn i n σc Hc w5 with ⟨stop,qn⟩ | ⟨go,N,hN,step⟩
  ·refine wpAny_mono (T.done Y rfl rfl rfl hc i [] s5 σc Hc E' I5 (stat fr5) st5 stop) (fun r s6 ⟨hr,I6⟩=>?_) fun _ _ z=>z;subst hr;obtain ⟨m,hn,_⟩:=id I6.loc;exact hZ D C Hc s6 m hn (back I6) (I3.fpOk (by show h₀.objs.size<=C; rw [hC]; exact le_refl _) I6.free) qn
  ·refine wpAny_mono (T.item Y rfl rfl rfl hc i [] s5 σc Hc E' I5 (stat fr5) st5 go) (fun r s6 ⟨u,hr,h6⟩=>?_) fun _ _ z=>z;subst hr;refine wpAny_mono h6 (fun _ s7 ⟨x,H7,I7,r7,y7,st7,fr7⟩=>?_) fun _ _ z=>z;have I7':=I7.pinned (stat fr7) (T.obj _ _ st7);refine wpAny_mono (hg C _ _ fp _ s7 σc H7 x u _ I7' r7 (step x H7 y7)) (fun _ s8 ⟨σ8,H8,I8,q8⟩=>?_) fun _ _ z=>False.elim z;have again:∀ {σ9:L2.St} {H9:Hp} {s9:Shared},Inv Y ([] ++ sB fp s7.heap) σ9 H9 s9->N σ9 H9->∃ m,m < n/\∃ i σ' H',Inv Y [] σ' H' s9/\tn i s9.heap/\(∀ b∈fp,H' b = none)/\W i m σ' H':=fun {σ9 H9 s9} I9 n9=>by
    obtain ⟨m',hm,w9⟩:=hN σ9 H9 n9;refine ⟨m',hm,i + 1,σ9,H9,I9.unpinned,T.keep _ _ _ st7 fun b hb o e=>(I9.pin (b,o) (mem_append_right _ (mem_append_right _ (kJ hb e)))).1,fun b hb=>?_,w9⟩;obtain ⟨o,e,d⟩:=T.obj _ _ st7 b hb;exact (I9.pin (b,o) (mem_append_right _ (mem_append_right _ (kJ hb e)))).2.1
   refine wpAny_mono (ht C _ _ fp _ s8 σ8 H8 _ I8 q8) (fun ok s9 ⟨H9,I9,q9⟩=>?_) fun _ _ z=>False.elim z;cases ok with
   | false =>
    rw [if_neg Bool.false_ne_true] at q9 ⊢;exact again I9 q9
   | true =>
    rw [if_pos rfl] at q9 ⊢;refine wpAny_mono (he C _ _ fp _ s9 σ8 H9 _ I9 q9) (fun v sa ⟨y,Ha,Ia,ra,ys,hy,hl,na⟩=>?_) fun _ _ z=>False.elim z;have app:=gW (X:=Y) _ sa σ8 Ha (.ref D) [y] (.ref D) [v] (fun _ Hb=>N σ8 Hb) Ia rfl (.cons ra .nil) ⟨D,ys,y,rfl,rfl,hy,hl,na⟩;exact wpAny_mono app (fun _ sb ⟨_,Hb,Ib,_,nb⟩=>again Ib nb) fun _ _ z=>False.elim z
 exact codeAny_compStart_list (loop _ rfl) (T.self _ 0 _ _ _ (T.keep _ _ _ st2 fun b hb o e=>old b o (hpush b o e)) (loop _ rfl))
theorem fA (hc:X.calm = true) (L:LcOk X scope cl cap NC) (hi:PI X target iter wi) (hg:∀ C s₀ H₀ fp,PG (tW X scope cl NC C s₀ H₀ fp) target g) (ht:∀ C s₀ H₀ fp,PTs (tW X scope cl NC C s₀ H₀ fp) ifs tt) (he:∀ C s₀ H₀ fp,PE (tW X scope cl NC C s₀ H₀ fp) elt te)
  (hs:∀ x,foldedSetIterable iter X.env x = pure x:=by intro _; rfl):PE X (.ListComp elt [⟨target,iter,ifs,0⟩] scope pos) (tLC wi cap g tt te):=by
 intro pins s σ H Q I h;rw [eval_ListComp];refine wpAny_comprehension_free (use:=none) rfl hs L.clos L.kind L.names (eU (hi pins s σ H _ I h) fun xv s₁ h₁=>eU h₁ fun itv s₂ h₂=>?_);obtain ⟨it,fp,tn,J,H2,rfl,I2,T,st2,f2,hq⟩:=h₂;refine Aw (G:=Q) hc L hg ht he I2 T st2 f2 hq fun D C Hc s' m hn back _ q=>?_;exact ⟨m,hn,fun h' sb=>⟨.ref D,Hc,back h' sb _,rfl,q⟩⟩
end
mutual
inductive DV (K:W.Frag) (H:Hp):V->PyData->Prop
 | non:DV K H .non .none
 | bl (b:Bool):DV K H (.bl b) (.bool b)
 | int (i:Int):DV K H (.int i) (.int i)
 | str (x:Str):DV K H (.str x) (.str x)
 | tup {a:Addr} {xs:List V} {ds:List PyData}:SqT K H a xs->DVs K H xs ds->DV K H (.ref a) (.tuple ds)
 | lst {a:Addr} {xs:List V} {ds:List PyData}:SqL K H a xs->DVs K H xs ds->DV K H (.ref a) (.list ds)
  | dct {a:Addr} {x y:Str}:H a = some (.dK [(.inr x,.str y)])->DV K H (.ref a) (.dict [(.str x,.str y)])
inductive DVs (K:W.Frag) (H:Hp):List V->List PyData->Prop
 | nil:DVs K H [] []
 | cons {x:V} {xs:List V} {d:PyData} {ds:List PyData}:DV K H x d->DVs K H xs ds->DVs K H (x :: xs) (d :: ds)
end
section
variable {X:Cx} {pins:List (Addr × Obj)} {σ:L2.St} {H:Hp} {s:Shared}
mutual
theorem fG (I:Inv X pins σ H s):∀ {x:V} {d:PyData} {u:Value},DV X.K H x d->RelV x u->∃ as,Reads s.heap u d as
 | _,_,u,.non,r=>by
  cases (show u = Value.none from r);exact ⟨_,.none⟩
 | _,_,u,.bl b,r=>by
  cases (show u = Value.bool b from r);exact ⟨_,.bool b⟩
 | _,_,u,.int i,r=>by
  obtain ⟨t,rfl⟩:=r;exact ⟨_,.int i t⟩
 | _,_,u,.str x,r=>by
  obtain ⟨t,rfl⟩:=r;exact ⟨_,.str x t⟩
 | _,_,u,@DV.tup _ _ a xs ds h hs,r=>by
  cases (show u = Value.ref a from r);obtain ⟨its,rv,⟨o,ho,hc,n,hd⟩,_⟩:=I.tuple h;obtain ⟨as,q⟩:=jU I hs rv;exact ⟨_,.tuple ho hc hd (by simpa using q)⟩
 | _,_,u,@DV.lst _ _ a xs ds h hs,r=>by
  cases (show u = Value.ref a from r);obtain ⟨its,rv,⟨o,n,ho,hc,_,hd⟩,_⟩:=I.list h;obtain ⟨as,q⟩:=jU I hs rv;exact ⟨_,.list ho hc hd (by simpa using q)⟩
 | _,_,u,@DV.dct _ _ a x y h,r=>by
  cases (show u = Value.ref a from r);obtain ⟨_,_,vs,rel,o,es,ep,ho,hc,hd,hk,hp,_⟩:=(show ObjOk X.prog X.w H s.heap a (.dK [(.inr x,.str y)]) from I.hok a _ h);unfold KV at rel;cases rel with
  | @cons p q ps qs h1 t =>
   cases t;obtain ⟨k,v⟩:=q;obtain ⟨e1,t1,e2⟩:=h1;have e1':Sum.inr x = k:=e1;subst e1';have e2':v = Value.str y t1:=e2;subst e2';generalize hes:es.toList = l at hp;cases hp with
   | @cons e kv es' kvs' hk1 hv1 ht1 =>
    cases ht1;have hk2:sU (.inr x) e.key = true:=hk1;have ek:∃ t2,e.key = Value.str x t2:=by
     rcases dR hk2 with ⟨i,t2,z,_⟩ | ⟨x2,t2,z,z2⟩
     ·exact nomatch z
     ·cases z; exact ⟨t2,z2⟩
    obtain ⟨t2,ek⟩:=ek;have ev:e.val = Value.str y t1:=hv1;exact ⟨_,.dict (as:=[] ++ []) (bs:=[] ++ []) ho hc.1 hd (by rw [hes]; show ReadsAll _ [e.key] [PyData.str x] _; rw [ek]; exact .cons (.str x t2) .nil) (by rw [hes]; show ReadsAll _ [e.val] [PyData.str y] _; rw [ev]; exact .cons (.str y t1) .nil)⟩
theorem jU (I:Inv X pins σ H s):∀ {xs:List V} {ds:List PyData} {us:List Value},DVs X.K H xs ds->Vals xs us->∃ as,ReadsAll s.heap us ds as
 | _,_,_,.nil,.nil=>⟨_,.nil⟩
 | _,_,_,.cons h hs,.cons r rs=>by
  obtain ⟨as,q⟩:=fG I h r;obtain ⟨bs,qs⟩:=jU I hs rs;exact ⟨_,.cons q qs⟩
end
end
structure Enc (α:Type) where
 d:α->PyData
 dep:Nat
 small:dep<=60
 lay:∀ x,(d x).canLay0 = true
 depth:∀ x,(d x).depth<=dep
 eqv:∀ x y,PyData.eqv (d x) (d y) = true ↔ x = y
theorem Enc.shaped {α:Type} (e:Enc α) (x:α):SeqAt.shaped (e.d x) = true:=by
 unfold SeqAt.shaped;rw [e.lay,Bool.true_and];exact decide_eq_true (le_trans (e.depth x) (le_trans e.small (by decide)))
def aKd:Enc Int:=⟨.int,0,by decide,fun _=>rfl,fun _=>by simp [PyData.depth],fun x y=>by simp [PyData.eqv]⟩
theorem oJ {α:Type} (e:Enc α):∀ (xs:List α),PyData.canLayAll0 (xs.map e.d) = true/\PyData.depthAll (xs.map e.d)<=e.dep
 | []=>⟨rfl,by simp [PyData.depthAll]⟩
 | x :: xs=>by
  obtain ⟨h1,h2⟩:=oJ e xs;have h3:=e.lay x;have h4:=e.depth x;constructor
  ·show ((e.d x).canLay0 && PyData.canLayAll0 (xs.map e.d)) = true;rw [h3,h1]; rfl
  ·show PyData.depthAll (e.d x :: xs.map e.d)<=e.dep;simp only [PyData.depthAll];omega
theorem tD {α:Type} (e:Enc α):∀ (xs ys:List α),PyData.eqvAll (xs.map e.d) (ys.map e.d) = true ↔ xs = ys
 | [],[]=>by simp [PyData.eqvAll]
 | [],y :: ys=>by simp [PyData.eqvAll]
 | x :: xs,[]=>by simp [PyData.eqvAll]
 | x :: xs,y :: ys=>by
  have h:=tD e xs ys;have h2:=e.eqv x y;simp only [map_cons,PyData.eqvAll,and_eq_true,h,h2,List.cons.injEq]
def tG {α:Type} (e:Enc α) (h:e.dep<=50):Enc (List α) where
 d:=fun xs=>.list (xs.map e.d)
 dep:=e.dep + 1
 small:=by omega
 lay:=fun xs=>by show PyData.canLayAll0 _ = true; exact (oJ e xs).1
 depth:=fun xs=>by
  have:=(oJ e xs).2;simp only [PyData.depth];omega
 eqv:=fun xs ys=>by
  show PyData.eqvAll _ _ = true ↔ _;exact tD e xs ys
def eRat:Enc Rat where
 d:=fun q=>.tuple [.int q.num,.int (q.den:Int)]
 dep:=1
 small:=by decide
 lay:=fun q=>by simp [PyData.canLay0,PyData.canLayAll0]
 depth:=fun q=>by simp [PyData.depth,PyData.depthAll]
 eqv:=fun p q=>by
  simp only [PyData.eqv,PyData.eqvAll,and_eq_true,beq_iff_eq,and_true];constructor
  ·rintro ⟨h1,h2⟩;exact Rat.ext h1 (by omega)
  ·rintro rfl;exact ⟨rfl,rfl⟩
def Jl (K:W.Frag) (neg:Bool):R2:=fun x y H Q=>∃ (α:Type) (e:Enc α) (a b:α),DV K H x (e.d a)/\DV K H y (e.d b)/\∀ k:Bool,(k = true ↔ a = b)->Q (.bl (if neg then !k else k)) H
def aCc (K:W.Frag) (neg:Bool):R2:=fun x y H Q=>∃ (α:Type) (e:Enc α) (a:α) (bs:List α),DV K H x (e.d a)/\DV K H y (.list (bs.map e.d))/\∀ k:Bool,(k = true ↔ a∈bs)->Q (.bl (if neg then !k else k)) H
section
variable {X:Cx}
theorem aCo (hu:X.A.units + 64 < cLine):mL X (compareOp .Eq) (Jl X.K false):=by
 intro pins s σ H x y v u Q I rx ry h;obtain ⟨α,e,a,b,da,db,q⟩:=h;obtain ⟨as,r1⟩:=fG I da rx;obtain ⟨bs,r2⟩:=fG I db ry;exact eq_dataH r1 r2 (e.shaped a) (e.shaped b) hu ⟨.bl _,H,I,rfl,q _ (e.eqv a b)⟩
theorem aCm (hu:X.A.units + 64 < cLine):mL X (compareOp .NotEq) (Jl X.K true):=by
 intro pins s σ H x y v u Q I rx ry h;obtain ⟨α,e,a,b,da,db,q⟩:=h;obtain ⟨as,r1⟩:=fG I da rx;obtain ⟨bs,r2⟩:=fG I db ry;exact ne_dataH r1 r2 (e.shaped a) (e.shaped b) hu ⟨.bl _,H,I,rfl,q _ (e.eqv a b)⟩
theorem yN {α:Type} (e:Enc α) (a:α):∀ bs:List α,((bs.map e.d).any fun y=>PyData.eqv y (e.d a)) = true ↔ a∈bs
 | []=>by simp
 | b :: bs=>by
  have h:=yN e a bs;have h2:=e.eqv b a;simp only [map_cons,any_cons,Bool.or_eq_true,h,h2,mem_cons];constructor
  ·rintro (z | z)
   ·exact .inl z.symm
   ·exact .inr z
  ·rintro (z | z)
   ·exact .inl z.symm
   ·exact .inr z
theorem aCn (hu:X.A.units + 64 < cLine):mL X (compareOp .In) (aCc X.K false):=by
 intro pins s σ H x y v u Q I rx ry h;obtain ⟨α,e,a,bs,da,db,q⟩:=h;obtain ⟨as,r1⟩:=fG I da rx;obtain ⟨cs,r2⟩:=fG I db ry;have h1:=e.depth a;have h2:=e.small;exact PySem.SeqAt.in_list_reads r2 r1 (oJ e bs).1 (e.lay a) (by omega) ⟨.bl _,H,I,rfl,q _ (yN e a bs)⟩
end
structure ExcK (K:W.Frag) (C:Addr):Prop where
 fg:W.findIn K (.ref C) "__getattribute__" = some (some (.builtin "BaseException.__getattribute__"))
 fa:W.findIn K (.ref C) "__getattr__" = some none
 fc:W.findIn K (.ref C) "__class__" = some (some (.builtin "object.__class__"))
 so:W.subIn K (.ref C) (.type "object") = some true
 sb:W.subIn K (.ref C) (.type "BaseException") = some true
def aLs (x C:Addr) (h:Heap):Prop:=∃ o vs,h.get? x = some o/\o.cls = .ref C/\o.data = .fields vs
section
variable {X:Cx} {K:W.Frag}
theorem lN (h:X.K = K):IxR X (Um K):=by subst h; exact Vu
theorem aNf (h:X.K = K):IxR X (Ow K):=by subst h; exact aEg
theorem gH (h:X.K = K):iG X (.builtin "len") (fun xs H Q=>∃ p ys,xs = [.ref p]/\(SqL K H p ys\/SqT K H p ys)/\Q (.int ys.length) H):=by subst h; exact yI
theorem aJs (h:X.K = K):iG X (.type "list") (fun xs H Q=>∃ p ys,xs = [.ref p]/\(SqL K H p ys\/SqT K H p ys)/\∀ l,H l = none->Q (.ref l) (eT H l (.lst ys))):=by subst h; exact yH
theorem Uc (h:X.K = K):SlR X (aCb K):=by subst h; exact Ue
theorem eqK (h:X.K = K) (hu:X.A.units + 64 < cLine):mL X (compareOp .Eq) (Jl K false):=by subst h; exact aCo hu
theorem Pt (h:X.K = K) (hu:X.A.units + 64 < cLine):mL X (compareOp .NotEq) (Jl K true):=by subst h; exact aCm hu
theorem inK (h:X.K = K) (hu:X.A.units + 64 < cLine):mL X (compareOp .In) (aCc K false):=by subst h; exact aCn hu
theorem fV {tg l:Expr} {tl:TE} (h:X.K = K) (hl:PE X l tl):PI X tg l (Gw K tl):=by subst h; exact Us hl
theorem nB {es:List Expr} {k:Nat} {pos:Pos} {t:Te} {n:Nat} (h:X.K = K) (hc:X.calm = true) (hg:PGs X es t)
  (hn:(assignEach es X.env).length = n:=by rfl) (hst:(assignEach es X.env).findIdx? (·.1) = none:=by rfl):PG X (.Tuple es k pos) (aEr K n t):=by subst h; exact aCg hc hg hn hst
end
section
variable {X:Cx} {elt target iter:Expr} {ifs:List Expr} {scope:Scope} {pos spos pos':Pos} {wi:TI} {cap:List (Option Nat)} {NC:List Str} {cl:List (Str × Addr)} {g:TG} {tt:TT} {te:TE}
theorem iU {i:Nat} {x:Str} (hN:X.N.Nodup) (hi:X.N[i]? = some x) (hx:X.env.scope.names.lookup x = some .local) (hc:X.calm = true) (L:LcOk X scope cl cap NC) (hit:PI X target iter wi)
  (hg:∀ C s₀ H₀ fp,PG (tW X scope cl NC C s₀ H₀ fp) target g) (ht:∀ C s₀ H₀ fp,PTs (tW X scope cl NC C s₀ H₀ fp) ifs tt) (he:∀ C s₀ H₀ fp,PE (tW X scope cl NC C s₀ H₀ fp) elt te)
  (hsw:swapsWith (.ListComp elt [⟨target,iter,ifs,0⟩] scope pos) (some (.Name x pos')) spos.line X.env = pure true:=by rfl)
  (hs:∀ x,foldedSetIterable iter X.env x = pure x:=by intro _; rfl):PS X (.Assign [.Name x pos'] (.ListComp elt [⟨target,iter,ifs,0⟩] scope pos) spos) (qC (tLC wi cap g tt te) (mQ i)):=by
 intro pins s σ H D I h;rw [exec_Assign_Name_used _ _ _ _ hsw];refine wpAny_bind (wpAny_standAt (wpAny_bind ?_));show wpAny _ X.A (do let _ <- comprehension (.ListComp elt [⟨target,iter,ifs,0⟩] scope pos) scope X.env _ (newList []) false (eval iter X.env) (some (assign (.Name x pos') X.env))) _ _ s
 refine wpAny_bind (wpAny_mono (wpAny_comprehension_free (use:=some (assign (.Name x pos') X.env)) (Q:=fun _ s'=>SP X pins D .next s') rfl hs L.clos L.kind L.names
  (eU (hit pins s σ H _ I h) fun xv s₁ h₁=>eU h₁ fun itv s₂ h₂=>?_)) (fun _ s' hq=>wpAny_pure (wpAny_pure hq)) fun _ _ e=>e)
 obtain ⟨it,fp,tn,J,H2,rfl,I2,T,st2,f2,hq⟩:=h₂;refine Aw (G:=fun v H'=>D.nx (σ.set i (some v)) H') hc L hg ht he I2 T st2 f2 hq fun Dd C Hc s' m hn back fpC q=>?_;obtain ⟨z1,z2,z3,z4,z5,z6⟩:=fpC;have Ib:Inv X pins σ Hc s':=back s'.heap (.refl _ _) s'.toks;show wpAny _ X.A (assign (.Name x pos') X.env (.ref Dd)) _ _ _;refine wpAny_assign_Name (uQ Ib hN hi (.inl hx) (show RelV (.ref Dd) (.ref Dd) from rfl) (fun s2 I2 ⟨a,sb,ha⟩=>?_) (.inr hx));have hCa:C ≠ a:=by
  rcases ha with z | z
  ·rw [z]; exact z2
  ·exact fun e=>z5 x a z e.symm
 refine ⟨m,hn.sameBut sb hCa,fun h' sb'=>⟨_,Hc,?_,q⟩⟩;exact I2.turned (t':=s2.toks) (it:=C) (fun b o hb e=>(sb'.2 b hb).trans e) z1 z2 z4 z5 z6
end
theorem vK:∀ {ns:List Int} {us:List Value},Vals (ns.map V.int) us->∃ xs:List (Int × Tok),us = xs.map (fun p=>Value.int p.1 p.2)/\xs.map (·.1) = ns
 | [],_,.nil=>⟨[],rfl,rfl⟩
 | n :: ns,_,.cons r rs=>by
  obtain ⟨t,rfl⟩:=r;obtain ⟨xs,rfl,e⟩:=vK rs;exact ⟨(n,t) :: xs,rfl,by simp [e]⟩
section
variable {X:Cx} {K:W.Frag}
theorem Sj (hc:X.calm = true):iG X (.builtin "sum") (fun xs H Q=>∃ (p:Addr) (ns:List Int),xs = [.ref p]/\SqL X.K H p (ns.map V.int)/\Q (.int ns.sum) H):=by
 intro pins s σ H xs us Q I r h;obtain ⟨p,ns,rfl,hq,q⟩:=h;obtain ⟨u,rfl,rx⟩:=iR r;cases rx;obtain ⟨its,r',pl,hz⟩:=I.list hq;obtain ⟨ys,rfl,e⟩:=vK r';have hl:s.heap.IsList p (intItems ys.toArray):=by
  have:=pl.isList;simpa [intItems] using this
 refine sum_intListG (I.ok.hd hc) hl fun h' tk t' hk=>?_;refine ⟨.int ns.sum,H,I.kept (t':=tk) hk,⟨t',?_⟩,q⟩;rw [preSum_eq,take_of_length_le (by simp)];simp [e]
theorem aMs (h:X.K = K) (hc:X.calm = true):iG X (.builtin "sum") (fun xs H Q=>∃ (p:Addr) (ns:List Int),xs = [.ref p]/\SqL K H p (ns.map V.int)/\Q (.int ns.sum) H):=by subst h; exact Sj hc
end
end Lx
namespace Fm
theorem abs_if (i:Int):(if i < 0 then -i else i) = ((i.natAbs:Nat):Int):=by omega
theorem gcd_step (a b:Int) (h:0 < b):Int.gcd b (a % b) = Int.gcd a b:=by
 rw [gcd_comm b (a % b),Int.emod_def];exact Int.gcd_sub_mul_left_left _ _ _
theorem gcd_zero {a:Int} (h:0<=a):((Int.gcd a 0:Nat):Int) = a:=by
 rw [Int.gcd_zero_right]; omega
theorem gcd_le_right {a b:Int} (hb:b ≠ 0):Int.gcd a b<=b.natAbs:=le_of_dvd (by omega) (Int.gcd_dvd_natAbs_right a b)
theorem gcd_pos_right {a b:Int} (hb:b ≠ 0):0 < Int.gcd a b:=Int.gcd_pos_of_ne_zero_right a hb
theorem fr_num {t b:Int} (hb:b ≠ 0):t.fdiv (if b < 0 then -((Int.gcd t b:Nat):Int) else ((Int.gcd t b:Nat):Int)) = (divInt t b).num:=by
 rw [num_divInt,gcd_comm b t];have hg:(0:Int) < ((Int.gcd t b:Nat):Int):=by have:=gcd_pos_right (a:=t) hb; omega
 have hd:((Int.gcd t b:Nat):Int) ∣ t:=Int.gcd_dvd_left t b;split
 ·rename_i hn
  rw [Int.sign_eq_neg_one_of_neg hn];obtain ⟨k,hk⟩:=hd;generalize ((Int.gcd t b:Nat):Int) = g at hg hk;subst hk;rw [show -1 * (g * k) = g * (-k) by grind,Int.mul_ediv_cancel_left _ (by omega)];rw [show g * k = (-g) * (-k) by grind];exact mul_fdiv_cancel_left _ (by omega)
 ·rename_i hn
  rw [sign_eq_one_of_pos (by omega),Int.one_mul,fdiv_eq_ediv_of_nonneg _ (by omega)]
theorem fr_den {t b:Int} (hb:b ≠ 0):b.fdiv (if b < 0 then -((Int.gcd t b:Nat):Int) else ((Int.gcd t b:Nat):Int)) = (((divInt t b).den:Nat):Int):=by
 rw [den_divInt,if_neg hb,gcd_comm b t];have hg:(0:Int) < ((Int.gcd t b:Nat):Int):=by have:=gcd_pos_right (a:=t) hb; omega
 have hd:((Int.gcd t b:Nat):Int) ∣ b:=Int.gcd_dvd_right t b;rw [natCast_ediv];split
 ·rename_i hn
  rw [show ((b.natAbs:Nat):Int) = -b by omega];obtain ⟨k,hk⟩:=hd;generalize ((Int.gcd t b:Nat):Int) = g at hg hk;subst hk;rw [show -(g * k) = g * (-k) by grind,Int.mul_ediv_cancel_left _ (by omega)];rw [show g * k = (-g) * (-k) by grind];exact mul_fdiv_cancel_left _ (by omega)
 ·rename_i hn
  rw [show ((b.natAbs:Nat):Int) = b by omega,fdiv_eq_ediv_of_nonneg _ (by omega)]
theorem add_parts (a b:Rat) (s:Nat) (hs:s = a.den.gcd b.den) (tp:Int) (ht:tp = a.num * ((b.den / s:Nat):Int) + b.num * ((a.den / s:Nat):Int)) (g:Nat) (hg:g = s.gcd tp.natAbs) :
  (a + b).num = tp / (g:Int)/\(a + b).den = a.den / s * (b.den / g):=by
 have hs0:0 < s:=by rw [hs]; exact gcd_pos_of_pos_left _ (pos_of_ne_zero a.den_nz)
 have hg0:0 < g:=by rw [hg]; exact gcd_pos_of_pos_left _ hs0
 have hgs:g ∣ s:=by rw [hg]; exact gcd_dvd_left _ _
 have hsb:s ∣ b.den:=by rw [hs]; exact Nat.gcd_dvd_right _ _
 have hgb:g ∣ b.den:=dvd_trans hgs hsb;have e:a.den / s * (b.den / g) = a.den / s * b.den / g:=(Nat.mul_div_assoc _ hgb).symm;rw [e];show (Rat.add a b).num = _/\(Rat.add a b).den = _;unfold Rat.add;simp only [<- hs];split
 ·rename_i h1
  have:g = 1:=by rw [hg,h1]; exact Nat.gcd_one_left _
  subst this;dsimp only;rw [ht,h1];simp
 ·rename_i h1
  simp only [Rat.maybeNormalize_eq];have hg2:(a.num * ((b.den / s:Nat):Int) + b.num * ((a.den / s:Nat):Int)).natAbs.gcd s = g:=by rw [hg,<- ht,Nat.gcd_comm]
  have hd:(g:Int) ∣ tp:=by
   rw [hg];exact ofNat_dvd_left.mpr (Nat.gcd_dvd_right _ _)
  constructor
  ·rw [divExact_eq_tdiv,hg2,<- ht,tdiv_eq_ediv_of_dvd hd]
  ·rw [hg2]
theorem mul_parts (a b:Rat):(a * b).num = (divInt a.num (b.den:Int)).num * (divInt b.num (a.den:Int)).num/\(a * b).den = (divInt a.num (b.den:Int)).den * (divInt b.num (a.den:Int)).den:=by
 show (Rat.mul a b).num = _/\(Rat.mul a b).den = _;have ha:(a.den:Int) ≠ 0:=by have:=a.den_nz; omega
 have hb:(b.den:Int) ≠ 0:=by have:=b.den_nz; omega
 rw [num_divInt,num_divInt,den_divInt,den_divInt,if_neg ha,if_neg hb];have e1:((b.den:Nat):Int).sign = 1:=sign_eq_one_of_pos (by have:=b.den_nz; omega);have e2:((a.den:Nat):Int).sign = 1:=sign_eq_one_of_pos (by have:=a.den_nz; omega);rw [e1,e2,Int.one_mul,Int.one_mul];unfold Rat.mul;dsimp only;have g1:Int.gcd ((b.den:Nat):Int) a.num = a.num.natAbs.gcd b.den:=by rw [gcd_comm]; rfl
 have g2:Int.gcd ((a.den:Nat):Int) b.num = b.num.natAbs.gcd a.den:=by rw [gcd_comm]; rfl
 rw [g1,g2];constructor
 ·rw [divExact_eq_tdiv,divExact_eq_tdiv,tdiv_eq_ediv_of_dvd (ofNat_dvd_left.mpr (gcd_dvd_left _ _)),tdiv_eq_ediv_of_dvd (ofNat_dvd_left.mpr (gcd_dvd_left _ _))]
 ·rw [mul_comm]; rfl
theorem div_inv (b:Rat):divInt (b.den:Int) b.num = b⁻¹:=(Rat.inv_def b).symm
theorem less_iff (a b:Rat):(a.num * (b.den:Int) < b.num * (a.den:Int)) ↔ a < b:=(Rat.lt_iff a b).symm
theorem den_pos (q:Rat):(1:Int)<=(q.den:Int):=by have:=q.den_nz; omega
theorem Sf (t b:Int) (hb:b ≠ 0):(divInt t b).num * b = t * ((divInt t b).den:Int):=by
 have h:=num_divInt_den (divInt t b);exact (Rat.divInt_eq_divInt_iff (by have:=(divInt t b).den_nz; omega) hb).mp h
theorem num_le (t:Int) {b:Int} (hb:b ≠ 0):(divInt t b).num.natAbs<=t.natAbs:=by
 have h:=Sf t b hb;have h2:=Fm.den_pos (divInt t b);rw [<- fr_num hb];have hg:(0:Int) < ((Int.gcd t b:Nat):Int):=by have:=gcd_pos_right (a:=t) hb; omega
 obtain ⟨k,hk⟩:((Int.gcd t b:Nat):Int) ∣ t:=Int.gcd_dvd_left t b;generalize ((Int.gcd t b:Nat):Int) = g at hg hk;subst hk;have le:k.natAbs<=(g * k).natAbs:=by
  rw [natAbs_mul];exact Nat.le_mul_of_pos_left _ (by omega)
 split
 ·rw [show g * k = (-g) * (-k) by grind,mul_fdiv_cancel_left _ (by omega)];rw [show (-g) * (-k) = g * k by grind];omega
 ·rw [mul_fdiv_cancel_left _ (by omega)];exact le
theorem den_le (t:Int) {b:Int} (hb:b ≠ 0):(divInt t b).den<=b.natAbs:=by
 rw [den_divInt,if_neg hb];exact div_le_self _ _
theorem num_eq (q:Rat):(q.num:Rat) = q * (q.den:Rat):=by
 have h:=num_divInt_den q;rw [divInt_eq_div] at h;have hd:((q.den:Int):Rat) ≠ 0:=by
  have:=q.den_nz;intro z;rw [intCast_natCast] at z;exact this (by simpa using z)
 rw [intCast_natCast] at h hd;have h2:=div_mul_cancel (a:=(q.num:Rat)) hd;rw [h] at h2;exact h2.symm
theorem fr_pos {t b:Int} (hb:0 < b):t / ((Int.gcd t b:Nat):Int) = (divInt t b).num/\b / ((Int.gcd t b:Nat):Int) = ((divInt t b).den:Int):=by
 have h1:=fr_num (t:=t) (b:=b) (by omega);have h2:=fr_den (t:=t) (b:=b) (by omega);rw [if_neg (by omega),fdiv_eq_ediv_of_nonneg _ (by omega)] at h1 h2;exact ⟨h1,h2⟩
theorem eq_divInt {q:Rat} {n m:Int} (hm:m ≠ 0) (h:q * (m:Rat) = (n:Rat)):q = divInt n m:=by
 rw [divInt_eq_div,<- h];have:(m:Rat) ≠ 0:=by simpa using hm
 exact (Rat.mul_div_cancel this).symm
theorem size_of {q:Rat} {n m:Int} (hm:m ≠ 0) (h:q * (m:Rat) = (n:Rat)):q.num.natAbs<=n.natAbs/\q.den<=m.natAbs:=by
 rw [eq_divInt hm h];exact ⟨num_le n hm,den_le n hm⟩
structure Sz (N:Nat) (q:Rat):Prop where
 n:q.num.natAbs<=N
 d:q.den<=N
theorem Sz.mono {M N:Nat} {q:Rat} (h:Sz M q) (l:M<=N):Sz N q:=⟨le_trans h.n l,le_trans h.d l⟩
theorem Sz.neg {N:Nat} {q:Rat} (h:Sz N q):Sz N (-q):=⟨by show (-q.num).natAbs<=N; rw [Int.natAbs_neg]; exact h.n,h.d⟩
theorem zJ (a b:Rat) (f:Rat) (n:Int) (h:f * ((a.den:Int) * (b.den:Int):Int) = (n:Rat)) {M N:Nat} (ha:Sz M a) (hb:Sz N b) (hn:n.natAbs<=2 * (M * N)):Sz (2 * (M * N)) f:=by
 have m0:(a.den:Int) * (b.den:Int) ≠ 0:=mul_ne_zero (by have:=a.den_nz; omega) (by have:=b.den_nz; omega);obtain ⟨h1,h2⟩:=size_of m0 h;refine ⟨le_trans h1 hn,le_trans h2 ?_⟩;rw [natAbs_mul];have:=mul_le_mul ha.d hb.d;simp only [natAbs_natCast];omega
theorem Sz.add {a b:Rat} {M N:Nat} (ha:Sz M a) (hb:Sz N b):Sz (2 * (M * N)) (a + b):=by
 refine zJ a b _ (a.num * (b.den:Int) + b.num * (a.den:Int)) ?_ ha hb ?_
 ·rw [intCast_mul,intCast_add,intCast_mul,intCast_mul,intCast_natCast,intCast_natCast,num_eq a,num_eq b];grind
 ·have h1:=mul_le_mul ha.n hb.d;have h2:=mul_le_mul hb.n ha.d;have h3:=Int.natAbs_add_le (a.num * (b.den:Int)) (b.num * (a.den:Int));rw [natAbs_mul,natAbs_mul,natAbs_natCast,natAbs_natCast] at h3;rw [mul_comm N M] at h2;omega
theorem Sz.sub {a b:Rat} {M N:Nat} (ha:Sz M a) (hb:Sz N b):Sz (2 * (M * N)) (a - b):=by
 rw [sub_eq_add_neg];exact ha.add hb.neg
theorem Sz.mul {a b:Rat} {M N:Nat} (ha:Sz M a) (hb:Sz N b):Sz (2 * (M * N)) (a * b):=by
 refine zJ a b _ (a.num * b.num) ?_ ha hb ?_
 ·rw [intCast_mul,intCast_mul,intCast_natCast,intCast_natCast,num_eq a,num_eq b];grind
 ·have h1:=mul_le_mul ha.n hb.n;rw [natAbs_mul];omega
end Fm
namespace Fm
theorem Hk (t:Int) {b:Int} (hb:b ≠ 0):(divInt t b).den ∣ b.natAbs:=by
 have h:=congrArg natAbs (Sf t b hb);rw [natAbs_mul,natAbs_mul] at h;have h2:(divInt t b).den ∣ (divInt t b).num.natAbs * b.natAbs:=⟨t.natAbs,by rw [h,mul_comm]; simp⟩;have h3:Nat.Coprime (divInt t b).den (divInt t b).num.natAbs:=Nat.Coprime.symm (divInt t b).reduced;exact h3.dvd_of_dvd_mul_left h2
theorem Rn {q:Rat} {n:Int} {L:Nat} (hL:L ≠ 0) (h:q * (L:Rat) = (n:Rat)):q.den ∣ L:=by
 have e:q = divInt n (L:Int):=eq_divInt (by omega) (by rw [intCast_natCast]; exact h);rw [e];have:=Hk n (b:=(L:Int)) (by omega);simpa using this
theorem wN {q:Rat} {L:Nat} (h:q.den ∣ L):q * (L:Rat) = ((q.num * ((L / q.den:Nat):Int):Int):Rat):=by
 obtain ⟨c,rfl⟩:=h;have hd:0 < q.den:=pos_of_ne_zero q.den_nz;rw [Nat.mul_div_cancel_left _ hd,intCast_mul,num_eq q,natCast_mul,intCast_natCast];grind
structure Cm (L B:Nat) (q:Rat):Prop where
 d:q.den ∣ L
 lo:-(B:Rat)<=q
 hi:q<=(B:Rat)
theorem Hz {a b:Nat} (h:a<=b):(a:Rat)<=(b:Rat):=by
 rw [<- intCast_natCast,<- intCast_natCast];exact intCast_le_intCast.mpr (by omega)
theorem Hy (a:Nat):(0:Rat)<=(a:Rat):=Hz (zero_le a)
theorem Cm.mono {L B L' B':Nat} {q:Rat} (h:Cm L B q) (hl:L ∣ L') (hb:B<=B'):Cm L' B' q:=by
 have:=Hz hb;exact ⟨dvd_trans h.d hl,by have:=h.lo; grind,by have:=h.hi; grind⟩
theorem Cm.neg {L B:Nat} {q:Rat} (h:Cm L B q):Cm L B (-q):=⟨h.d,by have:=h.hi; grind,by have:=h.lo; grind⟩
theorem Cm.add {L B C:Nat} {p q:Rat} (hp:Cm L B p) (hq:Cm L C q):Cm L (B + C) (p + q):=by
 refine ⟨?_,?_,?_⟩
 ·by_cases hL:L = 0
  ·rw [hL]; exact Nat.dvd_zero _
  ·refine Rn hL (n:=p.num * ((L / p.den:Nat):Int) + q.num * ((L / q.den:Nat):Int)) ?_;rw [intCast_add,<- wN hp.d,<- wN hq.d];grind
 ·rw [Rat.natCast_add]; have:=hp.lo; have:=hq.lo; grind
 ·rw [Rat.natCast_add]; have:=hp.hi; have:=hq.hi; grind
theorem Cm.sub {L B C:Nat} {p q:Rat} (hp:Cm L B p) (hq:Cm L C q):Cm L (B + C) (p - q):=by
 rw [sub_eq_add_neg]; exact hp.add hq.neg
theorem Pv {a b B C:Rat} (h1:-B<=a) (h2:a<=B) (h3:-C<=b) (h4:b<=C):a * b<=B * C/\-(B * C)<=a * b:=by
 have k1:0<=(B - a) * (C + b):=mul_nonneg (by grind) (by grind);have k2:0<=(B + a) * (C - b):=mul_nonneg (by grind) (by grind);have k3:0<=(B - a) * (C - b):=mul_nonneg (by grind) (by grind);have k4:0<=(B + a) * (C + b):=mul_nonneg (by grind) (by grind);constructor <;> grind
theorem Cm.mul {L B M C:Nat} {p q:Rat} (hp:Cm L B p) (hq:Cm M C q):Cm (L * M) (B * C) (p * q):=by
 refine ⟨?_,?_,?_⟩
 ·by_cases hL:L * M = 0
  ·rw [hL]; exact Nat.dvd_zero _
  ·refine Rn hL (n:=(p.num * ((L / p.den:Nat):Int)) * (q.num * ((M / q.den:Nat):Int))) ?_;rw [intCast_mul,<- wN hp.d,<- wN hq.d,natCast_mul];grind
 ·rw [natCast_mul]; exact (Pv hp.lo hp.hi hq.lo hq.hi).2
 ·rw [natCast_mul]; exact (Pv hp.lo hp.hi hq.lo hq.hi).1
theorem Cm.int {i:Int} {B:Nat} (h:i.natAbs<=B):Cm 1 B (i:Rat):=by
 refine ⟨by simp,?_,?_⟩
 ·rw [<- intCast_natCast,<- intCast_neg]; exact intCast_le_intCast.mpr (by omega)
 ·rw [<- intCast_natCast]; exact intCast_le_intCast.mpr (by omega)
theorem Cm.zero {L B:Nat}:Cm L B 0:=by
 have:=Hy B;exact ⟨by simp,by grind,this⟩
theorem Cm.num {L B:Nat} {q:Rat} (h:Cm L B q):q.num.natAbs<=B * q.den:=by
 have hd:(0:Rat)<=(q.den:Rat):=Hy _;have e:=num_eq q;have h1:(q.num:Rat)<=((B * q.den:Nat):Rat):=by
  rw [e,natCast_mul]; exact Rat.mul_le_mul_of_nonneg_right h.hi hd
 have h2:-((B * q.den:Nat):Rat)<=(q.num:Rat):=by
  rw [e,natCast_mul,<- Rat.neg_mul]; exact Rat.mul_le_mul_of_nonneg_right h.lo hd
 rw [<- intCast_natCast] at h1 h2;rw [<- intCast_neg] at h2;have h3:=intCast_le_intCast.mp h1;have h4:=intCast_le_intCast.mp h2;omega
theorem Cm.den {L B:Nat} {q:Rat} (h:Cm L B q) (hL:0 < L):q.den<=L:=le_of_dvd hL h.d
theorem Cm.sz {L B:Nat} {q:Rat} (h:Cm L B q) (hL:0 < L):Sz ((B + 1) * L) q:=by
 have h1:=h.num;have h2:=h.den hL;have h3:B * q.den<=B * L:=mul_le_mul_left _ h2;have h4:(B + 1) * L = B * L + L:=by rw [add_mul,one_mul]
 exact ⟨by omega,by omega⟩
theorem Cm.of {q:Rat} {L B:Nat} (hd:q.den ∣ L) (hn:q.num.natAbs<=B * q.den):Cm L B q:=by
 have hp:(0:Rat) < (q.den:Rat):=by
  rw [<- intCast_natCast]; exact intCast_pos.mpr (by have:=q.den_nz; omega)
 have e:=num_eq q;have h1:(q.num:Rat)<=(B:Rat) * (q.den:Rat):=by
  rw [<- natCast_mul,<- intCast_natCast]; exact intCast_le_intCast.mpr (by omega)
 have h2:-((B:Rat) * (q.den:Rat))<=(q.num:Rat):=by
  rw [<- natCast_mul,<- intCast_natCast,<- intCast_neg]; exact intCast_le_intCast.mpr (by omega)
 rw [e] at h1 h2;refine ⟨hd,?_,?_⟩
 ·refine not_lt.mp fun c=>?_;have:=mul_lt_mul_of_pos_right c hp;rw [Rat.neg_mul] at this;grind
 ·refine not_lt.mp fun c=>?_;have:=mul_lt_mul_of_pos_right c hp;grind
theorem Cm.div {t:Int} {b L B:Nat} (hb:0 < b) (hd:b ∣ L) (ht:t.natAbs<=B * b):Cm L B (divInt t (b:Int)):=by
 have h1:=Hk t (b:=(b:Int)) (by omega);have hc:=Sf t (b:Int) (by omega);refine Cm.of (dvd_trans (by simpa using h1) hd) ?_;have h2:(divInt t (b:Int)).num.natAbs * b = t.natAbs * (divInt t (b:Int)).den:=by
  have:=congrArg natAbs hc;rw [natAbs_mul,natAbs_mul] at this;simpa using this
 refine Nat.le_of_mul_le_mul_right ?_ hb;rw [h2]
 calc t.natAbs * (divInt t (b:Int)).den<=(B * b) * (divInt t (b:Int)).den:=mul_le_mul_right _ ht
  _ = B * (divInt t (b:Int)).den * b:=by rw [mul_assoc,mul_comm b,mul_assoc]
def Dg (n:Nat) (q:Rat):Prop:=Sz (10 ^ n) q
theorem Lo {a b:Nat} (h:a<=b):10 ^ a<=10 ^ b:=pow_le_pow_right (by decide) h
theorem qK (a b:Nat):2 * (10 ^ a * 10 ^ b)<=10 ^ (a + b + 1):=by
 rw [pow_succ,pow_add];omega
theorem Dg.mono {a b:Nat} {q:Rat} (h:Dg a q) (l:a<=b):Dg b q:=Sz.mono h (Lo l)
theorem Dg.add {a b:Nat} {p q:Rat} (hp:Dg a p) (hq:Dg b q):Dg (a + b + 1) (p + q):=(Sz.add hp hq).mono (qK a b)
theorem Dg.sub {a b:Nat} {p q:Rat} (hp:Dg a p) (hq:Dg b q):Dg (a + b + 1) (p - q):=(Sz.sub hp hq).mono (qK a b)
theorem Dg.mul {a b:Nat} {p q:Rat} (hp:Dg a p) (hq:Dg b q):Dg (a + b + 1) (p * q):=(Sz.mul hp hq).mono (qK a b)
theorem Dg.neg {a:Nat} {p:Rat} (hp:Dg a p):Dg a (-p):=Sz.neg hp
theorem Dg.int {n:Nat} {i:Int} (h:i.natAbs<=10 ^ n):Dg n (i:Rat):=⟨h,pow_pos (n:=n) (by decide)⟩
def bL (q:Rat):Rat:=⟨(q.num.natAbs:Int),q.den,q.den_nz,by simpa using q.reduced⟩
theorem jW (q:Rat):(bL q).num = ((q.num.natAbs:Nat):Int):=rfl
theorem dL {q:Rat} (h:0<=q):bL q = q:=by
 have:=num_nonneg.mpr h;exact Rat.ext (by rw [jW]; omega) rfl
theorem iV {q:Rat} (h:q<=0):bL q = -q:=by
 have h1:0<=-q:=by grind
 have:=num_nonneg.mpr h1;exact Rat.ext (by rw [jW]; show _ = -q.num; have e:(-q).num = -q.num:=rfl; omega) rfl
theorem oO (q:Rat):0<=bL q:=num_nonneg.mp (by rw [jW]; omega)
theorem dG (q:Rat):(0<=q/\bL q = q)\/(q<=0/\bL q = -q):=by
 rcases le_total (a:=0) (b:=q) with h | h
 ·exact .inl ⟨h,dL h⟩
 ·exact .inr ⟨h,iV h⟩
theorem Cm.abs {L B:Nat} {q:Rat} (h:Cm L B q):Cm L B (bL q):=by
 rcases dG q with ⟨_,e⟩ | ⟨_,e⟩
 ·rw [e]; exact h
 ·rw [e]; exact h.neg
theorem Dg.abs {n:Nat} {q:Rat} (h:Dg n q):Dg n (bL q):=⟨by rw [jW]; exact h.n,h.d⟩
theorem Cm.dg {L B l b:Nat} {q:Rat} (h:Cm L B q) (hL:0 < L) (h1:L<=10 ^ l) (h2:B<=10 ^ b):Dg (b + l + 1) q:=by
 refine (h.sz hL).mono ?_;have e:(B + 1) * L<=(10 ^ b + 10 ^ b) * 10 ^ l:=mul_le_mul (by have:=pow_pos (n:=b) (show 0 < 10 by decide); omega) h1;have:=qK b l;rw [add_mul (10 ^ b)] at e;omega
end Fm
namespace Dl
open PySem PySem.Spec PyProof.Rows L2 Lx
inductive Sl where
 | dat (d:PyData)
 | own (ds:List PyData)
  | exc (C:Addr)
  | two (xs ys:List PyData)
  | fz (as:List Addr) (d:PyData)
  | mon (φ:PySem.W.Frag->Hp->V->Prop)
abbrev cD:=List (Option Sl)
def slot:cD->Nat->Option Sl
 | [],_=>none
 | x :: _,0=>x
 | _ :: xs,n + 1=>slot xs n
def put (s:Option Sl):Nat->cD->cD
 | _,[]=>[]
 | 0,_ :: xs=>s :: xs
 | n + 1,x :: xs=>x :: put s n xs
theorem lD (s:Option Sl):∀ (i j:Nat) (δ:cD),slot (put s i δ) j = if j = i/\i < δ.length then s else slot δ j
 | i,j,[]=>by cases i <;> simp [put,slot]
 | 0,0,x :: xs=>by simp [put,slot]
 | 0,j + 1,x :: xs=>by simp [put,slot]
 | i + 1,0,x :: xs=>by simp [put,slot]
 | i + 1,j + 1,x :: xs=>by
  have:=lD s i j xs;simp only [put,slot,this,length_cons];simp
theorem qQ (s:Option Sl):∀ (i:Nat) (δ:cD),(put s i δ).length = δ.length
 | i,[]=>by cases i <;> rfl
 | 0,x :: xs=>rfl
 | i + 1,x :: xs=>by simp [put,qQ s i xs]
theorem lC {K:W.Frag} {H H':Hp} {a:Addr} {xs:List V} (e:Same H H') (h:SqT K H a xs):SqT K H' a xs:=by
 rcases h with (h | ⟨o,h⟩) | h
 ·exact .inl (.inl (e _ _ h))
 ·exact .inl (.inr ⟨o,e _ _ h⟩)
 ·exact .inr h
mutual
theorem cS {K:W.Frag} {H H':Hp} (s:Same H H'):∀ {x:V} {d:PyData},DV K H x d->DV K H' x d
 | _,_,.non=>.non
 | _,_,.bl b=>.bl b
 | _,_,.int i=>.int i
 | _,_,.str x=>.str x
 | _,_,.tup h hs=>.tup (lC s h) (bC s hs)
 | _,_,.lst h hs=>.lst (s.seq h) (bC s hs)
 | _,_,.dct h=>.dct (s _ _ h)
theorem bC {K:W.Frag} {H H':Hp} (s:Same H H'):∀ {xs:List V} {ds:List PyData},DVs K H xs ds->DVs K H' xs ds
 | _,_,.nil=>.nil
 | _,_,.cons h t=>.cons (cS s h) (bC s t)
end
mutual
def mR:PyData->Bool
 | .none=>true
 | .bool _=>true
 | .int _=>true
 | .str _=>true
 | .list _=>false
 | .tuple ds=>dF ds
 | .dict _=>true
def dF:List PyData->Bool
 | []=>true
 | d :: ds=>mR d && dF ds
end
def Sub (G H:Hp):Prop:=∀ b,G b = H b\/(G b = none/\∃ xs,H b = some (.lst xs))
theorem Sub.same {G H:Hp} (s:Sub G H):Same G H:=fun b o e=>by
 rcases s b with h | ⟨h,_⟩
 ·rw [<- h]; exact e
 ·rw [h] at e; cases e
theorem Sub.refl (H:Hp):Sub H H:=fun _=>.inl rfl
theorem Sub.other {G H:Hp} (s:Sub G H) {b:Addr} {o:HO} (h:H b = some o) (n:∀ xs,o ≠ .lst xs):G b = some o:=by
 rcases s b with e | ⟨_,xs,e⟩
 ·rw [e]; exact h
 ·rw [h] at e; cases e; exact absurd rfl (n xs)
mutual
theorem Hf {K:W.Frag} {G H:Hp} (s:∀ b o,H b = some o->(∀ xs,o ≠ .lst xs)->G b = some o):∀ {x:V} {d:PyData},DV K H x d->mR d = true->DV K G x d
 | _,_,.non,_=>.non
 | _,_,.bl b,_=>.bl b
 | _,_,.int i,_=>.int i
 | _,_,.str x,_=>.str x
 | _,_,.tup h hs,f=>.tup (by
   rcases h with (h | ⟨o,h⟩) | h
   ·exact .inl (.inl (s _ _ h (by intro xs z; cases z)))
   ·exact .inl (.inr ⟨o,s _ _ h (by intro xs z; cases z)⟩)
   ·exact .inr h) (iF s hs f)
 | _,_,.lst _ _,f=>by cases f
 | _,_,.dct h,_=>.dct (s _ _ h (by intro xs z; cases z))
theorem iF {K:W.Frag} {G H:Hp} (s:∀ b o,H b = some o->(∀ xs,o ≠ .lst xs)->G b = some o):∀ {xs:List V} {ds:List PyData},DVs K H xs ds->dF ds = true->DVs K G xs ds
 | _,_,.nil,_=>.nil
 | _,_,.cons h t,f=>by
  simp only [dF,and_eq_true] at f;exact .cons (Hf s h f.1) (iF s t f.2)
end
end Dl
namespace Lx
open PySem PySem.Spec PyProof.Rows L2
theorem DVs.len {K:W.Frag} {H:Hp}:∀ {xs:List V} {ds:List PyData},DVs K H xs ds->xs.length = ds.length
 | _,_,.nil=>rfl
 | _,_,.cons _ t=>congrArg (· + 1) (DVs.len t)
theorem DVs.at {K:W.Frag} {H:Hp}:∀ {xs:List V} {ds:List PyData} {i:Nat} {d:PyData},DVs K H xs ds->ds[i]? = some d->∃ x,xs[i]? = some x/\DV K H x d
 | _,_,_,_,.nil,e=>by simp at e
 | _,_,0,_,.cons h _,e=>by
  simp at e;subst e;exact ⟨_,rfl,h⟩
 | _,_,i + 1,_,.cons _ t,e=>by
  obtain ⟨x,h1,h2⟩:=DVs.at (i:=i) t (by simpa using e);exact ⟨x,by simpa using h1,h2⟩
theorem DVs.append {K:W.Frag} {H:Hp}:∀ {xs ys:List V} {ds es:List PyData},DVs K H xs ds->DVs K H ys es->DVs K H (xs ++ ys) (ds ++ es)
 | _,_,_,_,.nil,h=>h
 | _,_,_,_,.cons r t,h=>.cons r (DVs.append t h)
theorem DVs.take {K:W.Frag} {H:Hp}:∀ {xs:List V} {ds:List PyData} (n:Nat),DVs K H xs ds->DVs K H (xs.take n) (ds.take n)
 | _,_,0,_=>by simp only [take_zero]; exact .nil
 | _,_,_ + 1,.nil=>.nil
 | _,_,n + 1,.cons r t=>.cons r (DVs.take n t)
theorem DVs.drop {K:W.Frag} {H:Hp}:∀ {xs:List V} {ds:List PyData} (n:Nat),DVs K H xs ds->DVs K H (xs.drop n) (ds.drop n)
 | _,_,0,h=>by simp only [drop_zero]; exact h
 | _,_,_ + 1,.nil=>.nil
 | _,_,n + 1,.cons _ t=>DVs.drop n t
theorem DVs.set {K:W.Frag} {H:Hp} {x:V} {d:PyData} (r:DV K H x d):∀ {xs:List V} {ds:List PyData} (i:Nat),DVs K H xs ds->DVs K H (xs.set i x) (ds.set i d)
 | _,_,_,.nil=>.nil
 | _,_,0,.cons _ t=>.cons r t
 | _,_,i + 1,.cons q t=>.cons q (DVs.set r i t)
end Lx
namespace Dl
open PySem PySem.Spec PyProof.Rows L2 Lx
inductive Rws (K:PySem.W.Frag) (G H:Hp):List Addr->List (List PyData)->Prop
 | nil:Rws K G H [] []
 | cons {b:Addr} {bs:List Addr} {vs:List V} {ds:List PyData} {dss:List (List PyData)}:H b = some (.lst vs)->DVs K G vs ds->Rws K G H bs dss->Rws K G H (b :: bs) (ds :: dss)
theorem Rws.mono {K:W.Frag} {G H G' H':Hp} (g:Same G G') (h:Same H H'):∀ {bs:List Addr} {dss:List (List PyData)},Rws K G H bs dss->Rws K G' H' bs dss
 | _,_,.nil=>.nil
 | _,_,.cons h1 h2 r=>.cons (h _ _ h1) (bC g h2) (r.mono g h)
theorem Rws.dv {K:W.Frag} {G H:Hp} (Gf:Hp) (g:Same G Gf):∀ {bs:List Addr} {dss:List (List PyData)},(∀ c∈bs,Gf c = H c)->Rws K G H bs dss->DVs K Gf (bs.map V.ref) (dss.map PyData.list)
 | _,_,_,.nil=>.nil
 | _,_,f,.cons h1 h2 r=>.cons (.lst (SqL.of (by rw [f _ mem_cons_self]; exact h1)) (bC g h2)) (r.dv Gf g fun c hc=>f c (mem_cons_of_mem _ hc))
inductive FzIs (K:W.Frag) (G:Hp):V->List Addr->PyData->Prop
 | pair {t a b:Addr} {vs ws:List V} {xs ys:List PyData}:SqT K G t [.ref a,.ref b]->a ≠ b->G a = some (.lst vs)->G b = some (.lst ws)->DVs K G vs xs->DVs K G ws ys->FzIs K G (.ref t) [a,b] (.tuple [.list xs,.list ys])
 | one {a:Addr} {vs:List V} {ds:List PyData}:G a = some (.lst vs)->DVs K G vs ds->FzIs K G (.ref a) [a] (.list ds)
 | gr {a:Addr} {cs:List Addr} {dss:List (List PyData)}:G a = some (.lst (cs.map V.ref))->(a :: cs).Nodup->Rws K G G cs dss->FzIs K G (.ref a) (a :: a :: cs) (.list (dss.map PyData.list))
 | tg {t p a:Addr} {cs:List Addr} {vs:List V} {xs:List PyData} {dss:List (List PyData)}:SqT K G t [.ref p,.ref a]->(p :: a :: cs).Nodup->G p = some (.lst vs)->DVs K G vs xs->G a = some (.lst (cs.map V.ref))->Rws K G G cs dss->FzIs K G (.ref t) (p :: p :: a :: cs) (.tuple [.list xs,.list (dss.map PyData.list)])
theorem FzIs.same {K:W.Frag} {G G':Hp} {v:V} {as:List Addr} {d:PyData} (s:Same G G') (h:FzIs K G v as d):FzIs K G' v as d:=by
 cases h with
 | pair h1 h2 h3 h4 h5 h6=>exact .pair (lC s h1) h2 (s _ _ h3) (s _ _ h4) (bC s h5) (bC s h6)
 | one h1 h2=>exact .one (s _ _ h1) (bC s h2)
 | gr h1 h2 h3=>exact .gr (s _ _ h1) h2 (h3.mono s s)
 | tg h1 h2 h3 h4 h5 h6=>exact .tg (lC s h1) h2 (s _ _ h3) (bC s h4) (s _ _ h5) (h6.mono s s)
theorem FzIs.dv {K:W.Frag} {G:Hp} {v:V} {as:List Addr} {d:PyData} (h:FzIs K G v as d):DV K G v d:=by
 cases h with
 | pair h1 h2 h3 h4 h5 h6=>exact .tup h1 (.cons (.lst (SqL.of h3) h5) (.cons (.lst (SqL.of h4) h6) .nil))
 | one h1 h2=>exact .lst (SqL.of h1) h2
 | gr h1 h2 h3=>exact .lst (SqL.of h1) (h3.dv G (Same.refl _) fun _ _=>rfl)
 | tg h1 h2 h3 h4 h5 h6=>exact .tup h1 (.cons (.lst (SqL.of h3) h4) (.cons (.lst (SqL.of h5) (h6.dv G (Same.refl _) fun _ _=>rfl)) .nil))
def SlIs (K:W.Frag) (G H:Hp) (v:V):Sl->Prop
 | .dat d=>DV K G v d
 | .own ds=>∃ a vs,v = .ref a/\G a = none/\H a = some (.lst vs)/\DVs K G vs ds
 | .exc C=>∃ x,v = .ref x/\G x = some (.ext (aLs x C))
 | .two _ _=>False
 | .fz as d=>FzIs K G v as d
 | .mon φ=>∀ G',Same G G'->φ K G' v
structure Sees (K:W.Frag) (H₀ G:Hp) (δ:cD) (σ:L2.St) (H:Hp):Prop where
 old:Same H₀ G
 sub:Sub G H
 len:δ.length<=σ.length
 has:∀ i s,slot δ i = some s->∃ v,σ[i]? = some (some v)/\SlIs K G H v s
 sep:∀ i j xs ys a,slot δ i = some (.own xs)->slot δ j = some (.own ys)->σ[i]? = some (some (.ref a))->σ[j]? = some (some (.ref a))->i = j
structure Ext (G H G' H':Hp):Prop where
 g:Same G G'
 h:Same H H'
 s:Sub G' H'
 n:∀ b o,G' b = some o->G b = some o\/H b = none
theorem Ext.refl {G H:Hp} (s:Sub G H):Ext G H G H:=⟨Same.refl _,Same.refl _,s,fun _ _ h=>.inl h⟩
theorem Ext.trans {G H G1 H1 G2 H2:Hp} (a:Ext G H G1 H1) (b:Ext G1 H1 G2 H2):Ext G H G2 H2 :=
 ⟨a.g.trans b.g,a.h.trans b.h,b.s,fun c o h=>by
  rcases b.n c o h with z | z
  ·exact a.n c o z
  ·exact .inr (a.h.free z)⟩
theorem Ext.keep {G H G' H':Hp} (e:Ext G H G' H') {a:Addr} (hg:G a = none) {o:HO} (hh:H a = some o):G' a = none:=by
 cases q:G' a with
 | none=>rfl
 | some u =>
  rcases e.n a u q with z | z
  ·rw [hg] at z; cases z
  ·rw [hh] at z; cases z
section
variable {K:W.Frag} {H₀ G H G' H':Hp} {δ:cD} {σ:L2.St}
theorem SlIs.ext {v:V} {s:Sl} (e:Ext G H G' H') (h:SlIs K G H v s):SlIs K G' H' v s:=by
 cases s with
 | dat d=>exact cS e.g h
 | own ds =>
  obtain ⟨a,vs,rfl,hg,hh,hd⟩:=h;exact ⟨a,vs,rfl,e.keep hg hh,e.h _ _ hh,bC e.g hd⟩
 | two xs ys=>exact h.elim
 | fz as d=>exact FzIs.same e.g h
 | mon φ=>exact fun G2 s2=>h G2 (e.g.trans s2)
 | exc C =>
  obtain ⟨x,rfl,hx⟩:=h;exact ⟨x,rfl,e.g _ _ hx⟩
theorem Sees.ext (S:Sees K H₀ G δ σ H) (e:Ext G H G' H'):Sees K H₀ G' δ σ H' :=
 ⟨S.old.trans e.g,e.s,S.len,fun i s h=>by
  obtain ⟨v,h1,h2⟩:=S.has i s h
  exact ⟨v,h1,h2.ext e⟩,S.sep⟩
theorem Sees.refl (S:Sees K H₀ G δ σ H):Ext G H G H:=.refl S.sub
theorem Sees.oldH (S:Sees K H₀ G δ σ H):Same H₀ H:=S.old.trans S.sub.same
theorem qL:∀ {δ:cD} {i:Nat} {s:Sl},slot δ i = some s->i < δ.length
 | [],_,_,h=>by cases h
 | _ :: _,0,_,_=>Nat.zero_lt_succ _
 | _ :: xs,i + 1,s,h=>Nat.succ_lt_succ (qL (δ:=xs) (i:=i) (s:=s) h)
theorem Sees.setS {v:V} {s:Sl} (S:Sees K H₀ G δ σ H) (i:Nat) (h:SlIs K G H v s) (hs:∀ ds j es a,s = .own ds->slot δ j = some (.own es)->σ[j]? = some (some (.ref a))->v ≠ .ref a):Sees K H₀ G (put (some s) i δ) (σ.set i (some v)) H:=by
 have look:∀ j u,slot (put (some s) i δ) j = some u->(j = i/\u = s/\(σ.set i (some v))[j]? = some (some v))\/(j ≠ i/\slot δ j = some u/\(σ.set i (some v))[j]? = σ[j]?):=fun j u hj=>by
  rw [lD] at hj;split at hj
  ·rename_i hc
   obtain ⟨rfl,hl⟩:=hc;cases hj;exact .inl ⟨rfl,rfl,by rw [getElem?_set_self (lt_of_lt_of_le hl S.len)]⟩
  ·rename_i hc
   have hji:j ≠ i:=fun z=>hc ⟨z,by rw [<- z]; exact qL hj⟩;exact .inr ⟨hji,hj,by rw [getElem?_set_ne (Ne.symm hji)]⟩
 refine ⟨S.old,S.sub,by rw [qQ,length_set]; exact S.len,fun j u hj=>?_,fun j k xs ys a hj hk e1 e2=>?_⟩
 ·rcases look j u hj with ⟨rfl,rfl,e⟩ | ⟨_,h1,e⟩
  ·exact ⟨v,e,h⟩
  ·rw [e]; exact S.has j u h1
 ·rcases look j _ hj with ⟨rfl,z1,e3⟩ | ⟨n1,h1,e3⟩ <;> rcases look k _ hk with ⟨rfl,z2,e4⟩ | ⟨n2,h2,e4⟩
  ·rfl
  ·rw [e3] at e1; rw [e4] at e2;cases e1;exact absurd rfl (hs xs k ys a z1.symm h2 e2)
  ·rw [e3] at e1; rw [e4] at e2;cases e2;exact absurd rfl (hs ys j xs a z2.symm h1 e1)
  ·rw [e3] at e1; rw [e4] at e2;exact S.sep j k xs ys a h1 h2 e1 e2
theorem Sees.setD {v:V} {d:PyData} (S:Sees K H₀ G δ σ H) (i:Nat) (h:DV K G v d):Sees K H₀ G (put (some (.dat d)) i δ) (σ.set i (some v)) H :=
 S.setS i (s:=.dat d) h fun _ _ _ _ z=>nomatch z
theorem Sees.ownAt (S:Sees K H₀ G δ σ H) {i:Nat} {ds:List PyData} (h:slot δ i = some (.own ds)):∃ a vs,σ[i]? = some (some (.ref a))/\G a = none/\H a = some (.lst vs)/\DVs K G vs ds:=by
 obtain ⟨v,h1,a,vs,rfl,h2,h3,h4⟩:=S.has i _ h;exact ⟨a,vs,h1,h2,h3,h4⟩
theorem Sees.setO {a:Addr} {vs:List V} {ds:List PyData} (S:Sees K H₀ G δ σ H) (e:Ext G H G' H') (i:Nat) (hn:H a = none) (hg:G' a = none) (hh:H' a = some (.lst vs)) (hd:DVs K G' vs ds) :
  Sees K H₀ G' (put (some (.own ds)) i δ) (σ.set i (some (.ref a))) H' :=
 (S.ext e).setS i (s:=.own ds) ⟨a,vs,rfl,hg,hh,hd⟩ fun _ j es b _ h1 h2 z=>by
  cases z;obtain ⟨c,ws,q1,q2,q3,q4⟩:=S.ownAt h1;rw [h2] at q1;cases q1;rw [hn] at q3; cases q3
theorem Sees.updO {i:Nat} {a:Addr} {ds es:List PyData} {vs:List V} (S:Sees K H₀ G δ σ H) (h:slot δ i = some (.own ds)) (ha:σ[i]? = some (some (.ref a))) (hd:DVs K G vs es) :
  Sees K H₀ G (put (some (.own es)) i δ) σ (eT H a (.lst vs)):=by
 obtain ⟨b,ws,q1,q2,q3,q4⟩:=S.ownAt h;rw [ha] at q1;cases q1;have look:∀ j u,slot (put (some (.own es)) i δ) j = some u->(j = i/\u = .own es)\/(j ≠ i/\slot δ j = some u):=fun j u hj=>by
  rw [lD] at hj;split at hj
  ·rename_i hc
   cases hj;exact .inl ⟨hc.1,rfl⟩
  ·rename_i hc
   exact .inr ⟨fun z=>hc ⟨z,by rw [<- z]; exact qL hj⟩,hj⟩
 refine ⟨S.old,fun c=>?_,by rw [qQ]; exact S.len,fun j u hj=>?_,fun j k xs ys c hj hk e1 e2=>?_⟩
 ·by_cases z:c = a
  ·subst z;exact .inr ⟨q2,vs,bM⟩
  ·rw [bJ z]; exact S.sub c
 ·rcases look j u hj with ⟨rfl,rfl⟩ | ⟨n1,h1⟩
  ·exact ⟨_,ha,a,vs,rfl,q2,bM,hd⟩
  ·obtain ⟨v,h2,h3⟩:=S.has j u h1;refine ⟨v,h2,?_⟩;cases u with
   | dat d=>exact h3
   | two xs ys=>exact h3.elim
   | fz as d=>exact h3
   | mon φ=>exact h3
   | exc C=>exact h3
   | own xs =>
    obtain ⟨c,ws,rfl,p1,p2,p3⟩:=h3;refine ⟨c,ws,rfl,p1,?_,p3⟩;rw [bJ (fun z=>?_)]
    ·exact p2
    ·subst z;exact n1 (S.sep j i xs ds c h1 h h2 ha)
 ·rcases look j _ hj with ⟨rfl,_⟩ | ⟨n1,h1⟩ <;> rcases look k _ hk with ⟨rfl,_⟩ | ⟨n2,h2⟩
  ·rfl
  ·exact S.sep j k ds ys c h h2 e1 e2
  ·exact S.sep j k xs ds c h1 h e1 e2
  ·exact S.sep j k xs ys c h1 h2 e1 e2
theorem Sees.frz {i:Nat} {ds:List PyData} (S:Sees K H₀ G δ σ H) (h:slot δ i = some (.own ds)):∃ G',Same G G'/\Sees K H₀ G' (put (some (.dat (.list ds))) i δ) σ H:=by
 obtain ⟨a,vs,q1,q2,q3,q4⟩:=S.ownAt h;have sg:Same G (eT G a (.lst vs)):=fun b o e=>by rw [bJ (bS e q2)]; exact e
 refine ⟨eT G a (.lst vs),sg,S.old.trans sg,fun b=>?_,by rw [qQ]; exact S.len,fun j u hj=>?_,fun j k xs ys c hj hk e1 e2=>?_⟩
 ·by_cases z:b = a
  ·subst z;exact .inl (by rw [bM,q3])
  ·rw [bJ z]; exact S.sub b
 ·rw [lD] at hj;split at hj
  ·rename_i hc
   cases hj;exact ⟨_,by rw [hc.1]; exact q1,.lst (SqL.of bM) (bC sg q4)⟩
  ·rename_i hc
   have hji:j ≠ i:=fun z=>hc ⟨z,by rw [<- z]; exact qL hj⟩;obtain ⟨v,h2,h3⟩:=S.has j u hj;refine ⟨v,h2,?_⟩;cases u with
   | dat d=>exact cS sg h3
   | two xs ys=>exact h3.elim
   | fz as d=>exact FzIs.same sg h3
   | mon φ=>exact fun G2 s2=>h3 G2 (sg.trans s2)
   | exc C =>
    obtain ⟨x,rfl,hx⟩:=h3;exact ⟨x,rfl,sg _ _ hx⟩
   | own xs =>
    obtain ⟨c,ws,rfl,p1,p2,p3⟩:=h3;refine ⟨c,ws,rfl,?_,p2,bC sg p3⟩;rw [bJ (fun z=>?_)]
    ·exact p1
    ·subst z;exact hji (S.sep j i xs ds c hj h h2 q1)
 ·have look:∀ j u,slot (put (some (.dat (.list ds))) i δ) j = some (.own u)->slot δ j = some (.own u):=fun j u hj=>by
   rw [lD] at hj;split at hj
   ·cases hj
   ·exact hj
  exact S.sep j k xs ys c (look _ _ hj) (look _ _ hk) e1 e2
end
abbrev DX:=Addr->Prop
abbrev DE:=DX->cD->(PyData->Prop)->Prop
abbrev DL:=DX->cD->(List PyData->Prop)->Prop
abbrev DT:=DX->cD->(Bool->Prop)->Prop
def kU (H₀:Hp) (E:XK) (ex:DX):Prop:=∀ C H',Same H₀ H'->ex C->E (.ref C) none H'
section
variable (K:W.Frag) (H₀:Hp) (E:XK)
def gQ (te:TE) (de:DE):Prop:=∀ ex δ σ G H Qd Q,kU H₀ E ex->Sees K H₀ G δ σ H->de ex δ Qd->(∀ v d G' H',Ext G H G' H'->DV K G' v d->Qd d->Q v H')->te σ H Q
def kO (te:TE) (de:DE):Prop:=∀ ex δ σ G H Qd Q,kU H₀ E ex->Sees K H₀ G δ σ H->de ex δ Qd->(∀ v d G' H',Ext G H G' H'->DV K H' v d->Qd d->Q v H')->te σ H Q
def Tf (te:TE) (dl:DL):Prop:=∀ ex δ σ G H Qd Q,kU H₀ E ex->Sees K H₀ G δ σ H->dl ex δ Qd->(∀ a vs ds G' H',Ext G H G' H'->SqL K H' a vs->DVs K G' vs ds->Qd ds->Q (.ref a) H')->te σ H Q
def Cg (te:TE) (dl:DL):Prop:=∀ ex δ σ G H Qd Q,kU H₀ E ex->Sees K H₀ G δ σ H->dl ex δ Qd->(∀ a vs ds G' H',Ext G H G' H'->H a = none->G' a = none->H' a = some (.lst vs)->DVs K G' vs ds->Qd ds->Q (.ref a) H')->te σ H Q
def yO (tt:TT) (dt:DT):Prop:=∀ ex δ σ G H Qd Q,kU H₀ E ex->Sees K H₀ G δ σ H->dt ex δ Qd->(∀ b G' H',Ext G H G' H'->Qd b->Q b H')->tt σ H Q
def Cf (ta:TA) (dl:DL):Prop:=∀ ex δ σ G H Qd Q,kU H₀ E ex->Sees K H₀ G δ σ H->dl ex δ Qd->(∀ vs ds G' H',Ext G H G' H'->DVs K H' vs ds->Qd ds->Q vs H')->ta σ H Q
def AvE (ta:TA) (n:Nat) (dl:DL):Prop:=∀ ex δ σ G H Qd Q,kU H₀ E ex->Sees K H₀ G δ σ H->dl ex δ Qd->(∀ vs ds G' H',Ext G H G' H'->DVs K G' vs ds->ds.length = n->Qd ds->Q vs H')->ta σ H Q
end
def Wm (i:Nat) (_ex:DX) (δ:cD) (Q:PyData->Prop):Prop:=match slot δ i with
 | some (.dat d)=>Q d
 | _=>False
def Hx (i:Nat) (_ex:DX) (δ:cD) (Q:PyData->Prop):Prop:=match slot δ i with
 | some (.dat d)=>Q d
 | some (.own ds)=>Q (.list ds)
 | _=>False
def Ht (i:Nat) (_ex:DX) (δ:cD) (Q:List PyData->Prop):Prop:=match slot δ i with
 | some (.dat (.list ds))=>Q ds
 | some (.own ds)=>Q ds
 | _=>False
def dC (d:PyData) (_ex:DX) (_δ:cD) (Q:PyData->Prop):Prop:=Q d
def dFz (dl:DL) (ex:DX) (δ:cD) (Q:PyData->Prop):Prop:=dl ex δ fun ds=>Q (.list ds)
def tZ (de:DE) (ex:DX) (δ:cD) (Q:List PyData->Prop):Prop:=de ex δ fun d=>match d with
 | .list ds=>Q ds
 | _=>False
def aFd (_ex:DX) (_δ:cD) (Q:List PyData->Prop):Prop:=Q []
def Rz (de:DE) (dl:DL) (ex:DX) (δ:cD) (Q:List PyData->Prop):Prop:=de ex δ fun d=>dl ex δ fun ds=>Q (d :: ds)
section
variable {K:W.Frag} {H₀:Hp} {E:XK} {te:TE} {de:DE} {dl:DL} {ta:TA}
theorem aB (h:gQ K H₀ E te de):kO K H₀ E te de:=fun ex δ σ G H Qd Q hx S q k =>
 h ex δ σ G H Qd Q hx S q fun v d G' H' e hd=>k v d G' H' e (cS e.s.same hd)
theorem eI (h:Cg K H₀ E te dl):gQ K H₀ E te (dFz dl):=fun ex δ σ G H Qd Q hx S q k =>
 h ex δ σ G H _ Q hx S q fun a vs ds G' H' e hn hg hh hd qd=>by
  have sg:Same G' (eT G' a (.lst vs)):=fun b o z=>by rw [bJ (bS z hg)]; exact z
  refine k (.ref a) (.list ds) (eT G' a (.lst vs)) H' ⟨e.g.trans sg,e.h,fun b=>?_,fun b o z=>?_⟩ (.lst (SqL.of bM) (bC sg hd)) qd
  ·by_cases w:b = a
   ·subst w; exact .inl (by rw [bM,hh])
   ·rw [bJ w]; exact e.s b
  ·by_cases w:b = a
   ·subst w; exact .inr hn
   ·rw [bJ w] at z; exact e.n b o z
theorem mP (h:Cg K H₀ E te dl):Tf K H₀ E te dl:=fun ex δ σ G H Qd Q hx S q k =>
 h ex δ σ G H _ Q hx S q fun a vs ds G' H' e hn hg hh hd qd=>k a vs ds G' H' e (SqL.of hh) hd qd
theorem eB {G:Hp} {v:V} {ds:List PyData} (h:DV K G v (.list ds)):∃ a vs,v = .ref a/\SqL K G a vs/\DVs K G vs ds:=by
 cases h with
 | lst h1 h2=>exact ⟨_,_,rfl,h1,h2⟩
theorem oK {G:Hp} {v:V} {ds:List PyData} (h:DV K G v (.tuple ds)):∃ a vs,v = .ref a/\SqT K G a vs/\DVs K G vs ds:=by
 cases h with
 | tup h1 h2=>exact ⟨_,_,rfl,h1,h2⟩
theorem cF {G:Hp} {v:V} {i:Int} (h:DV K G v (.int i)):v = .int i:=by cases h; rfl
theorem lU {G:Hp} {v:V} {i:Bool} (h:DV K G v (.bool i)):v = .bl i:=by cases h; rfl
theorem cX {G:Hp} {v:V} {i:Str} (h:DV K G v (.str i)):v = .str i:=by cases h; rfl
theorem Rg {G:Hp} {v:V} (h:DV K G v .none):v = .non:=by cases h; rfl
theorem Qe (h:gQ K H₀ E te de):Tf K H₀ E te (tZ de):=fun ex δ σ G H Qd Q hx S q k =>
 h ex δ σ G H _ Q hx S q fun v d G' H' e hd qd=>by
  cases d with
  | list ds =>
   obtain ⟨a,vs,rfl,h1,h2⟩:=eB hd;exact k a vs ds G' H' e (e.s.same.seq h1) h2 qd
  | _=>exact qd.elim
theorem aL (i:Nat):gQ K H₀ E (iB i) (Wm i):=fun ex δ σ G H Qd Q hx S q k=>by
 unfold Wm at q;split at q
 ·rename_i d hs
  obtain ⟨v,h1,h2⟩:=S.has i _ hs;exact ⟨v,h1,k v d G H S.refl h2 q⟩
 ·exact q.elim
theorem aE (i:Nat):kO K H₀ E (iB i) (Hx i):=fun ex δ σ G H Qd Q hx S q k=>by
 unfold Hx at q;split at q
 ·rename_i d hs
  obtain ⟨v,h1,h2⟩:=S.has i _ hs;exact ⟨v,h1,k v d G H S.refl (cS S.sub.same h2) q⟩
 ·rename_i ds hs
  obtain ⟨a,vs,h1,h2,h3,h4⟩:=S.ownAt hs;exact ⟨_,h1,k _ _ G H S.refl (.lst (SqL.of h3) (bC S.sub.same h4)) q⟩
 ·exact q.elim
theorem bA (i:Nat):Tf K H₀ E (iB i) (Ht i):=fun ex δ σ G H Qd Q hx S q k=>by
 unfold Ht at q;split at q
 ·rename_i ds hs
  obtain ⟨v,h1,h2⟩:=S.has i _ hs;obtain ⟨a,vs,rfl,h3,h4⟩:=eB h2;exact ⟨_,h1,k a vs ds G H S.refl (S.sub.same.seq h3) h4 q⟩
 ·rename_i ds hs
  obtain ⟨a,vs,h1,h2,h3,h4⟩:=S.ownAt hs;exact ⟨_,h1,k a vs ds G H S.refl (SqL.of h3) h4 q⟩
 ·exact q.elim
theorem tY {v:V} {d:PyData} (h:∀ G:Hp,DV K G v d):gQ K H₀ E (tC v) (dC d):=fun ex δ σ G H Qd Q hx S q k=>k v d G H S.refl (h G) q
theorem aK {i:Int}:gQ K H₀ E (tC (.int i)) (dC (.int i)):=tY fun _=>.int i
theorem gN {i:Bool}:gQ K H₀ E (tC (.bl i)) (dC (.bool i)):=tY fun _=>.bl i
theorem bG {i:Str}:gQ K H₀ E (tC (.str i)) (dC (.str i)):=tY fun _=>.str i
theorem jM:gQ K H₀ E (tC .non) (dC .none):=tY fun _=>.non
theorem aG:Cf K H₀ E iS aFd:=fun ex δ σ G H Qd Q hx S q k=>k [] [] G H S.refl .nil q
theorem aC (h:kO K H₀ E te de) (t:Cf K H₀ E ta dl):Cf K H₀ E (eF te ta) (Rz de dl):=fun ex δ σ G H Qd Q hx S q k =>
 h ex δ σ G H _ _ hx S q fun v d G1 H1 e1 hd q1=>t ex δ σ G1 H1 _ _ hx (S.ext e1) q1 fun vs ds G2 H2 e2 hds q2 =>
  k (v :: vs) (d :: ds) G2 H2 (e1.trans e2) (.cons (cS e2.h hd) hds) q2
theorem bE:AvE K H₀ E iS 0 aFd:=fun ex δ σ G H Qd Q hx S q k=>k [] [] G H S.refl .nil rfl q
theorem aQ {n:Nat} (h:gQ K H₀ E te de) (t:AvE K H₀ E ta n dl):AvE K H₀ E (eF te ta) (n + 1) (Rz de dl):=fun ex δ σ G H Qd Q hx S q k =>
 h ex δ σ G H _ _ hx S q fun v d G1 H1 e1 hd q1=>t ex δ σ G1 H1 _ _ hx (S.ext e1) q1 fun vs ds G2 H2 e2 hds hn q2 =>
  k (v :: vs) (d :: ds) G2 H2 (e1.trans e2) (.cons (cS e2.g hd) hds) (by rw [length_cons,hn]) q2
theorem oF {G H:Hp} {p:Addr} {xs:List V} (s:Sub G H) (hp:H p = none):Ext G H (eT G p (.tup xs)) (eT H p (.tup xs)):=by
 have hg:G p = none:=s.same.free hp;refine ⟨fun b o z=>by rw [bJ (bS z hg)]; exact z,fun b o z=>by rw [bJ (bS z hp)]; exact z,fun b=>?_,fun b o z=>?_⟩
 ·by_cases w:b = p
  ·subst w; exact .inl (by rw [bM,bM])
  ·rw [bJ w,bJ w]; exact s b
 ·by_cases w:b = p
  ·subst w; exact .inr hp
  ·rw [bJ w] at z; exact .inl z
theorem gI {G H:Hp} {p:Addr} {xs:List V} (s:Sub G H) (hp:H p = none):Ext G H G (eT H p (.lst xs))/\G p = none:=by
 have hg:G p = none:=s.same.free hp;refine ⟨⟨Same.refl _,fun b o z=>by rw [bJ (bS z hp)]; exact z,fun b=>?_,fun b o z=>.inl z⟩,hg⟩;by_cases w:b = p
 ·subst w; exact .inr ⟨hg,xs,bM⟩
 ·rw [bJ w]; exact s b
def aKj (dl:DL) (ex:DX) (δ:cD) (Q:PyData->Prop):Prop:=dl ex δ fun ds=>Q (.tuple ds)
def aKv (dl:DL) (ex:DX) (δ:cD) (Q:List PyData->Prop):Prop:=dl ex δ Q
theorem cI {n:Nat} (h:AvE K H₀ E ta n dl) (hn:n<=1000):gQ K H₀ E (Zs ta) (aKj dl):=fun ex δ σ G H Qd Q hx S q k =>
 h ex δ σ G H _ _ hx S q fun vs ds G1 H1 e1 hd q0 q1=>⟨le_of_lt (bR (by rw [hd.len,q0]; exact hn)),fun p hp=>by
  have e2:=oF (xs:=vs) e1.s hp
  exact k (.ref p) (.tuple ds) _ _ (e1.trans e2) (.tup (SqT.of bM) (bC e2.g hd)) q1⟩
theorem dO {n:Nat} (h:AvE K H₀ E ta n dl) (hn:n<=1000):Cg K H₀ E (aHt ta) (aKv dl):=fun ex δ σ G H Qd Q hx S q k =>
 h ex δ σ G H _ _ hx S q fun vs ds G1 H1 e1 hd q0 q1=>⟨le_of_lt (bR (by rw [hd.len,q0]; exact hn)),fun p hp=>by
  obtain ⟨e2,hg⟩:=gI (xs:=vs) e1.s hp
  exact k p vs ds _ _ (e1.trans e2) (e1.h.free hp) hg bM hd q1⟩
end
section
variable {K:W.Frag} {H₀:Hp} {E:XK} {te ta tb:TE} {da db de:DE} {dl dk:DL} {t:TA} {tt tu:TT} {dt du:DT}
abbrev RD2:=PyData->PyData->(PyData->Prop)->Prop
def Em (K:W.Frag) (r:R2) (rd:RD2):Prop:=∀ (G H:Hp) (x y:V) (dx dy:PyData) (Qd:PyData->Prop) (Q:VK),DV K H x dx->DV K H y dy->rd dx dy Qd->(∀ v d,DV K G v d->Qd d->Q v H)->r x y H Q
def dOp (rd:RD2) (da db:DE) (ex:DX) (δ:cD) (Q:PyData->Prop):Prop:=da ex δ fun x=>db ex δ fun y=>rd x y Q
theorem aN {r:R2} {rd:RD2} (hr:Em K r rd) (ha:kO K H₀ E ta da) (hb:kO K H₀ E tb db):gQ K H₀ E (wP r ta tb) (dOp rd da db):=fun ex δ σ G H Qd Q hx S q k =>
 ha ex δ σ G H _ _ hx S q fun x dx G1 H1 e1 h1 q1=>hb ex δ σ G1 H1 _ _ hx (S.ext e1) q1 fun y dy G2 H2 e2 h2 q2 =>
  hr G2 H2 x y dx dy Qd Q (cS e2.h h1) h2 q2 fun v d hv qd=>k v d G2 H2 (e1.trans e2) hv qd
def oI (C:Int->Int->Prop) (f:Int->Int->Int) (x y:PyData) (Q:PyData->Prop):Prop:=match x,y with
 | .int i,.int j=>C i j/\Q (.int (f i j))
 | _,_=>False
def oI0 (f:Int->Int->Int) (x y:PyData) (Q:PyData->Prop):Prop:=match x,y with
 | .int i,.int j=>Q (.int (f i j))
 | _,_=>False
def oB0 (f:Int->Int->Bool) (x y:PyData) (Q:PyData->Prop):Prop:=match x,y with
 | .int i,.int j=>Q (.bool (f i j))
 | _,_=>False
theorem dM {C:Int->Int->Prop} {f:Int->Int->Int}:Em K (rI C fun i j=>.int (f i j)) (oI C f):=by
 intro G H x y dx dy Qd Q hx hy q k;unfold oI at q;split at q
 ·cases cF hx; cases cF hy;exact ⟨_,_,rfl,rfl,q.1,k _ _ (.int _) q.2⟩
 ·exact q.elim
theorem eO {f:Int->Int->Int}:Em K (Uo fun i j=>.int (f i j)) (oI0 f):=by
 intro G H x y dx dy Qd Q hx hy q k;unfold oI0 at q;split at q
 ·cases cF hx; cases cF hy;exact ⟨_,_,rfl,rfl,k _ _ (.int _) q⟩
 ·exact q.elim
theorem eW {f:Int->Int->Bool}:Em K (Uo fun i j=>.bl (f i j)) (oB0 f):=by
 intro G H x y dx dy Qd Q hx hy q k;unfold oB0 at q;split at q
 ·cases cF hx; cases cF hy;exact ⟨_,_,rfl,rfl,k _ _ (.bl _) q⟩
 ·exact q.elim
def oEq (x y:PyData) (Q:PyData->Prop):Prop:=match x,y with
 | .int i,.int j=>Q (.bool (decide (i = j)))
 | .str i,.str j=>Q (.bool (decide (i = j)))
 | .bool i,.bool j=>Q (.bool (decide (i = j)))
 | _,_=>False
def oNe (x y:PyData) (Q:PyData->Prop):Prop:=match x,y with
 | .int i,.int j=>Q (.bool (!decide (i = j)))
 | .str i,.str j=>Q (.bool (!decide (i = j)))
 | .bool i,.bool j=>Q (.bool (!decide (i = j)))
 | _,_=>False
theorem cN:Em K rEq oEq:=by
 intro G H x y dx dy Qd Q hx hy q k;unfold oEq at q;split at q
 ·cases cF hx; cases cF hy;refine ⟨rfl,k _ _ (.bl _) ?_⟩;simpa using q
 ·cases cX hx; cases cX hy;refine ⟨rfl,k _ _ (.bl _) ?_⟩;simpa using q
 ·cases lU hx; cases lU hy;refine ⟨rfl,k _ _ (.bl _) ?_⟩;simpa using q
 ·exact q.elim
theorem pO:Em K rNe oNe:=by
 intro G H x y dx dy Qd Q hx hy q k;unfold oNe at q;split at q
 ·cases cF hx; cases cF hy;refine ⟨rfl,k _ _ (.bl _) ?_⟩;simpa using q
 ·cases cX hx; cases cX hy;refine ⟨rfl,k _ _ (.bl _) ?_⟩;simpa using q
 ·cases lU hx; cases lU hy;refine ⟨rfl,k _ _ (.bl _) ?_⟩;simpa using q
 ·exact q.elim
def aMy (x y:PyData) (Q:PyData->Prop):Prop:=∃ (α:Type) (e:Enc α) (a b:α),x = e.d a/\y = e.d b/\∀ k:Bool,(k = true ↔ a = b)->Q (.bool k)
def aJk (x y:PyData) (Q:PyData->Prop):Prop:=∃ (α:Type) (e:Enc α) (a b:α),x = e.d a/\y = e.d b/\∀ k:Bool,(k = true ↔ a = b)->Q (.bool !k)
theorem oX:Em K (Jl K false) aMy:=by
 rintro G H x y dx dy Qd Q hx hy ⟨α,e,a,b,rfl,rfl,q⟩ k;exact ⟨α,e,a,b,hx,hy,fun c hc=>k _ _ (.bl _) (q c hc)⟩
theorem iT:Em K (Jl K true) aJk:=by
 rintro G H x y dx dy Qd Q hx hy ⟨α,e,a,b,rfl,rfl,q⟩ k;exact ⟨α,e,a,b,hx,hy,fun c hc=>k _ _ (.bl _) (q c hc)⟩
def aJn (x y:PyData) (Q:PyData->Prop):Prop:=∃ (α:Type) (e:Enc α) (a:α) (bs:List α),x = e.d a/\y = .list (bs.map e.d)/\∀ k:Bool,(k = true ↔ a∈bs)->Q (.bool k)
theorem aBu:Em K (aCc K false) aJn:=by
 rintro G H x y dx dy Qd Q hx hy ⟨α,e,a,bs,rfl,rfl,q⟩ k;exact ⟨α,e,a,bs,hx,hy,fun c hc=>k _ _ (.bl _) (q c hc)⟩
def aJm (neg:Bool) (x y:PyData) (Q:PyData->Prop):Prop:=match y with
 | .none=>(match x with
  | .none=>Q (.bool (!neg))
  | _=>Q (.bool neg))
 | _=>False
theorem aEv {H:Hp} {x:V} {d:PyData} (h:DV K H x d):(x = .non ↔ d = .none):=by
 cases h <;> simp
theorem Cs:Em K (fun x y H Q=>y = .non/\Q (.bl (decide (x = .non))) H) (aJm false):=by
 intro G H x y dx dy Qd Q hx hy q k;cases dy with
 | none =>
  refine ⟨Rg hy,k _ _ (.bl _) ?_⟩;cases dx with
  | none=>rw [decide_eq_true (Rg hx)]; exact q
  | _=>rw [decide_eq_false (fun z=>by have:=(aEv hx).mp z; cases this)]; exact q
 | _=>exact q.elim
def aKu (da:DE) (ex:DX) (δ:cD) (Q:PyData->Prop):Prop:=da ex δ fun x=>match x with
 | .int i=>Q (.int (-i))
 | _=>False
theorem lS (ha:kO K H₀ E ta da):gQ K H₀ E (tUn (rU fun i=>.int (-i)) ta) (aKu da):=fun ex δ σ G H Qd Q hx S q k =>
 ha ex δ σ G H _ _ hx S q fun x dx G1 H1 e1 h1 q1=>by
  cases dx with
  | int i =>
   cases cF h1;exact ⟨_,rfl,k _ _ G1 H1 e1 (.int _) q1⟩
  | _=>exact q1.elim
theorem Wg {v:Int} (h:gQ K H₀ E te de) (hk:∀ ex δ Q,Q (.int v)->de ex δ Q):gQ K H₀ E te (dC (.int v)):=fun ex δ σ G H Qd Q hx S q k=>h ex δ σ G H Qd Q hx S (hk ex δ Qd q) k
def aFe (f:Int->Int) (da:DE) (ex:DX) (δ:cD) (Q:PyData->Prop):Prop:=da ex δ fun x=>match x with
 | .int i=>Q (.int (f i))
 | _=>False
theorem lT {k:Int} (hk:Im 0 k) (ha:kO K H₀ E ta da) (hb:gQ K H₀ E tb (dC (.int k))):gQ K H₀ E (wP (rI Im fun i j=>.int (i / j)) ta tb) (aFe (fun i=>i / k) da):=fun ex δ σ G H Qd Q hx S q k' =>
 ha ex δ σ G H _ _ hx S q fun x dx G1 H1 e1 h1 q1=>hb ex δ σ G1 H1 (fun d=>d = .int k) _ hx (S.ext e1) rfl fun y dy G2 H2 e2 h2 hy=>by
  subst hy;cases cF h2;cases dx with
  | int i=>cases cF h1; exact ⟨_,_,rfl,rfl,hk,k' _ _ G2 H2 (e1.trans e2) (.int _) q1⟩
  | _=>exact q1.elim
theorem fE {k:Int} (hk:0 < k) (ha:kO K H₀ E ta da) (hb:gQ K H₀ E tb (dC (.int k))):gQ K H₀ E (wP (rI (fun _ j=>0 < j) fun i j=>.int (i % j)) ta tb) (aFe (fun i=>i % k) da):=fun ex δ σ G H Qd Q hx S q k' =>
 ha ex δ σ G H _ _ hx S q fun x dx G1 H1 e1 h1 q1=>hb ex δ σ G1 H1 (fun d=>d = .int k) _ hx (S.ext e1) rfl fun y dy G2 H2 e2 h2 hy=>by
  subst hy;cases cF h2;cases dx with
  | int i=>cases cF h1; exact ⟨_,_,rfl,rfl,hk,k' _ _ G2 H2 (e1.trans e2) (.int _) q1⟩
  | _=>exact q1.elim
def aKw (dl:DL) (db:DE) (ex:DX) (δ:cD) (Q:PyData->Prop):Prop:=dl ex δ fun ds=>db ex δ fun y=>match y with
 | .int i=>∃ d,nI ds i = some d/\Q d
 | _=>False
theorem xZ {G:Hp} {vs:List V} {ds:List PyData} {i:Int} {d:PyData} (h:DVs K G vs ds) (e:nI ds i = some d):∃ v,nI vs i = some v/\DV K G v d:=by
 unfold nI at e ⊢;rw [h.len];cases q:Gr ds.length i with
 | none=>rw [q] at e; cases e
 | some j =>
  rw [q] at e;exact h.at e
theorem bO (ha:Tf K H₀ E ta dl) (hb:kO K H₀ E tb db):gQ K H₀ E (wP (Um K) ta tb) (aKw dl db):=fun ex δ σ G H Qd Q hx S q k =>
 ha ex δ σ G H _ _ hx S q fun a vs ds G1 H1 e1 h1 h2 q1=>hb ex δ σ G1 H1 _ _ hx (S.ext e1) q1 fun y dy G2 H2 e2 h3 q2=>by
  cases dy with
  | int i =>
   obtain ⟨d,z,q2⟩:=q2;cases cF h3;obtain ⟨v,z1,z2⟩:=xZ h2 z;exact ⟨a,vs,i,v,rfl,rfl,e2.h.seq h1,z1,k v d G2 H2 (e1.trans e2) (cS e2.g z2) q2⟩
  | _=>exact q2.elim
def nth:List PyData->Nat->Option PyData
 | [],_=>none
 | d :: _,0=>some d
 | _ :: ds,n + 1=>nth ds n
theorem Dj:∀ {ds:List PyData} {k:Nat} {d:PyData},nth ds k = some d->ds[k]? = some d
 | [],_,_,h=>by cases h
 | d :: _,0,_,h=>by simpa [nth] using h
 | _ :: ds,k + 1,d,h=>by simpa using Dj (ds:=ds) (k:=k) (d:=d) h
def aFf (k:Nat) (da:DE) (ex:DX) (δ:cD) (Q:PyData->Prop):Prop:=da ex δ fun x=>match x with
 | .tuple ds=>(match nth ds k with
  | some d=>Q d
  | none=>False)
 | _=>False
theorem aS (m:Nat) (ha:gQ K H₀ E ta da):gQ K H₀ E (wP (Ow K) ta (tC (.int (m:Int)))) (aFf m da):=fun ex δ σ G H Qd Q hx S q k =>
 ha ex δ σ G H _ _ hx S q fun x dx G1 H1 e1 h1 q1=>by
  cases dx with
  | tuple ds =>
   dsimp only at q1;split at q1
   ·rename_i d z
    obtain ⟨a,vs,rfl,h2,h3⟩:=oK h1;obtain ⟨v,z1,z2⟩:=xZ h3 (fS (Dj z));exact ⟨a,vs,_,v,rfl,rfl,lC e1.s.same h2,z1,k v _ G1 H1 e1 z2 q1⟩
   ·exact q1.elim
  | _=>exact q1.elim
abbrev RDc:=List PyData->(PyData->Prop)->Prop
def Sw (K:W.Frag) (r:List V->Hp->VK->Prop) (rd:RDc):Prop:=∀ (G H:Hp) (xs:List V) (ds:List PyData) (Qd:PyData->Prop) (Q:VK),DVs K H xs ds->rd ds Qd->(∀ v d,DV K G v d->Qd d->Q v H)->r xs H Q
def dCb (rd:RDc) (dl:DL) (ex:DX) (δ:cD) (Q:PyData->Prop):Prop:=dl ex δ fun ds=>rd ds Q
theorem bT {r:List V->Hp->VK->Prop} {rd:RDc} (hr:Sw K r rd) (ha:Cf K H₀ E t dl):gQ K H₀ E (tCB r t) (dCb rd dl):=fun ex δ σ G H Qd Q hx S q k =>
 ha ex δ σ G H _ _ hx S q fun vs ds G1 H1 e1 h1 q1=>hr G1 H1 vs ds Qd Q h1 q1 fun v d hv qd=>k v d G1 H1 e1 hv qd
def aGa (ds:List PyData) (Q:PyData->Prop):Prop:=match ds with
 | [.int i]=>Q (.int (if i < 0 then -i else i))
 | _=>False
def aFv (ds:List PyData) (Q:PyData->Prop):Prop:=match ds with
 | [.int i,.int j]=>Q (.int (if j < i then j else i))
 | _=>False
def aFw (ds:List PyData) (Q:PyData->Prop):Prop:=match ds with
 | [.int i,.int j]=>Q (.int (if j > i then j else i))
 | _=>False
def aFx (ds:List PyData) (Q:PyData->Prop):Prop:=match ds with
 | [.list xs]=>Q (.int xs.length)
 | [.tuple xs]=>Q (.int xs.length)
 | _=>False
def aFt (ds:List PyData) (Q:PyData->Prop):Prop:=match ds with
 | [.list xs]=>∃ ns:List Int,xs = ns.map PyData.int/\Q (.int ns.sum)
 | _=>False
def aFy (ds:List PyData) (Q:PyData->Prop):Prop:=match ds with
 | [.int i]=>Q (.int i)
 | [.bool b]=>Q (.int (if b then 1 else 0))
 | _=>False
theorem qG {H:Hp} {xs:List V} {d:PyData} (h:DVs K H xs [d]):∃ x,xs = [x]/\DV K H x d:=by
 cases h with
 | cons h t=>cases t; exact ⟨_,rfl,h⟩
theorem Wi {H:Hp} {xs:List V} {d e:PyData} (h:DVs K H xs [d,e]):∃ x y,xs = [x,y]/\DV K H x d/\DV K H y e:=by
 cases h with
 | cons h t=>cases t with
  | cons h2 t=>cases t; exact ⟨_,_,rfl,h,h2⟩
theorem kF:Sw K (fun xs H Q=>∃ i,xs = [.int i]/\Q (.int (if i < 0 then -i else i)) H) aGa:=by
 intro G H xs ds Qd Q h q k;unfold aGa at q;split at q
 ·obtain ⟨x,rfl,hx⟩:=qG h;cases cF hx;exact ⟨_,rfl,k _ _ (.int _) q⟩
 ·exact q.elim
theorem Ct:Sw K (fun xs H Q=>∃ i j,xs = [.int i,.int j]/\Q (.int (if j < i then j else i)) H) aFv:=by
 intro G H xs ds Qd Q h q k;unfold aFv at q;split at q
 ·obtain ⟨x,y,rfl,hx,hy⟩:=Wi h;cases cF hx; cases cF hy;exact ⟨_,_,rfl,k _ _ (.int _) q⟩
 ·exact q.elim
theorem Oq:Sw K (fun xs H Q=>∃ i j,xs = [.int i,.int j]/\Q (.int (if j > i then j else i)) H) aFw:=by
 intro G H xs ds Qd Q h q k;unfold aFw at q;split at q
 ·obtain ⟨x,y,rfl,hx,hy⟩:=Wi h;cases cF hx; cases cF hy;exact ⟨_,_,rfl,k _ _ (.int _) q⟩
 ·exact q.elim
theorem cO:Sw K (fun xs H Q=>∃ p ys,xs = [.ref p]/\(SqL K H p ys\/SqT K H p ys)/\Q (.int ys.length) H) aFx:=by
 intro G H xs ds Qd Q h q k;unfold aFx at q;split at q
 ·obtain ⟨x,rfl,hx⟩:=qG h;obtain ⟨a,vs,rfl,h1,h2⟩:=eB hx;exact ⟨a,vs,rfl,.inl h1,k _ _ (.int _) (by rw [h2.len]; exact q)⟩
 ·obtain ⟨x,rfl,hx⟩:=qG h;obtain ⟨a,vs,rfl,h1,h2⟩:=oK hx;exact ⟨a,vs,rfl,.inr h1,k _ _ (.int _) (by rw [h2.len]; exact q)⟩
 ·exact q.elim
theorem Bq {H:Hp}:∀ {ns:List Int} {xs:List V},DVs K H xs (ns.map PyData.int)->xs = ns.map V.int
 | [],_,.nil=>rfl
 | n :: ns,_,.cons h t=>by
  cases cF h;rw [Bq t]; rfl
theorem aBz:Sw K (fun xs H Q=>∃ (p:Addr) (ns:List Int),xs = [.ref p]/\SqL K H p (ns.map V.int)/\Q (.int ns.sum) H) aFt:=by
 intro G H xs ds Qd Q h q k;unfold aFt at q;split at q
 ·obtain ⟨x,rfl,hx⟩:=qG h;obtain ⟨ns,rfl,q⟩:=q;obtain ⟨a,vs,rfl,h1,h2⟩:=eB hx;cases Bq h2;exact ⟨a,ns,rfl,h1,k _ _ (.int _) q⟩
 ·exact q.elim
theorem aCa:Sw K (fun xs H Q=>(∃ i,xs = [.int i]/\Q (.int i) H)\/∃ k,xs = [.bl k]/\Q (.int (if k then 1 else 0)) H) aFy:=by
 intro G H xs ds Qd Q h q k;unfold aFy at q;split at q
 ·obtain ⟨x,rfl,hx⟩:=qG h;cases cF hx;exact .inl ⟨_,rfl,k _ _ (.int _) q⟩
 ·obtain ⟨x,rfl,hx⟩:=qG h;cases lU hx;exact .inr ⟨_,rfl,k _ _ (.int _) q⟩
 ·exact q.elim
def Hs (dl:DL) (ex:DX) (δ:cD) (Q:List PyData->Prop):Prop:=dl ex δ Q
theorem Ux {te:TE} (ha:Tf K H₀ E te dl):Cg K H₀ E (tCB (fun xs H Q=>∃ p ys,xs = [.ref p]/\(SqL K H p ys\/SqT K H p ys)/\∀ l,H l = none->Q (.ref l) (eT H l (.lst ys))) (eF te iS)) (Hs dl):=fun ex δ σ G H Qd Q hx S q k =>
 ha ex δ σ G H _ _ hx S q fun a vs ds G1 H1 e1 h1 h2 q1=>⟨a,vs,rfl,.inl h1,fun p hp=>by
  obtain ⟨e2,hg⟩:=gI (xs:=vs) e1.s hp
  exact k p vs ds _ _ (e1.trans e2) (e1.h.free hp) hg bM h2 q1⟩
def Ez:PyData->String
 | .none=>"NoneType"
 | .bool _=>"bool"
 | .int _=>"int"
 | .str _=>"str"
 | .list _=>"list"
 | .tuple _=>"tuple"
 | .dict _=>"dict"
def isD (n:String) (d:PyData):Bool:=Ez d == n || (n == "int" && Ez d == "bool")
abbrev DO:=DX->cD->(Option Int->Prop)->Prop
def OvP (K:W.Frag) (H₀:Hp) (E:XK) (to:TO) (d:DO):Prop:=∀ ex δ σ G H Qd Q,kU H₀ E ex->Sees K H₀ G δ σ H->d ex δ Qd->(∀ o G' H',Ext G H G' H'->Qd o->Q o H')->to σ H Q
def aKt (_ex:DX) (_δ:cD) (Q:Option Int->Prop):Prop:=Q none
def Yj (de:DE) (ex:DX) (δ:cD) (Q:Option Int->Prop):Prop:=de ex δ fun x=>match x with
 | .int i=>Q (some i)
 | _=>False
theorem pQ:OvP K H₀ E Fb aKt:=fun ex δ σ G H Qd Q hx S q k=>k none G H S.refl q
theorem jC (h:kO K H₀ E te de):OvP K H₀ E (Xf te) (Yj de):=fun ex δ σ G H Qd Q hx S q k =>
 h ex δ σ G H _ _ hx S q fun x dx G1 H1 e1 h1 q1=>by
  cases dx with
  | int i =>
   cases cF h1;exact ⟨_,rfl,k _ G1 H1 e1 q1⟩
  | _=>exact q1.elim
def oM {α:Type} (xs:List α) (lo hi:Option Int):List α:=(xs.drop (HT.sIx xs.length 0 lo)).take (HT.sIx xs.length xs.length hi - HT.sIx xs.length 0 lo)
theorem Bu {α β:Type} (f:α->β) (xs:List α) (lo hi:Option Int):oM (xs.map f) lo hi = (oM xs lo hi).map f:=by
 unfold oM;rw [length_map,map_take,List.map_drop]
theorem Wo {α:Type} (xs:List α) (k:Nat):oM xs none (some (k:Int)) = xs.take k:=by
 unfold oM;rw [HT.sIx_none,drop_zero,Nat.sub_zero,HT.sIx_nat,List.take_eq_take_iff.mpr];omega
theorem yE {α:Type} (xs:List α) (k:Nat):oM xs (some (k:Int)) none = xs.drop k:=by
 unfold oM;rw [HT.sIx_none,HT.sIx_nat];by_cases h:k<=xs.length
 ·rw [Nat.min_eq_left h,take_of_length_le (by rw [length_drop]; omega)]
 ·have e:min k xs.length = xs.length:=by omega
  rw [e,List.drop_length,List.take_nil,List.drop_eq_nil_of_le (by omega)]
def dSl (dl:DL) (d1 d2:DO) (ex:DX) (δ:cD) (Q:List PyData->Prop):Prop:=dl ex δ fun ds=>d1 ex δ fun lo=>d2 ex δ fun hi=>Q (oM ds lo hi)
theorem Wh {G:Hp} {vs:List V} {ds:List PyData} {lo hi:Option Int} (h:DVs K G vs ds):DVs K G (Ef vs lo hi) (oM ds lo hi):=by
 unfold Ef oM;rw [h.len];exact (h.drop _).take _
theorem Gb {t1 t2:TO} {d1 d2:DO} (ha:Tf K H₀ E te dl) (h1:OvP K H₀ E t1 d1) (h2:OvP K H₀ E t2 d2):Cg K H₀ E (tSl (aCb K) te t1 t2) (dSl dl d1 d2):=fun ex δ σ G H Qd Q hx S q k =>
 ha ex δ σ G H _ _ hx S q fun a vs ds G1 H1 e1 g1 g2 q1=>h1 ex δ σ G1 H1 _ _ hx (S.ext e1) q1 fun lo G2 H2 e2 q2=>h2 ex δ σ G2 H2 _ _ hx (S.ext (e1.trans e2)) q2 fun hi G3 H3 e3 q3 =>
  ⟨a,vs,rfl,(e2.trans e3).h.seq g1,fun p hp=>by
   obtain ⟨e4,hg⟩:=gI (xs:=Ef vs lo hi) e3.s hp
   have e0:=e1.trans (e2.trans e3)
   exact k p _ _ _ _ (e0.trans e4) (e0.h.free hp) hg bM (bC (e2.trans e3).g (Wh g2)) q3⟩
def aFm (de:DE) (ex:DX) (δ:cD) (Q:Bool->Prop):Prop:=de ex δ fun x=>match x with
 | .bool b=>Q b
 | _=>False
theorem jF (h:kO K H₀ E te de):yO K H₀ E (tB te) (aFm de):=fun ex δ σ G H Qd Q hx S q k =>
 h ex δ σ G H _ _ hx S q fun x dx G1 H1 e1 h1 q1=>by
  cases dx with
  | bool i =>
   cases lU h1;exact ⟨_,rfl,k _ G1 H1 e1 q1⟩
  | _=>exact q1.elim
theorem aU (h:kO K H₀ E te de):yO K H₀ E (Lq te) (aFm de):=fun ex δ σ G H Qd Q hx S q k =>
 h ex δ σ G H _ _ hx S q fun x dx G1 H1 e1 h1 q1=>by
  cases dx with
  | bool i =>
   cases lU h1;exact ⟨_,rfl,k _ G1 H1 e1 q1⟩
  | _=>exact q1.elim
def aLb (dt du:DT) (ex:DX) (δ:cD) (Q:Bool->Prop):Prop:=dt ex δ fun b=>if b = true then du ex δ Q else Q false
def dOr (dt du:DT) (ex:DX) (δ:cD) (Q:Bool->Prop):Prop:=dt ex δ fun b=>if b = true then Q true else du ex δ Q
def aKr (dt:DT) (ex:DX) (δ:cD) (Q:Bool->Prop):Prop:=dt ex δ fun b=>Q (!b)
theorem mS (h1:yO K H₀ E tt dt) (h2:yO K H₀ E tu du):yO K H₀ E (aHw tt tu) (aLb dt du):=fun ex δ σ G H Qd Q hx S q k =>
 h1 ex δ σ G H _ _ hx S q fun b G1 H1 e1 q1=>by
  cases b with
  | true=>exact h2 ex δ σ G1 H1 _ _ hx (S.ext e1) q1 fun c G2 H2 e2 q2=>k c G2 H2 (e1.trans e2) q2
  | false=>exact k false G1 H1 e1 q1
theorem fZ (h1:yO K H₀ E tt dt) (h2:yO K H₀ E tu du):yO K H₀ E (tOr tt tu) (dOr dt du):=fun ex δ σ G H Qd Q hx S q k =>
 h1 ex δ σ G H _ _ hx S q fun b G1 H1 e1 q1=>by
  cases b with
  | false=>exact h2 ex δ σ G1 H1 _ _ hx (S.ext e1) q1 fun c G2 H2 e2 q2=>k c G2 H2 (e1.trans e2) q2
  | true=>exact k true G1 H1 e1 q1
theorem jZ (h1:yO K H₀ E tt dt):yO K H₀ E (aHr tt) (aKr dt):=fun ex δ σ G H Qd Q hx S q k =>
 h1 ex δ σ G H _ _ hx S q fun b G1 H1 e1 q1=>k _ G1 H1 e1 q1
def Yr (da db:DE) (ex:DX) (δ:cD) (Q:PyData->Prop):Prop:=da ex δ fun x=>match x with
 | .bool b=>if b = true then db ex δ Q else Q (.bool false)
 | _=>False
def aKq (da db:DE) (ex:DX) (δ:cD) (Q:PyData->Prop):Prop:=da ex δ fun x=>match x with
 | .bool b=>if b = true then Q (.bool true) else db ex δ Q
 | _=>False
theorem aEt (ha:kO K H₀ E ta da) (hb:gQ K H₀ E tb db):gQ K H₀ E (Xi ta tb) (Yr da db):=fun ex δ σ G H Qd Q hx S q k =>
 ha ex δ σ G H _ _ hx S q fun x dx G1 H1 e1 h1 q1=>by
  cases dx with
  | bool i =>
   cases lU h1;refine ⟨_,rfl,?_⟩;cases i with
   | true=>exact hb ex δ σ G1 H1 _ _ hx (S.ext e1) q1 fun v d G2 H2 e2 hd q2=>k v d G2 H2 (e1.trans e2) hd q2
   | false=>exact k _ _ G1 H1 e1 (.bl _) q1
  | _=>exact q1.elim
theorem aKc (ha:kO K H₀ E ta da) (hb:gQ K H₀ E tb db):gQ K H₀ E (aHq ta tb) (aKq da db):=fun ex δ σ G H Qd Q hx S q k =>
 ha ex δ σ G H _ _ hx S q fun x dx G1 H1 e1 h1 q1=>by
  cases dx with
  | bool i =>
   cases lU h1;refine ⟨_,rfl,?_⟩;cases i with
   | false=>exact hb ex δ σ G1 H1 _ _ hx (S.ext e1) q1 fun v d G2 H2 e2 hd q2=>k v d G2 H2 (e1.trans e2) hd q2
   | true=>exact k _ _ G1 H1 e1 (.bl _) q1
  | _=>exact q1.elim
def aKy (dt:DT) (da db:DE) (ex:DX) (δ:cD) (Q:PyData->Prop):Prop:=dt ex δ fun b=>if b = true then da ex δ Q else db ex δ Q
theorem Rc (ht:yO K H₀ E tt dt) (ha:gQ K H₀ E ta da) (hb:gQ K H₀ E tb db):gQ K H₀ E (tIf tt ta tb) (aKy dt da db):=fun ex δ σ G H Qd Q hx S q k =>
 ht ex δ σ G H _ _ hx S q fun b G1 H1 e1 q1=>by
  cases b with
  | true=>exact ha ex δ σ G1 H1 _ _ hx (S.ext e1) q1 fun v d G2 H2 e2 hd q2=>k v d G2 H2 (e1.trans e2) hd q2
  | false=>exact hb ex δ σ G1 H1 _ _ hx (S.ext e1) q1 fun v d G2 H2 e2 hd q2=>k v d G2 H2 (e1.trans e2) hd q2
abbrev DW:=List PyData->(Sl->Prop)->DX->Prop
def rm (H:Hp) (a:Addr):Hp:=fun b=>if b = a then none else H b
def oP (K:W.Frag) (H H':Hp) (v:V):Sl->Prop
 | .dat d=>DV K H' v d
 | .own ds=>∃ a vs,v = .ref a/\H a = none/\H' a = some (.lst vs)/\DVs K (rm H' a) vs ds
 | .exc _=>False
 | .mon _=>False
 | .fz as d=>(∀ c∈as,H c = none)/\3<=as.length/\FzIs K H' v as d
 | .two xs ys=>∃ t a b vs ws,v = .ref t/\SqT K H' t [.ref a,.ref b]/\a ≠ b/\H a = none/\H b = none/\H' a = some (.lst vs)/\H' b = some (.lst ws)/\DVs K (rm (rm H' a) b) vs xs/\DVs K (rm (rm H' a) b) ws ys
def fC (K:W.Frag) (w:DW):Sp:=fun vs H Q E=>∃ ds Qd Ed,DVs K H vs ds/\w ds Qd Ed/\(∀ v s H',Same H H'->oP K H H' v s->Qd s->Q v H')/\(∀ C H',Same H H'->Ed C->E (.ref C) none H')
def Ba (G H H':Hp):Hp:=fun b=>match H b with
 | none=>H' b
 | some _=>G b
theorem lR {G H H':Hp} (s:Sub G H) (h:Same H H'):Ext G H (Ba G H H') H':=by
 refine ⟨fun b o z=>?_,h,fun b=>?_,fun b o z=>?_⟩
 ·unfold Ba;rw [s.same b o z];exact z
 ·unfold Ba;cases q:H b with
  | none=>exact .inl rfl
  | some o =>
   dsimp only;rw [h b o q];have:=s b;rw [q] at this;exact this
 ·unfold Ba at z;cases q:H b with
  | none=>exact .inr rfl
  | some u=>rw [q] at z; exact .inl z
theorem pC {G H H':Hp} (s:Sub G H) (h:Same H H'):∀ b o,H' b = some o->(∀ xs,o ≠ .lst xs)->Ba G H H' b = some o:=fun b o e n=>by
 unfold Ba;cases q:H b with
 | none=>exact e
 | some u =>
  dsimp only;have:=h b u q;rw [e] at this;cases this;exact s.other q n
def vQ:(PyData->Prop)->Sl->Prop
 | Q,.dat d=>mR d = true/\Q d
 | Q,.own ds=>dF ds = true/\Q (.list ds)
 | _,.exc _=>False
 | _,.mon _=>False
 | _,.fz _ _=>False
 | _,.two _ _=>False
def aCk:(List PyData->Prop)->Sl->Prop
 | _,.dat _=>False
 | Q,.own ds=>dF ds = true/\Q ds
 | _,.exc _=>False
 | _,.mon _=>False
 | _,.fz _ _=>False
 | _,.two _ _=>False
def Su:(PyData->Prop)->Sl->Prop
 | Q,.dat d=>Q d
 | Q,.own ds=>Q (.list ds)
 | _,.exc _=>False
 | _,.mon _=>False
 | Q,.fz _ d=>Q d
 | Q,.two xs ys=>Q (.tuple [.list xs,.list ys])
def Yq (w:DW) (dl:DL) (ex:DX) (δ:cD) (Q:PyData->Prop):Prop:=dl ex δ fun ds=>w ds (vQ Q) ex
def Sa (w:DW) (dl:DL) (ex:DX) (δ:cD) (Q:PyData->Prop):Prop:=dl ex δ fun ds=>w ds (vQ Q) fun _=>False
def Hv (w:DW) (dl:DL) (ex:DX) (δ:cD) (Q:List PyData->Prop):Prop:=dl ex δ fun ds=>w ds (aCk Q) fun _=>False
def Hw (w:DW) (dl:DL) (ex:DX) (δ:cD) (Q:PyData->Prop):Prop:=dl ex δ fun ds=>w ds (Su Q) fun _=>False
theorem Bi {H₀:Hp} {E:XK}:kU H₀ E fun _=>False:=fun _ _ _ z=>z.elim
theorem rT {G H H':Hp} {v:V} {s:Sl} {Q:PyData->Prop} (hs:Sub G H) (h:Same H H') (r:oP K H H' v s) (q:vQ Q s):∃ d G',Ext G H G' H'/\DV K G' v d/\Q d:=by
 cases s with
 | exc C=>exact r.elim
 | mon φ=>exact r.elim
 | fz _ _=>exact q.elim
 | two xs ys=>exact q.elim
 | dat d=>exact ⟨d,_,lR hs h,Hf (pC hs h) r q.1,q.2⟩
 | own ds =>
  obtain ⟨a,vs,rfl,hn,hh,hd⟩:=r
  have hd1:DVs K H' vs ds:=bC (fun b o z=>by
   unfold rm at z
   split at z
   ·cases z
   ·exact z) hd
  refine ⟨.list ds,_,lR hs h,.lst (SqL.of ?_) (iF (pC hs h) hd1 q.1),q.2⟩;unfold Ba;rw [hn];exact hh
theorem Ul {G H H':Hp} {v:V} {s:Sl} {Q:List PyData->Prop} (hs:Sub G H) (h:Same H H') (r:oP K H H' v s) (q:aCk Q s) :
  ∃ a vs ds G',v = .ref a/\Ext G H G' H'/\H a = none/\G' a = none/\H' a = some (.lst vs)/\DVs K G' vs ds/\Q ds:=by
 cases s with
 | exc C=>exact r.elim
 | mon φ=>exact r.elim
 | fz _ _=>exact q.elim
 | two xs ys=>exact q.elim
 | dat d=>exact q.elim
 | own ds =>
  obtain ⟨a,vs,rfl,hn,hh,hd⟩:=r;have e:=lR hs h;have hg:G a = none:=hs.same.free hn;refine ⟨a,vs,ds,rm (Ba G H H') a,rfl,⟨fun b o z=>?_,h,fun b=>?_,fun b o z=>?_⟩,hn,by unfold rm; rw [if_pos rfl],hh,iF (fun b o z n=>?_) hd q.1,q.2⟩
  ·unfold rm;rw [if_neg (bS z hg)];exact e.g b o z
  ·unfold rm;split
   ·rename_i z; subst z
    exact .inr ⟨rfl,vs,hh⟩
   ·exact e.s b
  ·unfold rm at z;split at z
   ·cases z
   ·exact e.n b o z
  ·unfold rm at z ⊢;split at z
   ·cases z
   ·rename_i hb
    rw [if_neg hb];exact pC hs h b o z n
theorem Oo {H:Hp} {a b:Addr}:Same (rm (rm H a) b) H:=fun c o z=>by
 unfold rm at z;split at z
 ·cases z
 ·split at z
  ·cases z
  ·exact z
theorem wZ {H H':Hp} {v:V} {s:Sl} {Q:PyData->Prop} (r:oP K H H' v s) (q:Su Q s):∃ d,DV K H' v d/\Q d:=by
 cases s with
 | exc C=>exact r.elim
 | mon φ=>exact r.elim
 | fz as d=>exact ⟨d,r.2.2.dv,q⟩
 | two xs ys =>
  obtain ⟨t,a,b,vs,ws,rfl,ht,hab,ha,hb,hh,hk,hd,he⟩:=r;have sm:Same (rm (rm H' a) b) H':=Oo;exact ⟨.tuple [.list xs,.list ys],.tup ht (.cons (.lst (SqL.of hh) (bC sm hd)) (.cons (.lst (SqL.of hk) (bC sm he)) .nil)),q⟩
 | dat d=>exact ⟨d,r,q⟩
 | own ds =>
  obtain ⟨a,vs,rfl,hn,hh,hd⟩:=r
  exact ⟨.list ds,.lst (SqL.of hh) (bC (fun b o z=>by
   unfold rm at z
   split at z
   ·cases z
   ·exact z) hd),q⟩
section
variable {w:DW}
theorem oN {E':XK} {ex:DX} {δ:cD} {σ:L2.St} {G H:Hp} {Q:VK} {QS:Sl->Prop} (ha:Cf K H₀ E t dl) (hx:kU H₀ E ex) (hx':∀ ex',ex' = ex\/ex' = (fun _=>False)->kU H₀ E' ex'\/True) (S:Sees K H₀ G δ σ H) (ex':DX) (he:kU H₀ E' ex')
  (q:dl ex δ fun ds=>w ds QS ex') (k:∀ v s G1 H1 H2,Ext G H G1 H1->Same H1 H2->oP K H1 H2 v s->QS s->Q v H2):nQ (fC K w) [] E' t σ H Q :=
 ha ex δ σ G H _ _ hx S q fun vs ds G1 H1 e1 h1 q1=>by
  refine ⟨ds,QS,ex',by rw [append_nil]; exact h1,q1,fun v s H2 sm r qs=>k v s G1 H1 H2 e1 sm r qs,fun C H2 sm hc=>he C H2 ((S.ext e1).oldH.trans sm) hc⟩
theorem hG (ha:Cf K H₀ E t dl):gQ K H₀ E (nQ (fC K w) [] E t) (Yq w dl):=fun ex δ σ G H Qd Q hx S q k =>
 oN ha hx (fun _ _=>.inr trivial) S ex hx q fun v s G1 H1 H2 e1 sm r qs=>by
  obtain ⟨d,G',e2,hd,q2⟩:=rT e1.s sm r qs;exact k v d G' H2 (e1.trans e2) hd q2
theorem aM (ha:Cf K H₀ E t dl):gQ K H₀ E (nQ (fC K w) [] E0 t) (Sa w dl):=fun ex δ σ G H Qd Q hx S q k =>
 oN ha hx (fun _ _=>.inr trivial) S (fun _=>False) Bi q fun v s G1 H1 H2 e1 sm r qs=>by
  obtain ⟨d,G',e2,hd,q2⟩:=rT e1.s sm r qs;exact k v d G' H2 (e1.trans e2) hd q2
theorem dH (ha:Cf K H₀ E t dl):Cg K H₀ E (nQ (fC K w) [] E0 t) (Hv w dl):=fun ex δ σ G H Qd Q hx S q k =>
 oN ha hx (fun _ _=>.inr trivial) S (fun _=>False) Bi q fun v s G1 H1 H2 e1 sm r qs=>by
  obtain ⟨a,vs,ds,G',rfl,e2,hn,hg,hh,hd,q2⟩:=Ul e1.s sm r qs;exact k a vs ds G' H2 (e1.trans e2) (e1.h.free hn) hg hh hd q2
theorem Bz (ha:Cf K H₀ E t dl):kO K H₀ E (nQ (fC K w) [] E0 t) (Hw w dl):=fun ex δ σ G H Qd Q hx S q k =>
 oN ha hx (fun _ _=>.inr trivial) S (fun _=>False) Bi q fun v s G1 H1 H2 e1 sm r qs=>by
  obtain ⟨d,hd,q2⟩:=wZ r qs;exact k v d _ H2 (e1.trans (lR e1.s sm)) hd q2
end
end
structure DEnds where
 nx:cD->Prop
 rt:Sl->Prop
 ex:DX
 bk:cD->Prop:=fun _=>False
 ct:cD->Prop:=fun _=>False
abbrev DS:=DEnds->cD->Prop
structure Lk (K:W.Frag) (H₀ G:Hp) (e:DEnds) (D:Ends):Prop where
 nx:∀ δ σ G' H,Same G G'->Sees K H₀ G' δ σ H->e.nx δ->D.nx σ H
 rt:∀ v s H,Same H₀ H->oP K H₀ H v s->e.rt s->D.rt v H
 bk:∀ δ σ G' H,Same G G'->Sees K H₀ G' δ σ H->e.bk δ->D.bk σ H
 ct:∀ δ σ G' H,Same G G'->Sees K H₀ G' δ σ H->e.ct δ->D.ct σ H
theorem Lk.mono {K:W.Frag} {H₀ G G1:Hp} {e:DEnds} {D:Ends} (L:Lk K H₀ G e D) (s:Same G G1):Lk K H₀ G1 e D :=
 ⟨fun δ σ G' H t=>L.nx δ σ G' H (s.trans t),L.rt,fun δ σ G' H t=>L.bk δ σ G' H (s.trans t),fun δ σ G' H t=>L.ct δ σ G' H (s.trans t)⟩
def jN (K:W.Frag) (H₀:Hp) (E:XK) (ts:TS) (ds:DS):Prop:=∀ δ σ G H e D,kU H₀ E e.ex->Sees K H₀ G δ σ H->ds e δ->Lk K H₀ G e D->ts D σ H
abbrev DG:=PyData->cD->(cD->Prop)->Prop
abbrev DGs:=List PyData->cD->(cD->Prop)->Prop
def Kp (ns:List Nat) (σ σ':L2.St):Prop:=σ'.length = σ.length/\∀ j,j ∉ ns->σ'[j]? = σ[j]?
def Tg (K:W.Frag) (H₀:Hp) (g:TG) (ns:List Nat) (dg:DG):Prop:=∀ v d δ σ G H Qd Q,Sees K H₀ G δ σ H->DV K G v d->dg d δ Qd->(∀ δ' σ',Sees K H₀ G δ' σ' H->Kp ns σ σ'->Qd δ'->Q σ' H)->g v σ H Q
def Xb (K:W.Frag) (H₀:Hp) (g:Te) (ns:List Nat) (dg:DGs):Prop:=∀ vs ds δ σ G H Qd Q,Sees K H₀ G δ σ H->DVs K G vs ds->dg ds δ Qd->(∀ δ' σ',Sees K H₀ G δ' σ' H->Kp ns σ σ'->Qd δ'->Q σ' H)->g vs σ H Q
section
variable {K:W.Frag} {H₀:Hp} {E:XK} {te ta tb:TE} {da db de:DE} {dl dk:DL} {t:TA} {tt tu:TT} {dt du:DT} {ts tz:TS} {ds dz:DS} {g:TG} {dg:DG} {gs:Te} {dgs:DGs} {ns ms:List Nat}
def Rv (e:DEnds) (δ:cD):Prop:=e.nx δ
def aKl (d1 d2:DS) (e:DEnds) (δ:cD):Prop:=d1 { e with nx:=d2 e } δ
def aKz (d1 d2:DS) (e:DEnds) (δ:cD):Prop:=∃ I:cD->Prop,d1 { e with nx:=I } δ/\∀ δ',I δ'->d2 e δ'
theorem aZ:jN K H₀ E zH Rv:=fun δ σ G H e D hx S q L=>L.nx δ σ G H (Same.refl _) S q
theorem aJ (h1:jN K H₀ E ts ds) (h2:jN K H₀ E tz dz):jN K H₀ E (wO ts tz) (aKl ds dz):=fun δ σ G H e D hx S q L =>
 h1 δ σ G H { e with nx:=dz e } { D with nx:=tz D } hx S q ⟨fun δ' σ' G' H' s S' q'=>h2 δ' σ' G' H' e D hx S' q' (L.mono s),L.rt,L.bk,L.ct⟩
theorem rK (h1:jN K H₀ E ts ds) (h2:jN K H₀ E tz dz):jN K H₀ E (wO ts tz) (aKz ds dz):=fun δ σ G H e D hx S ⟨I,q,qi⟩ L =>
 h1 δ σ G H { e with nx:=I } { D with nx:=tz D } hx S q ⟨fun δ' σ' G' H' s S' q'=>h2 δ' σ' G' H' e D hx S' (qi δ' q') (L.mono s),L.rt,L.bk,L.ct⟩
def aKn (de:DE) (e:DEnds) (δ:cD):Prop:=de e.ex δ fun d=>e.rt (.dat d)
def Yh (dl:DL) (e:DEnds) (δ:cD):Prop:=dl e.ex δ fun ds=>e.rt (.own ds)
def Rr (i:Nat) (e:DEnds) (δ:cD):Prop:=match slot δ i with
 | some (.dat d)=>e.rt (.dat d)
 | some (.own ds)=>e.rt (.own ds)
 | _=>False
theorem rS {G H:Hp} {a:Addr} {vs:List V} {ds:List PyData} (h0:H₀ a = none) (hg:G a = none) (s:Sub G H) (hh:H a = some (.lst vs)) (hd:DVs K G vs ds):oP K H₀ H (.ref a) (.own ds) :=
 ⟨a,vs,rfl,h0,hh,bC (fun b o z=>by
  unfold rm
  rw [if_neg (bS z hg)]
  exact s.same b o z) hd⟩
theorem bI (h:kO K H₀ E te de):jN K H₀ E (zG te) (aKn de):=fun δ σ G H e D hx S q L =>
 h e.ex δ σ G H _ _ hx S q fun v d G' H' x hd qd=>L.rt v (.dat d) H' (S.ext x).oldH hd qd
theorem kB (h:Cg K H₀ E te dl):jN K H₀ E (zG te) (Yh dl):=fun δ σ G H e D hx S q L =>
 h e.ex δ σ G H _ _ hx S q fun a vs ds G' H' x hn hg hh hd qd=>L.rt (.ref a) (.own ds) H' (S.ext x).oldH (rS (S.oldH.free hn) hg x.s hh hd) qd
theorem eA (i:Nat):jN K H₀ E (zG (iB i)) (Rr i):=fun δ σ G H e D hx S q L=>by
 unfold Rr at q;split at q
 ·rename_i d hs
  obtain ⟨v,h1,h2⟩:=S.has i _ hs;exact ⟨v,h1,L.rt v (.dat d) H S.oldH (cS S.sub.same h2) q⟩
 ·rename_i ds hs
  obtain ⟨v,h1,h2⟩:=S.has i _ hs;obtain ⟨a,vs,rfl,h3,h4,h5⟩:=h2;exact ⟨_,h1,L.rt _ (.own ds) H S.oldH (rS (S.old.free h3) h3 S.sub h4 h5) q⟩
 ·exact q.elim
def Yo (de:DE) (e:DEnds) (δ:cD):Prop:=de e.ex δ fun _=>e.nx δ
theorem mC (h:kO K H₀ E te de):jN K H₀ E (uN te) (Yo de):=fun δ σ G H e D hx S q L =>
 h e.ex δ σ G H _ _ hx S q fun v d G' H' x hd qd=>L.nx δ σ G' H' x.g (S.ext x) qd
def aFh (dt:DT) (d1 d2:DS) (e:DEnds) (δ:cD):Prop:=dt e.ex δ fun b=>if b = true then d1 e δ else d2 e δ
theorem bP (h:yO K H₀ E tt dt) (h1:jN K H₀ E ts ds) (h2:jN K H₀ E tz dz):jN K H₀ E (Jb tt ts tz) (aFh dt ds dz):=fun δ σ G H e D hx S q L =>
 h e.ex δ σ G H _ _ hx S q fun b G' H' x qb=>by
  cases b with
  | true=>exact h1 δ σ G' H' e D hx (S.ext x) qb (L.mono x.g)
  | false=>exact h2 δ σ G' H' e D hx (S.ext x) qb (L.mono x.g)
def Dx (i:Nat) (d:PyData) (δ:cD) (Q:cD->Prop):Prop:=Q (put (some (.dat d)) i δ)
def Qs (ds:List PyData) (δ:cD) (Q:cD->Prop):Prop:=match ds with
 | []=>Q δ
 | _=>False
def Dy (dg:DG) (dgs:DGs) (ds:List PyData) (δ:cD) (Q:cD->Prop):Prop:=match ds with
 | d :: r=>dg d δ fun δ'=>dgs r δ' Q
 | []=>False
def Qr (n:Nat) (dgs:DGs) (d:PyData) (δ:cD) (Q:cD->Prop):Prop:=match d with
 | .tuple ds=>ds.length = n/\dgs ds δ Q
 | _=>False
theorem aI (i:Nat):Tg K H₀ (mQ i) [i] (Dx i):=fun v d δ σ G H Qd Q S hd q k =>
 k _ _ (S.setD i hd) ⟨length_set,fun j hj=>by rw [getElem?_set_ne (fun z=>hj (by simp [z]))]⟩ q
theorem fY:Xb K H₀ aKa [] Qs:=fun vs ds δ σ G H Qd Q S hd q k=>by
 unfold Qs at q;split at q
 ·cases hd;exact ⟨rfl,k δ σ S ⟨rfl,fun _ _=>rfl⟩ q⟩
 ·exact q.elim
theorem bW (h1:Tg K H₀ g ns dg) (h2:Xb K H₀ gs ms dgs):Xb K H₀ (Xx g gs) (ns ++ ms) (Dy dg dgs):=fun vs ds δ σ G H Qd Q S hd q k=>by
 unfold Dy at q;split at q
 ·cases hd with
  | cons hd hr =>
   refine ⟨_,_,rfl,h1 _ _ δ σ G H _ _ S hd q fun δ1 σ1 S1 k1 q1=>h2 _ _ δ1 σ1 G H _ _ S1 hr q1 fun δ2 σ2 S2 k2 q2=>k δ2 σ2 S2 ⟨k2.1.trans k1.1,fun j hj=>?_⟩ q2⟩;rw [k2.2 j (fun z=>hj (mem_append_right _ z)),k1.2 j (fun z=>hj (mem_append_left _ z))]
 ·exact q.elim
theorem fX {n:Nat} (h:Xb K H₀ gs ns dgs):Tg K H₀ (aEr K n gs) ns (Qr n dgs):=fun v d δ σ G H Qd Q S hd q k=>by
 unfold Qr at q;split at q
 ·obtain ⟨a,vs,rfl,h1,h2⟩:=oK hd;exact ⟨a,vs,rfl,lC S.sub.same h1,by rw [h2.len]; exact q.1,h _ _ δ σ G H _ _ S h2 q.2 k⟩
 ·exact q.elim
def aFk (de:DE) (dg:DG) (e:DEnds) (δ:cD):Prop:=de e.ex δ fun d=>dg d δ e.nx
theorem bD (h:gQ K H₀ E te de) (hg:Tg K H₀ g ns dg):jN K H₀ E (qC te g) (aFk de dg):=fun δ σ G H e D hx S q L =>
 h e.ex δ σ G H _ _ hx S q fun v d G' H' x hd qd=>hg v d δ σ G' H' _ _ (S.ext x) hd qd fun δ' σ' S' _ q'=>L.nx δ' σ' G' H' x.g S' q'
def Yd (dl:DL) (i:Nat) (e:DEnds) (δ:cD):Prop:=dl e.ex δ fun ds=>e.nx (put (some (.own ds)) i δ)
theorem bZ (i:Nat) (h:Cg K H₀ E te dl):jN K H₀ E (qC te (mQ i)) (Yd dl i):=fun δ σ G H e D hx S q L =>
 h e.ex δ σ G H _ _ hx S q fun a vs ds G' H' x hn hg hh hd qd=>L.nx _ _ G' H' x.g (S.setO x i hn hg hh hd) qd
def pS:cD->Bool
 | []=>true
 | some (.own _) :: _=>false
 | _ :: r=>pS r
theorem fD:∀ {δ:cD} {i:Nat} {ds:List PyData},pS δ = true->slot δ i ≠ some (.own ds)
 | [],_,_,_,h=>by cases h
 | some (.own _) :: _,_,_,h,_=>by cases h
 | some (.dat _) :: _,0,_,_,h=>by cases h
 | some (.exc _) :: _,0,_,_,h=>by cases h
 | some (.fz _ _) :: _,0,_,_,h=>by cases h
 | some (.fz _ _) :: r,i + 1,ds,h,e=>fD (δ:=r) (i:=i) (ds:=ds) h e
 | some (.mon _) :: _,0,_,_,h=>by cases h
 | some (.mon _) :: r,i + 1,ds,h,e=>fD (δ:=r) (i:=i) (ds:=ds) h e
 | some (.two _ _) :: _,0,_,_,h=>by cases h
 | some (.two _ _) :: r,i + 1,ds,h,e=>fD (δ:=r) (i:=i) (ds:=ds) h e
 | none :: _,0,_,_,h=>by cases h
 | some (.exc _) :: r,i + 1,ds,h,e=>fD (δ:=r) (i:=i) (ds:=ds) h e
 | some (.dat _) :: r,i + 1,ds,h,e=>fD (δ:=r) (i:=i) (ds:=ds) h e
 | none :: r,i + 1,ds,h,e=>fD (δ:=r) (i:=i) (ds:=ds) h e
theorem Sees.all2 {G H H':Hp} {δ:cD} {σ:L2.St} (S:Sees K H₀ G δ σ H) (h:pS δ = true) (sm:Same H H'):Sees K H₀ H' δ σ H' :=
 ⟨S.oldH.trans sm,.refl _,S.len,fun i s e=>by
  obtain ⟨v,h1,h2⟩:=S.has i s e
  cases s with
  | dat d=>exact ⟨v,h1,cS (S.sub.same.trans sm) h2⟩
  | two xs ys=>exact h2.elim
  | fz as d=>exact ⟨v,h1,FzIs.same (S.sub.same.trans sm) h2⟩
  | mon φ=>exact ⟨v,h1,fun G2 s2=>h2 G2 ((S.sub.same.trans sm).trans s2)⟩
  | exc C =>
   obtain ⟨x,rfl,hx⟩:=h2
   exact ⟨_,h1,x,rfl,sm _ _ (S.sub.same _ _ hx)⟩
  | own ds=>exact absurd e (fD h),fun i j xs ys a e=>absurd e (fD h)⟩
def Sc (w:DW) (dl:DL) (dg:DG) (e:DEnds) (δ:cD):Prop:=dl e.ex δ fun ds=>pS δ = true/\w ds (Su fun d=>dg d δ e.nx) fun _=>False
theorem nR {w:DW} (ha:Cf K H₀ E t dl) (hg:Tg K H₀ g ns dg):jN K H₀ E (qC (nQ (fC K w) [] E0 t) g) (Sc w dl dg):=fun δ σ G H e D hx S q L =>
 ha e.ex δ σ G H _ _ hx S q fun vs ds G1 H1 e1 h1 ⟨no,q1⟩=>by
  refine ⟨ds,_,fun _=>False,by rw [append_nil]; exact h1,q1,fun v s H2 sm r qs=>?_,fun C H2 sm hc=>hc.elim⟩;obtain ⟨d,hd,q2⟩:=wZ r qs;exact hg v d δ σ H2 H2 _ _ ((S.ext e1).all2 no sm) hd q2 fun δ' σ' S' _ q'=>L.nx δ' σ' H2 H2 ((S.ext e1).sub.same.trans sm |> fun z=>e1.g.trans z) S' q'
def sY (i:Nat) (δ:cD):cD:=match slot δ i with
 | some (.own ds)=>put (some (.dat (.list ds))) i δ
 | _=>δ
def aFi (i:Nat) (d:DS) (e:DEnds) (δ:cD):Prop:=d e (sY i δ)
theorem mT (i:Nat) (h:jN K H₀ E ts ds):jN K H₀ E ts (aFi i ds):=fun δ σ G H e D hx S q L=>by
 unfold aFi sY at q;split at q
 ·rename_i xs hs
  obtain ⟨G',s,S'⟩:=S.frz hs;exact h _ σ G' H e D hx S' q (L.mono s)
 ·exact h δ σ G H e D hx S q L
def aKp (i j:Nat) (dl:DL) (e:DEnds) (δ:cD):Prop:=dl e.ex δ fun ds=>match ds with
 | [d1,d2]=>e.nx (put (some (.dat d2)) j (put (some (.dat d1)) i δ))
 | _=>False
theorem Zu {n:Nat} (i j:Nat) (h:AvE K H₀ E t n dl):jN K H₀ E (aHp i j t) (aKp i j dl):=fun δ σ G H e D hx S q L =>
 h e.ex δ σ G H _ _ hx S q fun vs ds G' H' x hd _ qd=>by
  split at qd
  ·obtain ⟨v,w,rfl,h1,h2⟩:=Wi hd;exact ⟨v,w,rfl,L.nx _ _ G' H' x.g (((S.ext x).setD i h1).setD j h2) qd⟩
  ·exact qd.elim
def Rs (C:Addr) (dl:DL) (e:DEnds) (δ:cD):Prop:=dl e.ex δ fun _=>e.ex C
theorem cT {C:Addr} {n:Nat} (h:AvE K H₀ E t n dl) (hn:n<=1000):jN K H₀ E (Lr E C t) (Rs C dl):=fun δ σ G H e D hx S q L =>
 h e.ex δ σ G H _ _ hx S q fun vs ds G' H' x hd q0 qd=>⟨le_of_lt (bR (by rw [hd.len,q0]; exact hn)),hx C H' (S.ext x).oldH qd⟩
def aFn (i:Nat) (de:DE) (e:DEnds) (δ:cD):Prop:=match slot δ i with
 | some (.own ds)=>de e.ex δ fun d=>ds.length < 1000/\e.nx (put (some (.own (ds ++ [d]))) i δ)
 | _=>False
theorem oR (i:Nat) (h:gQ K H₀ E te de):jN K H₀ E (uN (Tx K "list" Fx (iB i) (eF te iS))) (aFn i de):=fun δ σ G H e D hx S q L=>by
 unfold aFn at q;split at q
 ·rename_i ds hs
  obtain ⟨a,vs,h1,h2,h3,h4⟩:=S.ownAt hs;refine ⟨_,h1,.inl ⟨rfl,_,SqL.of h3⟩,h e.ex δ σ G H _ _ hx S q fun v d G' H' x hd qd=>?_⟩;obtain ⟨q1,q2⟩:=qd;have S':=S.ext x;exact ⟨a,vs,v,rfl,rfl,x.h _ _ h3,bR (by rw [h4.len]; omega),L.nx _ _ G' _ x.g (S'.updO hs h1 ((bC x.g h4).append (.cons hd .nil))) q2⟩
 ·exact q.elim
def Rt (i:Nat) (de dx:DE) (e:DEnds) (δ:cD):Prop:=de e.ex δ fun d=>match slot δ i with
 | some (.own ds)=>dx e.ex δ fun y=>(match y with
  | .int k=>∃ j,Gr ds.length k = some j/\e.nx (put (some (.own (ds.set j d))) i δ)
  | _=>False)
 | _=>False
theorem zK (i:Nat) (h:gQ K H₀ E te de) (h':kO K H₀ E ta da):jN K H₀ E (qC te (aJz (iB i) ta Xm)) (Rt i de da):=fun δ σ G H e D hx S q L =>
 h e.ex δ σ G H _ _ hx S q fun v d G' H' x hd qd=>by
  split at qd
  ·rename_i ds hs
   have S':=S.ext x;obtain ⟨a,vs,h1,h2,h3,h4⟩:=S'.ownAt hs;refine ⟨_,h1,h' e.ex δ σ G' H' _ _ hx S' qd fun y dy G2 H2 x2 hy q2=>?_⟩;cases dy with
   | int k =>
    obtain ⟨j,hj,q2⟩:=q2;cases cF hy;have S2:=S'.ext x2;exact ⟨a,vs,k,j,rfl,rfl,x2.h _ _ h3,by rw [h4.len]; exact hj,L.nx _ _ G2 _ (x.g.trans x2.g) (S2.updO hs h1 ((bC x2.g h4).set (cS x2.g hd) j)) q2⟩
   | _=>exact q2.elim
  ·exact qd.elim
def ItS (K:W.Frag) (J:It) (G:Hp) (ds:List PyData):Prop:=∀ G' H',Same G G'->Sub G' H'->∀ i,
 (∀ d,ds[i]? = some d->J.go i H'/\∀ x H2,J.yld i H' x H2->∃ G2,Ext G' H' G2 H2/\DV K G2 x d)/\(ds.length<=i->J.stop i H')
def ItE (K:W.Frag) (J:It) (G H:Hp) (ds:List PyData):Prop:=∀ G' H',Ext G H G' H'->∀ i,
 (∀ d,ds[i]? = some d->J.go i H'/\∀ x H2,J.yld i H' x H2->∃ G2,Ext G' H' G2 H2/\DV K G2 x d)/\(ds.length<=i->J.stop i H')
theorem ItS.e {J:It} {G H:Hp} {ds:List PyData} (h:ItS K J G ds):ItE K J G H ds:=fun G' H' e=>h G' H' e.g e.s
def IvS (K:W.Frag) (H₀:Hp) (E:XK) (wi:TI) (dl:DL):Prop:=∀ ex δ σ G H Qd R,kU H₀ E ex->Sees K H₀ G δ σ H->dl ex δ Qd->(∀ J ds G' H',Ext G H G' H'->ItS K J G' ds->Qd ds->R J H')->wi σ H R
def IvE (K:W.Frag) (H₀:Hp) (E:XK) (wi:TI) (dl:DL):Prop:=∀ ex δ σ G H Qd R,kU H₀ E ex->Sees K H₀ G δ σ H->dl ex δ Qd->(∀ J ds G' H',Ext G H G' H'->ItE K J G' H' ds->Qd ds->R J H')->wi σ H R
theorem IvS.e {wi:TI} (h:IvS K H₀ E wi dl):IvE K H₀ E wi dl:=fun ex δ σ G H Qd R hx S q k=>h ex δ σ G H Qd R hx S q fun J ds G' H' e hi qd=>k J ds G' H' e hi.e qd
theorem gZ (h:gQ K H₀ E te de):IvS K H₀ E (Gw K te) (tZ de):=fun ex δ σ G H Qd R hx S q k =>
 h ex δ σ G H _ _ hx S q fun v d G' H' e hd qd=>by
  cases d with
  | list ds =>
   obtain ⟨a,vs,rfl,h1,h2⟩:=eB hd;refine ⟨a,rfl,⟨vs,e.s.same.seq h1⟩,k _ ds G' H' e (fun G2 H2 s1 s2 i=>⟨fun d hi=>?_,fun hi=>⟨vs,s2.same.seq (s1.seq h1),by rw [h2.len]; exact hi⟩⟩) qd⟩;obtain ⟨x,g1,g2⟩:=h2.at hi;refine ⟨⟨vs,x,s2.same.seq (s1.seq h1),g1⟩,fun y H3 ⟨z,w⟩=>?_⟩;subst z;have:=w vs (s2.same.seq (s1.seq h1));rw [g1] at this;cases this;exact ⟨G2,.refl s2,cS s1 g2⟩
  | _=>exact qd.elim
theorem cW (h:Tf K H₀ E te dl):IvE K H₀ E (Gw K te) dl:=fun ex δ σ G H Qd R hx S q k =>
 h ex δ σ G H _ _ hx S q fun a vs ds G' H' e h1 h2 qd=>by
  refine ⟨a,rfl,⟨vs,h1⟩,k _ ds G' H' e (fun G2 H2 e2 i=>⟨fun d hi=>?_,fun hi=>⟨vs,e2.h.seq h1,by rw [h2.len]; exact hi⟩⟩) qd⟩;obtain ⟨x,g1,g2⟩:=h2.at hi;refine ⟨⟨vs,x,e2.h.seq h1,g1⟩,fun y H3 ⟨z,w⟩=>?_⟩;subst z;have:=w vs (e2.h.seq h1);rw [g1] at this;cases this;exact ⟨G2,.refl e2.s,cS e2.g g2⟩
def tU (lo:Int) (n:Nat) (st:Int):List PyData:=(range n).map fun (k:Nat)=>PyData.int (lo + (k:Int) * st)
theorem wY {lo st:Int} {n i:Nat} {d:PyData} (h:(tU lo n st)[i]? = some d):i < n/\d = .int (lo + (i:Int) * st):=by
 unfold tU at h;rw [getElem?_map] at h;cases q:(range n)[i]? with
 | none=>rw [q] at h; cases h
 | some k =>
  rw [q] at h;obtain ⟨h1,h2⟩:=List.getElem?_eq_some_iff.mp q;simp only [List.getElem_range] at h2;subst h2;simp only [length_range] at h1;simp only [Option.map_some,Option.some.injEq] at h;exact ⟨h1,h.symm⟩
theorem rR {lo st:Int} {n:Nat}:(tU lo n st).length = n:=by simp [tU]
def Yg (dl:DL) (ex:DX) (δ:cD) (Q:List PyData->Prop):Prop:=dl ex δ fun ds=>match ds with
 | [.int j]=>(-(2 ^ 62)<=j/\j < 2 ^ 62)/\Q (tU 0 j.toNat 1)
 | _=>False
def Yf (dl:DL) (ex:DX) (δ:cD) (Q:List PyData->Prop):Prop:=dl ex δ fun ds=>match ds with
 | [.int i,.int j]=>(-(2 ^ 62)<=i/\i < 2 ^ 62/\-(2 ^ 62)<=j/\j < 2 ^ 62)/\Q (tU i (j - i).toNat 1)
 | _=>False
def Ye (dl:DL) (ex:DX) (δ:cD) (Q:List PyData->Prop):Prop:=dl ex δ fun ds=>match ds with
 | [.int i,.int j,.int k]=>∃ n:Nat,(k ≠ 0/\k.natAbs < 1000000/\Builtin.Range.small i j k = true)/\Builtin.Range.rangeSize i j k = (n:Int)/\Q (tU i n k)
 | _=>False
theorem Xr {lo:Int} {n:Nat} {G:Hp}:ItS K (Itr lo n) G (tU lo n 1):=fun G' H' s1 s2 i=>⟨fun d hi=>by
  obtain ⟨h1,rfl⟩:=wY hi
  refine ⟨h1,fun x H2 ⟨e1,e2⟩=>?_⟩
  subst e1 e2
  rw [mul_one]
  exact ⟨G',.refl s2,.int _⟩,fun hi=>by rw [rR] at hi; exact hi⟩
theorem aJu {lo st:Int} {n:Nat} {G:Hp}:ItS K (Its lo st n) G (tU lo n st):=fun G' H' s1 s2 i=>⟨fun d hi=>by
  obtain ⟨h1,rfl⟩:=wY hi
  refine ⟨h1,fun x H2 ⟨e1,e2⟩=>?_⟩
  subst e1 e2
  exact ⟨G',.refl s2,.int _⟩,fun hi=>by rw [rR] at hi; exact hi⟩
theorem aNj {H:Hp} {xs:List V} {d e f:PyData} (h:DVs K H xs [d,e,f]):∃ x y z,xs = [x,y,z]/\DV K H x d/\DV K H y e/\DV K H z f:=by
 cases h with
 | cons h t=>cases t with
  | cons h2 t=>cases t with
   | cons h3 t=>cases t; exact ⟨_,_,_,rfl,h,h2,h3⟩
theorem Gv (h:Cf K H₀ E t dl):IvS K H₀ E (Xv t) (Yg dl):=fun ex δ σ G H Qd R hx S q k =>
 h ex δ σ G H _ _ hx S q fun vs ds G' H' e hd qd=>by
  split at qd
  ·obtain ⟨x,rfl,h1⟩:=qG hd;cases cF h1;exact ⟨_,rfl,qd.1.1,qd.1.2,k _ _ G' H' e Xr qd.2⟩
  ·exact qd.elim
theorem Gu (h:Cf K H₀ E t dl):IvS K H₀ E (Xu t) (Yf dl):=fun ex δ σ G H Qd R hx S q k =>
 h ex δ σ G H _ _ hx S q fun vs ds G' H' e hd qd=>by
  split at qd
  ·obtain ⟨x,y,rfl,h1,h2⟩:=Wi hd;cases cF h1; cases cF h2;exact ⟨_,_,rfl,qd.1,k _ _ G' H' e Xr qd.2⟩
  ·exact qd.elim
theorem Vw (h:Cf K H₀ E t dl):IvS K H₀ E (Xt t) (Ye dl):=fun ex δ σ G H Qd R hx S q k =>
 h ex δ σ G H _ _ hx S q fun vs ds G' H' e hd qd=>by
  split at qd
  ·obtain ⟨x,y,z,rfl,h1,h2,h3⟩:=aNj hd;cases cF h1; cases cF h2; cases cF h3;obtain ⟨n,⟨q1,q2,q3⟩,q4,q5⟩:=qd;exact ⟨_,_,_,rfl,n,q1,q2,q3,q4,k _ _ G' H' e aJu q5⟩
  ·exact qd.elim
def Wn (dl:DL) (dg:DG) (db:DS) (e:DEnds) (δ:cD):Prop:=dl e.ex δ fun ds=>∃ I:Nat->cD->Prop,I 0 δ /\
 (∀ i d δ',ds[i]? = some d->I i δ'->dg d δ' fun δ2=>db { e with nx:=I (i + 1),ct:=I (i + 1),bk:=e.nx } δ2)/\∀ δ',I ds.length δ'->e.nx δ'
theorem eC {wi:TI} (hi:IvS K H₀ E wi dl) (hg:Tg K H₀ g ns dg) (hb:jN K H₀ E ts ds):jN K H₀ E (Zt wi g ts) (Wn dl dg ds):=fun δ σ G H e D hx S q L =>
 hi e.ex δ σ G H _ _ hx S q fun J xs G1 H1 e1 it ⟨I,i0,step,fin⟩=>by
  refine ⟨fun i m σ H=>m = xs.length - i/\i<=xs.length/\∃ δ' G',Same G1 G'/\Sees K H₀ G' δ' σ H/\I i δ',⟨_,rfl,zero_le _,δ,G1,Same.refl _,S.ext e1,i0⟩,?_⟩;rintro i m σ' H' ⟨rfl,hil,δ',G',sg,S',hI⟩;obtain ⟨t1,t2⟩:=it G' H' sg S'.sub i;by_cases hlt:i < xs.length
  ·obtain ⟨g1,g2⟩:=t1 _ (getElem?_eq_getElem hlt);refine .inr ⟨g1,fun σ H=>∃ δ' G',Same G1 G'/\Sees K H₀ G' δ' σ H/\I (i + 1) δ',fun σ2 H2 z=>⟨_,by omega,rfl,hlt,z⟩,fun x H2 y=>?_⟩;obtain ⟨G2,e2,hd⟩:=g2 x H2 y;have S2:=S'.ext e2;refine hg x _ δ' σ' G2 H2 _ _ S2 hd (step i _ δ' (getElem?_eq_getElem hlt) hI) fun δ3 σ3 S3 _ q3=>?_;have up:Same G1 G2:=sg.trans e2.g;exact hb δ3 σ3 G2 H2 { e with nx:=I (i + 1),ct:=I (i + 1),bk:=e.nx } _ hx S3 q3 ⟨fun δ4 σ4 G4 H4 s4 S4 q4=>⟨δ4,G4,up.trans s4,S4,q4⟩,L.rt,fun δ4 σ4 G4 H4 s4 S4 q4=>L.nx δ4 σ4 G4 H4 (e1.g.trans (up.trans s4)) S4 q4,fun δ4 σ4 G4 H4 s4 S4 q4=>⟨δ4,G4,up.trans s4,S4,q4⟩⟩
  ·have:i = xs.length:=by omega
   subst this;exact .inl ⟨t2 (le_refl _),L.nx δ' σ' G' H' (e1.g.trans sg) S' (fin δ' hI)⟩
def aFc (dt:DT) (db:DS) (e:DEnds) (δ:cD):Prop:=∃ I:Nat->cD->Prop,(∃ m,I m δ)/\∀ m δ',I m δ' ->
 dt e.ex δ' fun b=>if b = true then db { e with nx:=fun δ2=>∃ k,k < m/\I k δ2,ct:=fun δ2=>∃ k,k < m/\I k δ2,bk:=e.nx } δ' else e.nx δ'
theorem lB (h:yO K H₀ E tt dt) (hb:jN K H₀ E ts ds):jN K H₀ E (Lp tt ts) (aFc dt ds):=fun δ σ G H e D hx S ⟨I,⟨m0,i0⟩,step⟩ L=>by
 refine ⟨fun m σ H=>∃ δ' G',Same G G'/\Sees K H₀ G' δ' σ H/\I m δ',⟨m0,δ,G,Same.refl _,S,i0⟩,?_⟩;rintro m σ' H' ⟨δ',G',sg,S',hI⟩;refine h e.ex δ' σ' G' H' _ _ hx S' (step m δ' hI) fun b G2 H2 e2 q2=>?_;have S2:=S'.ext e2;have up:Same G G2:=sg.trans e2.g;cases b with
 | true =>
  have n1:∀ δ4 σ4 G4 H4,Same G2 G4->Sees K H₀ G4 δ4 σ4 H4->(∃ k,k < m/\I k δ4)->∃ k,k < m/\∃ δ' G',Same G G'/\Sees K H₀ G' δ' σ4 H4/\I k δ':=fun δ4 σ4 G4 H4 s4 S4 ⟨k,hk,q4⟩=>⟨k,hk,δ4,G4,up.trans s4,S4,q4⟩;exact ⟨fun σ4 H4=>∃ k,k < m/\∃ δ' G',Same G G'/\Sees K H₀ G' δ' σ4 H4/\I k δ',fun _ _ z=>z,hb δ' σ' G2 H2 { e with nx:=fun δ2=>∃ k,k < m/\I k δ2,ct:=fun δ2=>∃ k,k < m/\I k δ2,bk:=e.nx } _ hx S2 q2 ⟨n1,L.rt,fun δ4 σ4 G4 H4 s4 S4 q4=>L.nx δ4 σ4 G4 H4 (up.trans s4) S4 q4,n1⟩⟩
 | false=>exact L.nx δ' σ' G2 H2 up S2 q2
def tN (cap:List (Option Nat)) (δ:cD):cD:=match cap with
 | []=>[]
 | none :: r=>none :: tN r δ
 | some i :: r=>slot δ i :: tN r δ
theorem tM:∀ (cap:List (Option Nat)) (δ:cD),(tN cap δ).length = cap.length
 | [],_=>rfl
 | none :: r,δ=>by simp [tN,tM r δ]
 | some i :: r,δ=>by simp [tN,tM r δ]
theorem jV:∀ {cap:List (Option Nat)} {δ:cD} {j:Nat} {s:Sl},slot (tN cap δ) j = some s->∃ i,cap[j]? = some (some i)/\slot δ i = some s
 | [],_,_,_,h=>by cases h
 | none :: r,δ,0,s,h=>by cases h
 | some i :: r,δ,0,s,h=>⟨i,rfl,h⟩
 | none :: r,δ,j + 1,s,h=>by
  obtain ⟨i,h1,h2⟩:=jV (cap:=r) (δ:=δ) (j:=j) h;exact ⟨i,by simpa using h1,h2⟩
 | some _ :: r,δ,j + 1,s,h=>by
  obtain ⟨i,h1,h2⟩:=jV (cap:=r) (δ:=δ) (j:=j) h;exact ⟨i,by simpa using h1,h2⟩
theorem Ic {cap:List (Option Nat)} {j i:Nat} (h:cap[j]? = some (some i)):i∈cap.filterMap id:=mem_filterMap.mpr ⟨some i,mem_of_getElem? h,rfl⟩
theorem yG:∀ {cap:List (Option Nat)} {j k i:Nat},(cap.filterMap id).Nodup->cap[j]? = some (some i)->cap[k]? = some (some i)->j = k
 | [],_,_,_,_,h,_=>by simp at h
 | none :: r,0,_,_,_,h,_=>by simp at h
 | none :: r,_ + 1,0,_,_,_,h=>by simp at h
 | none :: r,j + 1,k + 1,i,n,h1,h2=>congrArg (· + 1) (yG (cap:=r) (by simpa using n) (by simpa using h1) (by simpa using h2))
 | some a :: r,0,0,_,_,_,_=>rfl
 | some a :: r,0,k + 1,i,n,h1,h2=>by
  have e:a = i:=by simpa using h1
  subst e;have:a∈r.filterMap id:=Ic (by simpa using h2);simp only [filterMap_cons,id,nodup_cons] at n;exact absurd this n.1
 | some a :: r,j + 1,0,i,n,h1,h2=>by
  have e:a = i:=by simpa using h2
  subst e;have:a∈r.filterMap id:=Ic (by simpa using h1);simp only [filterMap_cons,id,nodup_cons] at n;exact absurd this n.1
 | some a :: r,j + 1,k + 1,i,n,h1,h2=>congrArg (· + 1) (yG (cap:=r) (by
   simp only [filterMap_cons,id,nodup_cons] at n
   exact n.2) (by simpa using h1) (by simpa using h2))
def Ce (cap:List (Option Nat)) (σ σc:L2.St):Prop:=σc.length = cap.length/\∀ (j i:Nat),cap[j]? = some (some i)->σc[j]? = some ((σ[i]?).bind id)
theorem aFp {cap:List (Option Nat)} {σ:L2.St}:Ce cap σ (capσ cap σ):=⟨by simp [capσ],fun j i h=>by
 unfold capσ
 rw [getElem?_map,h]
 rfl⟩
theorem Wq {cap:List (Option Nat)} {G H G' H':Hp} {δ:cD} {σ σc:L2.St} (S:Sees K H₀ G δ σ H) (e:Ext G H G' H') (hn:(cap.filterMap id).Nodup) (c:Ce cap σ σc):Sees K H₀ G' (tN cap δ) σc H':=by
 have S':=S.ext e;refine ⟨S'.old,S'.sub,by rw [tM,c.1]; exact le_refl _,fun j s h=>?_,fun j k xs ys a h1 h2 e1 e2=>?_⟩
 ·obtain ⟨i,h1,h2⟩:=jV h;obtain ⟨v,h3,h4⟩:=S'.has i s h2;refine ⟨v,?_,h4⟩;rw [c.2 j i h1,h3];rfl
 ·obtain ⟨i,g1,g2⟩:=jV h1;obtain ⟨i',g3,g4⟩:=jV h2;obtain ⟨b,_,q1,_⟩:=S'.ownAt g2;obtain ⟨b',_,q2,_⟩:=S'.ownAt g4;rw [c.2 j i g1,q1] at e1;rw [c.2 k i' g3,q2] at e2;have z1:b = a:=by cases e1; rfl
  have z2:b' = a:=by cases e2; rfl
  subst z1; subst z2;have:=S'.sep i i' xs ys _ g2 g4 q1 q2;subst this;exact yG hn g1 g3
def aFb (_ex:DX) (_δ:cD) (Q:Bool->Prop):Prop:=Q true
theorem cM:yO K H₀ E aHo aFb:=fun ex δ σ G H Qd Q hx S q k=>k true G H S.refl q
def dLC (dl:DL) (cap:List (Option Nat)) (dg:DG) (dt:DT) (de:DE) (ex:DX) (δ:cD) (Q:List PyData->Prop):Prop:=dl ex δ fun ds=>ds.length<=1000/\∃ I:Nat->List PyData->Prop,I 0 [] /\
 (∀ i d acc,ds[i]? = some d->I i acc->dg d (tN cap δ) fun δ2=>dt (fun _=>False) δ2 fun b=>if b = true then de (fun _=>False) δ2 fun y=>I (i + 1) (acc ++ [y]) else I (i + 1) acc)/\∀ acc,I ds.length acc->Q acc
theorem dW {wi:TI} {cap:List (Option Nat)} (hi:IvE K H₀ E wi dl) (hg:Tg K H₀ g ns dg) (ht:yO K H₀ E tt dt) (he:gQ K H₀ E te de) (hn:(cap.filterMap id).Nodup) (hns:ns.all (fun j=>(cap[j]?.bind id).isNone) = true):Cg K H₀ E (tLC wi cap g tt te) (dLC dl cap dg dt de):=fun ex δ σ G H Qd Q hx S q k =>
 hi ex δ σ G H _ _ hx S q fun J xs G1 H1 e1 it ⟨hlen,I,i0,step,fin⟩=>by
  intro D hD;obtain ⟨eD,gD⟩:=gI (xs:=[]) e1.s hD
  refine ⟨fun i m σc Hc=>m = xs.length - i/\i<=xs.length/\Ce cap σ σc/\∃ G' acc ys,Ext G1 H1 G' Hc/\G' D = none/\Hc D = some (.lst ys)/\DVs K G' ys acc/\acc.length<=i/\I i acc,
   ⟨_,rfl,zero_le _,aFp,G1,[],[],eD,gD,bM,.nil,le_refl _,i0⟩,?_⟩
  rintro i m σc Hc ⟨rfl,hil,cs,G',acc,ys,e',gd,hd,hv,hal,hI⟩;obtain ⟨t1,t2⟩:=it G' Hc e' i;by_cases hlt:i < xs.length
  ·obtain ⟨g1,g2⟩:=t1 _ (getElem?_eq_getElem hlt);refine .inr ⟨g1,fun σ2 H2=>Ce cap σ σ2/\∃ G' acc ys,Ext G1 H1 G' H2/\G' D = none/\H2 D = some (.lst ys)/\DVs K G' ys acc/\acc.length<=i + 1/\I (i + 1) acc,fun σ2 H2 z=>⟨_,by omega,rfl,hlt,z⟩,fun x H2 y=>?_⟩;obtain ⟨G2,e2,hx2⟩:=g2 x H2 y;have S2:Sees K H₀ G2 (tN cap δ) σc H2:=Wq S (e1.trans (e'.trans e2)) hn cs;refine hg x _ _ σc G2 H2 _ _ S2 hx2 (step i _ acc (getElem?_eq_getElem hlt) hI) fun δ3 σ3 S3 kp q3=>?_
   have cs3:Ce cap σ σ3:=⟨kp.1.trans cs.1,fun j z hj=>by
    rw [kp.2 j (fun hm=>by
     have:=all_eq_true.mp hns j hm
     rw [hj] at this
     cases this)]
    exact cs.2 j z hj⟩
   refine ht (fun _=>False) δ3 σ3 G2 H2 _ _ Bi S3 q3 fun b G4 H4 e4 q4=>?_;cases b with
   | true =>
    refine he (fun _=>False) δ3 σ3 G4 H4 _ _ Bi (S3.ext e4) q4 fun y dy G5 H5 e5 hy q5=>?_;have e25:Ext G' Hc G5 H5:=e2.trans (e4.trans e5);have gd5:G5 D = none:=e25.keep gd hd;have hd5:H5 D = some (.lst ys):=e25.h _ _ hd;have e15:Ext G1 H1 G5 H5:=e'.trans e25;refine ⟨ys,hd5,bR (by rw [hv.len]; omega),cs3,G5,acc ++ [dy],ys ++ [y],⟨e15.g,fun b o z=>?_,fun b=>?_,e15.n⟩,gd5,bM,(bC e25.g hv).append (.cons hy .nil),by rw [length_append]; simp; exact hal,q5⟩
    ·rw [bJ (bS z hD)]; exact e15.h b o z
    ·by_cases w:b = D
     ·subst w; exact .inr ⟨gd5,_,bM⟩
     ·rw [bJ w]; exact e15.s b
   | false =>
    have e24:Ext G' Hc G4 H4:=e2.trans e4;exact ⟨cs3,G4,acc,ys,e'.trans e24,e24.keep gd hd,e24.h _ _ hd,bC e24.g hv,Nat.le_succ_of_le hal,q4⟩
  ·have:i = xs.length:=by omega
   subst this;exact .inl ⟨t2 (le_refl _),k D ys acc G' Hc (e1.trans e') (e1.h.free hD) gd hd hv (fin acc hI)⟩
end
def jG:List Str->List PyData->cD
 | [],_=>[]
 | _ :: N,[]=>none :: jG N []
 | _ :: N,d :: ds=>some (.dat d) :: jG N ds
theorem mV:∀ (N:List Str) (ds:List PyData),(jG N ds).length = N.length
 | [],_=>rfl
 | _ :: N,[]=>congrArg (· + 1) (mV N [])
 | _ :: N,_ :: ds=>congrArg (· + 1) (mV N ds)
theorem iZ:∀ {N:List Str} {ds:List PyData} {i:Nat} {s:Sl},slot (jG N ds) i = some s->∃ d,ds[i]? = some d/\s = .dat d
 | [],_,_,_,h=>by cases h
 | _ :: N,[],0,_,h=>by cases h
 | _ :: N,[],i + 1,s,h=>by
  obtain ⟨d,h1,_⟩:=iZ (N:=N) (ds:=[]) (i:=i) h;simp at h1
 | _ :: N,d :: ds,0,s,h=>by cases h; exact ⟨d,rfl,rfl⟩
 | _ :: N,_ :: ds,i + 1,s,h=>by
  obtain ⟨d,h1,h2⟩:=iZ (N:=N) (ds:=ds) (i:=i) h;exact ⟨d,by simpa using h1,h2⟩
theorem rO {K:W.Frag} {H:Hp} {N:List Str} {vs:List V} {ds:List PyData} (h:DVs K H vs ds):Sees K H H (jG N ds) (L2.start N vs) H:=by
 refine ⟨Same.refl _,.refl _,?_,fun i s e=>?_,fun i j xs ys a e=>?_⟩
 ·rw [mV];simp only [L2.start,length_append,length_map,length_replicate];omega
 ·obtain ⟨d,h1,rfl⟩:=iZ e;obtain ⟨v,h2,h3⟩:=h.at h1;refine ⟨v,?_,h3⟩;unfold L2.start;rw [getElem?_append_left (by rw [length_map]; exact (List.getElem?_eq_some_iff.mp h2).1),getElem?_map,h2];rfl
 ·obtain ⟨d,_,z⟩:=iZ e;cases z
section
variable {P:Program} {w:World} {K:W.Frag} {mg:Str->Option Value} {base:Heap}
theorem gE {x qual:Str} {st:Stmt} {f:Addr} {fd:FuncData} {N ps:List Str} {k:Nat} {W:DW} (F:Fun K x qual st f fd) (S:FnScope N ps (aR st)) (len:∀ ds Q E,W ds Q E->ds.length = ps.length)
  (hbody:∀ (cdv:Value) (A:Around) (outer:List Env) (s:Shared) (H:Hp) (E:XK),Room k (A.deeper (envOfC qual (aR st) s.heap.objs.size f cdv)) ->
   ∃ t,Ii (pH (eP P w) P w K mg base N qual (aR st) f cdv A outer s H E) (fR st) t/\∃ d,jN K H E t d/\∀ ds Q X,W ds Q X->d { nx:=fun _=>Q (.dat .none),rt:=Q,ex:=X } (jG N ds)):FnOk P w K mg base (eP P w) (k + 1) f fd ps (fC K W):=by
 refine okE F S (fun vs H Q E h=>?_) (fun cdv A outer s H vs Q E hr h=>?_)
 ·obtain ⟨ds,Qd,Ed,h1,h2,_⟩:=h;rw [h1.len]; exact len _ _ _ h2
 ·obtain ⟨ds,Qd,Ed,h1,h2,h3,h4⟩:=h;obtain ⟨t,ht,d,hd,hq⟩:=hbody cdv A outer s H E hr;refine ⟨t,ht,hd _ _ H H { nx:=fun _=>Qd (.dat .none),rt:=Qd,ex:=Ed } _ h4 (rO h1) (hq ds Qd Ed h2) ⟨fun δ σ G H' _ S q=>?_,fun v s H' sm r q=>h3 v s H' sm r q,fun _ _ _ _ _ _ z=>z.elim,fun _ _ _ _ _ _ z=>z.elim⟩⟩;exact h3 .non (.dat .none) H' S.oldH .non q
end
def kinds:List String:=["int","bool","str","list","tuple"]
theorem aEa {K:W.Frag} (d:PyData) (n:String) (hn:kinds.contains n = true):W.kitOne K (.type (Ez d)) (.type n) = some (isD n d):=by
 have hm:n = "int"\/n = "bool"\/n = "str"\/n = "list"\/n = "tuple":=by
  simpa [kinds] using hn
 have ht:Ez d = "NoneType"\/Ez d = "bool"\/Ez d = "int"\/Ez d = "str"\/Ez d = "list"\/Ez d = "tuple"\/Ez d = "dict":=by
  cases d <;> simp [Ez]
 have key:∀ t n:String,t ≠ n->(W.kitOne K (.type t) (.type n) = W.kitCls K (.type t) (.type n)):=fun t n h=>by
  unfold W.kitOne;rw [if_neg (by simpa using h)]
 have same:∀ n:String,W.kitOne K (.type n) (.type n) = some true:=fun n=>by
  unfold W.kitOne;rw [if_pos (by simp)]
 unfold isD;generalize Ez d = t at ht;clear hn;rcases ht with rfl | rfl | rfl | rfl | rfl | rfl | rfl <;> rcases hm with rfl | rfl | rfl | rfl | rfl <;>
  first
  | exact same _
  | (rw [key _ _ (by decide)]
     unfold W.kitCls W.subIn
     dsimp only
     rw [if_pos (by decide +kernel)]
     decide +kernel)
section
variable {X:Cx} {pins:List (Addr × Obj)} {σ:L2.St} {H:Hp} {s:Shared}
theorem aEm {A:Around} {Q:Value->Shared->Prop} {Ee:Value->Shared->Prop} {x:V} {d:PyData} {u c:Value} {b:Bool} (I:Inv X pins σ H s) (rx:RelV x u) (h:DV X.K H x d) (e:W.kitOne X.K (.type (Ez d)) c = some b) (hq:∀ tk,Q (.bool b) { s with toks:=tk }) :
  wpAny (model X.prog X.w) A (call (.builtin "isinstance") [u,c]) Q Ee s:=by
 cases h with
 | non=>exact jS I rx .non e hq
 | bl y=>exact jS I rx (.bl y) e hq
 | int y=>exact jS I rx (.int y) e hq
 | str y=>exact jS I rx (.str y) e hq
 | @lst a xs ds hs hd =>
  cases (show u = Value.ref a from rx);obtain ⟨its,r,⟨o,n,ho,hc,_,_⟩,_⟩:=I.list hs;exact W.kia_one W.kitx_list I.kIn ⟨o,ho,hc⟩ e (fun z=>nomatch z) hq
 | @tup a xs ds hs hd =>
  cases (show u = Value.ref a from rx);obtain ⟨its,r,⟨o,ho,hc,n,_⟩,_⟩:=I.tuple hs;exact W.kia_one W.kitx_tuple I.kIn ⟨o,ho,hc⟩ e (fun z=>nomatch z) hq
 | dct hd=>exact jS I rx (.dK hd) e hq
def aIq (K:W.Frag):List V->Hp->VK->Prop:=fun xs H Q=>∃ x d n,xs = [x,.ty n]/\kinds.contains n = true/\DV K H x d/\Q (.bl (isD n d)) H
theorem Gs {K:W.Frag} (hK:X.K = K):iG X (.builtin "isinstance") (aIq K):=by
 subst hK;intro pins s σ H xs us Q I r h;obtain ⟨x,d,n,rfl,hn,hd,q⟩:=h;obtain ⟨u,v,rfl,ru,rv⟩:=uH r;cases (show v = Value.type n from rv);exact aEm I ru hd (aEa d n hn) fun tk=>⟨.bl _,H,I.tok tk,rfl,q⟩
end
section
variable {K:W.Frag} {H₀:Hp} {E:XK} {te ta tb:TE} {da db de:DE} {dl dk:DL} {t:TA}
def aKx (n:String) (de:DE) (ex:DX) (δ:cD) (Q:PyData->Prop):Prop:=de ex δ fun d=>Q (.bool (isD n d))
theorem xY {n:String} (hn:kinds.contains n = true) (h:kO K H₀ E te de):gQ K H₀ E (tCB (aIq K) (eF te (eF (tC (.ty n)) iS))) (aKx n de):=fun ex δ σ G H Qd Q hx S q k =>
 h ex δ σ G H _ _ hx S q fun x d G1 H1 e1 h1 q1=>⟨x,d,n,rfl,hn,h1,k _ _ G1 H1 e1 (.bl _) q1⟩
def MvD (K:W.Frag) (H₀:Hp) (E:XK) (te:TE) (dl:DL):Prop:=∀ ex δ σ G H Qd Q,kU H₀ E ex->Sees K H₀ G δ σ H->dl ex δ Qd->(∀ a vs ds G' H',Ext G H G' H'->H' a = some (.lst vs)->DVs K G' vs ds->Qd ds->Q (.ref a) H')->te σ H Q
theorem Gj (h:Cg K H₀ E te dl):MvD K H₀ E te dl:=fun ex δ σ G H Qd Q hx S q k =>
 h ex δ σ G H _ Q hx S q fun a vs ds G' H' e hn hg hh hd qd=>k a vs ds G' H' e hh hd qd
def aLa (dl dk:DL) (ex:DX) (δ:cD) (Q:List PyData->Prop):Prop:=dl ex δ fun xs=>dk ex δ fun ys=>xs.length + ys.length<=1000/\Q (xs ++ ys)
theorem aCl (h1:MvD K H₀ E ta dl) (h2:MvD K H₀ E tb dk):Cg K H₀ E (wP aIs ta tb) (aLa dl dk):=fun ex δ σ G H Qd Q hx S q k =>
 h1 ex δ σ G H _ _ hx S q fun a vs ds G1 H1 e1 l1 d1 q1=>h2 ex δ σ G1 H1 _ _ hx (S.ext e1) q1 fun b ws es G2 H2 e2 l2 d2 ⟨q2,q3⟩ =>
  ⟨a,b,vs,ws,rfl,rfl,e2.h _ _ l1,l2,le_of_lt (bR (by rw [d1.len,d2.len]; exact q2)),fun p hp=>by
   obtain ⟨e3,g3⟩:=gI (xs:=vs ++ ws) e2.s hp
   have e0:=e1.trans e2
   exact k p _ _ _ _ (e0.trans e3) (e0.h.free hp) g3 bM ((bC e2.g d1).append d2) q3⟩
end
section
variable {dl:DL} {dg:DG} {db d1 d2:DS} {e:DEnds} {δ:cD}
theorem cK (h:d1 { e with nx:=d2 e } δ):aKl d1 d2 e δ:=h
theorem tJ (I:cD->Prop) (h:d1 { e with nx:=I } δ) (k:∀ δ',I δ'->d2 e δ'):aKz d1 d2 e δ:=⟨I,h,k⟩
theorem dE {α:Type} (f:α->PyData) (xs:List α) (hl:∀ Q,Q (xs.map f)->dl e.ex δ Q) (I:Nat->cD->Prop) (h0:I 0 δ)
  (hs:∀ i x δ',xs[i]? = some x->I i δ'->dg (f x) δ' fun δ2=>db { e with nx:=I (i + 1),ct:=I (i + 1),bk:=e.nx } δ2) (hd:∀ δ',I xs.length δ'->e.nx δ'):Wn dl dg db e δ :=
 hl _ ⟨I,h0,fun i d δ' hi hI=>by
  rw [getElem?_map] at hi
  cases q:xs[i]? with
  | none=>rw [q] at hi; cases hi
  | some x =>
   rw [q] at hi
   cases hi
   exact hs i x δ' q hI,fun δ' hI=>hd δ' (by rw [length_map] at hI; exact hI)⟩
theorem qX {lo st:Int} {n:Nat} (hl:∀ Q,Q (tU lo n st)->dl e.ex δ Q) (I:Nat->cD->Prop) (h0:I 0 δ)
  (hs:∀ i δ',i < n->I i δ'->dg (.int (lo + (i:Int) * st)) δ' fun δ2=>db { e with nx:=I (i + 1),ct:=I (i + 1),bk:=e.nx } δ2) (hd:∀ δ',I n δ'->e.nx δ'):Wn dl dg db e δ :=
 hl _ ⟨I,h0,fun i d δ' hi hI=>by
  obtain ⟨h1,rfl⟩:=wY hi
  exact hs i δ' h1 hI,fun δ' hI=>hd δ' (by rw [rR] at hI; exact hI)⟩
variable {dt:DT} {de:DE} {cap:List (Option Nat)} {ex:DX} {Q:List PyData->Prop}
theorem cL {α β:Type} (f:α->PyData) (g:β->PyData) (F:α->List β) (xs:List α) (hlen:xs.length<=1000) (hl:∀ Q,Q (xs.map f)->dl ex δ Q)
  (hs:∀ x∈xs,∀ N:List PyData->Prop,∀ acc,N (acc ++ (F x).map g)->dg (f x) (tN cap δ) fun δ2=>dt (fun _=>False) δ2 fun b=>if b = true then de (fun _=>False) δ2 fun y=>N (acc ++ [y]) else N acc)
  (hd:Q ((xs.flatMap F).map g)):dLC dl cap dg dt de ex δ Q :=
 hl _ ⟨by rw [length_map]; exact hlen,fun i acc=>acc = ((xs.take i).flatMap F).map g,by simp,fun i d acc hi hI=>by
  rw [getElem?_map] at hi
  cases q:xs[i]? with
  | none=>rw [q] at hi; cases hi
  | some x =>
   rw [q] at hi
   cases hi
   subst hI
   refine hs x (mem_of_getElem? q) (fun acc=>acc = ((xs.take (i + 1)).flatMap F).map g) _ ?_
   have e:xs.take (i + 1) = xs.take i ++ [x]:=by
    rw [take_add_one,q]; rfl
   rw [e]
   simp,fun acc hI=>by
  subst hI
  rw [length_map,take_of_length_le (le_refl _)]
  exact hd⟩
end
abbrev DXS:=cD->Addr->Prop
abbrev DSX:=DEnds->DXS->cD->Prop
structure LkX (K:W.Frag) (H₀ G:Hp) (xd:DXS) (XE:XS):Prop where
 ex:∀ δ σ C G' H,Same G G'->Sees K H₀ G' δ σ H->xd δ C->XE σ (.ref C) none H
abbrev nox (e:DEnds):DEnds:={ e with ex:=fun _=>False }
def aMk:DW:=fun ds Q _=>∃ ns:List Int,ds = [.list (ns.map .int)]/\ns.length<=63/\(∀ v∈ns,Builtin.Int.intBits v<=1048576)/\Q (.dat (.bool true))
theorem qB {K:W.Frag} {H:Hp}:∀ ns:List Int,DVs K H (ns.map V.int) (ns.map PyData.int)
 | []=>.nil
 | n :: ns=>.cons (.int n) (qB ns)
theorem aDz {P:Program} {w:World} {K:W.Frag} {mg:Str->Option Value} {base:Heap} {k:Nat} {f:Addr} {fd:FuncData} {ps:List Str} (F:FnOk P w K mg base (eP P w) k f fd ps (fC K aMk)):FnOk P w K mg base (eP P w) k f fd ps (Fh K) :=
 F.imp fun vs H Q E ⟨a,ns,e,hS,hl,hb,_,q⟩=>by
  subst e;refine ⟨[.list (ns.map .int)],fun s=>s = .dat (.bool true),fun _=>False,.cons (.lst hS (qB ns)) .nil,⟨ns,rfl,hl,hb,rfl⟩,fun v s H' _ r hs=>?_,fun _ _ _ z=>z.elim⟩;subst hs;cases lU r;exact q H'
section
variable {X:Cx} {pins:List (Addr × Obj)} {σ:L2.St} {H:Hp} {s:Shared} {h':Heap}
theorem cV {t':Nat} {ws:List Addr} (I:Inv X pins σ H s) (k:∀ b o,b ∉ ws->s.heap.get? b = some o->h'.get? b = some o) (f:∀ b∈ws,kT X pins H b):Inv X pins σ H { s with heap:=h',toks:=t' }:=by
 have nit:∀ b u,H b = some u->b ∉ ws:=fun b u e z=>by rw [(f b z).1] at e; cases e
 refine I.step (g':=s.gens) (d':=s.drawn) (ch:=ws) (fun b hb=>⟨(f b hb).2.2.2.1,(f b hb).2.1,(f b hb).2.2.2.2.1,(f b hb).2.2.2.2.2⟩) (fun b o _ _ hc e _=>k b o hc e) (fun b o _ _ hc e _=>⟨o.slots,k b o hc e⟩) (fun _ _ _ _ n=>n)
  (fun b o hc e=>⟨o,k b o hc e⟩) (fun _ _ e=>e) (fun _ _ _ e=>e) (fun b ps e=>⟨#[],by rw [e]; simp⟩) (fun m hm=>?_) (fun b u e=>?_) I.bare
 ·obtain ⟨o,es,ep,ho,r⟩:=hm;exact ⟨o,es,ep,k _ o (fun z=>(f _ z).2.1 rfl) ho,r⟩
 ·refine (I.hok b u e).stay (fun c v hc q=>k c v ?_ q) (fun _ q=>q) fun _ _ q=>q;rcases hc with z | z
  ·rw [z]; exact nit b u e
  ·exact nit c _ z
theorem xT {T:Addr} {xs:List V} {its:List Value} (I:Inv X pins σ H s) (f:kT X pins H T) (h0:X.s₀.heap.objs.size<=T) (hT:s.heap.IsTuple T its.toArray) (r:Vals xs its) (hz:xs.length<=sizeLine):Inv X pins σ (eT H T (.tup xs)) s:=by
 obtain ⟨f0,f1,f2,f3,f4,f5⟩:=f;have neH:∀ b o,H b = some o->b ≠ T:=fun b o e z=>by rw [z,f0] at e; cases e
 refine ⟨I.ok,I.os,I.bare,⟨I.base.keep,I.base.slot,fun b o e n hb=>?_,I.base.there,fun b xs e=>?_,fun b o u e=>?_,fun b ps e=>?_⟩,I.loc,I.cell,?_,fun y c e=>?_,fun p hp=>?_,fun b o e=>?_,I.len⟩
 ·rw [bJ (ne_of_lt (lt_of_lt_of_le (lt_size e) h0))];exact I.base.free b o e n hb
 ·have q:=I.base.tups b xs e;rw [bJ (neH b _ q)]; exact q
 ·have q:=I.base.frzs b o u e;rw [bJ (neH b _ q)]; exact q
 ·obtain ⟨m,q⟩:=I.base.tbls b ps e;exact ⟨m,by rw [bJ (neH b _ q)]; exact q⟩
 ·rw [bJ (Ne.symm f1)]; exact I.free
 ·rw [bJ (f4 y c e)]; exact I.freeC y c e
 ·obtain ⟨e,n,r⟩:=I.pin p hp;exact ⟨e,by rw [bJ (f5 p hp)]; exact n,r⟩
 ·by_cases hb:b = T
  ·subst hb;rw [bM] at e; cases e;exact ⟨hz,its,r,hT⟩
  ·rw [bJ hb] at e;exact (I.hok b o e).stay (fun c v _ q=>q) (fun c q=>by rw [bJ (neH c _ q)]; exact q) fun c xs q=>by rw [bJ (neH c _ q)]; exact q
end
def Itz (K:W.Frag) (a b:Addr):It :=
 ⟨fun i H=>∃ xs ys,SqL K H a xs/\SqL K H b ys/\i < xs.length/\i < ys.length,
  fun i H x H'=>∃ T u v,x = .ref T/\H T = none/\H' = eT H T (.tup [u,v])/\(∀ xs,SqL K H a xs->xs[i]? = some u)/\∀ ys,SqL K H b ys->ys[i]? = some v,
  fun i H=>∃ xs ys,SqL K H a xs/\SqL K H b ys/\(xs.length<=i\/ys.length<=i)⟩
theorem Lm {P:Program} {w:World} {K:PySem.W.Frag} {elts:List Expr} {k:Nat} {pos:Pos} {z TI TO i1 i2 l1 l2:Addr} (D:ZipApart z TI TO i1 i2 l1 l2) :
  Turn P w K (.Tuple elts k pos) (Itz K l1 l2) [z,TI,TO,i1,i2] z (fun i h=>IsZip h z TI TO .none/\IsPair h TI (.ref i1) (.ref i2)/\(∃ a b,IsPair h TO a b)/\h.IsListIter i1 l1 i/\h.IsListIter i2 l2 i) where
 mem:=by simp
 obj:=fun i h st b hb=>by
  obtain ⟨hz,hTI,⟨x,y,hTO⟩,⟨o1,e1,_,d1⟩,⟨o2,e2,_,d2⟩⟩:=st;simp only [mem_cons,not_mem_nil,or_false] at hb;rcases hb with rfl | rfl | rfl | rfl | rfl
  ·exact ⟨_,hz,fun v q=>by cases q⟩
  ·exact ⟨_,hTI,fun v q=>by cases q⟩
  ·exact ⟨_,hTO,fun v q=>by cases q⟩
  ·exact ⟨o1,e1,fun v q=>by rw [d1] at q; cases q⟩
  ·exact ⟨o2,e2,fun v q=>by rw [d2] at q; cases q⟩
 keep:=fun i h h' st kp=>by
  obtain ⟨hz,hTI,⟨x,y,hTO⟩,h1,h2⟩:=st;exact ⟨kp z (by simp) _ hz,kp TI (by simp) _ hTI,⟨x,y,kp TO (by simp) _ hTO⟩,h1.at fun o e=>kp i1 (by simp) o e,h2.at fun o e=>kp i2 (by simp) o e⟩
 item:=by
  intro X hP hw hK hc i pins s σ H E I hf st hg;subst hP hw hK;obtain ⟨xs,ys,q1,q2,g1,g2⟩:=hg;obtain ⟨its1,rv1,p1,z1⟩:=I.list q1;obtain ⟨its2,rv2,p2,z2⟩:=I.list q2;obtain ⟨hz,hTI,⟨x0,y0,hTO⟩,h1,h2⟩:=st;have W:=WalksT.zip2 (prog:=X.prog) (w:=X.w) (A:=X.A) (I.ok.hd hc) z TI TO i1 i2 l1 l2 D its1.toArray its2.toArray;have L1:=rv1.length;have L2:=rv2.length;refine W.item i s _ _ (by simp only [size_toArray]; omega) ⟨hz,hTI,⟨_,_,hTO⟩,h1,h2,p1.isList,p2.isList⟩ fun T vals h' tk hv hsz hT hmid kk=>?_;obtain ⟨x,y,hx,hy,rfl⟩:=hv;refine ⟨_,rfl,W.go elts k pos i T { s with heap:=h',toks:=tk } _ _ hmid fun h3 hst kk3=>?_⟩;obtain ⟨u,e1⟩:∃ u,xs[i]? = some u:=⟨xs[i],getElem?_eq_getElem g1⟩;obtain ⟨v,e2⟩:∃ v,ys[i]? = some v:=⟨ys[i],getElem?_eq_getElem g2⟩;obtain ⟨x',e3,r1⟩:=rv1.get e1;obtain ⟨y',e4,r2⟩:=rv2.get e2;have ex:x' = x:=by
   have:its1[i]? = some x:=by simpa using hx
   rw [e3] at this; exact Option.some.inj this
  have ey:y' = y:=by
   have:its2[i]? = some y:=by simpa using hy
   rw [e4] at this; exact Option.some.inj this
  subst ex; subst ey
  have fw:∀ b∈[z,TO,i1,i2],kT X pins H b:=fun b hb=>hf b (by
   simp only [mem_cons,not_mem_nil,or_false] at hb ⊢
   rcases hb with rfl | rfl | rfl | rfl <;> simp)
  have I1:Inv X pins σ H { s with heap:=h',toks:=tk }:=cV I kk fw;have I2:Inv X pins σ H { s with heap:=h3,toks:=tk }:=cV (s:={ s with heap:=h',toks:=tk }) I1 kk3 fw;have nT:=W.apart i T h' hmid;have hT3:h3.IsTuple T #[x',y']:=by
   obtain ⟨o,ho,r⟩:=hT;exact ⟨o,kk3 T o nT ho,r⟩
  have fT:kT X pins H T:=I.fpOk hsz (I.hok.fresh hsz);have I3:=xT (xs:=[u,v]) (its:=[x',y']) I2 fT (le_trans I.sz hsz) hT3 (.cons r1 (.cons r2 .nil)) (le_of_lt (bR (by show 2<=1000; decide)));refine ⟨.ref T,eT H T (.tup [u,v]),I3,rfl,⟨T,u,v,rfl,fT.1,rfl,fun xs' h=>by rw [I.list_inj h q1]; exact e1,fun ys' h=>by rw [I.list_inj h q2]; exact e2⟩,⟨hst.1,hst.2.1,hst.2.2.1,hst.2.2.2.1,hst.2.2.2.2.1⟩,fun b hb=>?_⟩;rw [bJ]
  ·exact (hf b hb).1
  ·intro e;subst e;have:∃ o,s.heap.get? b = some o:=by
    simp only [mem_cons,not_mem_nil,or_false] at hb;rcases hb with rfl | rfl | rfl | rfl | rfl
    ·exact ⟨_,hz⟩
    ·exact ⟨_,hTI⟩
    ·exact ⟨_,hTO⟩
    ·obtain ⟨o,e,_⟩:=h1; exact ⟨o,e⟩
    ·obtain ⟨o,e,_⟩:=h2; exact ⟨o,e⟩
   obtain ⟨o,e⟩:=this;exact absurd (lt_size e) (Nat.not_lt.mpr hsz)
 done:=by
  intro X hP hw hK hc i pins s σ H E I hf st hg;subst hP hw hK;obtain ⟨xs,ys,q1,q2,g⟩:=hg;obtain ⟨its1,rv1,p1,z1⟩:=I.list q1;obtain ⟨its2,rv2,p2,z2⟩:=I.list q2;obtain ⟨hz,hTI,⟨x0,y0,hTO⟩,h1,h2⟩:=st;have L1:=rv1.length;have L2:=rv2.length;refine wpAny_pyNext_zip_end (I.ok.hd hc) D hz hTI hTO h1 h2 p1.isList p2.isList ?_ fun h' hk=>⟨rfl,?_⟩
  ·rcases g with g | g
   ·exact .inl (by simp; omega)
   ·exact .inr (by simp; omega)
  ·exact cV (t':=s.toks) (ws:=[z,TO,i1,i2]) I (fun b o hb e=>hk b o (fun x=>hb (by simp [x])) (fun x=>hb (by simp [x])) (fun x=>hb (by simp [x])) (fun x=>hb (by simp [x])) e) fun b hb=>hf b (by
    simp only [mem_cons,not_mem_nil,or_false] at hb ⊢
    rcases hb with rfl | rfl | rfl | rfl <;> simp)
 self:=fun _ _ _ _ _ st h=>wpAny_pyIter_zip st.1 h
theorem Ca:bootBuiltins "zip" = some (.type "zip"):=by decide +kernel
theorem tO:bootBuiltins "enumerate" = some (.type "enumerate"):=by decide +kernel
theorem uB:bootBuiltins "reversed" = some (.type "reversed"):=by decide +kernel
section
variable {X:Cx} {K:W.Frag}
def aEq (K:W.Frag) (t:TA):TI:=fun σ H R=>t σ H fun vs H1=>∃ a b,vs = [.ref a,.ref b]/\(∃ xs,SqL K H1 a xs)/\(∃ ys,SqL K H1 b ys)/\R (Itz K a b) H1
theorem jI {elts:List Expr} {k:Nat} {tpos:Pos} {a b:Expr} {ta:TA} {p pos:Pos} (hK:X.K = K) (hg:Gl X "zip") (hm:X.mg "zip" = none) (ha:PA X [a,b] ta) (hs:starEach [a,b] X.env = [(false,eval a X.env),(false,eval b X.env)]:=by rfl) (hs2:starEach [b] X.env = [(false,eval b X.env)]:=by rfl) :
  PI X (.Tuple elts k tpos) (.Call (.Name "zip" p) [a,b] [] pos) (aEq K ta):=by
 subst hK;intro pins s σ H R I h;refine Call_ (jL I hg hm Ca (PyProof.Rows.callWith_type1 (eU (ha pos pins s σ H _ I h) fun us s1 ⟨vs,H1,I1,r1,q1⟩=>?_) (by rw [hs,hs2]) (by rw [hs2]; rfl)));obtain ⟨a',b',e,⟨xs,g1⟩,⟨ys,g2⟩,q⟩:=q1;subst e;obtain ⟨u,v,rfl,ru,rv⟩:=uH r1;cases ru; cases rv;obtain ⟨its1,rv1,p1,z1⟩:=I1.list g1;obtain ⟨its2,rv2,p2,z2⟩:=I1.list g2;have a1:a' < s1.heap.objs.size:=by obtain ⟨_,e,_⟩:=p1.isList; exact lt_size e
 have a2:b' < s1.heap.objs.size:=by obtain ⟨_,e,_⟩:=p2.isList; exact lt_size e
 refine call_zip_2 p1.isList p2.isList fun h' hz hTI hTO hi1 hi2 _ hk=>wpAny_pyIter_zip hz ?_;refine ⟨s1.heap.objs.size + 4,[s1.heap.objs.size + 4,s1.heap.objs.size + 2,s1.heap.objs.size + 3,s1.heap.objs.size,s1.heap.objs.size + 1],_,_,H1,rfl,I1.kept (t':=s1.toks) hk,Lm (zipApart_new a1 a2),⟨hz,hTI,⟨_,_,hTO⟩,hi1,hi2⟩,fun b hb=>?_,q⟩;have hb2:s1.heap.objs.size<=b:=by
  simp only [mem_cons,not_mem_nil,or_false] at hb;rcases hb with rfl | rfl | rfl | rfl | rfl <;> omega
 exact I1.fpOk hb2 (I1.hok.fresh hb2)
end
def Ite (K:W.Frag) (a:Addr):It :=
 ⟨fun i H=>∃ xs,SqL K H a xs/\i < xs.length,
  fun i H x H'=>∃ T u,x = .ref T/\H T = none/\H' = eT H T (.tup [.int (i:Int),u])/\∀ xs,SqL K H a xs->xs[i]? = some u,
  fun i H=>∃ xs,SqL K H a xs/\xs.length<=i⟩
theorem Ja {P:Program} {w:World} {K:PySem.W.Frag} {elts:List Expr} {k:Nat} {pos:Pos} {e it l:Addr} (hei:e ≠ it) (hle:l ≠ e) (hli:l ≠ it) :
  Turn P w K (.Tuple elts k pos) (Ite K l) [e,it] e (fun i h=>(∃ old,IsEnum h e it i old)/\h.IsListIter it l i) where
 mem:=by simp
 obj:=fun i h st b hb=>by
  obtain ⟨⟨old,he⟩,⟨o1,e1,_,d1⟩⟩:=st;simp only [mem_cons,not_mem_nil,or_false] at hb;rcases hb with rfl | rfl
  ·exact ⟨_,he,fun v q=>by cases q⟩
  ·exact ⟨o1,e1,fun v q=>by rw [d1] at q; cases q⟩
 keep:=fun i h h' st kp=>by
  obtain ⟨⟨old,he⟩,h1⟩:=st;exact ⟨⟨old,kp e (by simp) _ he⟩,h1.at fun o x=>kp it (by simp) o x⟩
 item:=by
  intro X hP hw hK hc i pins s σ H E I hf st hg;subst hP hw hK;obtain ⟨xs,q1,g1⟩:=hg;obtain ⟨its1,rv1,p1,z1⟩:=I.list q1;obtain ⟨⟨old,he⟩,h1⟩:=st;have W:=WalksT.enumerate (prog:=X.prog) (w:=X.w) (A:=X.A) (I.ok.hd hc) e it l hei hle hli its1.toArray;have L1:=rv1.length;refine W.item i s _ _ (by simp only [size_toArray]; omega) ⟨⟨old,he⟩,h1,p1.isList⟩ fun T vals h' tk hv hsz hT hmid kk=>?_;obtain ⟨t,x,hx,rfl⟩:=hv;refine ⟨_,rfl,W.go elts k pos i T { s with heap:=h',toks:=tk } _ _ hmid fun h3 hst kk3=>?_⟩;obtain ⟨u,e1⟩:∃ u,xs[i]? = some u:=⟨xs[i],getElem?_eq_getElem g1⟩;obtain ⟨x',e3,r1⟩:=rv1.get e1;have ex:x' = x:=by
   have:its1[i]? = some x:=by simpa using hx
   rw [e3] at this; exact Option.some.inj this
  subst ex;have I1:Inv X pins σ H { s with heap:=h',toks:=tk }:=cV I kk hf;have I2:Inv X pins σ H { s with heap:=h3,toks:=tk }:=cV (s:={ s with heap:=h',toks:=tk }) I1 kk3 hf;have nT:=W.apart i T h' hmid;have hT3:h3.IsTuple T #[.int i t,x']:=by
   obtain ⟨o,ho,r⟩:=hT;exact ⟨o,kk3 T o nT ho,r⟩
  have fT:kT X pins H T:=I.fpOk hsz (I.hok.fresh hsz);have I3:=xT (xs:=[.int (i:Int),u]) (its:=[.int i t,x']) I2 fT (le_trans I.sz hsz) hT3 (.cons ⟨t,rfl⟩ (.cons r1 .nil)) (le_of_lt (bR (by show 2<=1000; decide)));refine ⟨.ref T,eT H T (.tup [.int (i:Int),u]),I3,rfl,⟨T,u,rfl,fT.1,rfl,fun xs' h=>by rw [I.list_inj h q1]; exact e1⟩,⟨hst.1,hst.2.1⟩,fun b hb=>?_⟩;rw [bJ]
  ·exact (hf b hb).1
  ·intro e';subst e';have:∃ o,s.heap.get? b = some o:=by
    simp only [mem_cons,not_mem_nil,or_false] at hb;rcases hb with rfl | rfl
    ·exact ⟨_,he⟩
    ·obtain ⟨o,e,_⟩:=h1; exact ⟨o,e⟩
   obtain ⟨o,e⟩:=this;exact absurd (lt_size e) (Nat.not_lt.mpr hsz)
 done:=by
  intro X hP hw hK hc i pins s σ H E I hf st hg;subst hP hw hK;obtain ⟨xs,q1,g⟩:=hg;obtain ⟨its1,rv1,p1,z1⟩:=I.list q1;obtain ⟨⟨old,he⟩,h1⟩:=st;have L1:=rv1.length;exact wpAny_pyNext_enum_end (I.ok.hd hc) he h1 p1.isList (by simp; omega) fun h' hx=>⟨rfl,cV (t':=s.toks) (ws:=[e,it]) I (fun b o hb y=>hx b o (fun e'=>hb (by simp [e'])) y) hf⟩
 self:=fun _ _ _ _ _ st h=>by
  obtain ⟨⟨old,he⟩,_⟩:=st;exact wpAny_pyIter_enum he h
def Itv (K:W.Frag) (a:Addr) (n:Nat):It :=
 ⟨fun i H=>∃ xs,SqL K H a xs/\xs.length = n/\i < n,fun i H x H'=>H' = H/\∀ xs,SqL K H a xs->xs[n - 1 - i]? = some x,fun i _=>n<=i⟩
theorem Ln {P:Program} {w:World} {K:W.Frag} {tg:Expr} {it l:Addr} {n:Nat}:Turn P w K tg (Itv K l n) [it] it (fun i h=>i<=n/\h.IsRevIter it l ((n:Int) - 1 - (i:Int))) where
 mem:=by simp
 obj:=fun i h st b hb=>by
  have e:b = it:=by simpa using hb
  subst e;obtain ⟨_,o,e,c,d⟩:=st;exact ⟨o,e,fun v z=>by rw [d] at z; cases z⟩
 keep:=fun i h h' st k=>⟨st.1,st.2.at fun o e=>k it (by simp) o e⟩
 item:=by
  intro X hP hw hK hc i pins s σ H E I hf st hg;subst hP hw hK;obtain ⟨xs,hq,hn,hi⟩:=hg;obtain ⟨its,rv,p,hz⟩:=I.list hq;obtain ⟨x,hx⟩:∃ x,xs[n - 1 - i]? = some x:=⟨_,getElem?_eq_getElem (by omega)⟩;obtain ⟨u,hu,ru⟩:=rv.get hx;obtain ⟨f0,f1,f2,f3,f4,f5⟩:=hf it (by simp);have e1:(n:Int) - 1 - (i:Int) = ((n - 1 - i:Nat):Int):=by omega
  have st2:=st.2;rw [e1] at st2;refine wpAny_pyNext_rev_item st2 p.isList (x:=u) (by simpa using hu) fun h' st' sb=>?_;have I1:Inv X pins σ H { s with heap:=h' }:=I.turned (t':=s.toks) (fun b o hb e=>(sb.2 b hb).trans e) f0 f1 f3 f4 f5;obtain ⟨o,e,c,d⟩:=id st';refine ⟨u,rfl,vL (s:={ s with heap:=h' }) e c d (by decide) ⟨x,H,I1,ru,⟨rfl,fun ys hy=>by rw [I.list_inj hy hq]; exact hx⟩,⟨by omega,?_⟩,fun b hb=>(hf b hb).1⟩⟩;have e2:(n:Int) - 1 - ((i + 1:Nat):Int) = ((n - 1 - i:Nat):Int) - 1:=by omega
  rw [e2];exact st'
 done:=by
  intro X hP hw hK hc i pins s σ H E I hf st hg;subst hP hw hK;have hg':n<=i:=hg;obtain ⟨f0,f1,f2,f3,f4,f5⟩:=hf it (by simp);have e1:(n:Int) - 1 - (i:Int) = -1:=by have:=st.1; omega
  have st2:=st.2;rw [e1] at st2;exact wpAny_pyNext_rev_end (I.ok.hd hc) st2 fun h' eb=>⟨rfl,I.turned (t':=s.toks) (fun b o hb e=>eb b o hb e) f0 f1 f3 f4 f5⟩
 self:=fun _ _ _ _ _ st h=>wpAny_pyIter_revIter st.2 h
section
variable {X:Cx} {K:W.Frag}
def Xw (K:W.Frag) (t:TA):TI:=fun σ H R=>t σ H fun vs H1=>∃ a,vs = [.ref a]/\(∃ xs,SqL K H1 a xs)/\R (Ite K a) H1
theorem xE {elts:List Expr} {k:Nat} {tpos:Pos} {a:Expr} {ta:TA} {p pos:Pos} (hK:X.K = K) (hg:Gl X "enumerate") (hm:X.mg "enumerate" = none) (ha:PA X [a] ta) (hs:starEach [a] X.env = [(false,eval a X.env)]:=by rfl) :
  PI X (.Tuple elts k tpos) (.Call (.Name "enumerate" p) [a] [] pos) (Xw K ta):=by
 subst hK;intro pins s σ H R I h;refine Call_ (jL I hg hm tO (PyProof.Rows.callWith_type1 (eU (ha pos pins s σ H _ I h) fun us s1 ⟨vs,H1,I1,r1,q1⟩=>?_) (by rw [hs]; rfl) (by rfl)));obtain ⟨a',e,⟨xs,g1⟩,q⟩:=q1;subst e;obtain ⟨u,rfl,ru⟩:=iR r1;cases ru;obtain ⟨its1,rv1,p1,z1⟩:=I1.list g1;have a1:a' < s1.heap.objs.size:=by obtain ⟨_,e,_⟩:=p1.isList; exact lt_size e
 refine call_enumerate_list p1.isList fun h' hz hi1 _ hk=>wpAny_pyIter_enum hz ?_;refine ⟨s1.heap.objs.size + 1,[s1.heap.objs.size + 1,s1.heap.objs.size],_,_,H1,rfl,I1.kept (t':=s1.toks) hk,Ja (e:=s1.heap.objs.size + 1) (it:=s1.heap.objs.size) (l:=a') (Nat.succ_ne_self _) (ne_of_lt (Nat.lt_succ_of_lt a1)) (ne_of_lt a1),⟨⟨_,hz⟩,hi1⟩,fun b hb=>?_,q⟩;have hb2:s1.heap.objs.size<=b:=by
  simp only [mem_cons,not_mem_nil,or_false] at hb;rcases hb with rfl | rfl <;> omega
 exact I1.fpOk hb2 (I1.hok.fresh hb2)
def aJx (K:W.Frag) (t:TA):TI:=fun σ H R=>t σ H fun vs H1=>∃ a xs,vs = [.ref a]/\SqL K H1 a xs/\R (Itv K a xs.length) H1
theorem zZ {tg:Expr} {a:Expr} {ta:TA} {p pos:Pos} (hK:X.K = K) (hg:Gl X "reversed") (hm:X.mg "reversed" = none) (ha:PA X [a] ta) (hs:starEach [a] X.env = [(false,eval a X.env)]:=by rfl) :
  PI X tg (.Call (.Name "reversed" p) [a] [] pos) (aJx K ta):=by
 subst hK;intro pins s σ H R I h;refine Call_ (jL I hg hm uB (PyProof.Rows.callWith_type1 (eU (ha pos pins s σ H _ I h) fun us s1 ⟨vs,H1,I1,r1,q1⟩=>?_) (by rw [hs]; rfl) (by rfl)));obtain ⟨a',xs,e,g1,q⟩:=q1;subst e;obtain ⟨u,rfl,ru⟩:=iR r1;cases ru;obtain ⟨its1,rv1,p1,z1⟩:=I1.list g1;have L1:=rv1.length;refine call_reversed_list p1.isList ?_;have hit:(s1.heap.push (revObj a' ((its1.toArray.size:Int) - 1))).IsRevIter s1.heap.objs.size a' ((xs.length:Int) - 1 - ((0:Nat):Int)):=by
  refine ⟨_,get?_push_size _ rfl,rfl,?_⟩;simp only [revObj,size_toArray];rw [L1];simp
 refine wpAny_pyIter_revIter hit ?_;refine ⟨s1.heap.objs.size,[s1.heap.objs.size],_,_,H1,rfl,I1.kept (t':=s1.toks) fun b o e=>get?_push_of_some _ e,Ln,⟨zero_le _,hit⟩,fun b hb=>?_,q⟩;have e:b = s1.heap.objs.size:=by simpa using hb
 subst e;exact I1.fpOk (le_refl _) (I1.hok.fresh (le_refl _))
end
section
variable {K:W.Frag} {H₀:Hp} {E:XK} {te ta tb:TE} {da db de:DE} {dl dk:DL} {t:TA}
def pairD:List PyData->List PyData->List PyData
 | x :: xs,y :: ys=>.tuple [x,y] :: pairD xs ys
 | _,_=>[]
theorem vC:∀ xs ys:List PyData,(pairD xs ys).length = min xs.length ys.length
 | [],_=>by simp [pairD]
 | _ :: _,[]=>by simp [pairD]
 | x :: xs,y :: ys=>by simp [pairD,vC xs ys]
theorem Aa:∀ {xs ys:List PyData} {i:Nat} {d:PyData},(pairD xs ys)[i]? = some d->∃ x y,xs[i]? = some x/\ys[i]? = some y/\d = .tuple [x,y]
 | [],_,_,_,h=>by simp [pairD] at h
 | _ :: _,[],_,_,h=>by simp [pairD] at h
 | x :: xs,y :: ys,0,d,h=>⟨x,y,rfl,rfl,by simpa [pairD] using h.symm⟩
 | x :: xs,y :: ys,i + 1,d,h=>by
  obtain ⟨u,v,h1,h2,h3⟩:=Aa (xs:=xs) (ys:=ys) (i:=i) (d:=d) (by simpa [pairD] using h);exact ⟨u,v,by simpa using h1,by simpa using h2,h3⟩
def aFa (dl dk:DL) (ex:DX) (δ:cD) (Q:List PyData->Prop):Prop:=dl ex δ fun xs=>dk ex δ fun ys=>Q (pairD xs ys)
theorem Qk {a b:Addr} {vs ws:List V} {xs ys:List PyData} {G H:Hp} (s:Sub G H) (h1:SqL K H a vs) (h2:SqL K H b ws) (d1:DVs K G vs xs) (d2:DVs K G ws ys) (i:Nat) :
  (∀ d,(pairD xs ys)[i]? = some d->(Itz K a b).go i H/\∀ x H2,(Itz K a b).yld i H x H2->∃ G2,Ext G H G2 H2/\DV K G2 x d)/\((pairD xs ys).length<=i->(Itz K a b).stop i H):=by
 refine ⟨fun d hi=>?_,fun hi=>⟨vs,ws,h1,h2,?_⟩⟩
 ·obtain ⟨x,y,e1,e2,rfl⟩:=Aa hi;obtain ⟨u,f1,f2⟩:=d1.at e1;obtain ⟨v,g1,g2⟩:=d2.at e2;refine ⟨⟨vs,ws,h1,h2,(List.getElem?_eq_some_iff.mp f1).1,(List.getElem?_eq_some_iff.mp g1).1⟩,fun z H2 ⟨T,u',v',e3,hT,e4,k1,k2⟩=>?_⟩;subst e3 e4;have q1:=k1 vs h1;have q2:=k2 ws h2;rw [f1] at q1; rw [g1] at q2;cases q1; cases q2;have e:=oF (xs:=[u,v]) s hT;exact ⟨_,e,.tup (SqT.of bM) (.cons (cS e.g f2) (.cons (cS e.g g2) .nil))⟩
 ·rw [vC] at hi;have:=d1.len;have:=d2.len;omega
theorem Qm (h1:gQ K H₀ E ta da) (h2:gQ K H₀ E tb db):IvS K H₀ E (aEq K (eF ta (eF tb iS))) (aFa (tZ da) (tZ db)):=fun ex δ σ G H Qd R hx S q k =>
 h1 ex δ σ G H _ _ hx S q fun v d G1 H1 e1 hd q1=>by
  cases d with
  | list xs =>
   refine h2 ex δ σ G1 H1 _ _ hx (S.ext e1) q1 fun v2 d2 G2 H2 e2 hd2 q2=>?_;cases d2 with
   | list ys =>
    obtain ⟨a,vs,rfl,a1,a2⟩:=eB hd;obtain ⟨b,ws,rfl,b1,b2⟩:=eB hd2;refine ⟨a,b,rfl,⟨vs,e2.h.seq (e1.s.same.seq a1)⟩,⟨ws,e2.s.same.seq b1⟩,k _ _ G2 H2 (e1.trans e2) (fun G' H' s1 s2 i=>?_) q2⟩;exact Qk s2 (s2.same.seq (s1.seq (e2.g.seq a1))) (s2.same.seq (s1.seq b1)) (bC s1 (bC e2.g a2)) (bC s1 b2) i
   | _=>exact q2.elim
  | _=>exact q1.elim
theorem lO (h1:Tf K H₀ E ta dl) (h2:Tf K H₀ E tb dk):IvE K H₀ E (aEq K (eF ta (eF tb iS))) (aFa dl dk):=fun ex δ σ G H Qd R hx S q k =>
 h1 ex δ σ G H _ _ hx S q fun a vs xs G1 H1 e1 a1 a2 q1=>h2 ex δ σ G1 H1 _ _ hx (S.ext e1) q1 fun b ws ys G2 H2 e2 b1 b2 q2 =>
  ⟨a,b,rfl,⟨vs,e2.h.seq a1⟩,⟨ws,b1⟩,k _ _ G2 H2 (e1.trans e2) (fun G' H' e i=>Qk e.s (e.h.seq (e2.h.seq a1)) (e.h.seq b1) (bC e.g (bC e2.g a2)) (bC e.g b2) i) q2⟩
def enumD:Nat->List PyData->List PyData
 | _,[]=>[]
 | k,x :: xs=>.tuple [.int (k:Int),x] :: enumD (k + 1) xs
theorem vV:∀ (k:Nat) (xs:List PyData),(enumD k xs).length = xs.length
 | _,[]=>rfl
 | k,x :: xs=>by simp [enumD,vV (k + 1) xs]
theorem Bo:∀ {k:Nat} {xs:List PyData} {i:Nat} {d:PyData},(enumD k xs)[i]? = some d->∃ x,xs[i]? = some x/\d = .tuple [.int ((k + i:Nat):Int),x]
 | _,[],_,_,h=>by simp [enumD] at h
 | k,x :: xs,0,d,h=>⟨x,rfl,by simpa [enumD] using h.symm⟩
 | k,x :: xs,i + 1,d,h=>by
  obtain ⟨u,h1,h2⟩:=Bo (k:=k + 1) (xs:=xs) (i:=i) (d:=d) (by simpa [enumD] using h);refine ⟨u,by simpa using h1,?_⟩;rw [h2];have e:k + 1 + i = k + (i + 1):=by omega
  rw [e]
def Yn (dl:DL) (ex:DX) (δ:cD) (Q:List PyData->Prop):Prop:=dl ex δ fun xs=>Q (enumD 0 xs)
theorem aEk {a:Addr} {vs:List V} {xs:List PyData} {G H:Hp} (s:Sub G H) (h1:SqL K H a vs) (d1:DVs K G vs xs) (i:Nat) :
  (∀ d,(enumD 0 xs)[i]? = some d->(Ite K a).go i H/\∀ x H2,(Ite K a).yld i H x H2->∃ G2,Ext G H G2 H2/\DV K G2 x d)/\((enumD 0 xs).length<=i->(Ite K a).stop i H):=by
 refine ⟨fun d hi=>?_,fun hi=>⟨vs,h1,?_⟩⟩
 ·obtain ⟨x,e1,rfl⟩:=Bo hi;obtain ⟨u,f1,f2⟩:=d1.at e1;refine ⟨⟨vs,h1,(List.getElem?_eq_some_iff.mp f1).1⟩,fun z H2 ⟨T,u',e3,hT,e4,k1⟩=>?_⟩;subst e3 e4;have q1:=k1 vs h1;rw [f1] at q1;cases q1;have e:=oF (xs:=[.int (i:Int),u]) s hT;rw [Nat.zero_add];exact ⟨_,e,.tup (SqT.of bM) (.cons (.int _) (.cons (cS e.g f2) .nil))⟩
 ·rw [vV] at hi;rw [d1.len]; exact hi
theorem Vx (h1:gQ K H₀ E ta da):IvS K H₀ E (Xw K (eF ta iS)) (Yn (tZ da)):=fun ex δ σ G H Qd R hx S q k =>
 h1 ex δ σ G H _ _ hx S q fun v d G1 H1 e1 hd q1=>by
  cases d with
  | list xs =>
   obtain ⟨a,vs,rfl,a1,a2⟩:=eB hd;exact ⟨a,rfl,⟨vs,e1.s.same.seq a1⟩,k _ _ G1 H1 e1 (fun G' H' s1 s2 i=>aEk s2 (s2.same.seq (s1.seq a1)) (bC s1 a2) i) q1⟩
  | _=>exact q1.elim
def aKm (dl:DL) (ex:DX) (δ:cD) (Q:List PyData->Prop):Prop:=dl ex δ fun xs=>Q xs.reverse
theorem aEj {a:Addr} {vs:List V} {xs:List PyData} {G H:Hp} (s:Sub G H) (h1:SqL K H a vs) (d1:DVs K G vs xs) (i:Nat) :
  (∀ d,xs.reverse[i]? = some d->(Itv K a vs.length).go i H/\∀ x H2,(Itv K a vs.length).yld i H x H2->∃ G2,Ext G H G2 H2/\DV K G2 x d)/\(xs.reverse.length<=i->(Itv K a vs.length).stop i H):=by
 have hl:=d1.len;refine ⟨fun d hi=>?_,fun hi=>?_⟩
 ·have hlt:i < xs.length:=by
   have:=(List.getElem?_eq_some_iff.mp hi).1;simpa using this
  rw [List.getElem?_reverse hlt] at hi;obtain ⟨u,f1,f2⟩:=d1.at hi;refine ⟨⟨vs,h1,rfl,by omega⟩,fun z H2 ⟨e1,k1⟩=>?_⟩;subst e1;have q1:=k1 vs h1;rw [hl,f1] at q1;cases q1;exact ⟨G,.refl s,f2⟩
 ·show vs.length<=i;rw [List.length_reverse] at hi;omega
theorem aEn (h1:gQ K H₀ E ta da):IvS K H₀ E (aJx K (eF ta iS)) (aKm (tZ da)):=fun ex δ σ G H Qd R hx S q k =>
 h1 ex δ σ G H _ _ hx S q fun v d G1 H1 e1 hd q1=>by
  cases d with
  | list xs =>
   obtain ⟨a,vs,rfl,a1,a2⟩:=eB hd;exact ⟨a,vs,rfl,e1.s.same.seq a1,k _ _ G1 H1 e1 (fun G' H' s1 s2 i=>aEj s2 (s2.same.seq (s1.seq a1)) (bC s1 a2) i) q1⟩
  | _=>exact q1.elim
end
open PySem.W
def aNv {α:Type} (N:Nat) (P:α->Prop):KasT α->Prop
 | .ret a=>P a
 | .ask i j k=>i < N/\j < N/\∀ b,aNv N P (k b)
section
variable {K:W.Frag} {H₀:Hp} {E:XK} {te ta:TE} {de da:DE} {dl:DL}
abbrev pr (q:Int × Int):PyData:=.tuple [.int q.1,.int q.2]
end
section
variable {X:Cx}
def Fv:V->List V->Hp->VK->Prop:=fun x vs H Q=>∃ l xs i y,x = .ref l/\vs = [.int i,y]/\H l = some (.lst xs)/\0<=i/\i<=(xs.length:Int)/\xs.length < sizeLine/\Q .non (eT H l (.lst (xs.take i.toNat ++ y :: xs.drop i.toNat)))
theorem vH:Xa X "list.insert" Fv:=by
 intro pins s σ H x vs v us Q I rx rv h;obtain ⟨l,xs,i,y,rfl,rfl,hH,h0,h1,hz,q⟩:=h;cases rx;obtain ⟨u,w',rfl,⟨t,rfl⟩,ru⟩:=uH rv;obtain ⟨z,its,n,r,hl,e⟩:=I.lstM hH;have hlen:=r.length;have hn:=nF;refine call_meets F.slot_list_insert ⟨_,e,rfl⟩ F.entry_list_insert (F.args_list_insert_3 _ _ _) (PySem.AutoListH.list_insert_list_int_val_1 l its.toArray n i t w' (by simp [Builtin.List.listFitsIndex]; omega) (by rw [size_toArray]; omega)) ⟨e,?_⟩;refine ⟨.non,_,I.lset (its':=its.take i.toNat ++ w' :: its.drop i.toNat) hH e ?_ ((r.take _).append (.cons ru (r.drop _))) ?_,rfl,q⟩
 ·have e1:¬ i < 0:=by omega
  have e2:min i.toNat its.length = i.toNat:=by omega
  simp only [e1,if_false,size_toArray,e2];apply Array.ext';simp [take_of_length_le]
 ·rw [length_append,length_cons,length_take,length_drop];omega
end
section
variable {K:W.Frag} {H₀:Hp} {E:XK} {te ta:TE} {de da:DE} {dl:DL}
def aFg (i:Nat) (da de:DE) (e:DEnds) (δ:cD):Prop:=match slot δ i with
 | some (.own ds)=>da e.ex δ fun x=>(match x with
  | .int k=>de e.ex δ fun d=>0<=k/\k<=(ds.length:Int)/\ds.length < 1000/\e.nx (put (some (.own (ds.take k.toNat ++ d :: ds.drop k.toNat))) i δ)
  | _=>False)
 | _=>False
theorem Lu (i:Nat) (ha:kO K H₀ E ta da) (h:gQ K H₀ E te de):jN K H₀ E (uN (Tx K "list" Fv (iB i) (eF ta (eF te iS)))) (aFg i da de):=fun δ σ G H e D hx S q L=>by
 unfold aFg at q;split at q
 ·rename_i ds hs
  obtain ⟨a,vs,h1,h2,h3,h4⟩:=S.ownAt hs;refine ⟨_,h1,.inl ⟨rfl,_,SqL.of h3⟩,ha e.ex δ σ G H _ _ hx S q fun v d G' H' x hd qd=>?_⟩;cases d with
  | int k =>
   cases cF hd;refine h e.ex δ σ G' H' _ _ hx (S.ext x) qd fun v2 d2 G2 H2 x2 hd2 q2=>?_;obtain ⟨q0,q1,q3,q4⟩:=q2;have x3:=x.trans x2;have S':=S.ext x3;have hl:=h4.len;exact ⟨a,vs,k,v2,rfl,rfl,x3.h _ _ h3,q0,by rw [hl]; exact q1,bR (by rw [hl]; omega),L.nx _ _ G2 _ x3.g (S'.updO hs h1 (((bC x3.g h4).take _).append (.cons hd2 ((bC x3.g h4).drop _)))) q4⟩
  | _=>exact qd.elim
 ·exact q.elim
end
section
variable {K:W.Frag} {H₀:Hp} {E:XK} {ta tb:TE} {db:DE} {dl:DL}
def aKo (dl:DL) (db:DE) (ex:DX) (δ:cD) (Q:List PyData->Prop):Prop:=dl ex δ fun xs=>db ex δ fun y=>match y with
 | .int k=>(-(2 ^ 63)<=k/\k < 2 ^ 63)/\xs.length * k.toNat<=1000/\Q (replicate k.toNat xs).flatten
 | _=>False
theorem Hd {G:Hp} {vs:List V} {ds:List PyData} (h:DVs K G vs ds):∀ n:Nat,DVs K G (replicate n vs).flatten (replicate n ds).flatten
 | 0=>.nil
 | n + 1=>by
  rw [replicate_succ,replicate_succ,flatten_cons,flatten_cons];exact h.append (Hd h n)
theorem Pe (h1:MvD K H₀ E ta dl) (h2:kO K H₀ E tb db):Cg K H₀ E (wP aIn ta tb) (aKo dl db):=fun ex δ σ G H Qd Q hx S q k =>
 h1 ex δ σ G H _ _ hx S q fun a vs ds G1 H1 e1 l1 d1 q1=>h2 ex δ σ G1 H1 _ _ hx (S.ext e1) q1 fun y dy G2 H2 e2 hy q2=>by
  cases dy with
  | int j =>
   cases cF hy;obtain ⟨⟨b1,b2⟩,q2,q3⟩:=q2;refine ⟨a,j,vs,rfl,rfl,e2.h _ _ l1,b1,b2,le_of_lt (bR (by rw [d1.len]; exact q2)),fun p hp=>?_⟩;obtain ⟨e3,g3⟩:=gI (xs:=(replicate j.toNat vs).flatten) e2.s hp;have e0:=e1.trans e2;exact k p _ _ _ _ (e0.trans e3) (e0.h.free hp) g3 bM (Hd (bC e2.g d1) _) q3
  | _=>exact q2.elim
end
theorem tX {K:W.Frag} {a:Addr} {od:Option Addr} {n:Nat} {sl:Array (Option Value)} {its:Array Value} {xs:List V} {ds:List PyData} (h:K.lookup a = some ⟨.type "tuple",od,.seq its n,sl⟩) (hz:its.size<=sizeLine) (r:Vals xs its.toList) (d:∀ H,DVs K H xs ds) (H:Hp):DV K H (.ref a) (.tuple ds) :=
 .tup (.inr ⟨_,its,n,h,rfl,rfl,hz,r⟩) (d H)
def aNi:Enc { x:Str // PyData.strOk x = true }:=⟨fun x=>.str x.1,0,by decide,fun x=>x.2,fun _=>by simp [PyData.depth],fun x y=>by simp [PyData.eqv,Subtype.ext_iff]⟩
def aIr (K:W.Frag) (neg:Bool):R2:=fun x y H Q=>∃ (α:Type) (e:Enc α) (a:α) (bs:List α),DV K H x (e.d a)/\DV K H y (.tuple (bs.map e.d))/\∀ k:Bool,(k = true ↔ a∈bs)->Q (.bl (if neg then !k else k)) H
section
variable {X:Cx} {K:W.Frag}
theorem Vc (hK:X.K = K) (hu:X.A.units + 64 < cLine):mL X (compareOp .NotIn) (aIr K true):=by
 subst hK;intro pins s σ H x y v u Q I rx ry h;obtain ⟨α,e,a,bs,da,db,q⟩:=h;obtain ⟨as,r1⟩:=fG I da rx;obtain ⟨cs,r2⟩:=fG I db ry;have h1:=e.depth a;have h2:=e.small;exact PySem.SeqAt.notIn_tuple_reads r2 r1 (oJ e bs).1 (e.lay a) (by omega) ⟨.bl _,H,I,rfl,q _ (yN e a bs)⟩
end
def aJl (x y:PyData) (Q:PyData->Prop):Prop:=∃ (α:Type) (e:Enc α) (a:α) (bs:List α),x = e.d a/\y = .tuple (bs.map e.d)/\∀ k:Bool,(k = true ↔ a∈bs)->Q (.bool !k)
section
variable {K:W.Frag}
theorem Ji:Em K (aIr K true) aJl:=by
 rintro G H x y dx dy Qd Q hx hy ⟨α,e,a,bs,rfl,rfl,q⟩ k;exact ⟨α,e,a,bs,hx,hy,fun c hc=>k _ _ (.bl _) (q c hc)⟩
end
def Oy (K:W.Frag) (f:List Bool->Bool):List V->Hp->VK->Prop:=fun xs H Q=>∃ (p:Addr) (bs:List Bool),xs = [.ref p]/\SqL K H p (bs.map V.bl)/\Q (.bl (f bs)) H
theorem tP:∀ {bs:List Bool} {us:List Value},Vals (bs.map V.bl) us->LSm.BoolsAre us bs
 | [],_,.nil=>.nil
 | b :: bs,_,.cons r t=>by
  cases (show _ = Value.bool b from r);exact .cons b (tP t)
section
variable {X:Cx} {K:W.Frag}
theorem aLg (hK:X.K = K) (hc:X.calm = true):iG X (.builtin "all") (Oy K (·.all id)):=by
 subst hK;intro pins s σ H xs us Q I r h;obtain ⟨p,bs,rfl,hq,q⟩:=h;obtain ⟨u,rfl,rx⟩:=iR r;cases rx;obtain ⟨its,r',pl,hz⟩:=I.list hq;have hb:=tP r';have hl:s.heap.IsList p its.toArray:=pl.isList;have hlt:p < s.heap.objs.size:=by obtain ⟨_,e,_⟩:=hl; exact lt_size e
 refine call_all_walk (wpAny_pyIter_list hl ?_)
 refine ⟨s.heap.objs.size,[s.heap.objs.size,p],[s.heap.objs.size],its.toArray.size,_,_,fun i=>(bs[i]?).getD true,rfl,Walks.list (A:=X.A.in1) (I.ok.hd hc) _ p (ne_of_lt hlt) its.toArray,
  ⟨⟨_,get?_push_size _ rfl,rfl,rfl⟩,hl.push _⟩,fun i v s' Q' E' hP hQ=>?_,fun h' tk hk=>?_⟩
 ·obtain ⟨b,e,rfl⟩:=hb.get i v (by simpa using hP);simp only [e,Option.getD_some] at hQ;exact wpAny_truthy_bool hQ
 ·have e:((range its.toArray.size).all fun i=>(bs[i]?).getD true) = bs.all id:=by
   rw [size_toArray,hb.length]; exact LSm.range_all bs
  rw [e];exact ⟨.bl _,H,I.kept (t':=tk) (LSm.kept_iter hk),rfl,q⟩
end
def aFz (ds:List PyData) (Q:PyData->Prop):Prop:=match ds with
 | [.list bs]=>∃ ks:List Bool,bs = ks.map PyData.bool/\Q (.bool (ks.all id))
 | _=>False
section
variable {K:W.Frag}
theorem vX {H:Hp}:∀ {ks:List Bool} {xs:List V},DVs K H xs (ks.map PyData.bool)->xs = ks.map V.bl
 | [],_,.nil=>rfl
 | k :: ks,_,.cons h t=>by rw [lU h,vX t]; rfl
theorem Os:Sw K (Oy K (·.all id)) aFz:=by
 intro G H xs ds Qd Q hx q k;unfold aFz at q;split at q
 ·obtain ⟨ks,rfl,q⟩:=q;obtain ⟨x,rfl,hd⟩:=qG hx;obtain ⟨a,vs,rfl,h1,h2⟩:=eB hd;rw [vX h2] at h1;exact ⟨a,ks,rfl,h1,k _ _ (.bl _) q⟩
 ·exact q.elim
end
theorem boot_all:bootBuiltins "all" = some (.builtin "all"):=by decide +kernel
def aHs:TS:=fun _ _ _=>False
theorem kQ {X:Cx} {st:Stmt}:PS X st aHs:=fun _ _ _ _ _ _ h=>h.elim
def aKs:DS:=fun _ _=>False
theorem rJ {K:W.Frag} {H₀:Hp} {E:XK}:jN K H₀ E aHs aKs:=fun _ _ _ _ _ _ _ _ q _=>q.elim
local macro_rules | `(tactic| walk_at "o") => `(tactic| first | omega | (refine (fun (h : @Eq Nat _ _) => ?_); omega))
abbrev eS (h:Heap) (T:Addr) (a b c:Value):Prop:=h.get? T = some { cls:=.type "tuple",data:=.seq #[a,b,c] }
theorem tS (a b c:Value):checkTypeCall "zip" ⟨[a,b,c],[]⟩ = pure ():=by kernel_rfl
theorem xN (a b c:Value):checkBuiltinCall "zip.__new__" ⟨[.type "zip",a,b,c],[]⟩ = pure ():=by kernel_rfl
theorem Ek (a b c d:Value):argsOk "object.__init__" ⟨[a,b,c,d],[]⟩:=by
 unfold argsOk; rw [signature?_of (id:="object.__init__") (n:=['_','_','t','i','n','i','_','_']) (o:=['t','c','e','j','b','o']) (by kernel_rfl) F.owner_object]; kernel_rfl
section
variable {prog:Program} {w:World} {A:Around} {E:Value->Shared->Prop} {s:Shared}
theorem nP {T:Addr} {a b c x:Value} {k:Nat} {Q:Unit->Shared->Prop} (hT:eS s.heap T a b c)
  (h:∀ h',h'.get? T = some { cls:=.type "tuple",data:=.seq ((#[a,b,c]:Array Value).setIfInBounds k x) }->SameBut T s.heap h'->Q () { s with heap:=h' }) :
  wpAny (model prog w) A (updateSeq T (·.setIfInBounds k x)) Q E s:=by
 refine wpAny_updateSeq hT rfl (h _ ?_ (SameBut.update ..));rw [Heap.get?_update_self _ hT rfl];simp [Obj.mapSeq]
theorem Io {n l1 l2 l3:Nat} {k:Nat} {xs ys zs:Array Value} {x y v a b c:Value} {Q:Value->Shared->Prop} (L1:l1 < n) (L2:l2 < n) (L3:l3 < n)
  (hz:IsZip s.heap (n + 5) (n + 3) (n + 4) .none) (hTI:eS s.heap (n + 3) (.ref n) (.ref (n + 1)) (.ref (n + 2))) (hTO:eS s.heap (n + 4) a b c)
  (h1:s.heap.IsListIter n l1 k) (h2:s.heap.IsListIter (n + 1) l2 k) (h3:s.heap.IsListIter (n + 2) l3 k) (g1:s.heap.IsList l1 xs) (g2:s.heap.IsList l2 ys) (g3:s.heap.IsList l3 zs)
  (hx:xs[k]? = some x) (hy:ys[k]? = some y) (hv:zs[k]? = some v)
  (hQ:∀ h',IsZip h' (n + 5) (n + 3) (n + 4) (rawInt s.heap.objs.size)->eS h' (n + 4) x y v->h'.IsListIter n l1 (k + 1)->h'.IsListIter (n + 1) l2 (k + 1)->h'.IsListIter (n + 2) l3 (k + 1)->eS h' s.heap.objs.size x y v ->
   (∀ (d:Nat) o,d ∉ ([n,n + 1,n + 2,n + 4,n + 5]:List Nat)->s.heap.get? d = some o->h'.get? d = some o)->Q (.ref s.heap.objs.size) { s with heap:=h' }) :
  wpAny (model prog w) A (Builtin.«zip.__next__» ⟨[.ref (n + 5)],[]⟩) (fun fin s'=>∃ v,fin = .done (.ret v)/\Q v s') E s:=by
 show wpAny _ _ (field (.ref (n + 5)) 2 >>= _) _ _ _;refine wpAny_bind (wpAny_field hz rfl (x:=.bool false) rfl ?_);show wpAny _ _ (field (.ref (n + 5)) 3 >>= _) _ _ _;refine wpAny_bind (wpAny_field hz rfl (x:=.ref (n + 3)) rfl ?_);refine wpAny_bind (wpAny_seqItems hTI rfl ?_);show wpAny _ _ (Builtin.SmallTypes.ownedTupleIsFree (.ref (n + 5)) >>= _) _ _ _;refine wpAny_bind ?_;unfold Builtin.SmallTypes.ownedTupleIsFree;refine wpAny_bind (wpAny_field hz rfl (x:=.none) rfl (wpAny_pure ?_));simp only [if_true];refine wpAny_bind (wpAny_rule ?_);refine wpAny_bind (wpAny_field hz rfl (x:=.ref (n + 4)) rfl ?_);refine wpAny_bind (wpAny_setField_rec hz (by simp) fun h₁ hz₁ hs₁=>?_)
 replace hz₁:IsZip h₁ (n + 5) (n + 3) (n + 4) .ellipsis:=hz₁
 have q1:∀ (d:Nat) o,d ≠ n + 5->s.heap.get? d = some o->h₁.get? d = some o:=fun d o hd e=>hs₁.extBut d o hd e;refine wpAny_bind ?_;simp only [List.zipIdx_cons,List.zipIdx_nil,List.forIn_cons,List.forIn_nil];refine wpAny_bind (wpAny_bind (wpAny_onRaise ?_));show wpAny _ _ (Builtin.SmallTypes.nextOf (.ref n) >>= _) _ _ _;refine wpAny_bind (wpAny_nextOf_list_item (h1.at fun o e=>q1 n o (by walk_at "o") e) (g1.at fun o e=>q1 l1 o (by walk_at "o") e) hx fun h₂ i1 hs₂=>wpAny_pure ?_);have q2:∀ (d:Nat) o,d ≠ n + 5->d ≠ n->s.heap.get? d = some o->h₂.get? d = some o:=fun d o a1 a2 e=>hs₂.extBut d o a2 (q1 d o a1 e);have z2:IsZip h₂ (n + 5) (n + 3) (n + 4) .ellipsis:=hs₂.extBut _ _ (by walk_at "o") hz₁;have t2:eS h₂ (n + 4) a b c:=q2 _ _ (by walk_at "o") (by walk_at "o") hTO;refine wpAny_bind (wpAny_seqItems t2 rfl ?_);refine wpAny_bind (nP t2 fun h₃ t3 hs₃=>?_)
 replace t3:eS h₃ (n + 4) x b c:=t3
 have q3:∀ (d:Nat) o,d ≠ n + 5->d ≠ n->d ≠ n + 4->s.heap.get? d = some o->h₃.get? d = some o:=fun d o a1 a2 a3 e=>hs₃.extBut d o a3 (q2 d o a1 a2 e);have z3:IsZip h₃ (n + 5) (n + 3) (n + 4) .ellipsis:=hs₃.extBut _ _ (by walk_at "o") z2;have j3:h₃.IsListIter n l1 (k + 1):=i1.at fun o e=>hs₃.extBut n o (by walk_at "o") e;refine wpAny_bind (wpAny_letGo (wpAny_pure ?_));refine wpAny_bind (wpAny_bind (wpAny_onRaise ?_));show wpAny _ _ (Builtin.SmallTypes.nextOf (.ref (n + 1)) >>= _) _ _ _;refine wpAny_bind (wpAny_nextOf_list_item (h2.at fun o e=>q3 (n + 1) o (by walk_at "o") (by walk_at "o") (by walk_at "o") e) (g2.at fun o e=>q3 l2 o (by walk_at "o") (by walk_at "o") (by walk_at "o") e) hy fun h₄ i2 hs₄=>wpAny_pure ?_);have q4:∀ (d:Nat) o,d ≠ n + 5->d ≠ n->d ≠ n + 4->d ≠ n + 1->s.heap.get? d = some o->h₄.get? d = some o:=fun d o a1 a2 a3 a4 e=>hs₄.extBut d o a4 (q3 d o a1 a2 a3 e);have z4:IsZip h₄ (n + 5) (n + 3) (n + 4) .ellipsis:=hs₄.extBut _ _ (by walk_at "o") z3;have j4:h₄.IsListIter n l1 (k + 1):=j3.at fun o e=>hs₄.extBut n o (by walk_at "o") e;have t4:eS h₄ (n + 4) x b c:=hs₄.extBut _ _ (by walk_at "o") t3;refine wpAny_bind (wpAny_seqItems t4 rfl ?_);refine wpAny_bind (nP t4 fun h₅ t5 hs₅=>?_)
 replace t5:eS h₅ (n + 4) x y c:=t5
 have q5:∀ (d:Nat) o,d ≠ n + 5->d ≠ n->d ≠ n + 4->d ≠ n + 1->s.heap.get? d = some o->h₅.get? d = some o:=fun d o a1 a2 a3 a4 e=>hs₅.extBut d o a3 (q4 d o a1 a2 a3 a4 e);have z5:IsZip h₅ (n + 5) (n + 3) (n + 4) .ellipsis:=hs₅.extBut _ _ (by walk_at "o") z4;have j5:h₅.IsListIter n l1 (k + 1):=j4.at fun o e=>hs₅.extBut n o (by walk_at "o") e;have m5:h₅.IsListIter (n + 1) l2 (k + 1):=i2.at fun o e=>hs₅.extBut (n + 1) o (by walk_at "o") e;refine wpAny_bind (wpAny_letGo (wpAny_pure ?_));refine wpAny_bind (wpAny_bind (wpAny_onRaise ?_));show wpAny _ _ (Builtin.SmallTypes.nextOf (.ref (n + 2)) >>= _) _ _ _;refine wpAny_bind (wpAny_nextOf_list_item (h3.at fun o e=>q5 (n + 2) o (by walk_at "o") (by walk_at "o") (by walk_at "o") (by walk_at "o") e) (g3.at fun o e=>q5 l3 o (by walk_at "o") (by walk_at "o") (by walk_at "o") (by walk_at "o") e) hv fun h₆ i3 hs₆=>wpAny_pure ?_);have z6:IsZip h₆ (n + 5) (n + 3) (n + 4) .ellipsis:=hs₆.extBut _ _ (by walk_at "o") z5;have j6:h₆.IsListIter n l1 (k + 1):=j5.at fun o e=>hs₆.extBut n o (by walk_at "o") e;have m6:h₆.IsListIter (n + 1) l2 (k + 1):=m5.at fun o e=>hs₆.extBut (n + 1) o (by walk_at "o") e;have t6:eS h₆ (n + 4) x y c:=hs₆.extBut _ _ (by walk_at "o") t5;refine wpAny_bind (wpAny_seqItems t6 rfl ?_);refine wpAny_bind (nP t6 fun h₇ t7 hs₇=>?_)
 replace t7:eS h₇ (n + 4) x y v:=t7
 have z7:IsZip h₇ (n + 5) (n + 3) (n + 4) .ellipsis:=hs₇.extBut _ _ (by walk_at "o") z6;have j7:h₇.IsListIter n l1 (k + 1):=j6.at fun o e=>hs₇.extBut n o (by walk_at "o") e;have m7:h₇.IsListIter (n + 1) l2 (k + 1):=m6.at fun o e=>hs₇.extBut (n + 1) o (by walk_at "o") e;have p7:h₇.IsListIter (n + 2) l3 (k + 1):=i3.at fun o e=>hs₇.extBut (n + 2) o (by walk_at "o") e;have q7:∀ (d:Nat) o,d ∉ ([n,n + 1,n + 2,n + 4,n + 5]:List Nat)->s.heap.get? d = some o->h₇.get? d = some o:=fun d o hd e=>by
  simp only [mem_cons,not_mem_nil,or_false,not_or] at hd;obtain ⟨a1,a2,a3,a4,a5⟩:=hd;exact hs₇.extBut d o a4 (hs₆.extBut d o a3 (q5 d o a5 a1 a4 a2 e))
 refine wpAny_bind (wpAny_letGo (wpAny_pure (wpAny_pure ?_)));refine wpAny_bind (wpAny_seqItems t7 rfl ?_);refine wpAny_bind (wpAny_newTuple ?_);have hsz:h₇.objs.size = s.heap.objs.size:=by rw [hs₇.1,hs₆.1,hs₅.1,hs₄.1,hs₃.1,hs₂.1,hs₁.1]
 have lz:n + 5 < h₇.objs.size:=lt_size z7;show wpAny _ _ (Builtin.SmallTypes.ownedTupleHandOut (.ref (n + 5)) (.ref h₇.objs.size) >>= _) _ _ _;refine wpAny_bind ?_;unfold Builtin.SmallTypes.ownedTupleHandOut;have z8:IsZip (h₇.push { cls:=.type "tuple",data:=.seq #[x,y,v] }) (n + 5) (n + 3) (n + 4) .ellipsis:=get?_push_of_some _ z7;refine wpAny_bind (wpAny_setField_rec z8 (by simp) fun h₉ z9 hs₉=>?_)
 replace z9:IsZip h₉ (n + 5) (n + 3) (n + 4) (rawInt h₇.objs.size):=z9
 refine wpAny_setField_rec z9 (by simp) fun hA zA hsA=>?_
 replace zA:IsZip hA (n + 5) (n + 3) (n + 4) (rawInt h₇.objs.size):=zA
 have up:∀ (d:Nat) o,d ≠ n + 5->h₇.get? d = some o->hA.get? d = some o:=fun d o hd e=>hsA.extBut d o hd (hs₉.extBut d o hd (get?_push_of_some _ e));have tA:eS hA h₇.objs.size x y v:=hsA.extBut _ _ (by walk_at "o") (hs₉.extBut _ _ (by walk_at "o") (get?_push_size _ rfl));rw [hsz] at zA tA;refine wpAny_pure ⟨_,rfl,?_⟩;show Q (.ref h₇.objs.size) _;rw [hsz];exact hQ hA zA (up _ _ (by walk_at "o") t7) (j7.at fun o e=>up n o (by walk_at "o") e) (m7.at fun o e=>up (n + 1) o (by walk_at "o") e) (p7.at fun o e=>up (n + 2) o (by walk_at "o") e) tA fun d o hd e=>up d o (fun z=>hd (by simp [z])) (q7 d o hd e)
theorem Kx {n l1 l2 l3:Nat} {k:Nat} {xs ys zs:Array Value} {a b c:Value} {Q:Fin->Shared->Prop} (hh:A.handled = none) (L1:l1 < n) (L2:l2 < n) (L3:l3 < n)
  (hz:IsZip s.heap (n + 5) (n + 3) (n + 4) .none) (hTI:eS s.heap (n + 3) (.ref n) (.ref (n + 1)) (.ref (n + 2))) (hTO:eS s.heap (n + 4) a b c)
  (h1:s.heap.IsListIter n l1 k) (h2:s.heap.IsListIter (n + 1) l2 k) (h3:s.heap.IsListIter (n + 2) l3 k) (g1:s.heap.IsList l1 xs) (g2:s.heap.IsList l2 ys) (g3:s.heap.IsList l3 zs)
  (hend:xs[k]? = none\/ys[k]? = none\/zs[k]? = none)
  (hE:∀ h' e,(∀ (d:Nat) o,d ∉ ([n,n + 1,n + 2,n + 4,n + 5]:List Nat)->s.heap.get? d = some o->h'.get? d = some o)->(∃ o,h'.get? e = some o/\o.cls = .type "StopIteration")->E (.ref e) { s with heap:=h' }) :
  wpAny (model prog w) A (Builtin.«zip.__next__» ⟨[.ref (n + 5)],[]⟩) Q E s:=by
 show wpAny _ _ (field (.ref (n + 5)) 2 >>= _) _ _ _;refine wpAny_bind (wpAny_field hz rfl (x:=.bool false) rfl ?_);show wpAny _ _ (field (.ref (n + 5)) 3 >>= _) _ _ _;refine wpAny_bind (wpAny_field hz rfl (x:=.ref (n + 3)) rfl ?_);refine wpAny_bind (wpAny_seqItems hTI rfl ?_);show wpAny _ _ (Builtin.SmallTypes.ownedTupleIsFree (.ref (n + 5)) >>= _) _ _ _;refine wpAny_bind ?_;unfold Builtin.SmallTypes.ownedTupleIsFree;refine wpAny_bind (wpAny_field hz rfl (x:=.none) rfl (wpAny_pure ?_));simp only [if_true];refine wpAny_bind (wpAny_rule ?_);refine wpAny_bind (wpAny_field hz rfl (x:=.ref (n + 4)) rfl ?_);refine wpAny_bind (wpAny_setField_rec hz (by simp) fun h₁ hz₁ hs₁=>?_)
 replace hz₁:IsZip h₁ (n + 5) (n + 3) (n + 4) .ellipsis:=hz₁
 have q1:∀ (d:Nat) o,d ≠ n + 5->s.heap.get? d = some o->h₁.get? d = some o:=fun d o hd e=>hs₁.extBut d o hd e;have stop:∀ (h₂:Heap) (e:Addr),IsZip h₂ (n + 5) (n + 3) (n + 4) .ellipsis->(∀ (d:Nat) o,d ∉ ([n,n + 1,n + 2,n + 4,n + 5]:List Nat)->s.heap.get? d = some o->h₂.get? d = some o)->(∃ o,h₂.get? e = some o/\o.cls = .type "StopIteration") ->
   ∀ (R:Unit->Shared->Prop),(∀ h₃:Heap,(∀ (d:Nat) o,d ∉ ([n,n + 1,n + 2,n + 4,n + 5]:List Nat)->s.heap.get? d = some o->h₃.get? d = some o)->(∃ o,h₃.get? e = some o/\o.cls = .type "StopIteration")->R () { s with heap:=h₃ })->∀ E',wpAny (model prog w) A (setField (.ref (n + 5)) 0 .none) R E' { s with heap:=h₂ }:=fun h₂ e z2 k2 ⟨oe,ho,hc⟩ R hR E'=>by
  have ne:e ≠ n + 5:=fun x=>by
   subst x; rw [z2] at ho; cases ho; simp at hc
  refine wpAny_setField_rec z2 (by simp) fun h₃ _ hs₃=>hR h₃ (fun d o hd x=>hs₃.extBut d o (fun y=>hd (by simp [y])) (k2 d o hd x)) ⟨oe,hs₃.extBut _ _ ne ho,hc⟩
 refine wpAny_bind ?_;simp only [List.zipIdx_cons,List.zipIdx_nil,List.forIn_cons,List.forIn_nil];refine wpAny_bind (wpAny_bind (wpAny_onRaise ?_));show wpAny _ _ (Builtin.SmallTypes.nextOf (.ref n) >>= _) _ _ _;have b1:h₁.IsListIter n l1 k:=h1.at fun o e=>q1 n o (by walk_at "o") e;have b2:h₁.IsList l1 xs:=g1.at fun o e=>q1 l1 o (by walk_at "o") e;cases hx:xs[k]? with
 | none =>
  refine wpAny_bind (wpAny_nextOf_list_end hh b1 b2 hx fun h₂ e hs₂ he=>?_);refine stop h₂ e (hs₂ _ _ (by walk_at "o") hz₁) (fun d o hd x=>?_) he _ (fun h₃ k3 e3=>hE h₃ e k3 e3) _;simp only [mem_cons,not_mem_nil,or_false,not_or] at hd;exact hs₂ d o hd.1 (q1 d o hd.2.2.2.2 x)
 | some x =>
  refine wpAny_bind (wpAny_nextOf_list_item b1 b2 hx fun h₂ i1 hs₂=>wpAny_pure ?_);have q2:∀ (d:Nat) o,d ≠ n + 5->d ≠ n->s.heap.get? d = some o->h₂.get? d = some o:=fun d o a1 a2 e=>hs₂.extBut d o a2 (q1 d o a1 e);have z2:IsZip h₂ (n + 5) (n + 3) (n + 4) .ellipsis:=hs₂.extBut _ _ (by walk_at "o") hz₁;have t2:eS h₂ (n + 4) a b c:=q2 _ _ (by walk_at "o") (by walk_at "o") hTO;refine wpAny_bind (wpAny_seqItems t2 rfl ?_);refine wpAny_bind (nP t2 fun h₃ t3 hs₃=>?_)
  replace t3:eS h₃ (n + 4) x b c:=t3
  have q3:∀ (d:Nat) o,d ≠ n + 5->d ≠ n->d ≠ n + 4->s.heap.get? d = some o->h₃.get? d = some o:=fun d o a1 a2 a3 e=>hs₃.extBut d o a3 (q2 d o a1 a2 e);have z3:IsZip h₃ (n + 5) (n + 3) (n + 4) .ellipsis:=hs₃.extBut _ _ (by walk_at "o") z2;refine wpAny_bind (wpAny_letGo (wpAny_pure ?_));refine wpAny_bind (wpAny_bind (wpAny_onRaise ?_));show wpAny _ _ (Builtin.SmallTypes.nextOf (.ref (n + 1)) >>= _) _ _ _;have c1:h₃.IsListIter (n + 1) l2 k:=h2.at fun o e=>q3 (n + 1) o (by walk_at "o") (by walk_at "o") (by walk_at "o") e;have c2:h₃.IsList l2 ys:=g2.at fun o e=>q3 l2 o (by walk_at "o") (by walk_at "o") (by walk_at "o") e;cases hy:ys[k]? with
  | none =>
   refine wpAny_bind (wpAny_nextOf_list_end hh c1 c2 hy fun h₄ e hs₄ he=>?_);refine stop h₄ e (hs₄ _ _ (by walk_at "o") z3) (fun d o hd x=>?_) he _ (fun h₅ k5 e5=>hE h₅ e k5 e5) _;simp only [mem_cons,not_mem_nil,or_false,not_or] at hd;exact hs₄ d o hd.2.1 (q3 d o hd.2.2.2.2 hd.1 hd.2.2.2.1 x)
  | some y =>
   have hv:zs[k]? = none:=by
    rcases hend with h | h | h
    ·rw [hx] at h; cases h
    ·rw [hy] at h; cases h
    ·exact h
   refine wpAny_bind (wpAny_nextOf_list_item c1 c2 hy fun h₄ i2 hs₄=>wpAny_pure ?_);have q4:∀ (d:Nat) o,d ≠ n + 5->d ≠ n->d ≠ n + 4->d ≠ n + 1->s.heap.get? d = some o->h₄.get? d = some o:=fun d o a1 a2 a3 a4 e=>hs₄.extBut d o a4 (q3 d o a1 a2 a3 e);have z4:IsZip h₄ (n + 5) (n + 3) (n + 4) .ellipsis:=hs₄.extBut _ _ (by walk_at "o") z3;have t4:eS h₄ (n + 4) x b c:=hs₄.extBut _ _ (by walk_at "o") t3;refine wpAny_bind (wpAny_seqItems t4 rfl ?_);refine wpAny_bind (nP t4 fun h₅ t5 hs₅=>?_);have q5:∀ (d:Nat) o,d ≠ n + 5->d ≠ n->d ≠ n + 4->d ≠ n + 1->s.heap.get? d = some o->h₅.get? d = some o:=fun d o a1 a2 a3 a4 e=>hs₅.extBut d o a3 (q4 d o a1 a2 a3 a4 e);have z5:IsZip h₅ (n + 5) (n + 3) (n + 4) .ellipsis:=hs₅.extBut _ _ (by walk_at "o") z4;refine wpAny_bind (wpAny_letGo (wpAny_pure ?_));refine wpAny_bind (wpAny_bind (wpAny_onRaise ?_));show wpAny _ _ (Builtin.SmallTypes.nextOf (.ref (n + 2)) >>= _) _ _ _;refine wpAny_bind (wpAny_nextOf_list_end hh (h3.at fun o e=>q5 (n + 2) o (by walk_at "o") (by walk_at "o") (by walk_at "o") (by walk_at "o") e) (g3.at fun o e=>q5 l3 o (by walk_at "o") (by walk_at "o") (by walk_at "o") (by walk_at "o") e) hv fun h₆ e hs₆ he=>?_);refine stop h₆ e (hs₆ _ _ (by walk_at "o") z5) (fun d o hd x=>?_) he _ (fun h₇ k7 e7=>hE h₇ e k7 e7) _;simp only [mem_cons,not_mem_nil,or_false,not_or] at hd;exact hs₆ d o hd.2.2.1 (q5 d o hd.2.2.2.2 hd.1 hd.2.2.2.1 hd.2.1 x)
theorem sL {n l1 l2 l3:Nat} {k:Nat} {xs ys zs:Array Value} {x y v a b c:Value} {Q:Option Value->Shared->Prop} (L1:l1 < n) (L2:l2 < n) (L3:l3 < n)
  (hz:IsZip s.heap (n + 5) (n + 3) (n + 4) .none) (hTI:eS s.heap (n + 3) (.ref n) (.ref (n + 1)) (.ref (n + 2))) (hTO:eS s.heap (n + 4) a b c)
  (h1:s.heap.IsListIter n l1 k) (h2:s.heap.IsListIter (n + 1) l2 k) (h3:s.heap.IsListIter (n + 2) l3 k) (g1:s.heap.IsList l1 xs) (g2:s.heap.IsList l2 ys) (g3:s.heap.IsList l3 zs)
  (hx:xs[k]? = some x) (hy:ys[k]? = some y) (hv:zs[k]? = some v)
  (hQ:∀ h',IsZip h' (n + 5) (n + 3) (n + 4) (rawInt s.heap.objs.size)->eS h' (n + 4) x y v->h'.IsListIter n l1 (k + 1)->h'.IsListIter (n + 1) l2 (k + 1)->h'.IsListIter (n + 2) l3 (k + 1)->eS h' s.heap.objs.size x y v ->
   (∀ (d:Nat) o,d ∉ ([n,n + 1,n + 2,n + 4,n + 5]:List Nat)->s.heap.get? d = some o->h'.get? d = some o)->Q (some (.ref s.heap.objs.size)) { s with heap:=h' }) :
  wpAny (model prog w) A (pyNext (.ref (n + 5))) Q E s:=by
 have hT:s.TypeIs (.ref (n + 5)) "zip":=⟨_,hz,rfl⟩;unfold pyNext
 exact wpAny_bind (wpAny_attempt (wpAny_callSpecial?_slot (name:=Str.ofString "__next__") hT F.slot_zip_next
  (wpAny_call_entry F.slot_zip_next hT F.entry_zip_next
   (Io L1 L2 L3 hz hTI hTO h1 h2 h3 g1 g2 g3 hx hy hv fun h' a1 a2 a3 a4 a5 a6 a7=>wpAny_pure (hQ h' a1 a2 a3 a4 a5 a6 a7)) (F.args_zip_next_1 _))))
theorem tV {n l1 l2 l3:Nat} {k:Nat} {xs ys zs:Array Value} {a b c:Value} {Q:Option Value->Shared->Prop} (hh:A.handled = none) (L1:l1 < n) (L2:l2 < n) (L3:l3 < n)
  (hz:IsZip s.heap (n + 5) (n + 3) (n + 4) .none) (hTI:eS s.heap (n + 3) (.ref n) (.ref (n + 1)) (.ref (n + 2))) (hTO:eS s.heap (n + 4) a b c)
  (h1:s.heap.IsListIter n l1 k) (h2:s.heap.IsListIter (n + 1) l2 k) (h3:s.heap.IsListIter (n + 2) l3 k) (g1:s.heap.IsList l1 xs) (g2:s.heap.IsList l2 ys) (g3:s.heap.IsList l3 zs)
  (hend:xs[k]? = none\/ys[k]? = none\/zs[k]? = none)
  (hQ:∀ h',(∀ (d:Nat) o,d ∉ ([n,n + 1,n + 2,n + 4,n + 5]:List Nat)->s.heap.get? d = some o->h'.get? d = some o)->Q none { s with heap:=h' }):wpAny (model prog w) A (pyNext (.ref (n + 5))) Q E s:=by
 have hT:s.TypeIs (.ref (n + 5)) "zip":=⟨_,hz,rfl⟩;unfold pyNext
 refine wpAny_bind (wpAny_attempt (wpAny_callSpecial?_slot (name:=Str.ofString "__next__") hT F.slot_zip_next
  (wpAny_call_entry F.slot_zip_next hT F.entry_zip_next (Kx hh L1 L2 L3 hz hTI hTO h1 h2 h3 g1 g2 g3 hend fun h' e hk he=>?_) (F.args_zip_next_1 _))))
 obtain ⟨o,ho,hc⟩:=he;refine wpAny_bind (wpAny_isInstance (T:="StopIteration") (b:=true) ⟨o,ho,hc⟩ isSubtype_stop ?_);exact wpAny_pure (hQ _ hk)
end
abbrev z3a (h:Heap) (l1:Addr):Heap:=h.push { cls:=.type "list_iterator",data:=.fields #[.ref l1,.int 0 0] }
abbrev z3b (h:Heap) (l1 l2:Addr):Heap:=(z3a h l1).push { cls:=.type "list_iterator",data:=.fields #[.ref l2,.int 0 0] }
abbrev z3c (h:Heap) (l1 l2 l3:Addr):Heap:=(z3b h l1 l2).push { cls:=.type "list_iterator",data:=.fields #[.ref l3,.int 0 0] }
abbrev z3d (h:Heap) (l1 l2 l3:Addr):Heap:=(z3c h l1 l2 l3).push { cls:=.type "tuple",data:=.seq #[.ref h.objs.size,.ref (z3a h l1).objs.size,.ref (z3b h l1 l2).objs.size] }
abbrev z3e (h:Heap) (l1 l2 l3:Addr):Heap:=(z3d h l1 l2 l3).push { cls:=.type "tuple",data:=.seq #[.none,.none,.none] }
abbrev Ys (h:Heap) (l1 l2 l3:Addr):Heap:=(z3e h l1 l2 l3).push { cls:=.type "zip",data:=.fields #[.none,.bool false,.bool false,.ref (z3c h l1 l2 l3).objs.size,.ref (z3d h l1 l2 l3).objs.size] }
theorem Dp (l1 l2 l3:Addr) (xs ys zs:Array Value) :
  Meets (Builtin.«zip.__new__» ⟨[.type "zip",.ref l1,.ref l2,.ref l3],[]⟩) (fun _ R s=>s.heap.IsList l1 xs/\s.heap.IsList l2 ys/\s.heap.IsList l3 zs /\
   R (.ok (.ret (.ref (z3e s.heap l1 l2 l3).objs.size))) { s with heap:=Ys s.heap l1 l2 l3 }) :=
 .of_wp fun prog w A R s h=>by
  obtain ⟨hp,g,d,tk,os⟩:=s; obtain ⟨hl1,hl2,hl3,h⟩:=h;have hsub:=sub_zip;have hL1:IsList (Shared.heap ⟨hp,g,d,tk,os⟩) l1 xs:=hl1;have hL2:IsList (Shared.heap ⟨z3a hp l1,g,d,tk,os⟩) l2 ys:=IsList.push hl2 _;have hL3:IsList (Shared.heap ⟨z3b hp l1 l2,g,d,tk,os⟩) l3 zs:=IsList.push (IsList.push hl3 _) _
  wp_walk using wpAny_pyIter_list hL1,wpAny_pyIter_list hL2,wpAny_pyIter_list hL3
  exact ⟨_,rfl,h⟩
section
variable {prog:Program} {w:World} {A:Around} {E:Value->Shared->Prop} {s:Shared}
theorem Kr {l1 l2 l3:Addr} {xs ys zs:Array Value} {Q:Value->Shared->Prop} (hl1:s.heap.IsList l1 xs) (hl2:s.heap.IsList l2 ys) (hl3:s.heap.IsList l3 zs)
  (h:∀ (h':Heap) (n:Nat),n = s.heap.objs.size->IsZip h' (n + 5) (n + 3) (n + 4) .none->eS h' (n + 3) (.ref n) (.ref (n + 1)) (.ref (n + 2))->eS h' (n + 4) .none .none .none->h'.IsListIter n l1 0->h'.IsListIter (n + 1) l2 0->h'.IsListIter (n + 2) l3 0 ->
   (∀ c o,s.heap.get? c = some o->h'.get? c = some o)->Q (.ref (n + 5)) { s with heap:=h' }) :
  wpAny (model prog w) A (call (.type "zip") [.ref l1,.ref l2,.ref l3]) Q E s:=by
 refine callType_new F.called_zip (by decide) (tS _ _ _) (xN _ _ _) (fun obj=>Ek obj _ _ _) F.entry_zip_new (Dp l1 l2 l3 xs ys zs) ⟨hl1,hl2,hl3,?_⟩;have e1:(z3a s.heap l1).objs.size = s.heap.objs.size + 1:=size_push ..;have e2:(z3b s.heap l1 l2).objs.size = s.heap.objs.size + 2:=by rw [size_push,e1]
 have e3:(z3c s.heap l1 l2 l3).objs.size = s.heap.objs.size + 3:=by rw [size_push,e2]
 have e4:(z3d s.heap l1 l2 l3).objs.size = s.heap.objs.size + 4:=by rw [size_push,e3]
 have e5:(z3e s.heap l1 l2 l3).objs.size = s.heap.objs.size + 5:=by rw [size_push,e4]
 have pu:∀ (h:Heap) (o:Obj) {c:Addr} {x:Obj},h.get? c = some x->(h.push o).get? c = some x:=fun h o c x e=>get?_push_of_some _ e;have f6:(Ys s.heap l1 l2 l3).get? (z3e s.heap l1 l2 l3).objs.size = some _:=get?_push_size _ rfl;have f5:(Ys s.heap l1 l2 l3).get? (z3d s.heap l1 l2 l3).objs.size = some _:=pu _ _ (get?_push_size _ rfl);have f4:(Ys s.heap l1 l2 l3).get? (z3c s.heap l1 l2 l3).objs.size = some _:=pu _ _ (pu _ _ (get?_push_size _ rfl));have f3:(Ys s.heap l1 l2 l3).get? (z3b s.heap l1 l2).objs.size = some _:=pu _ _ (pu _ _ (pu _ _ (get?_push_size _ rfl)));have f2:(Ys s.heap l1 l2 l3).get? (z3a s.heap l1).objs.size = some _:=pu _ _ (pu _ _ (pu _ _ (pu _ _ (get?_push_size _ rfl))));have f1:(Ys s.heap l1 l2 l3).get? s.heap.objs.size = some _:=pu _ _ (pu _ _ (pu _ _ (pu _ _ (pu _ _ (get?_push_size _ rfl)))));show _/\_;rw [e5,e3,e4] at f6;rw [e3,e1,e2] at f4;rw [e4] at f5;rw [e2] at f3;rw [e1] at f2;rw [e5];exact ⟨⟨_,f6,rfl⟩,h _ _ rfl f6 f4 f5 ⟨_,f1,rfl,rfl⟩ ⟨_,f2,rfl,rfl⟩ ⟨_,f3,rfl,rfl⟩ fun c o x=>pu _ _ (pu _ _ (pu _ _ (pu _ _ (pu _ _ (pu _ _ x)))))⟩
end
def Ta (K:W.Frag) (a b c:Addr):It :=
 ⟨fun i H=>∃ xs ys zs,SqL K H a xs/\SqL K H b ys/\SqL K H c zs/\i < xs.length/\i < ys.length/\i < zs.length,
  fun i H x H'=>∃ T u v t,x = .ref T/\H T = none/\H' = eT H T (.tup [u,v,t])/\(∀ xs,SqL K H a xs->xs[i]? = some u)/\(∀ ys,SqL K H b ys->ys[i]? = some v)/\∀ zs,SqL K H c zs->zs[i]? = some t,
  fun i H=>∃ xs ys zs,SqL K H a xs/\SqL K H b ys/\SqL K H c zs/\(xs.length<=i\/ys.length<=i\/zs.length<=i)⟩
theorem wJ {xs:List V} {its:List Value} (rv:Vals xs its) {i:Nat} (h:i < xs.length):∃ u x,xs[i]? = some u/\its.toArray[i]? = some x/\RelV u x:=by
 have e1:xs[i]? = some xs[i]:=getElem?_eq_getElem h;obtain ⟨x,e3,r1⟩:=rv.get e1;exact ⟨_,x,e1,by simpa using e3,r1⟩
theorem Iy {P:Program} {w:World} {K:W.Frag} {elts:List Expr} {k:Nat} {pos:Pos} {n l1 l2 l3:Nat} (L1:l1 < n) (L2:l2 < n) (L3:l3 < n) :
  Turn P w K (.Tuple elts k pos) (Ta K l1 l2 l3) [n + 5,n + 3,n + 4,n,n + 1,n + 2] (n + 5) (fun i h=>IsZip h (n + 5) (n + 3) (n + 4) .none/\eS h (n + 3) (.ref n) (.ref (n + 1)) (.ref (n + 2))/\(∃ a b c,eS h (n + 4) a b c)/\h.IsListIter n l1 i/\h.IsListIter (n + 1) l2 i/\h.IsListIter (n + 2) l3 i) where
 mem:=by simp
 obj:=fun i h st b hb=>by
  obtain ⟨hz,hTI,⟨x,y,t,hTO⟩,⟨o1,e1,_,d1⟩,⟨o2,e2,_,d2⟩,⟨o3,e3,_,d3⟩⟩:=st;simp only [mem_cons,not_mem_nil,or_false] at hb;rcases hb with rfl | rfl | rfl | rfl | rfl | rfl
  ·exact ⟨_,hz,fun v q=>by cases q⟩
  ·exact ⟨_,hTI,fun v q=>by cases q⟩
  ·exact ⟨_,hTO,fun v q=>by cases q⟩
  ·exact ⟨o1,e1,fun v q=>by rw [d1] at q; cases q⟩
  ·exact ⟨o2,e2,fun v q=>by rw [d2] at q; cases q⟩
  ·exact ⟨o3,e3,fun v q=>by rw [d3] at q; cases q⟩
 keep:=fun i h h' st kp=>by
  obtain ⟨hz,hTI,⟨x,y,t,hTO⟩,h1,h2,h3⟩:=st;exact ⟨kp _ (by simp) _ hz,kp _ (by simp) _ hTI,⟨x,y,t,kp _ (by simp) _ hTO⟩,h1.at fun o e=>kp _ (by simp) o e,h2.at fun o e=>kp _ (by simp) o e,h3.at fun o e=>kp _ (by simp) o e⟩
 item:=by
  intro X hP hw hK hc i pins s σ H E I hf st hg;subst hP hw hK;obtain ⟨xs,ys,zs,q1,q2,q3,g1,g2,g3⟩:=hg;obtain ⟨its1,rv1,p1,z1⟩:=I.list q1;obtain ⟨its2,rv2,p2,z2⟩:=I.list q2;obtain ⟨its3,rv3,p3,z3⟩:=I.list q3;obtain ⟨hz,hTI,⟨x0,y0,t0,hTO⟩,h1,h2,h3⟩:=st;obtain ⟨u,x,e1,f1,r1⟩:=wJ rv1 g1;obtain ⟨v,y,e2,f2,r2⟩:=wJ rv2 g2;obtain ⟨t,c,e3,f3,r3⟩:=wJ rv3 g3;refine sL L1 L2 L3 hz hTI hTO h1 h2 h3 p1.isList p2.isList p3.isList f1 f2 f3 fun h' hz' hTO' i1 i2 i3 hT kk=>?_;refine ⟨_,rfl,wpAny_letOwnedTupleGo_zip hz' fun h3' hz3 hs3=>?_⟩
  have fw:∀ b∈[n,n + 1,n + 2,n + 4,n + 5],kT X pins H b:=fun b hb=>hf b (by
   simp only [mem_cons,not_mem_nil,or_false] at hb ⊢
   rcases hb with rfl | rfl | rfl | rfl | rfl <;> simp)
  have I1:Inv X pins σ H { s with heap:=h' }:=cV (t':=s.toks) I kk fw
  have I2:Inv X pins σ H { s with heap:=h3' }:=cV (s:={ s with heap:=h' }) (t':=s.toks) (ws:=[n + 5]) I1 (fun b o hb e=>hs3.extBut b o (by simpa using hb) e) fun b hb=>hf b (by
   have:b = n + 5:=by simpa using hb
   simp [this])
  have szl:n + 5 < s.heap.objs.size:=lt_size hz;have hT3:h3'.IsTuple s.heap.objs.size #[x,y,c]:=⟨_,hs3.extBut _ _ (by walk_at "o") hT,rfl,_,rfl⟩;have fT:kT X pins H s.heap.objs.size:=I.fpOk (le_refl _) (I.hok.fresh (le_refl _));have I3:=xT (xs:=[u,v,t]) (its:=[x,y,c]) I2 fT I.sz hT3 (.cons r1 (.cons r2 (.cons r3 .nil))) (le_of_lt (bR (by show 3<=1000; decide)));refine ⟨.ref s.heap.objs.size,eT H s.heap.objs.size (.tup [u,v,t]),I3,rfl,⟨_,u,v,t,rfl,fT.1,rfl,fun xs' h=>by rw [I.list_inj h q1]; exact e1,fun ys' h=>by rw [I.list_inj h q2]; exact e2,fun zs' h=>by rw [I.list_inj h q3]; exact e3⟩,⟨hz3,?_,⟨x,y,c,hs3.extBut _ _ (by walk_at "o") hTO'⟩,i1.at fun o e=>hs3.extBut _ o (by walk_at "o") e,i2.at fun o e=>hs3.extBut _ o (by walk_at "o") e,i3.at fun o e=>hs3.extBut _ o (by walk_at "o") e⟩,fun b hb=>?_⟩
  ·refine hs3.extBut _ _ (by walk_at "o") (kk _ _ ?_ hTI);simp only [mem_cons,not_mem_nil,or_false];omega
  ·rw [bJ]
   ·exact (hf b hb).1
   ·simp only [mem_cons,not_mem_nil,or_false] at hb;rcases hb with rfl | rfl | rfl | rfl | rfl | rfl <;> walk_at "o"
 done:=by
  intro X hP hw hK hc i pins s σ H E I hf st hg;subst hP hw hK;obtain ⟨xs,ys,zs,q1,q2,q3,g⟩:=hg;obtain ⟨its1,rv1,p1,z1⟩:=I.list q1;obtain ⟨its2,rv2,p2,z2⟩:=I.list q2;obtain ⟨its3,rv3,p3,z3⟩:=I.list q3;obtain ⟨hz,hTI,⟨x0,y0,t0,hTO⟩,h1,h2,h3⟩:=st;have M1:=rv1.length;have M2:=rv2.length;have M3:=rv3.length;refine tV (I.ok.hd hc) L1 L2 L3 hz hTI hTO h1 h2 h3 p1.isList p2.isList p3.isList ?_ fun h' hk=>⟨rfl,?_⟩
  ·rcases g with g | g | g
   ·exact .inl (by simp; omega)
   ·exact .inr (.inl (by simp; omega))
   ·exact .inr (.inr (by simp; omega))
  ·exact cV (t':=s.toks) I hk fun b hb=>hf b (by
    simp only [mem_cons,not_mem_nil,or_false] at hb ⊢
    rcases hb with rfl | rfl | rfl | rfl | rfl <;> simp)
 self:=fun _ _ _ _ _ st h=>wpAny_pyIter_zip st.1 h
section
variable {X:Cx} {K:W.Frag}
def Xs (K:W.Frag) (t:TA):TI:=fun σ H R=>t σ H fun vs H1=>∃ a b c,vs = [.ref a,.ref b,.ref c]/\(∃ xs,SqL K H1 a xs)/\(∃ ys,SqL K H1 b ys)/\(∃ zs,SqL K H1 c zs)/\R (Ta K a b c) H1
theorem aHn {x y z:V} {us:List Value} (h:Vals [x,y,z] us):∃ a b c,us = [a,b,c]/\RelV x a/\RelV y b/\RelV z c:=by
 cases h with
 | cons r t =>
  obtain ⟨b,c,rfl,h1,h2⟩:=uH t;exact ⟨_,b,c,rfl,r,h1,h2⟩
theorem xD {elts:List Expr} {k:Nat} {tpos:Pos} {a b c:Expr} {ta:TA} {p pos:Pos} (hK:X.K = K) (hg:Gl X "zip") (hm:X.mg "zip" = none) (ha:PA X [a,b,c] ta) (hs:starEach [a,b,c] X.env = [(false,eval a X.env),(false,eval b X.env),(false,eval c X.env)]:=by rfl) (hs2:starEach [b,c] X.env = [(false,eval b X.env),(false,eval c X.env)]:=by rfl) :
  PI X (.Tuple elts k tpos) (.Call (.Name "zip" p) [a,b,c] [] pos) (Xs K ta):=by
 subst hK;intro pins s σ H R I h;refine Call_ (jL I hg hm Ca (PyProof.Rows.callWith_type1 (eU (ha pos pins s σ H _ I h) fun us s1 ⟨vs,H1,I1,r1,q1⟩=>?_) (by rw [hs,hs2]) (by rw [hs2]; rfl)));obtain ⟨a',b',c',e,⟨xs,g1⟩,⟨ys,g2⟩,⟨zs,g3⟩,q⟩:=q1;subst e;obtain ⟨u,v,t,rfl,ru,rv,rt⟩:=aHn r1;cases ru; cases rv; cases rt;obtain ⟨its1,rv1,p1,z1⟩:=I1.list g1;obtain ⟨its2,rv2,p2,z2⟩:=I1.list g2;obtain ⟨its3,rv3,p3,z3⟩:=I1.list g3;have a1:a' < s1.heap.objs.size:=by obtain ⟨_,e,_⟩:=p1.isList; exact lt_size e
 have a2:b' < s1.heap.objs.size:=by obtain ⟨_,e,_⟩:=p2.isList; exact lt_size e
 have a3:c' < s1.heap.objs.size:=by obtain ⟨_,e,_⟩:=p3.isList; exact lt_size e
 refine Kr p1.isList p2.isList p3.isList fun h' n hn hz hTI hTO hi1 hi2 hi3 hk=>wpAny_pyIter_zip hz ?_;rw [<- hn] at a1 a2 a3;refine ⟨n + 5,[n + 5,n + 3,n + 4,n,n + 1,n + 2],_,_,H1,rfl,I1.kept (t':=s1.toks) hk,Iy a1 a2 a3,⟨hz,hTI,⟨_,_,_,hTO⟩,hi1,hi2,hi3⟩,fun b hb=>?_,q⟩;have hb2:s1.heap.objs.size<=b:=by
  rw [<- hn];simp only [mem_cons,not_mem_nil,or_false] at hb;rcases hb with rfl | rfl | rfl | rfl | rfl | rfl <;> first | exact Nat.le_add_right _ _ | exact le_refl _
 exact I1.fpOk hb2 (I1.hok.fresh hb2)
end
section
variable {K:W.Frag} {H₀:Hp} {E:XK} {ta tb tc:TE} {da db dc:DE} {dl dk dm:DL}
def triD:List PyData->List PyData->List PyData->List PyData
 | x :: xs,y :: ys,z :: zs=>.tuple [x,y,z] :: triD xs ys zs
 | _,_,_=>[]
theorem uL:∀ (xs ys zs:List PyData) (i:Nat),(∀ d,(triD xs ys zs)[i]? = some d->∃ x y z,xs[i]? = some x/\ys[i]? = some y/\zs[i]? = some z/\d = .tuple [x,y,z])/\((triD xs ys zs).length<=i->xs.length<=i\/ys.length<=i\/zs.length<=i)
 | [],ys,zs,i=>⟨fun d h=>by simp [triD] at h,fun _=>.inl (zero_le _)⟩
 | x :: xs,[],zs,i=>⟨fun d h=>by simp [triD] at h,fun _=>.inr (.inl (zero_le _))⟩
 | x :: xs,y :: ys,[],i=>⟨fun d h=>by simp [triD] at h,fun _=>.inr (.inr (zero_le _))⟩
 | x :: xs,y :: ys,z :: zs,0=>⟨fun d h=>⟨x,y,z,rfl,rfl,rfl,by simpa [triD] using h.symm⟩,fun h=>by simp [triD] at h⟩
 | x :: xs,y :: ys,z :: zs,i + 1=>by
  obtain ⟨h1,h2⟩:=uL xs ys zs i;refine ⟨fun d h=>?_,fun h=>?_⟩
  ·obtain ⟨a,b,c,e1,e2,e3,e4⟩:=h1 d (by simpa [triD] using h);exact ⟨a,b,c,by simpa using e1,by simpa using e2,by simpa using e3,e4⟩
  ·have:=h2 (by simpa [triD] using h);simp only [length_cons];omega
def Yc (dl dk dm:DL) (ex:DX) (δ:cD) (Q:List PyData->Prop):Prop:=dl ex δ fun xs=>dk ex δ fun ys=>dm ex δ fun zs=>Q (triD xs ys zs)
theorem Vv {a b c:Addr} {vs ws us:List V} {xs ys zs:List PyData} {G H:Hp} (s:Sub G H) (h1:SqL K H a vs) (h2:SqL K H b ws) (h3:SqL K H c us) (d1:DVs K G vs xs) (d2:DVs K G ws ys) (d3:DVs K G us zs) (i:Nat) :
  (∀ d,(triD xs ys zs)[i]? = some d->(Ta K a b c).go i H/\∀ x H2,(Ta K a b c).yld i H x H2->∃ G2,Ext G H G2 H2/\DV K G2 x d)/\((triD xs ys zs).length<=i->(Ta K a b c).stop i H):=by
 obtain ⟨s1,s2⟩:=uL xs ys zs i;refine ⟨fun d hi=>?_,fun hi=>⟨vs,ws,us,h1,h2,h3,?_⟩⟩
 ·obtain ⟨x,y,z,e1,e2,e3,rfl⟩:=s1 d hi;obtain ⟨u,f1,f2⟩:=d1.at e1;obtain ⟨v,g1,g2⟩:=d2.at e2;obtain ⟨t,k1,k2⟩:=d3.at e3;refine ⟨⟨vs,ws,us,h1,h2,h3,(List.getElem?_eq_some_iff.mp f1).1,(List.getElem?_eq_some_iff.mp g1).1,(List.getElem?_eq_some_iff.mp k1).1⟩,fun z' H2 ⟨T,u',v',t',e4,hT,e5,m1,m2,m3⟩=>?_⟩;subst e4 e5;have q1:=m1 vs h1;have q2:=m2 ws h2;have q3:=m3 us h3;rw [f1] at q1; rw [g1] at q2; rw [k1] at q3;cases q1; cases q2; cases q3;have e:=oF (xs:=[u,v,t]) s hT;exact ⟨_,e,.tup (SqT.of bM) (.cons (cS e.g f2) (.cons (cS e.g g2) (.cons (cS e.g k2) .nil)))⟩
 ·have:=s2 hi;have:=d1.len;have:=d2.len;have:=d3.len;omega
theorem xS (h1:gQ K H₀ E ta da) (h2:gQ K H₀ E tb db) (h3:gQ K H₀ E tc dc):IvS K H₀ E (Xs K (eF ta (eF tb (eF tc iS)))) (Yc (tZ da) (tZ db) (tZ dc)):=fun ex δ σ G H Qd R hx S q k =>
 h1 ex δ σ G H _ _ hx S q fun v d G1 H1 e1 hd q1=>by
  cases d with
  | list xs =>
   refine h2 ex δ σ G1 H1 _ _ hx (S.ext e1) q1 fun v2 d2 G2 H2 e2 hd2 q2=>?_;cases d2 with
   | list ys =>
    refine h3 ex δ σ G2 H2 _ _ hx ((S.ext e1).ext e2) q2 fun v3 d3 G3 H3 e3 hd3 q3=>?_;cases d3 with
    | list zs =>
     obtain ⟨a,vs,rfl,a1,a2⟩:=eB hd;obtain ⟨b,ws,rfl,b1,b2⟩:=eB hd2;obtain ⟨c,us,rfl,c1,c2⟩:=eB hd3;refine ⟨a,b,c,rfl,⟨vs,e3.h.seq (e2.h.seq (e1.s.same.seq a1))⟩,⟨ws,e3.h.seq (e2.s.same.seq b1)⟩,⟨us,e3.s.same.seq c1⟩,k _ _ G3 H3 ((e1.trans e2).trans e3) (fun G' H' s1 s2 i=>?_) q3⟩;exact Vv s2 (s2.same.seq (s1.seq (e3.g.seq (e2.g.seq a1)))) (s2.same.seq (s1.seq (e3.g.seq b1))) (s2.same.seq (s1.seq c1)) (bC s1 (bC e3.g (bC e2.g a2))) (bC s1 (bC e3.g b2)) (bC s1 c2) i
    | _=>exact q3.elim
   | _=>exact q2.elim
  | _=>exact q1.elim
end
theorem Jt (o:Option PyData) (δ:cD):pS (o.map Sl.dat :: δ) = pS δ:=by
 cases o <;> rfl
section
variable {K:W.Frag} {H₀:Hp} {E:XK} {te ta tb:TE} {da db de:DE} {ts:TS} {ds:DS}
def Ym (i:Nat) (d:DS) (e:DEnds) (δ:cD):Prop:=d { e with nx:=fun δ'=>e.nx (sY i δ') } δ
theorem Fe (i:Nat) (h:jN K H₀ E ts ds):jN K H₀ E ts (Ym i ds):=fun δ σ G H e D hx S q L =>
 h δ σ G H { e with nx:=fun δ'=>e.nx (sY i δ') } D hx S q ⟨fun δ' σ' G' H' t S' q'=>by
  change e.nx (sY i δ') at q'
  unfold sY at q'
  split at q'
  ·rename_i xs hs
   obtain ⟨G2,s2,S2⟩:=S'.frz hs
   exact L.nx _ σ' G2 H' (t.trans s2) S2 q'
  ·exact L.nx _ σ' G' H' t S' q',L.rt,L.bk,L.ct⟩
end
abbrev D2:=DX->cD->(List PyData->List PyData->Prop)->Prop
def O2D (K:W.Frag) (H₀:Hp) (E:XK) (t:TA) (d:D2):Prop:=∀ ex δ σ G H Qd Q,kU H₀ E ex->Sees K H₀ G δ σ H->d ex δ Qd ->
 (∀ a b vs ws xs ys G' H',Ext G H G' H'->a ≠ b->H₀ a = none->H₀ b = none->G' a = none->G' b = none->H' a = some (.lst vs)->H' b = some (.lst ws)->DVs K G' vs xs->DVs K G' ws ys->Qd xs ys->Q [.ref a,.ref b] H')->t σ H Q
def dOV (i:Nat) (_ex:DX) (δ:cD) (Q:List PyData->Prop):Prop:=match slot δ i with
 | some (.own ds)=>Q ds
 | _=>False
def d2 (dl dk:DL) (ex:DX) (δ:cD) (Q:List PyData->List PyData->Prop):Prop:=dl ex δ fun xs=>dk ex δ fun ys=>Q xs ys
section
variable {K:W.Frag} {H₀:Hp} {E:XK} {ta tb:TE} {dl dk:DL} {t:TA}
theorem Pf {δ:cD} {i:Nat} {ex:DX} {Q:List PyData->Prop} (q:dOV i ex δ Q):∃ ds,slot δ i = some (.own ds)/\Q ds:=by
 unfold dOV at q;split at q
 ·rename_i ds hs
  exact ⟨ds,hs,q⟩
 ·exact q.elim
theorem aJo (i:Nat) (hb:Cg K H₀ E tb dk):O2D K H₀ E (eF (iB i) (eF tb iS)) (d2 (dOV i) dk):=fun ex δ σ G H Qd Q hx S q k=>by
 obtain ⟨xs,hs,q⟩:=Pf q;obtain ⟨a,vs,s1,g1,h1,v1⟩:=S.ownAt hs;refine ⟨_,s1,hb ex δ σ G H _ _ hx S q fun b ws ys G2 H2 e2 n2 g2 h2 v2 q2=>?_⟩;exact k a b vs ws xs ys G2 H2 e2 (fun z=>by subst z; rw [h1] at n2; cases n2) (S.old.free g1) (S.oldH.free n2) (e2.keep g1 h1) g2 (e2.h _ _ h1) h2 (bC e2.g v1) v2 q2
theorem Xq (i j:Nat) (hij:i ≠ j):O2D K H₀ E (eF (iB i) (eF (iB j) iS)) (d2 (dOV i) (dOV j)):=fun ex δ σ G H Qd Q hx S q k=>by
 obtain ⟨xs,hs,q⟩:=Pf q;obtain ⟨ys,hs2,q⟩:=Pf q;obtain ⟨a,vs,s1,g1,h1,v1⟩:=S.ownAt hs;obtain ⟨b,ws,s2,g2,h2,v2⟩:=S.ownAt hs2;exact ⟨_,s1,_,s2,k a b vs ws xs ys G H S.refl (fun z=>by subst z; exact hij (S.sep i j xs ys _ hs hs2 s1 s2)) (S.old.free g1) (S.old.free g2) g1 g2 h1 h2 v1 v2 q⟩
def Yi (d:D2) (e:DEnds) (δ:cD):Prop:=d e.ex δ fun xs ys=>e.rt (.two xs ys)
theorem wQ {d:D2} (h:O2D K H₀ E t d):jN K H₀ E (zG (Zs t)) (Yi d):=fun δ σ G H e D hx S q L =>
 h e.ex δ σ G H _ _ hx S q fun a b vs ws xs ys G1 H1 e1 hab a0 b0 ga gb ha hb va vb q1=>by
  refine ⟨le_of_lt (bR (by simp)),fun p hp=>?_⟩;have pa:a ≠ p:=bS ha hp;have pb:b ≠ p:=bS hb hp;have sm:Same G1 (rm (rm (eT H1 p (.tup [.ref a,.ref b])) a) b):=fun c o z=>by
   have hc:=e1.s.same c o z;unfold rm;rw [if_neg (bS z gb),if_neg (bS z ga),bJ (bS hc hp)];exact hc
  refine L.rt (.ref p) (.two xs ys) _ (((S.ext e1).oldH).trans fun c o z=>by rw [bJ (bS z hp)]; exact z) ⟨p,a,b,vs,ws,rfl,SqT.of bM,hab,a0,b0,?_,?_,bC sm va,bC sm vb⟩ q1
  ·rw [bJ pa]; exact ha
  ·rw [bJ pb]; exact hb
end
end Dl
namespace Lx
open PySem PySem.Spec PyProof.Rows L2
structure LcOk1 (X:Cx) (scope:Scope) (x:Str) (cl:List (Str × Addr)) (cap:List (Option Nat)) (NC:List Str):Prop where
 clos:closureFor scope X.env = pure cl
 kind:scope.kind = .function
 one:∀ n,cellsFrom n scope.names cl = (x,n) :: cl
 push:∀ h,pushCells h scope.names = h.push { cls:=.type "cell",data:=.cell none }
 fresh:cl.lookup x = none
 names:∀ x∈scope.names,x.2 = .local->scope.names.lookup x.1 = some .local
 caps:CapsOk X scope cl cap NC
 cells:∀ p∈cl,X.env.cells.lookup p.1 = some p.2
 has:∀ c:Addr,((relabel scope X.env).names.all fun p=>(p.2 != .cell && p.2 != .free) || (((x,c) :: cl).lookup p.1).isSome) = true
end Lx
namespace Dl
open PySem PySem.Spec PyProof.Rows L2 Lx
theorem Op {h:Heap} {y:Value} {n d n' d':Int} {as bs:List Addr} (r:Reads h y (.tuple [.int n,.int d]) as) (r':Reads h y (.tuple [.int n',.int d']) bs):n = n'/\d = d':=by
 cases r with
 | tuple h1 c1 e1 a1 =>
  cases r' with
  | tuple h2 c2 e2 a2 =>
   rw [h1] at h2;cases h2;rw [e1] at e2;cases e2;generalize Array.toList _ = l at a1 a2;cases a1 with
   | cons x1 t1 =>
    cases a2 with
    | cons y1 u1 =>
     cases t1 with
     | cons x2 t2 =>
      cases u1 with
      | cons y2 u2 =>
       cases x1; cases x2;cases y1; cases y2;exact ⟨rfl,rfl⟩
theorem lF {h:Heap}:∀ {us:List Value} {ds:List PyData} {as:List Addr} {j:Nat} {u:Value},ReadsAll h us ds as->us[j]? = some u->∃ d bs,ds[j]? = some d/\Reads h u d bs
 | _,_,_,0,_,.cons r _,e=>by
  simp at e;subst e;exact ⟨_,_,rfl,r⟩
 | _,_,_,j + 1,_,.cons _ t,e=>by
  obtain ⟨d,bs,h1,h2⟩:=lF (j:=j) t (by simpa using e);exact ⟨d,bs,by simpa using h1,h2⟩
theorem kE {h:Heap}:∀ {us:List Value} {ds:List PyData} {as:List Addr},ReadsAll h us ds as->us.length = ds.length
 | _,_,_,.nil=>rfl
 | _,_,_,.cons _ t=>congrArg (· + 1) (kE t)
section
variable {X:Cx}
def xC (K:W.Frag):V->List V->Hp->VK->Prop:=fun x vs H Q=>∃ (l:Addr) (y:V) (ws:List V) (q:Rat) (qs:List Rat) (j:Nat),x = .ref l/\vs = [y]/\SqL K H l ws/\DVs K H ws (qs.map eRat.d)/\DV K H y (eRat.d q)/\qs[j]? = some q/\(∀ m,m < j->qs[m]? ≠ some q)/\qs.length<=1000/\Q (.int (j:Int)) H
theorem Pw (hu:X.A.units + 64 < cLine):Xa X "list.index" (xC X.K):=by
 intro pins s σ H x vs v us Q I rx rv h;obtain ⟨l,y,ws,q,qs,j,rfl,rfl,hS,hD,hy,hj,hno,hlen,k⟩:=h;cases rx;obtain ⟨u,rfl,ru⟩:=rv.one;obtain ⟨its0,r,⟨o,n,ho,hc,hdd,hdat⟩,_⟩:=I.list hS;obtain ⟨cls,dd,data,sl⟩:=o;simp only at hc hdat;subst hc hdat;obtain ⟨as,hR⟩:=jU I hD r;obtain ⟨its,hits⟩:∃ its:Array Value,its0.toArray = its:=⟨_,rfl⟩;have htl:its.toList = its0:=by rw [<- hits]
 rw [<- htl] at hR;rw [hits] at ho;obtain ⟨bs,hY⟩:=fG I hy ru;have hl:its.toList.length = qs.length:=by rw [kE hR,length_map]
 have hsz:its.size = qs.length:=by rw [<- length_toList]; exact hl
 have rd:∀ m (hm:m < its.size),∃ p bs,qs[m]? = some p/\Reads s.heap its[m] (eRat.d p) bs:=fun m hm=>by
  obtain ⟨d,bs,h1,h2⟩:=lF (j:=m) hR (by rw [getElem?_toList,Array.getElem?_eq_getElem hm]);rw [getElem?_map] at h1;cases e:qs[m]? with
  | none=>rw [e] at h1; cases h1
  | some p =>
   rw [e] at h1;cases h1;exact ⟨p,bs,rfl,h2⟩
 have hjl:j < its.size:=by rw [hsz]; exact (List.getElem?_eq_some_iff.mp hj).1
 have key:∃ e:Value->Bool,∀ z,e z = true ↔ ∃ bs,Reads s.heap z (eRat.d q) bs:=by
  have:=Classical.propDecidable;exact ⟨fun z=>@decide (∃ bs,Reads s.heap z (eRat.d q) bs) (Classical.propDecidable _),fun z=>by simp⟩
 obtain ⟨e,he⟩:=key;have ev:∀ m (hm:m < its.size) p,qs[m]? = some p->(e its[m] = true ↔ p = q):=fun m hm p hp=>by
  obtain ⟨p',bs',h1,h2⟩:=rd m hm;rw [hp] at h1;cases h1;rw [he];constructor
  ·rintro ⟨bs2,h3⟩;obtain ⟨z1,z2⟩:=Op h2 h3;exact Rat.ext z1 (by omega)
  ·rintro rfl;exact ⟨_,h2⟩
 refine call_meets F.slot_list_index ⟨_,ho,rfl⟩ F.entry_list_index (F.args_list_index_2 _ _)
  (SeqAt.list_indexAt l its n dd sl u e j hjl (by omega) ((ev j hjl q hj).mpr rfl) (fun m hm hlt=>?_)) ⟨ho,fun z hz=>?_,⟨.int (j:Int),H,I.tok _,⟨_,rfl⟩,k⟩⟩
 ·obtain ⟨p,bs',h1,h2⟩:=rd m hm;have:=hno m hlt;rw [h1] at this;exact Bool.eq_false_iff.mpr fun w=>this (by rw [(ev m hm p h1).mp w])
 ·obtain ⟨m,hm,rfl⟩:=Array.getElem_of_mem hz;obtain ⟨p,bs',h1,h2⟩:=rd m hm
  have h3:=SeqAt.eqAt_reads (eRat.d p) (eRat.d q) (X.A.in1) s its[m] u _ _ h2 hY (eRat.lay p) (eRat.lay q) (by
   have:=eRat.depth p
   have e1:(X.A.in1).units = X.A.units + 1:=rfl
   rw [e1]
   have e2:min (eRat.d p).depth (eRat.d q).depth<=(eRat.d p).depth:=Nat.min_le_left _ _
   have e3:eRat.dep = 1:=rfl
   omega)
  have e4:PyData.eqv (eRat.d p) (eRat.d q) = e its[m]:=by
   rw [Bool.eq_iff_iff,eRat.eqv,ev m hm p h1]
  rw [e4] at h3;exact h3
end
theorem Jv {X:Cx} {K:W.Frag} (hK:X.K = K) (hu:X.A.units + 64 < cLine):Xa X "list.index" (xC K):=by subst hK; exact Pw hu
section
variable {K:W.Frag} {H₀:Hp} {E:XK} {te:TE} {de:DE} {dl:DL} {t:TA} {tt:TT} {dt:DT} {ts tz:TS} {ds dz:DS}
def Hu (i:Nat) (de:DE) (ex:DX) (δ:cD) (Q:PyData->Prop):Prop:=Ht i ex δ fun xs=>de ex δ fun d=>∃ (q:Rat) (qs:List Rat) (j:Nat),xs = qs.map eRat.d/\d = eRat.d q/\qs[j]? = some q/\(∀ m,m < j->qs[m]? ≠ some q)/\qs.length<=1000/\Q (.int (j:Int))
theorem Rb (i:Nat) (h:kO K H₀ E te de):gQ K H₀ E (Tx K "list" (xC K) (iB i) (eF te iS)) (Hu i de):=fun ex δ σ G H Qd Q hx S q k =>
 bA i ex δ σ G H _ _ hx S q fun a vs xs G1 H1 e1 h1 h2 q1=>⟨.inl ⟨rfl,_,h1⟩,h ex δ σ G1 H1 _ _ hx (S.ext e1) q1 fun y d G2 H2 e2 hy q2=>by
  obtain ⟨q,qs,j,rfl,rfl,hj,hno,hl,q3⟩:=q2
  exact ⟨a,y,vs,q,qs,j,rfl,rfl,e2.h.seq h1,bC e2.s.same (bC e2.g h2),hy,hj,hno,hl,k _ _ G2 H2 (e1.trans e2) (.int _) q3⟩⟩
def Hq (w:DW) (dl:DL) (e:DEnds) (δ:cD):Prop:=dl e.ex δ fun ds=>w ds (fun s=>match s with
 | .two xs ys=>e.rt (.two xs ys)
 | _=>False) fun _=>False
theorem Jc {w:DW} (ha:Cf K H₀ E t dl):jN K H₀ E (zG (nQ (fC K w) [] E0 t)) (Hq w dl):=fun δ σ G H e D hx S q L =>
 ha e.ex δ σ G H _ _ hx S q fun vs ds G1 H1 e1 h1 q1=>by
  refine ⟨ds,_,fun _=>False,by rw [append_nil]; exact h1,q1,fun v s H2 sm r qs=>?_,fun C H2 sm hc=>hc.elim⟩;have old:=(S.ext e1).oldH;cases s with
  | two xs ys =>
   obtain ⟨t,a,b,vs,ws,rfl,ht,hab,na,nb,ha,hb,va,vb⟩:=r;exact L.rt _ (.two xs ys) H2 (old.trans sm) ⟨t,a,b,vs,ws,rfl,ht,hab,old.free na,old.free nb,ha,hb,va,vb⟩ qs
  | dat d=>exact qs.elim
  | own ds=>exact qs.elim
  | exc C=>exact qs.elim
  | mon φ=>exact qs.elim
  | fz _ _=>exact qs.elim
end
abbrev IsZ (h:Heap) (z TI TO:Addr) (f0 f1:Value):Prop:=h.get? z = some { cls:=.type "zip",dict:=none,data:=.fields #[f0,f1,.bool false,.ref TI,.ref TO],slots:=#[] }
section
variable {prog:Program} {w:World} {A:Around} {E:Value->Shared->Prop} {s:Shared}
structure ZSt (h:Heap) (z TI TO i1 i2 l1 l2 base:Addr) (i:Nat) (xs ys:Array Value):Prop where
 z:IsZ h z TI TO .none (.bool false)\/∃ (T:Addr) (b:Bool) (o:Obj),IsZ h z TI TO (rawInt (T:Int)) (.bool b)/\base<=T/\h.get? T = some o
 ti:IsPair h TI (.ref i1) (.ref i2)
 to:∃ a b,IsPair h TO a b
 i1:h.IsListIter i1 l1 i
 i2:h.IsListIter i2 l2 i
 l1:h.IsList l1 xs
 l2:h.IsList l2 ys
end
theorem Ka (l:Addr) (items:Array Value) (n:Nat) (b:Addr) (items2:Array Value) (n2:Nat) (sl2:Array (Option Value)) (hd:¬(!items.isEmpty && Builtin.List.listTooLong (items.size + items2.size)) = true) (hz:items.size<=sizeLine) (hz2:items.size + items2.size<=sizeLine + 1) :
  Meets (Builtin.«list.extend» ⟨[.ref l,.ref b],[]⟩) (fun _ R s=>s.heap.get? l = some { cls:=.type "list",dict:=none,data:=.seq items n,slots:=#[] }/\s.heap.get? b = some { cls:=.type "list",dict:=none,data:=.seq items2 n2,slots:=sl2 } /\
   R (.ok (.ret Value.none)) { s with heap:=s.heap.update l (Obj.mapSeq fun x=>x ++ items2),toks:=s.toks }) :=
 .of_wp fun prog w A R s h=>by
  obtain ⟨hp,g,d,tk,os⟩:=s;obtain ⟨hl,hb,h⟩:=h;have f1:=AutoSeq1.idx_int;have f2:=AutoSeq1.sub_tuple_tuple;have f3:=AutoSeq1.sub_list_list;have f4:=AutoSeq1.sub_tuple_list;have f5:=AutoSeq1.sub_list_tuple;have hzz:(items ++ items2).size<=sizeLine + 1:=by rw [Array.size_append]; exact hz2
  wp_walk using (wpAny_updateSeq hl rfl (hz:=hz) (_hz':=hzz)),wpAny_loadPart' hl,wpAny_loadPart' hb
  exact ⟨_,rfl,h⟩
section
variable {X:Cx} {K:W.Frag}
def Fw (K:W.Frag):R2:=fun x y H Q=>∃ l b xs zs,x = .ref l/\y = .ref b/\SqL K H l xs/\SqL K H b zs/\xs.length + zs.length<=sizeLine/\∀ p,H p = none->Q (.ref p) (eT H p (.lst (xs ++ zs)))
theorem Uy:mL X (binaryOp .Add) (Fw X.K):=by
 intro pins s σ H x y v u Q I rx ry h;obtain ⟨l,b,xs,zs,rfl,rfl,hH,hB,hz,q⟩:=h;cases rx;cases ry;obtain ⟨its,r,⟨⟨cls,dd,data,sl⟩,n,e,c1,c2,c3⟩,z⟩:=I.list hH;obtain ⟨its2,r2,⟨⟨cls2,dd2,data2,sl2⟩,n2,e2,d1,d2,d3⟩,z2⟩:=I.list hB;simp only at c1 c2 c3 d1 d2 d3;subst c1 c2 c3 d1 d2 d3;have hl:=r.length;have hl2:=r2.length;refine concat_meets ⟨_,e,rfl⟩ ⟨_,e2,rfl⟩ noFill_list_add seq_list_add F.slot_list_add F.entry_list_add (F.args_list_add_2 _ _) (list_addW l b its.toArray its2.toArray n n2 none none sl sl2 (by simp; omega)) ⟨e,e2,?_⟩;have ea:its.toArray ++ its2.toArray = (its ++ its2).toArray:=by simp
 rw [ea];exact ⟨.ref _,_,I.lnew (t':=s.toks) (r.append r2) (by rw [length_append]; omega),rfl,q _ I.fresh⟩
theorem Si (h:X.K = K):mL X (binaryOp .Add) (Fw K):=by subst h; exact Uy
def Ox (K:W.Frag):V->List V->Hp->VK->Prop:=fun x vs H Q=>∃ l b xs zs,x = .ref l/\vs = [.ref b]/\H l = some (.lst xs)/\SqL K H b zs/\xs.length + zs.length<=sizeLine/\Q .non (eT H l (.lst (xs ++ zs)))
theorem Vh:Xa X "list.extend" (Ox X.K):=by
 intro pins s σ H x vs v us Q I rx rv h;obtain ⟨l,b,xs,zs,rfl,rfl,hH,hB,hz,q⟩:=h;cases rx;obtain ⟨u,rfl,ru⟩:=rv.one;cases ru;obtain ⟨z,its,n,r,hl,e⟩:=I.lstM hH;obtain ⟨its2,r2,⟨⟨cls2,dd2,data2,sl2⟩,n2,e2,d1,d2,d3⟩,z2⟩:=I.list hB;simp only at d1 d2 d3;subst d1 d2 d3;have hl2:=r2.length;have hsz:its.toArray.size + its2.toArray.size<=sizeLine:=by rw [size_toArray,size_toArray]; omega
 have hlong:¬ (!its.toArray.isEmpty && Builtin.List.listTooLong (its.toArray.size + its2.toArray.size)) = true:=by
  rw [Af hsz,Bool.and_false];exact Bool.false_ne_true
 refine call_meets F.slot_list_extend ⟨_,e,rfl⟩ F.entry_list_extend (F.args_list_extend_2 _ _) (Ka l its.toArray n b its2.toArray n2 sl2 hlong (by rw [size_toArray]; omega) (by omega)) ⟨e,e2,?_⟩;refine ⟨.non,_,I.lset (its':=its ++ its2) hH e (by simp) (r.append r2) ?_,rfl,q⟩;rw [length_append];omega
theorem Xz (h:X.K = K):Xa X "list.extend" (Ox K):=by subst h; exact Vh
end
section
variable {K:W.Frag} {H₀:Hp} {E:XK} {te ta tb:TE} {da de:DE} {dl dk:DL}
theorem aFq (m:Nat) (ha:kO K H₀ E ta da):kO K H₀ E (wP (Ow K) ta (tC (.int (m:Int)))) (aFf m da):=fun ex δ σ G H Qd Q hx S q k =>
 ha ex δ σ G H _ _ hx S q fun x dx G1 H1 e1 h1 q1=>by
  cases dx with
  | tuple ds =>
   dsimp only at q1;split at q1
   ·rename_i d z
    obtain ⟨a,vs,rfl,h2,h3⟩:=oK h1;obtain ⟨v,z1,z2⟩:=xZ h3 (fS (Dj z));exact ⟨a,vs,_,v,rfl,rfl,h2,z1,k v _ G1 H1 e1 z2 q1⟩
   ·exact q1.elim
  | _=>exact q1.elim
def aFj (i:Nat) (de:DE) (e:DEnds) (δ:cD):Prop:=match slot δ i with
 | some (.own ds)=>de e.ex δ fun d=>(match d with
  | .list es=>dF es = true/\ds.length + es.length<=1000/\e.nx (put (some (.own (ds ++ es))) i δ)
  | _=>False)
 | _=>False
theorem Lw (i:Nat) (h:kO K H₀ E te de):jN K H₀ E (uN (Tx K "list" (Ox K) (iB i) (eF te iS))) (aFj i de):=fun δ σ G H e D hx S q L=>by
 unfold aFj at q;split at q
 ·rename_i ds hs
  obtain ⟨a,vs,h1,h2,h3,h4⟩:=S.ownAt hs;refine ⟨_,h1,.inl ⟨rfl,_,SqL.of h3⟩,h e.ex δ σ G H _ _ hx S q fun v d G' H' x hd qd=>?_⟩;cases d with
  | list es =>
   obtain ⟨q0,q1,q2⟩:=qd;obtain ⟨b,ws,rfl,b1,b2⟩:=eB hd;have b3:DVs K G' ws es:=iF (fun c o hc hn=>x.s.other hc hn) b2 q0;have S':=S.ext x;exact ⟨a,b,vs,ws,rfl,rfl,x.h _ _ h3,b1,le_of_lt (bR (by rw [h4.len,b2.len]; exact q1)),L.nx _ _ G' _ x.g (S'.updO hs h1 ((bC x.g h4).append b3)) q2⟩
  | _=>exact qd.elim
 ·exact q.elim
def yD (i j:Nat) (e:DEnds) (δ:cD):Prop:=match slot δ i,slot δ j with
 | some (.own ds),some (.dat (.list bs))=>∃ ps es,ds = ps ++ [.list es]/\es.length + bs.length<=1000/\e.nx (put (some (.own (es ++ bs))) j (put (some (.own ps)) i δ))
 | _,_=>False
theorem Rf {G:Hp} {vs:List V} {ds:List PyData} {d:PyData} (h:DVs K G vs (ds ++ [d])):∃ us u,vs = us ++ [u]/\DVs K G us ds/\DV K G u d:=by
 have h1:=h.take ds.length;have h2:=h.drop ds.length;rw [List.take_left'] at h1
 ·rw [List.drop_left'] at h2
  ·obtain ⟨u,e,hu⟩:=qG h2;exact ⟨_,u,by rw [<- e,take_append_drop],h1,hu⟩
  ·rfl
 ·rfl
theorem Je (i j:Nat) (hij:i ≠ j):jN K H₀ E (qC (wP (Fw K) (aHv K "list" aIo (iB i)) (iB j)) (mQ j)) (yD i j):=fun δ σ G H e D hx S q L=>by
 unfold yD at q;split at q
 ·rename_i ds bs hs hj
  obtain ⟨ps,es,rfl,q1,q2⟩:=q;obtain ⟨a,vs,h1,h2,h3,h4⟩:=S.ownAt hs;obtain ⟨us,u,rfl,u1,u2⟩:=Rf h4;obtain ⟨c,ws,rfl,c1,c2⟩:=eB u2;obtain ⟨v,v1,v2⟩:=S.has j _ hj;obtain ⟨b,zs,rfl,b1,b2⟩:=eB v2;have S1:=S.updO (vs:=us) (es:=ps) hs h1 u1;have edl:(us ++ [V.ref c]).dropLast = us:=by simp
  refine ⟨_,h1,.inl ⟨rfl,_,SqL.of h3⟩,a,us ++ [.ref c],.ref c,rfl,rfl,h3,by simp,?_⟩;rw [edl];refine ⟨_,v1,c,b,ws,zs,rfl,rfl,S1.sub.same.seq c1,S1.sub.same.seq b1,le_of_lt (bR (by rw [c2.len,b2.len]; exact q1)),fun p hp=>?_⟩;obtain ⟨e3,g3⟩:=gI (xs:=ws ++ zs) (p:=p) S1.sub hp;exact L.nx _ _ G _ (Same.refl _) (S1.setO e3 j hp g3 bM (c2.append b2)) q2
 ·exact q.elim
end
def aKi (w:DW):DW:=fun ds Q X=>w ds (fun s=>match s with
 | .two xs ys=>Q (.dat (.tuple [.list xs,.list ys]))
 | s=>Q s) X
theorem rm_same {H:Hp} {a:Addr}:Same (rm H a) H:=fun b o z=>by
 unfold rm at z;split at z
 ·cases z
 ·exact z
theorem aNk {P:Program} {w:World} {K:PySem.W.Frag} {mg:Str->Option Value} {base:Heap} {CX:Il} {k:Nat} {f:Addr} {fd:FuncData} {ps:List Str} {W:DW} (F:FnOk P w K mg base CX k f fd ps (fC K W)):FnOk P w K mg base CX k f fd ps (fC K (aKi W)) :=
 F.imp fun vs H Q E h=>by
  obtain ⟨ds,Qd,Ed,h1,h2,h3,h4⟩:=h;refine ⟨ds,_,Ed,h1,h2,fun v s H' sm r q=>?_,h4⟩;cases s with
  | two xs ys =>
   obtain ⟨t,a,b,us,ws,rfl,ht,hab,ha,hb,la,lb,d1,d2⟩:=r;have s1:Same (rm (rm H' a) b) H':=rm_same.trans rm_same;exact h3 _ (.dat (.tuple [.list xs,.list ys])) H' sm (.tup ht (.cons (.lst (SqL.of la) (bC s1 d1)) (.cons (.lst (SqL.of lb) (bC s1 d2)) .nil))) q
  | dat d=>exact h3 v (.dat d) H' sm r q
  | own ds=>exact h3 v (.own ds) H' sm r q
  | exc C=>exact h3 v (.exc C) H' sm r q
  | mon φ=>exact h3 v (.mon φ) H' sm r q
  | fz as d=>exact h3 v (.fz as d) H' sm r q
section
variable {K:W.Frag} {H₀:Hp} {E:XK} {te ta tb:TE} {da db:DE} {dl:DL}
def Yp (da db:DE) (ex:DX) (δ:cD) (Q:List PyData->Prop):Prop:=da ex δ fun x=>db ex δ fun y=>∃ xs ys,x = .list xs/\y = .list ys/\dF xs = true/\dF ys = true/\xs.length + ys.length<=1000/\Q (xs ++ ys)
theorem Gc (h1:kO K H₀ E ta da) (h2:kO K H₀ E tb db):Cg K H₀ E (wP (Fw K) ta tb) (Yp da db):=fun ex δ σ G H Qd Q hx S q k =>
 h1 ex δ σ G H _ _ hx S q fun x d1 G1 H1 e1 x1 q1=>h2 ex δ σ G1 H1 _ _ hx (S.ext e1) q1 fun y d2 G2 H2 e2 y1 q2=>by
  obtain ⟨xs,ys,rfl,rfl,f1,f2,l,q3⟩:=q2;obtain ⟨a,vs,rfl,s1,v1⟩:=eB x1;obtain ⟨b,ws,rfl,s2,v2⟩:=eB y1;have ot:∀ c o,H2 c = some o->(∀ xs,o ≠ .lst xs)->G2 c = some o:=fun c o z n=>e2.s.other z n;refine ⟨a,b,vs,ws,rfl,rfl,e2.h.seq s1,s2,le_of_lt (bR (by rw [v1.len,v2.len]; exact l)),fun p hp=>?_⟩;obtain ⟨e3,g3⟩:=gI (xs:=vs ++ ws) e2.s hp;have e0:=e1.trans e2;exact k p _ _ _ _ (e0.trans e3) (e0.h.free hp) g3 bM (DVs.append (iF ot (bC e2.h v1) f1) (iF ot v2 f2)) q3
end
theorem boot_str:bootBuiltins "str" = some (.type "str"):=by decide +kernel
theorem yY {n:Nat} (h:n<=100000):n < sizeLine:=lt_of_le_of_lt h (by decide)
section
variable {X:Cx}
def aIm:V->Option Int->Option Int->Hp->VK->Prop:=fun x lo hi H Q=>∃ z,x = .str z/\z.length<=sizeLine/\Q (.str (PySem.Txt.slice z lo hi)) H
theorem wT:SlR X aIm:=by
 intro pins s σ H x v vl vu lo hi sl Q I rx hs pl pu h;obtain ⟨z,rfl,hz,q⟩:=h;obtain ⟨t,rfl⟩:=rx;refine ⟨"str",_,slot_str_getitem.lookup,typeIs_str _ _ _,?_⟩;cases pl with
 | none =>
  cases pu with
  | none=>exact wpAny_getItem_str_slice (l:=none) (u:=none) (st:=none) hs rfl (post_val_or_str ⟨le_trans (PySem.Txt.slice_le z none none) hz,fun t' k=>⟨.str _,H,I.tok _,⟨_,rfl⟩,q⟩⟩)
  | int j uj=>exact wpAny_getItem_str_slice (l:=none) (u:=some (j,uj)) (st:=none) hs rfl (post_val_or_str ⟨le_trans (PySem.Txt.slice_le z none (some j)) hz,fun t' k=>⟨.str _,H,I.tok _,⟨_,rfl⟩,q⟩⟩)
 | int i ui =>
  cases pu with
  | none=>exact wpAny_getItem_str_slice (l:=some (i,ui)) (u:=none) (st:=none) hs rfl (post_val_or_str ⟨le_trans (PySem.Txt.slice_le z (some i) none) hz,fun t' k=>⟨.str _,H,I.tok _,⟨_,rfl⟩,q⟩⟩)
  | int j uj=>exact wpAny_getItem_str_slice (l:=some (i,ui)) (u:=some (j,uj)) (st:=none) hs rfl (post_val_or_str ⟨le_trans (PySem.Txt.slice_le z (some i) (some j)) hz,fun t' k=>⟨.str _,H,I.tok _,⟨_,rfl⟩,q⟩⟩)
def rV:V->List V->Hp->VK->Prop:=fun x vs H Q=>∃ z y,x = .str z/\vs = [.str y]/\z.length<=sizeLine/\(y.length == 0) = false /\
 ∀ p,H p = none->Q (.ref p) (eT H p (.tup [.str (PySem.Txt.partition z y).1,.str (PySem.Txt.partition z y).2.1,.str (PySem.Txt.partition z y).2.2]))
theorem iL:MtR X "str.partition" rV:=by
 intro pins s σ H x xs v us Q I rx rs h;obtain ⟨z,y,rfl,rfl,hz,hy,q⟩:=h;obtain ⟨t,rfl⟩:=rx;obtain ⟨u,rfl,t',rfl⟩:=iR rs;refine call_meets F.slot_str_partition (typeIs_str _ _ _) F.entry_str_partition (F.args_str_partition_2 _ _) (meets_str_partition z y t t' hy hz) ?_;have q':=q _ (I.hok.fresh (le_refl _));unfold PySem.Txt.partition at q';revert q';cases Builtin.Str.occurrences z y 0 z.length 1 with
 | nil =>
  intro q'
  exact ⟨.ref s.heap.objs.size,_,I.laid (t':=s.toks + 1) (o:=.tup [.str z,.str Str.empty,.str Str.empty]) (fun b ob q=>get?_push_of_some _ q) (le_refl _)
   ⟨le_of_lt (bR (show 3<=1000 by decide)),_,.cons ⟨_,rfl⟩ (.cons ⟨_,rfl⟩ (.cons ⟨_,rfl⟩ .nil)),IsTup.new _ _⟩,rfl,q'⟩
 | cons i r =>
  intro q'
  exact ⟨.ref s.heap.objs.size,_,I.laid (t':=s.toks + 1 + 1) (o:=.tup [.str (Builtin.Str.strSub z 0 i),.str y,.str (Builtin.Str.strSub z (i + y.length) z.length)]) (fun b ob q=>get?_push_of_some _ q) (le_refl _)
   ⟨le_of_lt (bR (show 3<=1000 by decide)),_,.cons ⟨_,rfl⟩ (.cons ⟨_,rfl⟩ (.cons ⟨_,rfl⟩ .nil)),IsTup.new _ _⟩,rfl,q'⟩
theorem pK:iG X (.type "int") (fun xs H Q=>∃ z n,xs = [.str z]/\z.length<=640/\PySem.intText? z = some n/\Q (.int n) H):=by
 intro pins s σ H xs us Q I r h;obtain ⟨z,n,rfl,hl,hn,q⟩:=h;obtain ⟨u,rfl,t,rfl⟩:=iR r;exact W.KIN.call_text hn hl ⟨.int n,H,I.tok _,⟨_,rfl⟩,q⟩
def Its (z:Str):It:=⟨fun i _=>i < z.cps.size,fun i H x H'=>H' = H/\∃ c,z.cps[i]? = some c/\x = .str ⟨#[c]⟩,fun i _=>z.cps.size<=i⟩
theorem yZ {P:Program} {w:World} {K:W.Frag} {tg:Expr} (it:Addr) (z:Str) (t:Tok) (ty:String) (hty:ty = "str_ascii_iterator"\/ty = "str_iterator") :
  Turn P w K tg (Its z) [it] it (fun i h=>h.IsStrIter it ty z t i) where
 mem:=by simp
 obj:=fun i h st b hb=>by
  have e:b = it:=by simpa using hb
  subst e;obtain ⟨o,e,c,d⟩:=st;exact ⟨o,e,fun v z=>by rw [d] at z; cases z⟩
 keep:=fun i h h' st k=>let ⟨o,ho,r⟩:=st; ⟨o,k it (by simp) o ho,r⟩
 item:=by
  intro X hP hw hK hc i pins s σ H E I hf st hg;subst hP hw hK;obtain ⟨f0,f1,f2,f3,f4,f5⟩:=hf it (by simp);obtain ⟨c,hx⟩:∃ c,z.cps[i]? = some c:=⟨_,Array.getElem?_eq_getElem hg⟩;rcases hty with rfl | rfl
  ·refine wpAny_pyNext_ascii_item st hx fun h' st' sb=>?_;have I1:Inv X pins σ H { s with heap:=h',toks:=s.toks + 1 }:=I.turned (fun b o hb e=>(sb.2 b hb).trans e) f0 f1 f3 f4 f5;obtain ⟨o,e,c',d⟩:=id st';exact ⟨_,rfl,vL (s:={ s with heap:=h',toks:=s.toks + 1 }) e c' d (by decide) ⟨.str ⟨#[c]⟩,H,I1,⟨_,rfl⟩,⟨rfl,c,hx,rfl⟩,st',fun b hb=>(hf b hb).1⟩⟩
  ·refine wpAny_pyNext_wide_item st hx fun h' st' sb=>?_;have I1:Inv X pins σ H { s with heap:=h',toks:=s.toks + 1 }:=I.turned (fun b o hb e=>(sb.2 b hb).trans e) f0 f1 f3 f4 f5;obtain ⟨o,e,c',d⟩:=id st';exact ⟨_,rfl,vL (s:={ s with heap:=h',toks:=s.toks + 1 }) e c' d (by decide) ⟨.str ⟨#[c]⟩,H,I1,⟨_,rfl⟩,⟨rfl,c,hx,rfl⟩,st',fun b hb=>(hf b hb).1⟩⟩
 done:=by
  intro X hP hw hK hc i pins s σ H E I hf st hg;subst hP hw hK;obtain ⟨f0,f1,f2,f3,f4,f5⟩:=hf it (by simp);have hx:z.cps[i]? = none:=Array.getElem?_eq_none hg;rcases hty with rfl | rfl
  ·exact wpAny_pyNext_ascii_end (I.ok.hd hc) st hx fun h' eb=>⟨rfl,I.turned (t':=s.toks) (fun b o hb e=>eb b o hb e) f0 f1 f3 f4 f5⟩
  ·exact wpAny_pyNext_wide_end (I.ok.hd hc) st hx fun h' eb=>⟨rfl,I.turned (t':=s.toks) (fun b o hb e=>eb b o hb e) f0 f1 f3 f4 f5⟩
 self:=fun _ _ _ _ _ st h=>by
  rcases hty with rfl | rfl
  ·exact wpAny_pyIter_striter_ascii st h
  ·exact wpAny_pyIter_striter_wide st h
def aJw (tl:TE):TI:=fun σ H R=>tl σ H fun x H1=>∃ z,x = .str z/\R (Its z) H1
theorem Cw {tg l:Expr} {tl:TE} (hl:PE X l tl):PI X tg l (aJw tl):=by
 intro pins s σ H R I h;refine eU (hl pins s σ H _ I h) fun v s1 ⟨x,H1,I1,r1,q1⟩=>?_;obtain ⟨z,e,q⟩:=q1;subst e;obtain ⟨t,rfl⟩:=r1;have fp:∀ b∈[s1.heap.objs.size],kT X pins H1 b:=fun b hb=>by
  have e:b = s1.heap.objs.size:=by simpa using hb
  subst e;exact I1.fpOk (le_refl _) (I1.hok.fresh (le_refl _))
 cases ha:z.cps.all (· < 128)
 ·refine wpAny_pyIter_wide ha ?_;exact ⟨s1.heap.objs.size,[s1.heap.objs.size],_,_,H1,rfl,I1.kept (t':=s1.toks) fun b o e=>get?_push_of_some _ e,yZ _ z t _ (.inr rfl),⟨_,get?_push_size _ rfl,rfl,rfl⟩,fp,q⟩
 ·refine wpAny_pyIter_ascii ha ?_;exact ⟨s1.heap.objs.size,[s1.heap.objs.size],_,_,H1,rfl,I1.kept (t':=s1.toks) fun b o e=>get?_push_of_some _ e,yZ _ z t _ (.inl rfl),⟨_,get?_push_size _ rfl,rfl,rfl⟩,fp,q⟩
end
section
variable {K:W.Frag} {H₀:Hp} {E:XK} {te ta tb:TE} {de da db:DE} {t1 t2:TO} {d1 d2:DO}
def sgD (c:Nat):PyData:=.str ⟨#[c]⟩
def aFl (de:DE) (ex:DX) (δ:cD) (Q:List PyData->Prop):Prop:=de ex δ fun d=>match d with
 | .str z=>Q (z.cps.toList.map sgD)
 | _=>False
theorem Dw (h:gQ K H₀ E te de):IvS K H₀ E (aJw te) (aFl de):=fun ex δ σ G H Qd R hx S q k =>
 h ex δ σ G H _ _ hx S q fun v d G' H' e hd qd=>by
  cases d with
  | str z =>
   cases cX hd;refine ⟨z,rfl,k _ _ G' H' e (fun G2 H2 s1 s2 i=>⟨fun d hi=>?_,fun hi=>?_⟩) qd⟩
   ·rw [getElem?_map] at hi;obtain ⟨c,hc,rfl⟩:=Option.map_eq_some_iff.mp hi;rw [getElem?_toList] at hc;refine ⟨(Array.getElem?_eq_some_iff.mp hc).1,fun x H3 ⟨z1,c',h1,h2⟩=>?_⟩;subst z1;rw [hc] at h1;cases h1;subst h2;exact ⟨G2,.refl s2,.str _⟩
   ·show z.cps.size<=i;simpa using hi
  | _=>exact qd.elim
def aDr (x y:PyData) (Q:PyData->Prop):Prop:=match x,y with
 | .str z,.int i=>z.length<=100000/\∃ c,nI z.cps.toList i = some c/\Q (.str ⟨#[c]⟩)
 | _,_=>False
theorem aBt:Em K aIp aDr:=by
 intro G H x y dx dy Qd Q hx hy q k;unfold aDr at q;split at q
 ·cases cX hx; cases cF hy;obtain ⟨hl,c,hc,q⟩:=q;exact ⟨_,_,c,rfl,rfl,le_of_lt (yY hl),hc,k _ _ (.str _) q⟩
 ·exact q.elim
def Ps (x y:PyData) (Q:PyData->Prop):Prop:=match x,y with
 | .str a,.str b=>a.length + b.length<=100000/\Q (.str (a ++ b))
 | _,_=>False
theorem eZ:Em K (fun x y H Q=>∃ i j,x = .str i/\y = .str j/\i.length + j.length<=sizeLine/\Q (.str (i ++ j)) H) Ps:=by
 intro G H x y dx dy Qd Q hx hy q k;unfold Ps at q;split at q
 ·cases cX hx; cases cX hy;exact ⟨_,_,rfl,rfl,le_of_lt (yY q.1),k _ _ (.str _) q.2⟩
 ·exact q.elim
def Va (x y:PyData) (Q:PyData->Prop):Prop:=match x,y with
 | .str a,.str b=>Q (.bool (PySem.Txt.contains b a))
 | _,_=>False
def Pq (x y:PyData) (Q:PyData->Prop):Prop:=match x,y with
 | .str a,.str b=>Q (.bool (!PySem.Txt.contains b a))
 | _,_=>False
theorem Om:Em K (fun x y H Q=>∃ i j,x = .str i/\y = .str j/\Q (.bl (!(Builtin.Str.occurrences j i 0 j.length 1).isEmpty)) H) Va:=by
 intro G H x y dx dy Qd Q hx hy q k;unfold Va at q;split at q
 ·cases cX hx; cases cX hy;exact ⟨_,_,rfl,rfl,k _ _ (.bl _) q⟩
 ·exact q.elim
theorem uT:Em K (fun x y H Q=>∃ i j,x = .str i/\y = .str j/\Q (.bl (!(!(Builtin.Str.occurrences j i 0 j.length 1).isEmpty))) H) Pq:=by
 intro G H x y dx dy Qd Q hx hy q k;unfold Pq at q;split at q
 ·cases cX hx; cases cX hy;exact ⟨_,_,rfl,rfl,k _ _ (.bl _) q⟩
 ·exact q.elim
def Sq (ds:List PyData) (Q:PyData->Prop):Prop:=match ds with
 | [.str z]=>z.length<=100000/\Q (.int z.length)
 | _=>False
theorem mF:Sw K (fun xs H Q=>∃ z,xs = [.str z]/\z.length<=sizeLine/\Q (.int z.length) H) Sq:=by
 intro G H xs ds Qd Q hx q k;unfold Sq at q;split at q
 ·obtain ⟨x,rfl,h1⟩:=qG hx;cases cX h1;exact ⟨_,rfl,le_of_lt (yY q.1),k _ _ (.int _) q.2⟩
 ·exact q.elim
def Sr (ds:List PyData) (Q:PyData->Prop):Prop:=match ds with
 | [.str z]=>z.length<=640/\∃ n,PySem.intText? z = some n/\Q (.int n)
 | _=>False
theorem xA:Sw K (fun xs H Q=>∃ z n,xs = [.str z]/\z.length<=640/\PySem.intText? z = some n/\Q (.int n) H) Sr:=by
 intro G H xs ds Qd Q hx q k;unfold Sr at q;split at q
 ·obtain ⟨x,rfl,h1⟩:=qG hx;cases cX h1;obtain ⟨hl,n,hn,q⟩:=q;exact ⟨_,n,rfl,hl,hn,k _ _ (.int _) q⟩
 ·exact q.elim
def aFu (ds:List PyData) (Q:PyData->Prop):Prop:=match ds with
 | [.int i]=>i.natAbs.log2 < 1920/\Q (.str (toString i))
 | _=>False
theorem lG:Sw K (fun xs H Q=>∃ i,xs = [.int i]/\i.natAbs.log2 < 1920/\Q (.str (toString i)) H) aFu:=by
 intro G H xs ds Qd Q hx q k;unfold aFu at q;split at q
 ·obtain ⟨x,rfl,h1⟩:=qG hx;cases cF h1;exact ⟨_,rfl,q.1,k _ _ (.str _) q.2⟩
 ·exact q.elim
def aKk (de:DE) (d1 d2:DO) (ex:DX) (δ:cD) (Q:PyData->Prop):Prop:=de ex δ fun d=>d1 ex δ fun lo=>d2 ex δ fun hi=>match d with
 | .str z=>z.length<=100000/\Q (.str (PySem.Txt.slice z lo hi))
 | _=>False
theorem xX (ha:kO K H₀ E te de) (h1:OvP K H₀ E t1 d1) (h2:OvP K H₀ E t2 d2):gQ K H₀ E (tSl aIm te t1 t2) (aKk de d1 d2):=fun ex δ σ G H Qd Q hx S q k =>
 ha ex δ σ G H _ _ hx S q fun v d G1 H1 e1 hv q1=>h1 ex δ σ G1 H1 _ _ hx (S.ext e1) q1 fun lo G2 H2 e2 q2=>h2 ex δ σ G2 H2 _ _ hx (S.ext (e1.trans e2)) q2 fun hi G3 H3 e3 q3=>by
  split at q3
  ·cases cX hv;exact ⟨_,rfl,le_of_lt (yY q3.1),k _ _ G3 H3 ((e1.trans e2).trans e3) (.str _) q3.2⟩
  ·exact q3.elim
def Ru (da db:DE) (ex:DX) (δ:cD) (Q:PyData->Prop):Prop:=da ex δ fun x=>match x with
 | .str z=>db ex δ fun y=>match y with
  | .str y=>z.length<=100000/\(y.length == 0) = false/\Q (.tuple [.str (PySem.Txt.partition z y).1,.str (PySem.Txt.partition z y).2.1,.str (PySem.Txt.partition z y).2.2])
  | _=>False
 | _=>False
theorem oG (h1:kO K H₀ E ta da) (h2:kO K H₀ E tb db):gQ K H₀ E (Tx K "str" rV ta (eF tb iS)) (Ru da db):=fun ex δ σ G H Qd Q hx S q k =>
 h1 ex δ σ G H _ _ hx S q fun x d1 G1 H1 e1 hx1 q1=>by
  split at q1
  ·rename_i z
   cases cX hx1;refine ⟨rfl,h2 ex δ σ G1 H1 _ _ hx (S.ext e1) q1 fun y d2 G2 H2 e2 hy q2=>?_⟩;split at q2
   ·rename_i y2
    cases cX hy;refine ⟨_,_,rfl,rfl,le_of_lt (yY q2.1),q2.2.1,fun p hp=>?_⟩;have e4:=oF (xs:=[.str (PySem.Txt.partition z y2).1,.str (PySem.Txt.partition z y2).2.1,.str (PySem.Txt.partition z y2).2.2]) e2.s hp;exact k _ _ _ _ ((e1.trans e2).trans e4) (.tup (SqT.of bM) (.cons (.str _) (.cons (.str _) (.cons (.str _) .nil)))) q2.2.2
   ·exact q2.elim
  ·exact q1.elim
end
section
variable {K:W.Frag} {G H G' H':Hp}
theorem Rws.len:∀ {bs:List Addr} {dss:List (List PyData)},Rws K G H bs dss->bs.length = dss.length
 | _,_,.nil=>rfl
 | _,_,.cons _ _ r=>congrArg (· + 1) r.len
theorem Rws.at:∀ {bs:List Addr} {dss:List (List PyData)} {j:Nat} {ds:List PyData},Rws K G H bs dss->dss[j]? = some ds->∃ b vs,bs[j]? = some b/\H b = some (.lst vs)/\DVs K G vs ds
 | _,_,_,_,.nil,e=>by simp at e
 | _,_,0,_,.cons h1 h2 _,e=>by
  simp at e;subst e;exact ⟨_,_,rfl,h1,h2⟩
 | _,_,j + 1,_,.cons _ _ r,e=>by
  obtain ⟨b,vs,e1,h⟩:=r.at (j:=j) (by simpa using e);exact ⟨b,vs,by simpa using e1,h⟩
end
structure Gst (K:W.Frag) (H₀ G:Hp) (t:Nat) (δ:cD) (σ:L2.St) (H:Hp) (a:Addr) (bs:List Addr) (dss:List (List PyData)):Prop where
 un:Sees K H₀ G (put none t δ) σ H
 dt:∀ i s,slot δ i = some s->(∃ d,s = .dat d)\/∃ xs c,s = .own xs/\σ[i]? = some (some (.ref c))/\c ∉ a :: bs
 sl:slot δ t = some (.dat (.list (dss.map PyData.list)))
 pl:σ[t]? = some (some (.ref a))
 ga:∀ c∈a :: bs,G c = none
 nd:(a :: bs).Nodup
 ha:H a = some (.lst (bs.map V.ref))
 rw:Rws K G H bs dss
def Tb (K:W.Frag) (H₀ G:Hp) (t:Nat) (δ:cD) (σ:L2.St) (H:Hp):Prop:=∃ a bs dss,Gst K H₀ G t δ σ H a bs dss
structure LkG (K:W.Frag) (H₀ G:Hp) (t:Nat) (e:DEnds) (D:Ends):Prop where
 nx:∀ δ σ G' H,Same G G'->Tb K H₀ G' t δ σ H->e.nx δ->D.nx σ H
 rt:∀ v s H,Same H₀ H->oP K H₀ H v s->e.rt s->D.rt v H
 bk:∀ δ σ G' H,Same G G'->Tb K H₀ G' t δ σ H->e.bk δ->D.bk σ H
 ct:∀ δ σ G' H,Same G G'->Tb K H₀ G' t δ σ H->e.ct δ->D.ct σ H
section
variable {K:W.Frag} {H₀:Hp} {E:XK} {te1 te2 te3 te4:TE} {dl d1 d2 d4:DL} {d3:DE}
structure RwI (K:W.Frag) (H₀:Hp) (tb:Nat) (δ:cD) (σ:L2.St) (G H:Hp) (a:Addr) (cs:List Addr) (dss:List (List PyData)):Prop where
 sl:slot δ tb = some (.own (dss.map PyData.list))
 rw:Rws K G G cs dss
 pl:σ[tb]? = some (some (.ref a))
 ha:H a = some (.lst (cs.map V.ref))
 nd:cs.Nodup
 fr:∀ c∈cs,H₀ c = none/\∃ zs,G c = some (.lst zs)
end
section
variable {K:W.Frag} {H₀:Hp} {E:XK} {t:TA} {teA teB teC teD teX:TE} {dl dA:DL} {dB dC:DX->cD->(List (List PyData)->Prop)->Prop} {dD dX:DE} {tz:TS} {dz:DS} {w:DW}
theorem Sees.nil {G H:Hp} {δ:cD} {σ σ':L2.St} (S:Sees K H₀ G δ σ H):Sees K H₀ G [] σ' H:=⟨S.old,S.sub,zero_le _,(fun i s h=>by cases h),(fun i j xs ys a h=>by cases h)⟩
end
theorem uE:∀ {zs:List Str} {its:List Value},Vals (zs.map V.str) its->∃ ps:List (Str × Tok),ps.map (·.1) = zs/\its = strValues ps
 | [],_,.nil=>⟨[],rfl,rfl⟩
 | z :: zs,_,.cons h t=>by
  obtain ⟨tk,rfl⟩:=h;obtain ⟨ps,e1,e2⟩:=uE t;exact ⟨(z,tk) :: ps,by rw [map_cons,e1],by rw [e2]; rfl⟩
theorem uG:∀ (tk:Nat) (zs:List Str),Vals (zs.map V.str) (strsFrom tk zs)
 | _,[]=>.nil
 | tk,z :: zs=>.cons ⟨tk,rfl⟩ (uG (tk + 1) zs)
section
variable {X:Cx}
def Ou (K:W.Frag):V->List V->Hp->VK->Prop:=fun x vs H Q=>∃ (sep:Str) (l:Addr) (zs:List Str),x = .str sep/\vs = [.ref l]/\SqL K H l (zs.map V.str)/\Builtin.Str.tooLong (zs.toArray.foldl (· + ·.length + sep.length) 0) = false/\Q (.str (Txt.join sep zs)) H
theorem Vg:MtR X "str.join" (Ou X.K):=by
 intro pins s σ H x xs v us Q I rx rs h;obtain ⟨sep,l,zs,rfl,rfl,hS,hl,q⟩:=h;obtain ⟨t,rfl⟩:=rx;obtain ⟨u,rfl,ru⟩:=iR rs;cases ru;obtain ⟨its,r,pl,hz⟩:=I.list hS;obtain ⟨ps,e1,e2⟩:=uE r;subst e1 e2;refine call_meets F.slot_str_join (typeIs_str _ _ _) F.entry_str_join (F.args_str_join_2 _ _) (meets_str_join_list sep t l ps hl) ⟨pl.isList,?_⟩;have hlen:=joinFit_length hl
 match ps,q,hlen with
 | [],q,hlen=>exact ⟨hlen,.str _,H,I.tok _,⟨_,rfl⟩,q⟩
 | [p],q,hlen=>exact ⟨.str _,H,I,⟨_,rfl⟩,q⟩
 | p :: p2 :: ps,q,hlen=>exact ⟨hlen,.str _,H,I.tok _,⟨_,rfl⟩,q⟩
def Ot:V->List V->Hp->VK->Prop:=fun x vs H Q=>∃ z y,x = .str z/\vs = [.str y]/\z.length<=sizeLine/\(y.length == 0) = false/\(Txt.split z y).length<=sizeLine/\∀ l,H l = none->Q (.ref l) (eT H l (.lst ((Txt.split z y).map V.str)))
theorem sM:MtR X "str.split" Ot:=by
 intro pins s σ H x xs v us Q I rx rs h;obtain ⟨z,y,rfl,rfl,hz,hy,hn,q⟩:=h;obtain ⟨t,rfl⟩:=rx;obtain ⟨u,rfl,t',rfl⟩:=iR rs;have self:Txt.split z y = [z]->EP X pins σ Q (.ref s.heap.objs.size) { s with heap:=s.heap.push { cls:=.type "list",data:=.seq [Value.str z t].toArray } }:=fun e=>by
  rw [e] at q;refine ⟨.ref s.heap.objs.size,_,I.laid (t':=s.toks) (o:=.lst [.str z]) (fun b ob q=>get?_push_of_some _ q) (le_refl _) ?_,rfl,q _ (I.hok.fresh (le_refl _))⟩;exact ⟨le_of_lt (bR (show 1<=1000 by decide)),_,0,.cons ⟨_,rfl⟩ .nil,get?_push_size _ rfl⟩
 cases h1:(decide (z.length < y.length) || decide (Builtin.Str.strKind z < Builtin.Str.strKind y)) with
 | true =>
  refine call_meets F.slot_str_split (typeIs_str _ _ _) F.entry_str_split (F.args_str_split_2 _ _) (meets_str_split_cannot_occur z y t t' h1) (self ?_);unfold Txt.split;rw [if_pos h1]
 | false =>
  cases h2:(Builtin.Str.occurrences z y 0 z.length (z.length + 1)).isEmpty with
  | true =>
   refine call_meets F.slot_str_split (typeIs_str _ _ _) F.entry_str_split (F.args_str_split_2 _ _) (meets_str_split_not_found z y t t' h1 hy h2) (self ?_);unfold Txt.split;rw [if_neg (by rw [h1]; decide),if_pos h2]
  | false =>
   have e:Txt.split z y = Builtin.Str.partsBetween z (Builtin.Str.occurrences z y 0 z.length (z.length + 1)) y.length:=by
    unfold Txt.split;rw [if_neg (by rw [h1]; decide),if_neg (by rw [h2]; decide)]
   rw [e] at q hn;refine call_meets F.slot_str_split (typeIs_str _ _ _) F.entry_str_split (F.args_str_split_2 _ _) (meets_str_split_sep z y t t' h1 hy h2 hz hn) ?_;refine ⟨.ref s.heap.objs.size,_,I.laid (t':=s.toks + _) (o:=.lst ((Builtin.Str.partsBetween z (Builtin.Str.occurrences z y 0 z.length (z.length + 1)) y.length).map V.str)) (fun b ob q=>get?_push_of_some _ q) (le_refl _) ?_,rfl,q _ (I.hok.fresh (le_refl _))⟩;exact ⟨by rw [length_map]; exact hn,_,0,uG _ _,get?_push_size _ rfl⟩
end
theorem lM {X:Cx} {K:W.Frag} (hK:X.K = K):MtR X "str.join" (Ou K):=by subst hK; exact Vg
theorem Kf {sep:Str} {zs:List Str} (h:(zs.map (·.length)).sum + zs.length * sep.length<=100000):Builtin.Str.tooLong (zs.toArray.foldl (· + ·.length + sep.length) 0) = false:=by
 rw [StrLaws.joinTotal];unfold Builtin.Str.tooLong;exact decide_eq_false (by have:=yY h; omega)
theorem Bp {K:W.Frag} {H:Hp}:∀ {vs:List V} {zs:List Str},DVs K H vs (zs.map PyData.str)->vs = zs.map V.str
 | _,[],.nil=>rfl
 | _,z :: zs,.cons h t=>by
  cases cX h;rw [Bp t];rfl
theorem zL {K:W.Frag} {H:Hp}:∀ zs:List Str,DVs K H (zs.map V.str) (zs.map PyData.str)
 | []=>.nil
 | z :: zs=>.cons (.str z) (zL zs)
section
variable {K:W.Frag} {H₀:Hp} {E:XK} {ta tb:TE} {da db:DE} {dl:DL}
def Yk (da:DE) (dl:DL) (ex:DX) (δ:cD) (Q:PyData->Prop):Prop:=da ex δ fun x=>match x with
 | .str sep=>dl ex δ fun ds=>∃ zs:List Str,ds = zs.map PyData.str/\(zs.map (·.length)).sum + zs.length * sep.length<=100000/\Q (.str (Txt.join sep zs))
 | _=>False
theorem oH (h1:kO K H₀ E ta da) (h2:Tf K H₀ E tb dl):gQ K H₀ E (Tx K "str" (Ou K) ta (eF tb iS)) (Yk da dl):=fun ex δ σ G H Qd Q hx S q k =>
 h1 ex δ σ G H _ _ hx S q fun x d1 G1 H1 e1 hx1 q1=>by
  split at q1
  ·cases cX hx1;refine ⟨rfl,h2 ex δ σ G1 H1 _ _ hx (S.ext e1) q1 fun a vs ds G2 H2 e2 hl hd q2=>?_⟩;obtain ⟨zs,rfl,hn,q3⟩:=q2;have:=Bp hd;subst this;exact ⟨_,a,zs,rfl,rfl,hl,Kf hn,k _ _ G2 H2 (e1.trans e2) (.str _) q3⟩
  ·exact q1.elim
def Rq (da db:DE) (ex:DX) (δ:cD) (Q:List PyData->Prop):Prop:=da ex δ fun x=>match x with
 | .str z=>db ex δ fun y=>match y with
  | .str y=>z.length<=90000/\(y.length == 0) = false/\Q ((Txt.split z y).map PyData.str)
  | _=>False
 | _=>False
theorem sG (h1:kO K H₀ E ta da) (h2:kO K H₀ E tb db):Cg K H₀ E (Tx K "str" Ot ta (eF tb iS)) (Rq da db):=fun ex δ σ G H Qd Q hx S q k =>
 h1 ex δ σ G H _ _ hx S q fun x d1 G1 H1 e1 hx1 q1=>by
  split at q1
  ·rename_i z
   cases cX hx1;refine ⟨rfl,h2 ex δ σ G1 H1 _ _ hx (S.ext e1) q1 fun y d2 G2 H2 e2 hy q2=>?_⟩;split at q2
   ·rename_i y2
    cases cX hy;have hl:=split_le z y2;refine ⟨_,_,rfl,rfl,le_of_lt (yY (by omega)),q2.2.1,le_of_lt (yY (by omega)),fun p hp=>?_⟩;obtain ⟨e3,hg⟩:=gI (xs:=(Txt.split z y2).map V.str) e2.s hp;have e0:=e1.trans e2;exact k p _ _ _ _ (e0.trans e3) (e0.h.free hp) hg bM (zL _) q2.2.2
   ·exact q2.elim
  ·exact q1.elim
end
end Dl
namespace Lx
open PySem PySem.Spec PyProof.Rows L2
def ExcG (h₀ h:Heap) (H:Hp) (x:Addr) (C:Value):Prop :=
 ∃ oe vs,h.get? x = some oe/\oe.cls = C/\oe.data = .fields vs/\H x = none/\h₀.get? x = none /\
  (vs[1]? = some Value.none\/∃ T oT ts,vs[1]? = some (Value.ref T)/\T ≠ x/\h.get? T = some oT/\oT.data = .fields ts/\3 < ts.size/\H T = none/\h₀.get? T = none)
def ExcF (h₀ h:Heap) (H:Hp) (x:Addr) (C:Value):Prop :=
 ∃ oe vs T oT ts,h.get? x = some oe/\oe.cls = C/\oe.data = .fields vs/\H x = none/\h₀.get? x = none /\
  vs[1]? = some (Value.ref T)/\T ≠ x/\h.get? T = some oT/\oT.data = .fields ts/\3 < ts.size/\H T = none/\h₀.get? T = none
def KeptO (h₀:Heap) (H:Hp) (fs:List Addr) (h h':Heap):Prop :=
 (∀ b o,h.get? b = some o->(h₀.get? b ≠ none\/H b ≠ none)->b ∉ fs->h'.get? b = some o)/\∀ b o,h.get? b = some o->b∈fs->∃ sl,h'.get? b = some { o with slots:=sl }
theorem KeptO.trans {h₀ h h1 h2:Heap} {H:Hp} {fs:List Addr} (x:KeptO h₀ H fs h h1) (y:KeptO h₀ H fs h1 h2):KeptO h₀ H fs h h2 :=
 ⟨fun b o e n f=>y.1 b o (x.1 b o e n f) n f,fun b o e f=>by
  obtain ⟨s1,e1⟩:=x.2 b o e f
  obtain ⟨s2,e2⟩:=y.2 b _ e1 f
  exact ⟨s2,e2⟩⟩
end Lx
namespace Dl
open PySem PySem.Spec PyProof.Rows L2 Lx
mutual
def ndD:PyData->Bool
 | .dict _=>false
 | .list ds=>Ah ds
 | .tuple ds=>Ah ds
 | _=>true
def Ah:List PyData->Bool
 | []=>true
 | d :: ds=>ndD d && Ah ds
end
mutual
theorem aEu {K:W.Frag} {G H:Hp} (s:∀ b o,H b = some o->(∀ kvs,o ≠ .dK kvs)->G b = some o):∀ {x:V} {d:PyData},DV K H x d->ndD d = true->DV K G x d
 | _,_,.non,_=>.non
 | _,_,.bl b,_=>.bl b
 | _,_,.int i,_=>.int i
 | _,_,.str x,_=>.str x
 | _,_,.tup h hs,f=>.tup (by
   rcases h with (h | ⟨o,h⟩) | h
   ·exact .inl (.inl (s _ _ h (by intro xs z; cases z)))
   ·exact .inl (.inr ⟨o,s _ _ h (by intro xs z; cases z)⟩)
   ·exact .inr h) (qZ s hs f)
 | _,_,.lst h hs,f=>.lst (by
   rcases h with (h | ⟨o,h⟩) | h
   ·exact .inl (.inl (s _ _ h (by intro xs z; cases z)))
   ·exact .inl (.inr ⟨o,s _ _ h (by intro xs z; cases z)⟩)
   ·exact .inr h) (qZ s hs f)
 | _,_,.dct h,f=>by cases f
theorem qZ {K:W.Frag} {G H:Hp} (s:∀ b o,H b = some o->(∀ kvs,o ≠ .dK kvs)->G b = some o):∀ {xs:List V} {ds:List PyData},DVs K H xs ds->Ah ds = true->DVs K G xs ds
 | _,_,.nil,_=>.nil
 | _,_,.cons h t,f=>by
  simp only [Ah,and_eq_true] at f;exact .cons (aEu s h f.1) (qZ s t f.2)
end
abbrev DKs (K:W.Frag) (G:Hp) (kvs:List (gY × V)) (kv:List (Str × PyData)):Prop:=Paired (fun (p:gY × V) (q:Str × PyData)=>p.1 = Sum.inr q.1/\DV K G p.2 q.2) kvs kv
theorem DKs.same {K:W.Frag} {G G':Hp} (s:Same G G') {kvs:List (gY × V)} {kv:List (Str × PyData)} (h:DKs K G kvs kv):DKs K G' kvs kv:=Paired.mapP h fun _ _ z=>⟨z.1,cS s z.2⟩
def dskP (C:Addr) (f:Str) (kv:List (Str × PyData)):W.Frag->Hp->V->Prop:=fun K G v=>∃ p dx d kvs,v = .ref p/\G p = some (.ins C dx [(f,V.ref d)])/\G d = some (.dK kvs)/\DKs K G kvs kv
theorem dskP.same {C:Addr} {f:Str} {kv:List (Str × PyData)} {K:W.Frag} {G G':Hp} {v:V} (s:Same G G') (h:dskP C f kv K G v):dskP C f kv K G' v:=by
 obtain ⟨p,dx,d,kvs,h1,h2,h3,h4⟩:=h;exact ⟨p,dx,d,kvs,h1,s _ _ h2,s _ _ h3,h4.same s⟩
theorem dskP.sl {C:Addr} {f:Str} {kv:List (Str × PyData)} {K:W.Frag} {G H:Hp} {v:V} (h:dskP C f kv K G v):SlIs K G H v (.mon (dskP C f kv)):=fun _ s=>h.same s
def isP (p:Addr):W.Frag->Hp->V->Prop:=fun _ _ v=>v = .ref p
def aLf:W.Frag->Hp->V->Prop:=fun _ _ _=>True
theorem rC {K:W.Frag} {G:Hp} {x:Str} {d:PyData}:∀ {kvs:List (gY × V)} {kv:List (Str × PyData)},DKs K G kvs kv->kv.lookup x = some d->∃ v,nO kvs (Sum.inr x:gY) = some v/\DV K G v d
 | _,_,.nil,h=>by simp at h
 | p :: kvs,q :: kv,.cons hp t,h=>by
  obtain ⟨k,v⟩:=p;obtain ⟨y,e⟩:=q;obtain ⟨h1,h2⟩:=hp;dsimp only at h1 h2;subst h1;by_cases hx:x = y
  ·subst hx;rw [lookup_cons,beq_self_eq_true] at h;cases h;exact ⟨v,nN rfl,h2⟩
  ·rw [lookup_cons,beq_eq_false_iff_ne.mpr hx] at h;obtain ⟨w,h3,h4⟩:=rC t h;exact ⟨w,by rw [kX (by intro z; injection z with z; exact hx z.symm)]; exact h3,h4⟩
def Cl (C:Addr) (f:Str):Sp:=fun vs H Q _=>∃ (p dx:Addr),vs = [.ref p]/\H p = some (.ins C dx [])/\∀ (d:Addr) (H':Hp),H d = none->H' p = some (.ins C dx [(f,V.ref d)])->H' d = some (.dK [])->(∀ b o,H b = some o->b ≠ p->H' b = some o)->Q .non H'
abbrev DM:=List PyData->(Str->List PyData->Prop)->Prop
def zP (K:W.Frag) (C:Addr) (f:Str) (L:DM):Sp:=fun vs H Q _=>∃ (p dx d:Addr) (vs':List V) (ds:List PyData) (R:Str->List PyData->Prop),vs = .ref p :: vs'/\H p = some (.ins C dx [(f,V.ref d)])/\H d = some (.dK [])/\DVs K H vs' ds/\L ds R /\
 ∀ (x:Str) (ms:List PyData) (a:Addr) (us:List V) (H':Hp),R x ms->dF ms = true->(∀ b o,b ≠ d->H b = some o->H' b = some o)->H' d = some (.dK [(Sum.inr x,V.ref a)])->H a = none->H' a = some (.lst us)->DVs K H' us ms->Q (.str "ok") H'
abbrev DWK:=List (Str × PyData)->DW
def Mf (K:W.Frag) (C:Addr) (f:Str) (w:DWK):Sp:=fun vs H Q E=>∃ (v0:V) (vs':List V) (kv:List (Str × PyData)) (ds:List PyData) (Qd:Sl->Prop) (Ed:DX),vs = v0 :: vs'/\dskP C f kv K H v0/\DVs K H vs' ds/\w kv ds Qd Ed /\
 (∀ v s H',Same H H'->oP K H H' v s->Qd s->Q v H')/\(∀ C H',Same H H'->Ed C->E (.ref C) none H')
section
variable {K:W.Frag} {H₀:Hp} {E:XK} {te ta tb:TE} {da db de:DE} {dl:DL} {t:TA} {g:TG} {dg:DG} {ns:List Nat} {ts tz:TS} {ds dz:DS} {C:Addr} {f m:Str} {w:DWK}
def Rw (C:Addr) (f:Str) (i:Nat) (w:DWK) (dl:DL) (ex:DX) (δ:cD) (Q:PyData->Prop):Prop:=∃ kv,slot δ i = some (.mon (dskP C f kv))/\dl ex δ fun ds=>w kv ds (vQ Q) fun _=>False
theorem xO {f m:Str} (h:f ≠ m) {v:V}:([(f,v)]:List (Str × V)).lookup m = none:=by
 rw [lookup_cons,beq_eq_false_iff_ne.mpr (Ne.symm h)];rfl
theorem sZ (i:Nat) (hf:f ≠ m) (ha:Cf K H₀ E t dl):gQ K H₀ E (zI C m (Mf K C f w) [] E0 (iB i) t) (Rw C f i w dl):=fun ex δ σ G H Qd Q hx S ⟨kv,hs,q⟩ k=>by
 obtain ⟨v,h1,h2⟩:=S.has i _ hs;obtain ⟨p,dx,d,kvs,rfl,g2,g3,g4⟩:=h2 G (Same.refl _);refine ⟨_,h1,p,dx,_,rfl,S.sub.same _ _ g2,xO hf,ha ex δ σ G H _ _ hx S q fun vs ds G1 H1 e1 hd q1=>?_⟩;refine ⟨.ref p,vs,kv,ds,_,fun _=>False,by rw [append_nil],(dskP.same (e1.g.trans e1.s.same) ⟨p,dx,d,kvs,rfl,g2,g3,g4⟩),hd,q1,fun v s H2 sm r qs=>?_,fun C H2 sm hc=>hc.elim⟩;obtain ⟨d2,G',e2,hd2,q2⟩:=rT e1.s sm r qs;exact k v d2 G' H2 (e1.trans e2) hd2 q2
def Sd (C:Addr) (f:Str) (i:Nat) (w:DWK) (dl:DL) (dg:DG) (e:DEnds) (δ:cD):Prop:=∃ kv,slot δ i = some (.mon (dskP C f kv))/\dl e.ex δ fun ds=>pS δ = true/\w kv ds (Su fun d=>dg d δ e.nx) fun _=>False
theorem Lz (i:Nat) (hf:f ≠ m) (ha:Cf K H₀ E t dl) (hg:Tg K H₀ g ns dg):jN K H₀ E (qC (zI C m (Mf K C f w) [] E0 (iB i) t) g) (Sd C f i w dl dg):=fun δ σ G H e D hx S ⟨kv,hs,q⟩ L=>by
 obtain ⟨v,h1,h2⟩:=S.has i _ hs;obtain ⟨p,dx,d,kvs,rfl,g2,g3,g4⟩:=h2 G (Same.refl _);refine ⟨_,h1,p,dx,_,rfl,S.sub.same _ _ g2,xO hf,ha e.ex δ σ G H _ _ hx S q fun vs ds G1 H1 e1 hd ⟨no,q1⟩=>?_⟩;refine ⟨.ref p,vs,kv,ds,_,fun _=>False,by rw [append_nil],(dskP.same (e1.g.trans e1.s.same) ⟨p,dx,d,kvs,rfl,g2,g3,g4⟩),hd,q1,fun v s H2 sm r qs=>?_,fun C H2 sm hc=>hc.elim⟩;obtain ⟨d2,hd2,q2⟩:=wZ r qs;exact hg v d2 δ σ H2 H2 _ _ ((S.ext e1).all2 no sm) hd2 q2 fun δ' σ' S' _ q'=>L.nx δ' σ' H2 H2 ((S.ext e1).sub.same.trans sm |> fun z=>e1.g.trans z) S' q'
theorem pN {H:Hp} {N:List Str} {x:Str} {v0:V} {φ:W.Frag->Hp->V->Prop} {vs:List V} {ds:List PyData} (h0:∀ G',Same H G'->φ K G' v0) (h:DVs K H vs ds):Sees K H H (some (.mon φ) :: jG N ds) (L2.start (x :: N) (v0 :: vs)) H:=by
 have S:=rO (K:=K) (N:=N) h;have e:L2.start (x :: N) (v0 :: vs) = some v0 :: L2.start N vs:=by
  simp [L2.start]
 refine ⟨S.old,S.sub,?_,fun i s hi=>?_,fun i j xs ys a hi hj=>?_⟩
 ·rw [e];exact Nat.succ_le_succ S.len
 ·rw [e];cases i with
  | zero=>cases hi; exact ⟨v0,rfl,h0⟩
  | succ i=>exact S.has i s hi
 ·intro e1 e2;rw [e] at e1 e2;cases i with
  | zero=>cases hi
  | succ i =>
   cases j with
   | zero=>cases hj
   | succ j=>exact congrArg (· + 1) (S.sep i j xs ys a hi hj e1 e2)
def Ry (C:Addr) (f:Str) (i:Nat) (L:DM) (de:DE) (dz:DS) (e:DEnds) (δ:cD):Prop:=i < δ.length/\de e.ex (put (some (.mon aLf)) i δ) fun d=>L [d] fun x ms=>dz e (put (some (.mon (dskP C f [(x,.list ms)]))) i δ)
theorem Ly {L:DM} (i:Nat) (hf:f ≠ m) (ha:kO K H₀ E te de) (hz:jN K H₀ E tz dz) :
  jN K H₀ E (wO (qC (Xg C (Cl C f) [] E0 iS) (mQ i)) (wO (Jb (Lq (wP rNe (zI C m (zP K C f L) [] E0 (iB i) (eF te iS)) (tC (.str "ok")))) ts zH) tz)) (Ry C f i L de dz):=fun δ σ G H e D hx S ⟨hil,q⟩ LK=>by
 intro x dx hxn hdn hne;refine ⟨x,dx,rfl,bM,fun d H1 hd0 h1 h2 h3=>⟨rfl,?_⟩⟩;have xd:x ≠ d:=by
  rintro rfl;rw [bM] at hd0; cases hd0
 have hdn':H d = none:=by
  have:eT (eT H dx (.own x)) x (.ins C dx []) d = none:=hd0;rw [bJ (Ne.symm xd)] at this;by_cases z:d = dx
  ·rw [z,bM] at this; cases this
  ·rw [bJ z] at this; exact this
 have s1:Same H H1:=fun b o eb=>h3 b o (by rw [bJ (bS eb hxn),bJ (bS eb hdn)]; exact eb) (bS eb hxn);have e1:=lR S.sub s1;have S1:=(S.ext e1).setS (v:=.ref x) (s:=.mon aLf) i (fun _ _=>trivial) fun _ _ _ _ z=>nomatch z;have s0:(σ.set i (some (V.ref x)))[i]? = some (some (.ref x)):=by
  rw [getElem?_set_self];exact lt_of_lt_of_le hil S.len
 refine ⟨_,s0,x,dx,_,rfl,h1,xO hf,ha e.ex _ _ _ H1 _ _ hx S1 q fun v d2 G2 H2 e2 hv q2=>?_⟩;have dd2:H2 d = some (.dK []):=e2.h _ _ h2;refine ⟨x,dx,d,[v],[d2],_,rfl,e2.h _ _ h1,dd2,.cons hv .nil,q2,fun y ms a us H3 hR hfl k3 kd ka km kv=>?_⟩;refine ⟨rfl,?_⟩;refine ⟨false,by simp,Ql ?_⟩;have e12:=e1.trans e2;have nd:∀ {b:Addr} {o:HO},H b = some o->b ≠ d:=fun eb=>bS eb hdn';have n2:∀ {b:Addr},H2 b = none->H b = none:=fun {b} z=>by
  cases q:H b with
  | none=>rfl
  | some o=>rw [e12.h b o q] at z; cases z
 let G3:Hp:=fun b=>if b = d then H3 d else match H2 b with
  | none=>H3 b
  | some _=>G2 b
 have gd:G3 d = H3 d:=if_pos rfl;have gn:∀ {b:Addr},b ≠ d->H2 b = none->G3 b = H3 b:=fun {b} z q=>by
  show (if b = d then H3 d else match H2 b with | none=>H3 b | some _=>G2 b) = H3 b;rw [if_neg z,q]
 have gs:∀ {b:Addr} {o:HO},b ≠ d->H2 b = some o->G3 b = G2 b:=fun {b o} z q=>by
  show (if b = d then H3 d else match H2 b with | none=>H3 b | some _=>G2 b) = G2 b;rw [if_neg z,q]
 have sub3:Sub G3 H3:=fun b=>by
  by_cases z:b = d
  ·subst z; exact .inl gd
  ·cases q:H2 b with
   | none=>exact .inl (gn z q)
   | some o =>
    have k:=k3 b o z q;rcases e2.s b with w | ⟨w,xs,w2⟩
    ·exact .inl (by rw [gs z q,w,q,k])
    ·rw [q] at w2;cases w2;exact .inr ⟨by rw [gs z q]; exact w,xs,k⟩
 have E3:Ext G H G3 H3:=by
  refine ⟨fun b o eb=>?_,fun b o eb=>k3 b o (nd eb) (e12.h b o eb),sub3,fun b o eb=>?_⟩
  ·have hb:=S.sub.same b o eb;rw [gs (nd hb) (e12.h b o hb)];exact e12.g b o eb
  ·by_cases z:b = d
   ·exact .inr (by rw [z]; exact hdn')
   ·cases q:H2 b with
    | none=>exact .inr (n2 q)
    | some u =>
     rw [gs z q] at eb;exact e12.n b o eb
 have ad:a ≠ d:=by
  rintro rfl;rw [dd2] at ka; cases ka
 have P3:dskP C f [(y,.list ms)] K G3 (.ref x):=by
  refine ⟨x,dx,d,[(Sum.inr y,V.ref a)],rfl,?_,by rw [gd]; exact kd,.cons ⟨rfl,.lst (SqL.of (by rw [gn ad ka]; exact km)) (iF (fun b o q n=>sub3.other q n) kv hfl)⟩ .nil⟩;rw [gs xd (e2.h _ _ h1)];refine e2.g _ _ ?_;show (match H x with | none=>H1 x | some _=>G x) = _;rw [hxn];exact h1
 exact hz _ _ G3 H3 e D hx ((S.ext E3).setS i P3.sl fun _ _ _ _ z=>nomatch z) hR (LK.mono E3.g)
end
theorem hu1 {n m:Nat} (h:n + 64 < m):n + 1 < m:=by omega
abbrev Td:=List (Str × V × PyData)
def tR (w:World) (K:W.Frag) (g:Addr) (tb:Td):Prop:=(g == sysModules) = false/\∃ (es:Array DictEntry) (n:Nat),K.lookup g = some ⟨.type "dict",none,.dict es n,#[]⟩/\W.KeysLit w.params es.toList /\
 Paired (fun (e:DictEntry) (p:Str × V × PyData)=>(∃ t,e.key = .str p.1 t)/\RelV p.2.1 e.val) es.toList tb/\∀ p∈tb,∀ H,DV K H p.2.1 p.2.2
theorem rH {x:Str}:∀ {es:List DictEntry} {tb:Td},Paired (fun (e:DictEntry) (p:Str × V × PyData)=>(∃ t,e.key = .str p.1 t)/\RelV p.2.1 e.val) es tb->RelO ((tb.lookup x).map (·.1)) ((es.find? fun e=>Value.isStrOf x e.key).map (·.val))
 | _,_,.nil=>trivial
 | e :: es,(y,v,d) :: tb,.cons ⟨⟨t,ht⟩,hv⟩ r=>by
  have ih:=rH (x:=x) r;dsimp only at ht hv;by_cases h:x = y
  ·subst h;rw [lookup_cons,beq_self_eq_true,List.find?_cons_of_pos (by rw [ht]; simp [Value.isStrOf])];exact hv
  ·rw [lookup_cons,beq_eq_false_iff_ne.mpr h,List.find?_cons_of_neg (by rw [ht]; simp [Value.isStrOf]; exact fun z=>h z.symm)];exact ih
theorem sQ {α:Type} {x:Str} {y:α}:∀ {l:List (Str × α)},l.lookup x = some y->(x,y)∈l
 | [],h=>by simp at h
 | (z,u) :: l,h=>by
  by_cases e:x = z
  ·subst e;rw [lookup_cons,beq_self_eq_true] at h;cases h;exact mem_cons_self
  ·rw [lookup_cons,beq_eq_false_iff_ne.mpr e] at h;exact mem_cons_of_mem _ (sQ h)
section
variable {X:Cx} {g:Addr} {tb:Td}
def uU (g:Addr) (tb:Td):R2:=fun x y H Q=>∃ s,x = .str s/\y = .ref g/\Q (.bl (!(tb.lookup s).isSome)) H
def Ov (g:Addr) (tb:Td):R2:=fun x y H Q=>∃ s p,x = .ref g/\y = .str s/\tb.lookup s = some p/\Q p.1 H
theorem Ab {K:W.Frag} {w:World} (hK:X.K = K) (hw:X.w = w) (c:tR w K g tb):mL X (compareOp .NotIn) (uU g tb):=by
 rintro pins s σ H x y v u Q I rx ry ⟨a,rfl,rfl,q⟩;subst hK;subst hw;obtain ⟨t,rfl⟩:=(show ∃ t,v = Value.str a t from rx);cases (show u = Value.ref g from ry);obtain ⟨lo,es,n,hl,hk,hp,_⟩:=c;have r:=rH (x:=a) hp;refine wpAny_notIn_of (strKind_is X.prog X.w a t) lo (W.mapOf_K (prog:=X.prog) I.kIn hl hk) ?_;have e:=RelO.isSome_eq r;rw [isSome_map] at e;have e2:findBy Value.isStrOf es a = (es.toList.find? fun e=>Value.isStrOf a e.key).map (·.val):=by
  obtain ⟨l⟩:=es;unfold findBy;rw [List.find?_toArray]
 rw [e2,<- e];exact ⟨.bl _,H,I.tok _,rfl,q⟩
theorem aEh {K:W.Frag} {w:World} (hK:X.K = K) (hw:X.w = w) (c:tR w K g tb):IxR X (Ov g tb):=by
 rintro value slice pins s σ H x y v u Q I rx ry ⟨a,p,rfl,rfl,hp0,q⟩ hs;subst hK;subst hw;cases (show v = Value.ref g from rx);obtain ⟨t,rfl⟩:=(show ∃ t,u = Value.str a t from ry);obtain ⟨lo,es,n,hl,hk,hp,_⟩:=c;have r:=rH (x:=a) hp;rw [hp0] at r;have hm:=W.mapOf_K (prog:=X.prog) I.kIn hl hk;have e2:findBy Value.isStrOf es a = (es.toList.find? fun e=>Value.isStrOf a e.key).map (·.val):=by
  obtain ⟨l⟩:=es;unfold findBy;rw [List.find?_toArray]
 obtain ⟨w',hw,rw'⟩:=RelO.some_of r;exact tail_any hm.typeIs slot_dict_getitem.lookup (wpAny_getItem_of (strKind_is X.prog X.w a t) hm (e2.trans hw) ⟨p.1,H,I.tok _,rw',q⟩) hs
end
section
variable {K:W.Frag} {w:World} {H₀:Hp} {E:XK} {te ta tb:TE} {da db de:DE} {g:Addr} {T:Td}
def vY (T:Td) (da:DE) (ex:DX) (δ:cD) (Q:PyData->Prop):Prop:=da ex δ fun x=>match x with
 | .str s=>Q (.bool (!(T.lookup s).isSome))
 | _=>False
theorem Bm (ha:kO K H₀ E ta da):gQ K H₀ E (wP (uU g T) ta (tC (.ref g))) (vY T da):=fun ex δ σ G H Qd Q hx S q k =>
 ha ex δ σ G H _ _ hx S q fun x dx G1 H1 e1 h1 q1=>by
  cases dx with
  | str s=>cases cX h1; exact ⟨_,rfl,rfl,k _ _ G1 H1 e1 (.bl _) q1⟩
  | _=>exact q1.elim
def Rx (T:Td) (da:DE) (ex:DX) (δ:cD) (Q:PyData->Prop):Prop:=da ex δ fun x=>match x with
 | .str s=>∃ p,T.lookup s = some p/\Q p.2
 | _=>False
theorem Ra (c:tR w K g T) (ha:kO K H₀ E ta da):gQ K H₀ E (wP (Ov g T) (tC (.ref g)) ta) (Rx T da):=fun ex δ σ G H Qd Q hx S q k =>
 ha ex δ σ G H _ _ hx S q fun x dx G1 H1 e1 h1 q1=>by
  cases dx with
  | str s =>
   cases cX h1;obtain ⟨p,hp,q1⟩:=q1;obtain ⟨_,_,_,_,_,_,hv⟩:=c;exact ⟨s,p,rfl,rfl,hp,k _ _ G1 H1 e1 (hv _ (sQ hp) G1) q1⟩
  | _=>exact q1.elim
end
section
variable {P:Program} {w:World} {K:W.Frag} {mg:Str->Option Value} {base:Heap} {C:Addr} {f:Str}
theorem okR {x qual s0:Str} {st:Stmt} {a:Addr} {fd:FuncData} {N ps:List Str} {k:Nat} {W:DWK} (F:Fun K x qual st a fd) (S:FnScope (s0 :: N) ps (aR st)) (len:∀ kv ds Q E,W kv ds Q E->ds.length + 1 = ps.length)
  (hbody:∀ (cdv:Value) (A:Around) (outer:List Env) (s:Shared) (H:Hp) (E:XK),Room k (A.deeper (envOfC qual (aR st) s.heap.objs.size a cdv)) ->
   ∃ t,Ii (pH (eP P w) P w K mg base (s0 :: N) qual (aR st) a cdv A outer s H E) (fR st) t/\∃ d,jN K H E t d/\∀ kv ds Q X,W kv ds Q X->d { nx:=fun _=>Q (.dat .none),rt:=Q,ex:=X } (some (.mon (dskP C f kv)) :: jG N ds)) :
  FnOk P w K mg base (eP P w) (k + 1) a fd ps (Mf K C f W):=by
 refine okE F S (fun vs H Q E h=>?_) (fun cdv A outer s H vs Q E hr h=>?_)
 ·obtain ⟨v0,vs',kv,ds,Qd,Ed,rfl,h0,h1,h2,_⟩:=h;rw [length_cons,h1.len]; exact len _ _ _ _ h2
 ·obtain ⟨v0,vs',kv,ds,Qd,Ed,rfl,h0,h1,h2,h3,h4⟩:=h;obtain ⟨t,ht,d,hd,hq⟩:=hbody cdv A outer s H E hr;refine ⟨t,ht,hd _ _ H H { nx:=fun _=>Qd (.dat .none),rt:=Qd,ex:=Ed } _ h4 (pN (fun G' sm=>h0.same sm) h1) (hq kv ds Qd Ed h2) ⟨fun δ σ G H' _ S q=>?_,fun v s H' sm r q=>h3 v s H' sm r q,fun _ _ _ _ _ _ z=>z.elim,fun _ _ _ _ _ _ z=>z.elim⟩⟩;exact h3 .non (.dat .none) H' S.oldH .non q
def Hr (C:Addr) (f:Str) (i:Nat) (da:DE) (ex:DX) (δ:cD) (Q:Bool->Prop):Prop:=∃ kv,slot δ i = some (.mon (dskP C f kv))/\da ex δ fun x=>match x with
 | .str s=>Q (!(kv.lookup s).isSome)
 | _=>False
theorem uI {K:W.Frag} {G:Hp} {x:Str}:∀ {kvs:List (gY × V)} {kv:List (Str × PyData)},DKs K G kvs kv->kv.lookup x = none->nO kvs (Sum.inr x:gY) = none
 | _,_,.nil,h=>rfl
 | p :: kvs,q :: kv,.cons hp t,h=>by
  obtain ⟨k,v⟩:=p;obtain ⟨y,e⟩:=q;obtain ⟨h1,h2⟩:=hp;dsimp only at h1 h2;subst h1;by_cases hx:x = y
  ·subst hx;rw [lookup_cons,beq_self_eq_true] at h;cases h
  ·rw [lookup_cons,beq_eq_false_iff_ne.mpr hx] at h;rw [kX (by intro z; injection z with z; exact hx z.symm)];exact uI t h
theorem yT {K:W.Frag} {G:Hp} {x:Str} {kvs:List (gY × V)} {kv:List (Str × PyData)} (h:DKs K G kvs kv):(nO kvs (Sum.inr x:gY)).isSome = (kv.lookup x).isSome:=by
 cases e:kv.lookup x with
 | none=>rw [uI h e]; rfl
 | some d=>obtain ⟨v,h1,_⟩:=rC h e; rw [h1]; rfl
variable {H₀:Hp} {E:XK} {te ta tb:TE} {da db de:DE} {dl:DL} {t:TA} {tt:TT} {dt:DT} {ts tz:TS} {ds dz:DS}
theorem Ix (i:Nat) (hc:Cls K C) (hn:NoAttr K C f) (ha:kO K H₀ E ta da):yO K H₀ E (tB (Fc ta (Tw K (iB i) f))) (Hr C f i da):=fun ex δ σ G H Qd Q hx S ⟨kv,hs,q⟩ k =>
 ha ex δ σ G H _ _ hx S q fun x dx G1 H1 e1 h1 q1=>by
  obtain ⟨v,hv,h2⟩:=S.has i _ hs;obtain ⟨p,dx0,d,kvs,rfl,g2,g3,g4⟩:=h2 G1 e1.g;cases dx with
  | str s =>
   cases cX h1;refine ⟨_,hv,p,C,dx0,_,_,rfl,e1.s.same _ _ g2,hc,hn,by rw [lookup_cons,beq_self_eq_true],d,_,rfl,DGet.k (k:=Sum.inr s) (e1.s.same _ _ g3),_,rfl,k _ G1 H1 e1 ?_⟩;rw [yT g4];exact q1
  | _=>exact q1.elim
def Yl (C:Addr) (f:Str) (i:Nat) (da:DE) (ex:DX) (δ:cD) (Q:PyData->Prop):Prop:=∃ kv,slot δ i = some (.mon (dskP C f kv))/\da ex δ fun x=>match x with
 | .str s=>∃ d,kv.lookup s = some d/\Q d
 | _=>False
theorem Wr (i:Nat) (hc:Cls K C) (hn:NoAttr K C f) (ha:kO K H₀ E ta da):gQ K H₀ E (Xh (Tw K (iB i) f) ta) (Yl C f i da):=fun ex δ σ G H Qd Q hx S ⟨kv,hs,q⟩ k=>by
 obtain ⟨v,hv,h2⟩:=S.has i _ hs;obtain ⟨p,dx0,d,kvs,rfl,g2,g3,g4⟩:=h2 G (Same.refl _);refine ⟨_,hv,p,C,dx0,_,_,rfl,S.sub.same _ _ g2,hc,hn,by rw [lookup_cons,beq_self_eq_true],?_⟩;refine ha ex δ σ G H _ _ hx S q fun x dx G1 H1 e1 h1 q1=>?_;cases dx with
 | str s =>
  cases cX h1;obtain ⟨r,hr,q1⟩:=q1;obtain ⟨u,hu,du⟩:=rC g4 hr;exact ⟨d,u,rfl,hu ▸ DGet.k (k:=Sum.inr s) (e1.h _ _ (S.sub.same _ _ g3)),k u r G1 H1 e1 (cS e1.g du) q1⟩
 | _=>exact q1.elim
structure EndM (K:W.Frag) (H₀:Hp) (d:Addr) (R:Str->List PyData->Prop) (D:Ends):Prop where
 rt:∀ (x:Str) (ms:List PyData) (a:Addr) (us:List V) (H':Hp),R x ms->dF ms = true->(∀ b o,b ≠ d->H₀ b = some o->H' b = some o)->H' d = some (.dK [(Sum.inr x,V.ref a)])->H₀ a = none->H' a = some (.lst us)->DVs K H' us ms->D.rt (.str "ok") H'
abbrev DMS:=(Str->List PyData->Prop)->DX->cD->Prop
def Wz (K:W.Frag) (H₀:Hp) (E:XK) (C:Addr) (f:Str) (p dx d:Addr) (ts:TS) (dm:DMS):Prop:=∀ R ex δ σ G H D,kU H₀ E ex->Sees K H₀ G δ σ H->slot δ 0 = some (.mon (isP p))->H₀ p = some (.ins C dx [(f,V.ref d)])->H₀ d = some (.dK [])->dm R ex δ->EndM K H₀ d R D->ts D σ H
variable {p dx d:Addr} {dm dm2:DMS}
def aEw (_R:Str->List PyData->Prop) (_ex:DX) (_δ:cD):Prop:=False
def Yb (ds:DS) (dm:DMS) (R:Str->List PyData->Prop) (ex:DX) (δ:cD):Prop:=ds { nx:=fun δ'=>slot δ' 0 = slot δ 0/\dm R ex δ',rt:=fun _=>False,ex:=ex } δ
theorem Pu (h1:jN K H₀ E ts ds) (h2:Wz K H₀ E C f p dx d tz dm):Wz K H₀ E C f p dx d (wO ts tz) (Yb ds dm):=fun R ex δ σ G H D hx S h0 hp hd q L =>
 h1 δ σ G H _ { D with nx:=tz D } hx S q ⟨fun δ' σ' G' H' s S' q'=>h2 R ex δ' σ' G' H' D hx S' (q'.1.trans h0) hp hd q'.2 L,fun _ _ _ _ _ z=>z.elim,fun _ _ _ _ _ _ z=>z.elim,fun _ _ _ _ _ _ z=>z.elim⟩
def aEx (dt:DT) (dm dm2:DMS) (R:Str->List PyData->Prop) (ex:DX) (δ:cD):Prop:=dt ex δ fun b=>if b = true then dm R ex δ else dm2 R ex δ
theorem aDu {tw:TS} (h:yO K H₀ E tt dt) (h2:Wz K H₀ E C f p dx d tz dm2):Wz K H₀ E C f p dx d (wO (Jb tt tw zH) tz) (aEx dt aEw dm2):=fun R ex δ σ G H D hx S h0 hp hd q L =>
 h ex δ σ G H _ _ hx S q fun b G1 H1 e1 q1=>by
  cases b with
  | true=>exact q1.elim
  | false=>exact Ql (h2 R ex δ σ G1 H1 D hx (S.ext e1) h0 hp hd q1 L)
theorem aDt {tw:TS} (h:yO K H₀ E tt dt) (h1:Wz K H₀ E C f p dx d ts dm):Wz K H₀ E C f p dx d (wO (Jb tt ts tw) tz) (aEx dt dm aEw):=fun R ex δ σ G H D hx S h0 hp hd q L =>
 h ex δ σ G H _ _ hx S q fun b G1 H1 e1 q1=>by
  cases b with
  | true=>exact aEl (h1 R ex δ σ G1 H1 _ hx (S.ext e1) h0 hp hd q1 ⟨L.rt⟩)
  | false=>exact q1.elim
def Rj (i:Nat) (dl:DL) (R:Str->List PyData->Prop) (ex:DX) (δ:cD):Prop:=∃ x,slot δ i = some (.dat (.str x))/\dl ex δ fun ms=>dF ms = true/\Ah ms = true/\R x ms
theorem Ve (i:Nat) (hc:Cls K C) (hn:NoAttr K C f) (ho:Cg K H₀ E te dl):Wz K H₀ E C f p dx d (wO (Xk (Tw K (iB 0) f) (iB i) te) (zG (tC (.str "ok")))) (Rj i dl):=fun R ex δ σ G H D hx S h0 hp hd ⟨x,hi,q⟩ L =>
 ho ex δ σ G H _ _ hx S q fun a us ms G1 H1 e1 hn1 hg hh hD ⟨fl,nd,hR⟩=>by
  obtain ⟨v,hv,hv2⟩:=S.has 0 _ h0;cases (show v = V.ref p from hv2 G (Same.refl _));obtain ⟨y,hy,hy2⟩:=S.has i _ hi;cases cX hy2;have o1:=(S.ext e1).oldH;have hd1:=o1 _ _ hd;have ad:a ≠ d:=by
   rintro rfl;rw [hd1] at hh; cases hh
  refine ⟨_,hv,p,C,dx,_,_,rfl,o1 _ _ hp,hc,hn,by rw [lookup_cons,beq_self_eq_true],_,hy,d,_,rfl,DPut.k (k:=Sum.inr x) hd1 (by decide),?_⟩;refine L.rt x ms a us _ hR fl (fun b o nb eb=>?_) ?_ (S.oldH.free hn1) ?_ ?_
  ·rw [bJ nb]; exact o1 _ _ eb
  ·rw [bM]; rfl
  ·rw [bJ ad]; exact hh
  ·refine qZ (fun b o eb no=>?_) (bC e1.s.same hD) nd;have:b ≠ d:=by
    rintro rfl;rw [hd1] at eb;cases eb;exact no _ rfl
   rw [bJ this]; exact eb
def Rk (L:DM) (dl:DL) (R:Str->List PyData->Prop) (ex:DX) (δ:cD):Prop:=dl ex δ fun ds=>L ds R
theorem Vf {L:DM} {m:Str} (hf:f ≠ m) (ha:Cf K H₀ E t dl):Wz K H₀ E C f p dx d (zG (zI C m (zP K C f L) [] E0 (iB 0) t)) (Rk L dl):=fun R ex δ σ G H D hx S h0 hp hd q LK=>by
 obtain ⟨v,hv,hv2⟩:=S.has 0 _ h0;cases (show v = V.ref p from hv2 G (Same.refl _));refine ⟨_,hv,p,dx,_,rfl,S.oldH _ _ hp,xO hf,ha ex δ σ G H _ _ hx S q fun vs ds G1 H1 e1 hv1 q1=>?_⟩;have o1:=(S.ext e1).oldH;refine ⟨p,dx,d,vs,ds,R,by rw [append_nil],o1 _ _ hp,o1 _ _ hd,hv1,q1,fun x ms a us H' hR fl k1 k2 k3 k4 k5=>?_⟩;exact LK.rt x ms a us H' hR fl (fun b o nb eb=>k1 b o nb (o1 _ _ eb)) k2 (o1.free k3) k4 k5
theorem okM {x qual s0:Str} {st:Stmt} {a:Addr} {fd:FuncData} {N ps:List Str} {k:Nat} {L:DM} (F:Fun K x qual st a fd) (S:FnScope (s0 :: N) ps (aR st)) (len:∀ ds R,L ds R->ds.length + 1 = ps.length)
  (hbody:∀ (cdv:Value) (A:Around) (outer:List Env) (s:Shared) (H:Hp) (E:XK),Room k (A.deeper (envOfC qual (aR st) s.heap.objs.size a cdv)) ->
   ∃ t,Ii (pH (eP P w) P w K mg base (s0 :: N) qual (aR st) a cdv A outer s H E) (fR st) t/\∃ dm,(∀ p dx d,Wz K H E C f p dx d t dm)/\∀ p ds R,L ds R->dm R (fun _=>False) (some (.mon (isP p)) :: jG N ds)) :
  FnOk P w K mg base (eP P w) (k + 1) a fd ps (zP K C f L):=by
 refine okE F S (fun vs H Q E h=>?_) (fun cdv A outer s H vs Q E hr h=>?_)
 ·obtain ⟨p,dx,d,vs',ds,R,rfl,_,_,h1,h2,_⟩:=h;rw [length_cons,h1.len]; exact len _ _ h2
 ·obtain ⟨p,dx,d,vs',ds,R,rfl,hp,hd,h1,h2,h3⟩:=h;obtain ⟨t,ht,dm,hdm,hq⟩:=hbody cdv A outer s H E hr;refine ⟨t,ht,hdm p dx d R (fun _=>False) _ _ H H _ (fun _ _ _ z=>z.elim) (pN (φ:=isP p) (fun _ _=>rfl) h1) rfl hp hd (hq p ds R h2) ⟨fun x ms a us H' hR fl k1 k2 k3 k4 k5=>h3 x ms a us H' hR fl k1 k2 k3 k4 k5⟩⟩
theorem aDq {x qual:Str} {st:Stmt} {a:Addr} {fd:FuncData} {ps:List Str} {k:Nat} (F:Fun K x qual st a fd) (S:FnScope ["self"] ps (aR st)) (hl:ps.length = 1) (hc:Cls K C) (hn:NoAttr K C f)
  (hbody:∀ (cdv:Value) (A:Around) (outer:List Env) (s:Shared) (H:Hp) (E:XK),Room k (A.deeper (envOfC qual (aR st) s.heap.objs.size a cdv)) ->
   Ii (pH (eP P w) P w K mg base ["self"] qual (aR st) a cdv A outer s H E) (fR st) (aIi K (iB 0) Ls f)) :
  FnOk P w K mg base (eP P w) (k + 1) a fd ps (Cl C f):=by
 refine okE F S (fun vs H Q E h=>?_) (fun cdv A outer s H vs Q E hr h=>?_)
 ·obtain ⟨p,dx,rfl,_⟩:=h;rw [hl]; rfl
 ·obtain ⟨p,dx,rfl,hp,h3⟩:=h;refine ⟨_,hbody cdv A outer s H E hr,fun d hd=>?_⟩;have pd:p ≠ d:=fun z=>by rw [z,hd] at hp; cases hp
  refine ⟨_,rfl,p,C,dx,[],rfl,by rw [bJ pd]; exact hp,hc,hn,by decide,?_⟩;refine h3 d _ hd (by rw [bM]; rfl) (by rw [bJ (Ne.symm pd),bM]) fun b o eb nb=>?_;rw [bJ nb,bJ (bS eb hd)];exact eb
end
section
open PySem.AutoSeq1 (wpAny_loadPart')
open PySem.MeetsSeq
theorem aIk (a:Addr) (zs:Array Value) (m:Nat) (u:Value) (f:Value->Bool) (j:Nat) (jl:j < zs.size) (yes:f zs[j] = true) (k:Nat) (sz:zs.size<=sizeLine) :
  ∀ i:Nat,j - i = k->i<=j->(∀ t (tl:t < zs.size),i<=t->t < j->f zs[t] = false)->Meets (Builtin.«list.remove.loop» ⟨[.ref a,u,rawInt i],[]⟩)
   (fun B W s=>s.heap.get? a = some { cls:=.type "list",dict:=none,data:=.seq zs m,slots:=#[] }/\(∀ y,y∈zs->SeqAt.EqAt B.in1 s y u (f y))/\W (.ok (.ret .none)) { s with heap:=s.heap.update a (Obj.mapSeq fun q=>q.eraseIdxIfInBounds j) }):=by
 induction k with
 | zero =>
  intro i e1 e2 nos pg wd B W s hy;obtain ⟨hp,g,d,tk,os⟩:=s;obtain ⟨g1,g2,g3⟩:=hy;obtain rfl:i = j:=by omega
  wp_walk using wpAny_loadPart' g1
  have at1:zs[((i:Nat):Int).toNat]? = some zs[i]:=by simp [jl]
  rw [at1];refine wpAny_bind (g2 _ (Array.getElem_mem jl) pg wd _ _ ?_);rw [yes];have sz2:(zs.eraseIdxIfInBounds i).size<=sizeLine + 1:=le_trans (size_erased zs _) (Nat.le_succ_of_le sz)
  wp_walk using (wpAny_updateSeq g1 rfl (hz:=sz) (_hz':=sz2)),wpAny_loadPart' g1
  simpa using g3
 | succ k ih =>
  intro i e1 e2 nos pg wd B W s hy;obtain ⟨hp,g,d,tk,os⟩:=s;obtain ⟨g1,g2,g3⟩:=hy;have il:i < zs.size:=by omega
  wp_walk using wpAny_loadPart' g1
  have at1:zs[((i:Nat):Int).toNat]? = some zs[i]:=by simp [il]
  have nx:((i:Int) + 1) = ((i + 1:Nat):Int):=by omega
  rw [at1];refine wpAny_bind (g2 _ (Array.getElem_mem il) pg wd _ _ ?_);rw [nos i il (le_refl _) (by omega)]
  wp_walk
  rw [nx];refine ⟨plainId_quiet plain_remove_loop _,codeAny_builtin entry_remove_loop ?_⟩;rw [Around.under_plainId plain_remove_loop _];exact ih (i + 1) (by omega) (by omega) (fun t tl h1 h2=>nos t tl (by omega) h2) pg wd B W _ ⟨g1,g2,g3⟩
theorem aIj (a:Addr) (zs:Array Value) (m:Nat) (u:Value) (f:Value->Bool) (j:Nat) (jl:j < zs.size) (yes:f zs[j] = true) (sz:zs.size<=sizeLine) (nos:∀ t (tl:t < zs.size),t < j->f zs[t] = false) :
  Meets (Builtin.«list.remove» ⟨[.ref a,u],[]⟩)
   (fun B W s=>s.heap.get? a = some { cls:=.type "list",dict:=none,data:=.seq zs m,slots:=#[] }/\(∀ y,y∈zs->SeqAt.EqAt B.in1 s y u (f y))/\W (.ok (.ret .none)) { s with heap:=s.heap.update a (Obj.mapSeq fun q=>q.eraseIdxIfInBounds j) }):=by
 intro pg wd B W s hy;obtain ⟨hp,g,d,tk,os⟩:=s;obtain ⟨g1,g2,g3⟩:=hy
 wp_walk using wpAny_loadPart' g1
 refine ⟨plainId_quiet plain_remove_loop _,codeAny_builtin entry_remove_loop ?_⟩;rw [Around.under_plainId plain_remove_loop _];exact aIk a zs m u f j jl yes _ sz 0 rfl (zero_le _) (fun t tl _ h2=>nos t tl h2) pg wd B W _ ⟨g1,g2,g3⟩
end
section
variable {X:Cx}
def xB (K:W.Frag):V->List V->Hp->VK->Prop:=fun x vs H Q=>∃ (α:Type) (E:Enc α) (l:Addr) (y:V) (ws:List V) (q:α) (qs:List α) (j:Nat),x = .ref l/\vs = [y]/\H l = some (.lst ws)/\DVs K H ws (qs.map E.d)/\DV K H y (E.d q)/\qs[j]? = some q/\(∀ m,m < j->qs[m]? ≠ some q)/\Q .non (eT H l (.lst (ws.eraseIdx j)))
theorem Ju (hu:X.A.units + 64 < cLine):Xa X "list.remove" (xB X.K):=by
 intro pins s σ H x vs v us Q I rx rv h;obtain ⟨α,E,l,y,ws,q,qs,j,rfl,rfl,hS,hD,hy,hj,hno,k⟩:=h;cases rx;obtain ⟨u,rfl,ru⟩:=rv.one;obtain ⟨z,its0,n,r,hl0,ho⟩:=I.lstM hS;obtain ⟨as,hR⟩:=jU I hD r;obtain ⟨its,hits⟩:∃ its:Array Value,its0.toArray = its:=⟨_,rfl⟩;have htl:its.toList = its0:=by rw [<- hits]
 rw [<- htl] at hR;obtain ⟨bs,hY⟩:=fG I hy ru;have hl:its.toList.length = qs.length:=by rw [kE hR,length_map]
 have hsz:its.size = qs.length:=by rw [<- length_toList]; exact hl
 have rd:∀ m (hm:m < its.size),∃ p bs,qs[m]? = some p/\Reads s.heap its[m] (E.d p) bs:=fun m hm=>by
  obtain ⟨d,bs,h1,h2⟩:=lF (j:=m) hR (by rw [getElem?_toList,Array.getElem?_eq_getElem hm]);rw [getElem?_map] at h1;cases e:qs[m]? with
  | none=>rw [e] at h1; cases h1
  | some p =>
   rw [e] at h1;cases h1;exact ⟨p,bs,rfl,h2⟩
 have hjl:j < its.size:=by rw [hsz]; exact (List.getElem?_eq_some_iff.mp hj).1
 have key:∃ e:Value->Bool,∀ z,e z = true ↔ ∃ bs,Reads s.heap z (E.d q) bs :=
  ⟨fun z=>@decide (∃ bs,Reads s.heap z (E.d q) bs) (Classical.propDecidable _),fun z=>by simp⟩
 obtain ⟨e,he⟩:=key;have ev:∀ m (hm:m < its.size) p,qs[m]? = some p->(e its[m] = true ↔ p = q):=fun m hm p hp=>by
  obtain ⟨p',bs',h1,h2⟩:=rd m hm;rw [hp] at h1;cases h1;rw [he];constructor
  ·rintro ⟨bs2,h3⟩;have h4:=(Reads.unique h2 _ _ h3).1;exact (E.eqv p q).mp (by rw [h4]; exact (E.eqv q q).mpr rfl)
  ·rintro rfl;exact ⟨_,h2⟩
 have szl:its.size<=sizeLine:=by rw [<- hits,size_toArray]; omega
 rw [hits] at ho;refine call_meets F.slot_list_remove ⟨_,ho,rfl⟩ F.entry_list_remove (F.args_list_remove_2 _ _)
  (aIj l its n u e j hjl ((ev j hjl q hj).mpr rfl) szl (fun m hm hlt=>?_)) ⟨ho,fun z hz=>?_,?_⟩
 ·obtain ⟨p,bs',h1,h2⟩:=rd m hm;have:=hno m hlt;rw [h1] at this;exact Bool.eq_false_iff.mpr fun w=>this (by rw [(ev m hm p h1).mp w])
 ·obtain ⟨m,hm,rfl⟩:=Array.getElem_of_mem hz;obtain ⟨p,bs',h1,h2⟩:=rd m hm
  have h3:=SeqAt.eqAt_reads (E.d p) (E.d q) (X.A.in1) s its[m] u _ _ h2 hY (E.lay p) (E.lay q) (by
   have:=E.depth p
   have:=E.small
   have e1:(X.A.in1).units = X.A.units + 1:=rfl
   rw [e1]
   have e2:min (E.d p).depth (E.d q).depth<=(E.d p).depth:=Nat.min_le_left _ _
   omega)
  have e4:PyData.eqv (E.d p) (E.d q) = e its[m]:=by
   rw [Bool.eq_iff_iff,E.eqv,ev m hm p h1]
  rw [e4] at h3;exact h3
 ·rw [<- hits] at ho;refine ⟨.non,_,I.lset (its':=its0.eraseIdx j) hS ho ?_ (r.eraseIdx j) ?_,rfl,k⟩
  ·show its0.toArray.eraseIdxIfInBounds j = (its0.eraseIdx j).toArray;rw [List.eraseIdxIfInBounds_toArray]
  ·have:=List.length_eraseIdx_le ws j;omega
end
theorem Dm {X:Cx} {K:W.Frag} (hK:X.K = K) (hu:X.A.units + 64 < cLine):Xa X "list.remove" (xB K):=by subst hK; exact Ju hu
theorem Gz {α β:Type} (f:α->β):∀ (xs:List α) (j:Nat),(xs.eraseIdx j).map f = (xs.map f).eraseIdx j
 | [],_=>rfl
 | _ :: _,0=>rfl
 | x :: xs,j + 1=>by simp only [eraseIdx_cons_succ,map_cons,Gz f xs j]
theorem vW {K:W.Frag} {H:Hp}:∀ {xs:List V} {ds:List PyData} (j:Nat),DVs K H xs ds->DVs K H (xs.eraseIdx j) (ds.eraseIdx j)
 | _,_,_,.nil=>by simp only [List.eraseIdx_nil]; exact .nil
 | _,_,0,.cons _ t=>t
 | _,_,j + 1,.cons r t=>.cons r (vW j t)
section
variable {K:W.Frag} {H₀:Hp} {E:XK} {te:TE} {de:DE}
def yC (i:Nat) (de:DE) (e:DEnds) (δ:cD):Prop:=match slot δ i with
 | some (.own xs)=>de e.ex δ fun d=>∃ (α:Type) (N:Enc α) (q:α) (qs:List α) (j:Nat),xs = qs.map N.d/\d = N.d q/\qs[j]? = some q/\(∀ m,m < j->qs[m]? ≠ some q)/\e.nx (put (some (.own ((qs.eraseIdx j).map N.d))) i δ)
 | _=>False
theorem Jd (i:Nat) (h:kO K H₀ E te de):jN K H₀ E (uN (Tx K "list" (xB K) (iB i) (eF te iS))) (yC i de):=fun δ σ G H e D hx S q L=>by
 unfold yC at q;split at q
 ·rename_i xs hs
  obtain ⟨a,vs,h1,h2,h3,h4⟩:=S.ownAt hs;refine ⟨_,h1,.inl ⟨rfl,_,SqL.of h3⟩,h e.ex δ σ G H _ _ hx S q fun y d G2 H2 e2 hy q2=>?_⟩;obtain ⟨α,N,q0,qs,j,rfl,rfl,hj,hno,q3⟩:=q2;have S2:=S.ext e2;obtain ⟨a',vs',h1',h2',h3',h4'⟩:=S2.ownAt hs;rw [h1] at h1';cases h1';refine ⟨α,N,a,y,vs',q0,qs,j,rfl,rfl,h3',bC e2.s.same h4',hy,hj,hno,?_⟩;have e5:(qs.eraseIdx j).map N.d = (qs.map N.d).eraseIdx j:=Gz N.d qs j;refine L.nx _ _ G2 _ e2.g (S2.updO hs h1 ?_) q3;rw [e5];exact vW j h4'
 ·exact q.elim
variable {wi:TI} {dl:DL} {g g2:TG} {dg dg2:DG} {ns ns2:List Nat} {tt:TT} {dt:DT}
theorem Ty (hi:IvE K H₀ E wi dl) (hg:Tg K H₀ g ns dg) (ht:yO K H₀ E tt dt) (he:gQ K H₀ E te de) (hg2:Tg K H₀ g2 ns2 dg2):jN K H₀ E (Zt wi g (Jb tt (qC te g2) zH)) (Wn dl dg (aFh dt (aFk de dg2) Rv)):=fun δ σ G H e D hx S q L =>
 hi e.ex δ σ G H _ _ hx S q fun J xs G1 H1 e1 it ⟨I,i0,step,fin⟩=>by
  refine ⟨fun i m σ H=>m = xs.length - i/\i<=xs.length/\∃ δ' G',Ext G1 H1 G' H/\Sees K H₀ G' δ' σ H/\I i δ',⟨_,rfl,zero_le _,δ,G1,Ext.refl e1.s,S.ext e1,i0⟩,?_⟩;rintro i m σ' H' ⟨rfl,hil,δ',G',sg,S',hI⟩;obtain ⟨t1,t2⟩:=it G' H' sg i;by_cases hlt:i < xs.length
  ·obtain ⟨g1,gn⟩:=t1 _ (getElem?_eq_getElem hlt);refine .inr ⟨g1,fun σ H=>∃ δ' G',Ext G1 H1 G' H/\Sees K H₀ G' δ' σ H/\I (i + 1) δ',fun σ2 H2 z=>⟨_,by omega,rfl,hlt,z⟩,fun x H2 y=>?_⟩;obtain ⟨G2,e2,hd⟩:=gn x H2 y;have S2:=S'.ext e2;refine hg x _ δ' σ' G2 H2 _ _ S2 hd (step i _ δ' (getElem?_eq_getElem hlt) hI) fun δ3 σ3 S3 _ q3=>?_;refine ht e.ex δ3 σ3 G2 H2 _ _ hx S3 q3 fun b G3 H3 e3 qb=>?_;have up:=sg.trans (e2.trans e3);cases b with
   | true =>
    refine he e.ex δ3 σ3 G3 H3 _ _ hx (S3.ext e3) qb fun v d G4 H4 e4 hv q4=>?_;exact hg2 v d δ3 σ3 G4 H4 _ _ ((S3.ext e3).ext e4) hv q4 fun δ5 σ5 S5 _ q5=>⟨δ5,G4,up.trans e4,S5,q5⟩
   | false=>exact ⟨δ3,G3,up,S3.ext e3,qb⟩
  ·have:i = xs.length:=by omega
   subst this;exact .inl ⟨t2 (le_refl _),L.nx δ' σ' G' H' (e1.g.trans sg.g) S' (fin δ' hI)⟩
end
end Dl
namespace My
open PySem PySem.Spec PyProof.Rows L2 Lx Dl
local macro_rules | `(tactic| walk_at "c") => `(tactic| exact ⟨rfl, rfl, rfl, by decide +kernel, rfl, by decide +kernel, by decide +kernel⟩)
structure Fg (K:W.Frag) (n:Str) (st:Stmt) (f:Addr) (d:FuncData):Prop where
 a:W.nsIn K mainGlobals n = some (some (.ref f))
 F:Fun K n n st f d
theorem fg_mk {K:W.Frag} {x:Str} {st:Stmt} {f:Addr} {oc:Value} {od an:Option Addr} {osl:Array (Option Value)} {kV doc pm cdv ct:Value} (a:W.nsIn K mainGlobals x = some (some (.ref f))) (l:K.lookup f = some ⟨oc,od,.func (W.fnOf x x (kL st) (fR st) (aR st) .none kV doc pm an cdv ct),osl⟩) (c:W.codeIn K cdv x = true) (k:W.keepIn K (.ref f) = true):Fg K x st f (W.fnOf x x (kL st) (fR st) (aR st) .none kV doc pm an cdv ct):=⟨a,fun_mk l c k⟩
structure Fd (K:W.Frag) (mg:Str->Option Value) (n:Str) (st:Stmt) (a:Addr) (d:FuncData) (ps:List Str):Prop where
 F:Fun K n n st a d
 m:mg n = some (.ref a)
 b:Binds K d ps []
theorem Fg.fd {K:W.Frag} {mg:Str->Option Value} {n:Str} {st:Stmt} {f:Addr} {d:FuncData} {ps:List Str} {h:Heap} (F:Fg K n st f d) (X:K.In h) (G:h.Ns mainGlobals mg) (b:∀ (kV doc pm:Value) (an:Option Addr) (cdv ct:Value) (us:List Value),us.length = ps.length->bindArgs (W.fnOf n n (kL st) (fR st) (aR st) .none kV doc pm an cdv ct) ⟨us,[]⟩ = pure (ps.zip us)):Fd K mg n st f d ps:=⟨F.F,W.mg_of X G F.a,F.F.binds b⟩
theorem cG {X:Cx} {CX:Il} {k k':Nat} {f:Addr} {fd:FuncData} {ps:List Str} {sp:Sp} {x:Str} {p pos:Pos} {st:Stmt} {e:Expr} {es:List Expr} {t:TA} {E:XK} (F:FnOk X.prog X.w X.K X.mg X.base CX k f fd ps sp) (hr:Room k' X.A) (T:Fd X.K X.mg x st f fd ps) (hx:kN CX X E)
  (ha:PA X (e :: es) t) (hk:k<=k':=by decide) (hg:Gl X x:=by exact rfl) (hdb:(x == ("__debug__":Str)) = false:=by decide) (he:starEach (e :: es) X.env = (false,eval e X.env) :: starEach es X.env:=by rfl) (hpl:(backTo pos (starEach es X.env)).any (·.1) = false:=by rfl) :
  PE X (.Call (.Name x p) (e :: es) [] pos) (nQ sp [] E t):=Uu F (hr.mono hk) hg T.m T.F.kp T.b .nil hx ha hdb he hpl
def top (i:Nat):Stmt:=PySem.Challenge.pw_leastmiss_k82_whole_rising_rows_by_text.main.body.getD i (.Pass ⟨0,0,0,0⟩)
abbrev aBs:Stmt:=top 12
theorem Fq:FnScope ["one","other","rest"] ["one","other"] (aR aBs):=by walk_at "c"
abbrev aBr:Stmt:=top 13
theorem Mq:FnScope ["top","bottom","divisor"] ["top","bottom"] (aR aBr):=by walk_at "c"
abbrev aBq:Stmt:=top 14
theorem zS:FnScope ["one","other","shared","rest","top","divisor"] ["one","other"] (aR aBq):=by walk_at "c"
abbrev aBp:Stmt:=top 15
theorem aIh:FnScope ["one","other"] ["one","other"] (aR aBp):=by walk_at "c"
abbrev aBo:Stmt:=top 16
theorem Mp:FnScope ["one","other","left","right"] ["one","other"] (aR aBo):=by walk_at "c"
abbrev aBn:Stmt:=top 17
theorem aIg:FnScope ["one","other"] ["one","other"] (aR aBn):=by walk_at "c"
abbrev aBm:Stmt:=top 18
theorem aIf:FnScope ["one","other"] ["one","other"] (aR aBm):=by walk_at "c"
abbrev aBl:Stmt:=top 19
theorem aIe:FnScope ["one"] ["one"] (aR aBl):=by walk_at "c"
abbrev aBk:Stmt:=top 20
theorem Fp:FnScope ["some","total","one"] ["some"] (aR aBk):=by walk_at "c"
abbrev aBj:Stmt:=top 21
theorem Fo:FnScope ["some","greatest","one"] ["some"] (aR aBj):=by walk_at "c"
abbrev aBi:Stmt:=top 22
theorem Fl:FnScope ["some","least","one"] ["some"] (aR aBi):=by walk_at "c"
abbrev aBh:Stmt:=top 30
theorem Fk:FnScope ["numbers","x","height","number"] ["numbers","x"] (aR aBh):=by walk_at "c"
abbrev aBg:Stmt:=top 31
theorem aId:FnScope ["numbers","marks"] ["numbers","marks"] (aR aBg):=by walk_at "c"
abbrev aBf:Stmt:=top 37
theorem aIc:FnScope ["marks","place"] ["marks","place"] (aR aBf):=by walk_at "c"
abbrev aBe:Stmt:=top 38
theorem Fj:FnScope ["some","marks","mark","spot"] ["some"] (aR aBe):=by walk_at "c"
abbrev aBd:Stmt:=top 39
theorem aIb:FnScope ["marks","row"] ["marks","row"] (aR aBd):=by walk_at "c"
abbrev aBc:Stmt:=top 42
theorem aIa:FnScope ["kind"] ["kind"] (aR aBc):=by walk_at "c"
abbrev aBb:Stmt:=top 43
theorem aHz:FnScope ["marks","row"] ["marks","row"] (aR aBb):=by walk_at "c"
abbrev aBa:Stmt:=top 44
theorem Mj:FnScope ["kind","marks","row","misses","weighed"] ["kind","marks","row"] (aR aBa):=by walk_at "c"
abbrev aAz:Stmt:=top 46
theorem sc_qt:FnScope ["kind","marks","heights","weights","weighed"] ["kind","marks"] (aR aAz):=by walk_at "c"
abbrev aAy:Stmt:=top 47
theorem rP:FnScope ["some","weights","pairs","whole","spot","reached"] ["some","weights"] (aR aAy):=by walk_at "c"
abbrev aAx:Stmt:=top 48
theorem sc_qv:FnScope ["some","weights","pairs","one","weight","spot"] ["some","weights"] (aR aAx):=by walk_at "c"
abbrev aAw:Stmt:=top 49
theorem Mi:FnScope ["marks","numbers","misses"] ["marks"] (aR aAw):=by walk_at "c"
abbrev aAv:Stmt:=top 54
theorem sc_qx:FnScope ["marks","misses","fixed","left","pulls","mark","miss","pull","raised"] ["marks","misses"] (aR aAv):=by walk_at "c"
abbrev aAu:Stmt:=top 69
theorem uS:FnScope ["kind","marks","blocks","row","block","pulls"] ["kind","marks"] (aR aAu):=by walk_at "c"
abbrev aAt:Stmt:=top 70
theorem zR:FnScope ["kind","marks","blocks","mark","block"] ["kind","marks"] (aR aAt):=by walk_at "c"
abbrev Oi:Stmt:=top 71
theorem sc_qa1:FnScope ["marks","heights","peaks","drops","deepest","half","row","pulls","spot"] ["marks"] (aR Oi):=by walk_at "c"
abbrev Og:Stmt:=top 72
theorem oW:FnScope ["heights","peaks","peak","spot","height"] ["heights"] (aR Og):=by walk_at "c"
abbrev Oe:Stmt:=top 87
theorem aAr:FnScope ["text"] ["text"] (aR Oe):=by walk_at "c"
abbrev Oc:Stmt:=top 88
theorem aAq:FnScope ["text"] ["text"] (aR Oc):=by walk_at "c"
abbrev Oa:Stmt:=top 89
theorem Mo:FnScope ["text","figures"] ["text"] (aR Oa):=by walk_at "c"
abbrev Ny:Stmt:=top 90
theorem wW:FnScope ["text","parts","top","bottom"] ["text"] (aR Ny):=by walk_at "c"
abbrev Nw:Stmt:=top 91
theorem oV:FnScope ["text","parts","others","place","height","weight"] ["text"] (aR Nw):=by walk_at "c"
abbrev Nu:Stmt:=top 92
theorem aAp:FnScope ["x"] ["x"] (aR Nu):=by walk_at "c"
abbrev Nr:Stmt:=top 93
theorem aAo:FnScope ["some"] ["some"] (aR Nr):=by walk_at "c"
abbrev Np:Stmt:=top 100
theorem Cr:FnScope ["row","words","bounds"] ["row"] (aR Np):=by walk_at "c"
abbrev Nm:Stmt:=top 101
theorem aAm:FnScope ["word"] ["word"] (aR Nm):=by walk_at "c"
abbrev Nk:Stmt:=top 103
theorem aAk:FnScope ["parts"] ["parts"] (aR Nk):=by walk_at "c"
abbrev Ni:Stmt:=top 105
theorem Mm:FnScope ["kind","marks","fit"] ["kind","marks"] (aR Ni):=by walk_at "c"
abbrev Ng:Stmt:=top 107
theorem aAi:FnScope ["kind","marks","words"] ["kind","marks","words"] (aR Ng):=by walk_at "c"
abbrev Nf:Stmt:=top 108
theorem Ml:FnScope ["words","marks","kind"] ["words","marks"] (aR Nf):=by walk_at "c"
abbrev Nd:Stmt:=top 111
theorem aAh:FnScope ["script","k"] ["script","k"] (aR Nd):=by walk_at "c"
abbrev Nc:Stmt:=top 112
theorem sc_qq1:FnScope ["top","bottom","one","other"] ["top","bottom"] (aR Nc):=by walk_at "c"
abbrev Nb:Stmt:=top 115
theorem aAg:FnScope ["one","other"] ["one","other"] (aR Nb):=by walk_at "c"
abbrev Na:Stmt:=top 116
theorem aAf:FnScope ["kind","one","other"] ["kind","one","other"] (aR Na):=by walk_at "c"
abbrev Mz:Stmt:=top 117
theorem kC:FnScope ["kind","some","row","total","mark","height","top","bottom"] ["kind","some","row"] (aR Mz):=by walk_at "c"
abbrev Mx:Stmt:=top 118
theorem Cq:FnScope ["word","figures","sign"] ["word"] (aR Mx):=by walk_at "c"
abbrev Mw:Stmt:=top 119
theorem oS:FnScope ["word","first","stroke","second","top","bottom"] ["word"] (aR Mw):=by walk_at "c"
abbrev Mv:Stmt:=top 120
theorem aAe:FnScope ["answer"] ["answer"] (aR Mv):=by walk_at "c"
abbrev Mu:Stmt:=top 121
theorem aAd:FnScope ["x"] ["x"] (aR Mu):=by walk_at "c"
abbrev Mt:Stmt:=top 122
theorem aAc:FnScope ["mark"] ["mark"] (aR Mt):=by walk_at "c"
abbrev Ms:Stmt:=top 123
theorem aAb:FnScope ["one","other"] ["one","other"] (aR Ms):=by walk_at "c"
abbrev Oh:Stmt:=top 125
theorem wX:FnScope ["some","total","x"] ["some"] (aR Oh):=by walk_at "c"
abbrev Of:Stmt:=top 126
theorem aAs:FnScope ["some","row"] ["some","row"] (aR Of):=by walk_at "c"
abbrev Od:Stmt:=top 127
theorem sc_qc2:FnScope ["kind","some","misses","pulls","sizes","mark","miss","pull","most","x","size","weight"] ["kind","some","misses","pulls"] (aR Od):=by walk_at "c"
abbrev Ob:Stmt:=top 128
theorem kD:FnScope ["script","start","most","some","place","k","cell","other","height"] ["script","start","most"] (aR Ob):=by walk_at "c"
abbrev Nz:Stmt:=top 129
theorem Mn:FnScope ["row","k"] ["row"] (aR Nz):=by walk_at "c"
abbrev Nx:Stmt:=top 130
theorem wV:FnScope ["row","pulls","total","k"] ["row","pulls"] (aR Nx):=by walk_at "c"
abbrev Nv:Stmt:=top 131
theorem oU:FnScope ["heights","found","left","best","x"] ["heights"] (aR Nv):=by walk_at "c"
abbrev Nt:Stmt:=top 132
theorem sc_qh2:FnScope ["cell","some","number","height","row","mark"] ["cell","some"] (aR Nt):=by walk_at "c"
abbrev Nq:Stmt:=qW (top 109) 0
theorem aAn:FnScope ["self"] ["self"] (aR Nq):=by walk_at "c"
abbrev Nn:Stmt:=qW (top 109) 1
theorem rQ:FnScope ["self","row","words","marks"] ["self","row"] (aR Nn):=by walk_at "c"
abbrev Nl:Stmt:=qW (top 109) 2
theorem aAl:FnScope ["self","name","words"] ["self","name","words"] (aR Nl):=by walk_at "c"
abbrev Nj:Stmt:=qW (top 109) 3
theorem aAj:FnScope ["self","name"] ["self","name"] (aR Nj):=by walk_at "c"
abbrev Nh:Stmt:=top 133
theorem jH:FnScope ["script","kind","some","at","desk","found","judge","k","other","judged"] ["script"] (aR Nh):=by walk_at "c"
theorem cR {X:Cx} {K:W.Frag} {a:Expr} {ta:TE} {i j p pos} (h:X.K = K) (ha:PE X a ta):PE X (.Subscript a (.Constant (.int i) j p) pos) (wP (Ow K) ta (tC (.int i))):=gB (aNf h) ha aP (fun _ _=>rfl)
theorem kP {X:Cx} {K:W.Frag} {a:Expr} {ta:TE} {i j p pos} (h:X.K = K) (ha:PE X a ta):PE X (.Subscript a (.Constant (.int i) j p) pos) (wP (Um K) ta (tC (.int i))):=gB (lN h) ha aP (fun _ _=>rfl)
theorem cY {X:Cx} {ps:List Str} {sc:Scope} {x:Str} {e:Expr} {te:TE} {pos pos':Pos} (i:Nat) (S:FnScope X.N ps sc) (he:PE X e te) (hi:X.N[i]? = some x:=by exact rfl) (hx:Loc X.env.scope x:=by exact Or.inl rfl) (hs:swapsWith e (some (.Name x pos')) pos.line X.env = pure false:=by rfl) (hf:X.fn x = true\/X.env.scope.names.lookup x = some .local:=by first | exact .inl rfl | exact .inr rfl | assumption):PS X (.Assign [.Name x pos'] e pos) (qC te (mQ i)):=rY S.nd hi hx he hs hf
theorem mG {X:Cx} {ps:List Str} {sc:Scope} {x:Str} {pos:Pos} (i:Nat) (S:FnScope X.N ps sc) (hi:X.N[i]? = some x:=by exact rfl) (hx:Loc X.env.scope x:=by exact Or.inl rfl) (hf:X.fn x = true\/X.env.scope.names.lookup x = some .local:=by first | exact .inl rfl | exact .inr rfl | assumption):PG X (.Name x pos) (mQ i):=xF S.nd hi hx hf
theorem kI {X:Cx} {x:Str} {pos:Pos} (i:Nat) (N:List Str) (e:X.N = N:=by exact rfl) (hN:N.Nodup:=by decide) (hi:X.N[i]? = some x:=by exact rfl) (hx:Loc X.env.scope x:=by exact Or.inl rfl) (hf:X.fn x = true\/X.env.scope.names.lookup x = some .local:=by first | exact .inl rfl | exact .inr rfl | assumption):PG X (.Name x pos) (mQ i):=xF (e ▸ hN) hi hx hf
theorem qE {X:Cx} {scope:Scope} {cl:List (Str × Addr)} {cap:List (Option Nat)} {NC:List Str} (a:closureFor scope X.env = pure cl) (b:scope.kind = .function:=by exact rfl) (c:∀ x∈scope.names,x.2 ≠ .cell:=by decide +kernel) (d:∀ x∈scope.names,x.2 = .local->scope.names.lookup x.1 = some .local:=by decide +kernel) (e:CapsOk X scope cl cap NC:=by exact trivial) (f:∀ p∈cl,X.env.cells.lookup p.1 = some p.2:=by exact fun _ h=>nomatch h) (g:((relabel scope X.env).names.all fun p=>(p.2 != .cell && p.2 != .free) || (cl.lookup p.1).isSome) = true:=by exact rfl):LcOk X scope cl cap NC:=⟨a,b,c,d,e,f,g⟩
local macro_rules | `(tactic| walk_at "l") => `(tactic| (intro _ _ _ h; repeat (first | (obtain ⟨e, _⟩ := h; subst e; rfl) | obtain ⟨_, h⟩ := h)))
set_option genInjectivity false in
structure Adr where
 a_qa:Addr
 d_qa:FuncData
 a_qb:Addr
 d_qb:FuncData
 a_qc:Addr
 d_qc:FuncData
 a_qd:Addr
 d_qd:FuncData
 a_qe:Addr
 d_qe:FuncData
 a_qf:Addr
 d_qf:FuncData
 a_qg:Addr
 d_qg:FuncData
 a_qh:Addr
 d_qh:FuncData
 a_qi:Addr
 d_qi:FuncData
 a_qj:Addr
 d_qj:FuncData
 a_qk:Addr
 d_qk:FuncData
 a_ql:Addr
 d_ql:FuncData
 a_qm:Addr
 d_qm:FuncData
 a_qn:Addr
 d_qn:FuncData
 a_qo:Addr
 d_qo:FuncData
 a_qp:Addr
 d_qp:FuncData
 a_qq:Addr
 d_qq:FuncData
 a_qr:Addr
 d_qr:FuncData
 a_qs:Addr
 d_qs:FuncData
 a_qt:Addr
 d_qt:FuncData
 a_qu:Addr
 d_qu:FuncData
 a_qv:Addr
 d_qv:FuncData
 a_qw:Addr
 d_qw:FuncData
 a_qx:Addr
 d_qx:FuncData
 a_qy:Addr
 d_qy:FuncData
 a_qz:Addr
 d_qz:FuncData
 a_qa1:Addr
 d_qa1:FuncData
 a_qb1:Addr
 d_qb1:FuncData
 a_qc1:Addr
 d_qc1:FuncData
 a_qd1:Addr
 d_qd1:FuncData
 a_qe1:Addr
 d_qe1:FuncData
 a_qf1:Addr
 d_qf1:FuncData
 a_qg1:Addr
 d_qg1:FuncData
 a_qh1:Addr
 d_qh1:FuncData
 a_qi1:Addr
 d_qi1:FuncData
 a_qj1:Addr
 d_qj1:FuncData
 a_qk1:Addr
 d_qk1:FuncData
 a_ql1:Addr
 d_ql1:FuncData
 a_qm1:Addr
 d_qm1:FuncData
 a_qn1:Addr
 d_qn1:FuncData
 a_qo1:Addr
 d_qo1:FuncData
 a_qp1:Addr
 d_qp1:FuncData
 a_qq1:Addr
 d_qq1:FuncData
 a_qr1:Addr
 d_qr1:FuncData
 a_qs1:Addr
 d_qs1:FuncData
 a_qt1:Addr
 d_qt1:FuncData
 a_qu1:Addr
 d_qu1:FuncData
 a_qv1:Addr
 d_qv1:FuncData
 a_qw1:Addr
 d_qw1:FuncData
 a_qx1:Addr
 d_qx1:FuncData
 a_qy1:Addr
 d_qy1:FuncData
 a_qz1:Addr
 d_qz1:FuncData
 a_qa2:Addr
 d_qa2:FuncData
 a_qb2:Addr
 d_qb2:FuncData
 a_qc2:Addr
 d_qc2:FuncData
 a_qd2:Addr
 d_qd2:FuncData
 a_qe2:Addr
 d_qe2:FuncData
 a_qf2:Addr
 d_qf2:FuncData
 a_qg2:Addr
 d_qg2:FuncData
 a_qh2:Addr
 d_qh2:FuncData
 a_qi2:Addr
 d_qi2:FuncData
 a_qj2:Addr
 d_qj2:FuncData
 a_qk2:Addr
 d_qk2:FuncData
 a_ql2:Addr
 d_ql2:FuncData
 a_qm2:Addr
 d_qm2:FuncData
 x_MissError:Addr
 x_NoNumber:Addr
 x_NoMarks:Addr
 x_NoKind:Addr
 x_NoBend:Addr
 x_NoAnswer:Addr
 x_NoText:Addr
 x_NoName:Addr
 x_NoRow:Addr
 g_KINDS:Addr
 g_NOUGHT:Addr
 c_Desk:Addr
 g_COUNTS:Addr
 g_COUNTS_0:Addr
 g_COUNTS_1:Addr
 g_COUNTS_2:Addr
 g_COUNTS_3:Addr
 g_COUNTS_4:Addr
 g_COUNTS_5:Addr
 g_COUNTS_6:Addr
 g_COUNTS_7:Addr
def gS (A:Adr):Td:=[("marks",.ref A.g_COUNTS_0,(.tuple [(.int 3),(.int 62)])),("drop",.ref A.g_COUNTS_1,(.tuple [(.int 2),(.int 2)])),("names",.ref A.g_COUNTS_2,(.tuple [(.int 1),(.int 1)])),("show",.ref A.g_COUNTS_3,(.tuple [(.int 2),(.int 2)])),("bend",.ref A.g_COUNTS_4,(.tuple [(.int 4),(.int 4)])),("rise",.ref A.g_COUNTS_5,(.tuple [(.int 3),(.int 3)])),("steps",.ref A.g_COUNTS_6,(.tuple [(.int 4),(.int 4)])),("judge",.ref A.g_COUNTS_7,(.tuple [(.int 4),(.int 63)]))]
structure Txt (K:W.Frag) (mg:Str->Option Value) (A:Adr):Prop where
 F_qa:Fd K mg "common_divisor" aBs A.a_qa A.d_qa ["one","other"]
 F_qb:Fd K mg "fraction" aBr A.a_qb A.d_qb ["top","bottom"]
 F_qc:Fd K mg "plus" aBq A.a_qc A.d_qc ["one","other"]
 F_qd:Fd K mg "minus" aBp A.a_qd A.d_qd ["one","other"]
 F_qe:Fd K mg "product" aBo A.a_qe A.d_qe ["one","other"]
 F_qf:Fd K mg "quotient" aBn A.a_qf A.d_qf ["one","other"]
 F_qg:Fd K mg "is_less" aBm A.a_qg A.d_qg ["one","other"]
 F_qh:Fd K mg "size_of" aBl A.a_qh A.d_qh ["one"]
 F_qi:Fd K mg "total_of" aBk A.a_qi A.d_qi ["some"]
 F_qj:Fd K mg "greatest_of" aBj A.a_qj A.d_qj ["some"]
 F_qk:Fd K mg "least_of" aBi A.a_qk A.d_qk ["some"]
 F_ql:Fd K mg "height_at" aBh A.a_ql A.d_ql ["numbers","x"]
 F_qm:Fd K mg "row_of" aBg A.a_qm A.d_qm ["numbers","marks"]
 F_qn:Fd K mg "count_ahead" aBf A.a_qn A.d_qn ["marks","place"]
 F_qo:Fd K mg "marks_of" aBe A.a_qo A.d_qo ["some"]
 F_qp:Fd K mg "misses_of" aBd A.a_qp A.d_qp ["marks","row"]
 F_qq:Fd K mg "check_kind" aBc A.a_qq A.d_qq ["kind"]
 F_qr:Fd K mg "weighed_misses" aBb A.a_qr A.d_qr ["marks","row"]
 F_qs:Fd K mg "measured" aBa A.a_qs A.d_qs ["kind","marks","row"]
 F_qt:Fd K mg "least_level" aAz A.a_qt A.d_qt ["kind","marks"]
 F_qu:Fd K mg "middle_of" aAy A.a_qu A.d_qu ["some","weights"]
 F_qv:Fd K mg "in_order" aAx A.a_qv A.d_qv ["some","weights"]
 F_qw:Fd K mg "level_sum" aAw A.a_qw A.d_qw ["marks"]
 F_qx:Fd K mg "early_pulls" aAv A.a_qx A.d_qx ["marks","misses"]
 F_qy:Fd K mg "rise_least" aAu A.a_qy A.d_qy ["kind","marks"]
 F_qz:Fd K mg "pooled" aAt A.a_qz A.d_qz ["kind","marks"]
 F_qa1:Fd K mg "rise_far" Oi A.a_qa1 A.d_qa1 ["marks"]
 F_qb1:Fd K mg "peaks_of" Og A.a_qb1 A.d_qb1 ["heights"]
 F_qc1:Fd K mg "check_text" Oe A.a_qc1 A.d_qc1 ["text"]
 F_qd1:Fd K mg "is_figures" Oc A.a_qd1 A.d_qd1 ["text"]
 F_qe1:Fd K mg "read_whole" Oa A.a_qe1 A.d_qe1 ["text"]
 F_qf1:Fd K mg "read_fraction" Ny A.a_qf1 A.d_qf1 ["text"]
 F_qg1:Fd K mg "read_mark" Nw A.a_qg1 A.d_qg1 ["text"]
 F_qh1:Fd K mg "show_fraction" Nu A.a_qh1 A.d_qh1 ["x"]
 F_qi1:Fd K mg "show_fractions" Nr A.a_qi1 A.d_qi1 ["some"]
 F_qj1:Fd K mg "words_of" Np A.a_qj1 A.d_qj1 ["row"]
 F_qk1:Fd K mg "check_name" Nm A.a_qk1 A.d_qk1 ["word"]
 F_ql1:Fd K mg "parted" Nk A.a_ql1 A.d_ql1 ["parts"]
 F_qm1:Fd K mg "rise_answer" Ni A.a_qm1 A.d_qm1 ["kind","marks"]
 F_qn1:Fd K mg "judge_answer" Ng A.a_qn1 A.d_qn1 ["kind","marks","words"]
 F_qo1:Fd K mg "asked" Nf A.a_qo1 A.d_qo1 ["words","marks"]
 F_qp1:Fd K mg "_law_cell" Nd A.a_qp1 A.d_qp1 ["script","k"]
 F_qq1:Fd K mg "_law_lowest" Nc A.a_qq1 A.d_qq1 ["top","bottom"]
 F_qr1:Fd K mg "_law_less" Nb A.a_qr1 A.d_qr1 ["one","other"]
 F_qs1:Fd K mg "_law_joined" Na A.a_qs1 A.d_qs1 ["kind","one","other"]
 F_qt1:Fd K mg "_law_missed" Mz A.a_qt1 A.d_qt1 ["kind","some","row"]
 F_qu1:Fd K mg "_law_number" Mx A.a_qu1 A.d_qu1 ["word"]
 F_qv1:Fd K mg "_law_read" Mw A.a_qv1 A.d_qv1 ["word"]
 F_qw1:Fd K mg "_law_lists" Mv A.a_qw1 A.d_qw1 ["answer"]
 F_qx1:Fd K mg "_law_written" Mu A.a_qx1 A.d_qx1 ["x"]
 F_qy1:Fd K mg "_law_word" Mt A.a_qy1 A.d_qy1 ["mark"]
 F_qz1:Fd K mg "_law_plus" Ms A.a_qz1 A.d_qz1 ["one","other"]
 F_qa2:Fd K mg "_law_total" Oh A.a_qa2 A.d_qa2 ["some"]
 F_qb2:Fd K mg "_law_misses" Of A.a_qb2 A.d_qb2 ["some","row"]
 F_qc2:Fd K mg "_law_fair" Od A.a_qc2 A.d_qc2 ["kind","some","misses","pulls"]
 F_qd2:Fd K mg "_law_some" Ob A.a_qd2 A.d_qd2 ["script","start","most"]
 F_qe2:Fd K mg "_law_rises" Nz A.a_qe2 A.d_qe2 ["row"]
 F_qf2:Fd K mg "_law_held" Nx A.a_qf2 A.d_qf2 ["row","pulls"]
 F_qg2:Fd K mg "_law_sorted" Nv A.a_qg2 A.d_qg2 ["heights"]
 F_qh2:Fd K mg "_law_other" Nt A.a_qh2 A.d_qh2 ["cell","some"]
 F_qi2:Fun K "__init__" "Desk.__init__" Nq A.a_qi2 A.d_qi2
 M_qi2:Meth K A.c_Desk "__init__" A.a_qi2
 b_qi2:Binds K A.d_qi2 ["self"] []
 F_qj2:Fun K "say" "Desk.say" Nn A.a_qj2 A.d_qj2
 M_qj2:Meth K A.c_Desk "say" A.a_qj2
 b_qj2:Binds K A.d_qj2 ["self","row"] []
 F_qk2:Fun K "lay" "Desk.lay" Nl A.a_qk2 A.d_qk2
 M_qk2:Meth K A.c_Desk "lay" A.a_qk2
 b_qk2:Binds K A.d_qk2 ["self","name","words"] []
 F_ql2:Fun K "marks_by" "Desk.marks_by" Nj A.a_ql2 A.d_ql2
 M_ql2:Meth K A.c_Desk "marks_by" A.a_ql2
 b_ql2:Binds K A.d_ql2 ["self","name"] []
 F_qm2:Fd K mg "law" Nh A.a_qm2 A.d_qm2 ["script"]
 x_MissError:ExcCl K mg "MissError" A.x_MissError
 x_NoNumber:ExcCl K mg "NoNumber" A.x_NoNumber
 x_NoMarks:ExcCl K mg "NoMarks" A.x_NoMarks
 x_NoKind:ExcCl K mg "NoKind" A.x_NoKind
 x_NoBend:ExcCl K mg "NoBend" A.x_NoBend
 x_NoAnswer:ExcCl K mg "NoAnswer" A.x_NoAnswer
 x_NoText:ExcCl K mg "NoText" A.x_NoText
 x_NoName:ExcCl K mg "NoName" A.x_NoName
 x_NoRow:ExcCl K mg "NoRow" A.x_NoRow
 n_abs:mg "abs" = none
 n_all:mg "all" = none
 n_enumerate:mg "enumerate" = none
 n_int:mg "int" = none
 n_isinstance:mg "isinstance" = none
 n_len:mg "len" = none
 n_list:mg "list" = none
 n_max:mg "max" = none
 n_min:mg "min" = none
 n_range:mg "range" = none
 n_reversed:mg "reversed" = none
 n_sorted:mg "sorted" = none
 n_str:mg "str" = none
 n_sum:mg "sum" = none
 n_zip:mg "zip" = none
 m_Desk:mg "Desk" = some (.ref A.c_Desk)
 cl_Desk:Cls K A.c_Desk
 mk_Desk:Mk K A.c_Desk A.a_qi2
 nA_Desk:NoAttr K A.c_Desk "kept"
 c_COUNTS:mg "COUNTS" = some (.ref A.g_COUNTS)
 c_FIGURES:∃ t,mg "FIGURES" = some (.str "0123456789" t)
 c_KINDS:mg "KINDS" = some (.ref A.g_KINDS)
 k_KINDS:∀ H:Hp,DV K H (.ref A.g_KINDS) (.tuple [(.str "far"),(.str "sum"),(.str "square")])
 c_LETTERS:∃ t,mg "LETTERS" = some (.str "abcdefghijklmnopqrstuvwxyz" t)
 c_MOST_BEND:∃ t,mg "MOST_BEND" = some (.int 3 t)
 c_MOST_FIGURES:∃ t,mg "MOST_FIGURES" = some (.int 40 t)
 c_MOST_LETTERS:∃ t,mg "MOST_LETTERS" = some (.int 8 t)
 c_MOST_MARKS:∃ t,mg "MOST_MARKS" = some (.int 60 t)
 c_MOST_NUMBERS:∃ t,mg "MOST_NUMBERS" = some (.int 4 t)
 c_MOST_STEPS:∃ t,mg "MOST_STEPS" = some (.int 59 t)
 c_NOUGHT:mg "NOUGHT" = some (.ref A.g_NOUGHT)
 k_NOUGHT:∀ H:Hp,DV K H (.ref A.g_NOUGHT) (.tuple [(.int 0),(.int 1)])
abbrev kM:=PyProof.Rows.boot_abs
abbrev hV:=PyProof.Rows.boot_isinstance
abbrev yK:=PyProof.Rows.boot_int
abbrev Wt:=PyProof.Rows.boot_list
abbrev Eg:=PyProof.Rows.boot_min
abbrev Sk:=PyProof.Rows.boot_max
theorem aFr:bootBuiltins "sum" = some (.builtin "sum"):=by decide +kernel
local macro_rules | `(tactic| walk_at "d") => `(tactic| (try simp only [vY, Rx, Hr, Yl, Rw, Sd, Ry, Yb, aEx, aEw, Rj, Rk, yC, jG, slot, put, Wm, Hx, Ht, dC, dFz, tZ, aFd, Rz, aKj, aKv, dOp, oI, oI0, oB0, oEq, oNe, aJm, aKu, aFf, nth, aFe, aDr, Ps, Va, Pq, Sq, Sr, aFu, aKk, Ru, aFl, dCb, aGa, aFv, aFw, aFt, aFx, aFy, Hs, Yk, Rq, aKt, Yj, dSl, aFm, aLb, dOr, aKr, Yr, aKq, aKy, Yq, Sa, Hv, Hw, Rv, aKn, Yh, Rr, Yo, aFh, Dx, Qs, Dy, Qr, aFk, Yd, Sc, pS, sY, aFi, aKp, Rs, aFn, Rt, Yg, Yf, Ye, tN, aFb, aKx, isD, Ez, aLa, aKw, aFa, Yn, aKm, aFg, Yp, aKo, Ym, dOV, d2, Yi, Hu, Hq, aFj, yD, aKi, Yc, Jt, aFz, aKs, vQ, aCk, Su, mR, dF, Bool.and_true, Bool.true_and, Bool.and_self, Bool.not_true, Bool.not_false, true_and, and_true, decide_eq_true_eq, not_eq_true', decide_eq_false_iff_not, if_true, if_false, ite_true, ite_false, Bool.false_eq_true, Bool.true_eq_false, not_true_eq_false, not_false_eq_true, reduceCtorEq, length_cons, length_nil, length_map]))
local macro_rules | `(tactic| walk_at "s") => `(tactic| (walk_at "d"; refine cK ?_; walk_at "d"))
theorem yJ:bootBuiltins "str" = some (.type "str"):=by decide +kernel
abbrev fr (q:Rat):PyData:=.tuple [.int q.num,.int (q.den:Int)]
theorem Eu {g:Nat} {b:Int} (h:g<=b.natAbs) (hb:Wee b):Wee (g:Int):=by
 unfold Wee at *
 omega
theorem Et {b:Int} (hb:Wee b):Wee (-b):=by
 unfold Wee at *
 omega
theorem aLc {i j:Int} (h:decide (0<=j/\j<=1000000/\i.natAbs < 2 ^ 64) = true):aLv i j:=(of_decide_eq_true h:0<=j/\j<=1000000/\i.natAbs < 2 ^ 64)
theorem Ir {i:Int} (h:decide (i.natAbs < 2 ^ 8000) = true):Wee i:=(of_decide_eq_true h:i.natAbs < 2 ^ 8000)
theorem fM {i:Int} {n:Nat} (h:i.natAbs<=n) (hn:decide (n < 2 ^ 8000) = true):Wee i:=lt_of_le_of_lt h (of_decide_eq_true hn)
theorem Bx {i j:Int} (h:decide (0 < j/\j.natAbs < 2 ^ 8000) = true):Im i j:=(of_decide_eq_true h:0 < j/\j.natAbs < 2 ^ 8000)
structure Ok (q:Rat):Prop where
 n:Wee q.num
 d:Wee (q.den:Int)
theorem iO {g b:Nat} (h:g<=b) (hb:Wee (b:Int)):Wee (g:Int):=by
 unfold Wee at *
 omega
theorem kS (q:Rat):(0:Int) < (q.den:Int):=by have:=q.den_nz; omega
theorem okS {q:Rat} {N:Nat} (h:Fm.Sz N q) (hN:decide (N < 2 ^ 8000) = true):Ok q:=⟨fM h.n hN,fM (n:=N) (by have:=h.d; omega) hN⟩
theorem Wd (q:Rat):mR (fr q) = true:=rfl
theorem dZ:∀ qs:List Rat,dF (qs.map fr) = true
 | []=>rfl
 | q :: qs=>by
  have:=dZ qs;simp only [map_cons,dF,Wd,this,Bool.and_self]
variable {P:Program} {w:World} {K:W.Frag} {mg:Str->Option Value} {base:Heap} {A:Adr}
def aMm:DW:=fun ds Q _=>∃ a b:Int,ds = [.int a,.int b]/\0<=a/\0<=b/\Q (.dat (.int ((Int.gcd a b:Nat):Int)))
theorem Pp (T:Txt K mg A):FnOk P w K mg base (eP P w) 1 A.a_qa A.d_qa ["one","other"] (fC K aMm):=by
 refine gE T.F_qa.F Fq (by walk_at "l") fun cdv Ar outer s H E hr=>?_
 refine ⟨_,(aF (lH PassesOwn.leaving (aT nZ (pv 1) aP (aX _)) (aF (cY 2 Fq (aY eN (pv 0) (pv 1)))
   (aF (cY 0 Fq (pv 1))
   (aH (cY 1 Fq (pv 2))))))
   (aH (aV (pv 0)))),_,(aJ (lB (aU (aB (aN pO (aE 1) (aB aK)))) (aJ (bD (aN dM (aE 0) (aE 1)) (aI 2))
   (aJ (bD (aL 1) (aI 0))
   (bD (aL 2) (aI 1)))))
   (eA 0)),?_⟩
 rintro ds Q X ⟨a,b,rfl,ha,hb,k⟩;walk_at "s";refine ⟨fun m δ=>∃ x y r,δ = [some (.dat (.int x)),some (.dat (.int y)),r]/\m = y.toNat/\0<=x/\0<=y/\Int.gcd x y = Int.gcd a b,⟨_,a,b,none,rfl,rfl,ha,hb,rfl⟩,?_⟩;rintro m δ ⟨x,y,r,rfl,rfl,hx,hy,hg⟩;walk_at "d";refine bU (fun c=>?_) (fun c=>?_)
 ·have hy0:y ≠ 0:=c;have hp:0 < y:=by omega
  walk_at "s";refine ⟨hp,?_⟩;walk_at "s";walk_at "d";refine ⟨_,?_,y,x % y,_,rfl,rfl,hy,emod_nonneg _ hy0,?_⟩
  ·have:=emod_lt_of_pos x hp;have:=emod_nonneg x hy0;omega
  ·rw [Fm.gcd_step x y hp,hg]
 ·have hy0:y = 0:=Decidable.not_not.mp c;subst hy0;rw [<- hg,Fm.gcd_zero hx] at k;exact k
def Iv (C:Addr):DW:=fun ds Q X=>∃ t b:Int,ds = [.int t,.int b]/\Wee b/\(b = 0->X C)/\(b ≠ 0->Q (.dat (fr (divInt t b))))
theorem Gg (T:Txt K mg A):FnOk P w K mg base (eP P w) 2 A.a_qb A.d_qb ["top","bottom"] (fC K (Iv A.x_NoNumber)):=by
 refine gE T.F_qb.F Mq (by walk_at "l") fun cdv Ar outer s H E hr=>?_
 refine ⟨_,(aF (bK (aT cP (pv 1) aP (aX _)) (aH (cU T.x_NoNumber hr.hd bX rfl (aA bF aD))) aW)
   (aF (cY 2 Mq (cG (Pp T) hr T.F_qa aO (aA (bB gK rfl T.n_abs kM (aA (pv 0) aD)) (aA (bB gK rfl T.n_abs kM (aA (pv 1) aD)) aD))))
   (aF (bK (aT lJ (pv 1) aP (aX _)) (aH (cY 2 Mq (pP kZ (pv 2)))) aW)
   (aH (aV (cA (aA (aY Ac (pv 0) (pv 2)) (aA (aY Ac (pv 1) (pv 2)) aD)))))))),_,(aJ (bP (aU (aB (aN cN (aE 1) (aB aK)))) (cT (aQ bG bE) (by decide)) aZ)
   (aJ (bD (aM (aC (aB (bT kF (aC (aE 0) aG))) (aC (aB (bT kF (aC (aE 1) aG))) aG))) (aI 2))
   (rK (bP (aU (aB (aN eW (aE 1) (aB aK)))) (bD (lS (aE 2)) (aI 2)) aZ)
   (bI (aB (cI (aQ (aN dM (aE 0) (aE 2)) (aQ (aN dM (aE 1) (aE 2)) bE)) (by decide))))))),?_⟩
 rintro ds Q X ⟨t,b,rfl,hw,k0,k1⟩;walk_at "s";refine bU (fun c=>?_) (fun c=>?_)
 ·exact k0 c
 have hb:b ≠ 0:=c;have kq:=k1 hb;walk_at "s";refine ⟨_,_,rfl,by rw [Fm.abs_if]; omega,by rw [Fm.abs_if]; omega,?_⟩;have eg:Int.gcd (if t < 0 then -t else t) (if b < 0 then -b else b) = Int.gcd t b:=by
  rw [Fm.abs_if,Fm.abs_if];simp [Int.gcd]
 rw [eg];walk_at "d";refine ?_;have h1:=Fm.gcd_pos_right (a:=t) hb;have h2:=Eu (Fm.gcd_le_right (a:=t) hb) hw;refine tJ (fun δ=>δ = [some (.dat (.int t)),some (.dat (.int b)),some (.dat (.int (if b < 0 then -((Int.gcd t b:Nat):Int) else ((Int.gcd t b:Nat):Int))))]) ?_ ?_
 ·walk_at "d";refine bU (fun c2=>?_) (fun c2=>?_)
  ·rw [if_pos c2]
  ·rw [if_neg c2]
 ·rintro δ rfl;walk_at "d";have hg:(if b < 0 then -((Int.gcd t b:Nat):Int) else ((Int.gcd t b:Nat):Int)) ≠ 0:=by split <;> omega
  have hg2:Wee (if b < 0 then -((Int.gcd t b:Nat):Int) else ((Int.gcd t b:Nat):Int)):=by
   split
   ·exact Et h2
   ·exact h2
  refine ⟨⟨hg,hg2⟩,⟨hg,hg2⟩,?_⟩;rw [Fm.fr_num hb,Fm.fr_den hb];exact kq
def Yw (f:Rat->Rat->Rat):DW:=fun ds Q _=>∃ a b:Rat,ds = [fr a,fr b]/\Ok a/\Ok b/\Q (.dat (fr (f a b)))
theorem vE (T:Txt K mg A):FnOk P w K mg base (eP P w) 2 A.a_qc A.d_qc ["one","other"] (fC K (Yw (· + ·))):=by
 refine gE T.F_qc.F zS (by walk_at "l") fun cdv Ar outer s H E hr=>?_
 refine ⟨_,(aF (cY 2 zS (cG (Pp T) hr T.F_qa aO (aA (cR (K:=K) rfl (pv 0)) (aA (cR (K:=K) rfl (pv 1)) aD))))
   (aF (cY 3 zS (aY dY (cR (K:=K) rfl (pv 0)) (pv 2)))
   (aF (cY 4 zS (aY eR (aY bV (cR (K:=K) rfl (pv 0)) (aY dY (cR (K:=K) rfl (pv 1)) (pv 2))) (aY bV (cR (K:=K) rfl (pv 1)) (pv 3))))
   (aF (cY 5 zS (cG (Pp T) hr T.F_qa aO (aA (pv 2) (aA (bB gK rfl T.n_abs kM (aA (pv 4) aD)) aD))))
   (aH (aV (cA (aA (aY dY (pv 4) (pv 5)) (aA (aY bV (pv 3) (aY dY (cR (K:=K) rfl (pv 1)) (pv 5))) aD))))))))),_,(aJ (bD (aM (aC (aB (aS 1 (aL 0))) (aC (aB (aS 1 (aL 1))) aG))) (aI 2))
   (aJ (bD (aN dM (aB (aS 1 (aL 0))) (aE 2)) (aI 3))
   (aJ (bD (aN eO (aB (aN dM (aB (aS 0 (aL 0))) (aB (aN dM (aB (aS 1 (aL 1))) (aE 2))))) (aB (aN dM (aB (aS 0 (aL 1))) (aE 3)))) (aI 4))
   (aJ (bD (aM (aC (aE 2) (aC (aB (bT kF (aC (aE 4) aG))) aG))) (aI 5))
   (bI (aB (cI (aQ (aN dM (aE 4) (aE 5)) (aQ (aN dM (aE 3) (aB (aN dM (aB (aS 1 (aL 1))) (aE 5)))) bE)) (by decide)))))))),?_⟩
 rintro ds Q X ⟨a,b,rfl,oa,ob,k⟩;have s0:0 < a.den.gcd b.den:=gcd_pos_of_pos_left _ (pos_of_ne_zero a.den_nz);have sw:Wee ((a.den.gcd b.den:Nat):Int):=iO (le_of_dvd (pos_of_ne_zero a.den_nz) (gcd_dvd_left _ _)) oa.d;walk_at "s";refine ⟨_,_,rfl,by omega,by omega,?_⟩;rw [Int.gcd_natCast_natCast];generalize hs:a.den.gcd b.den = sh at s0 sw ⊢;walk_at "d";refine ?_;walk_at "s";refine ⟨⟨by omega,sw⟩,?_⟩;rw [<- natCast_ediv];walk_at "s";refine ⟨⟨by omega,sw⟩,?_⟩;rw [<- natCast_ediv];refine ⟨dQ oa.n (iO (div_le_self _ _) ob.d),dQ ob.n (iO (div_le_self _ _) oa.d),?_⟩;generalize ht:a.num * ((b.den / sh:Nat):Int) + b.num * ((a.den / sh:Nat):Int) = tp;walk_at "s";refine ⟨_,_,rfl,by omega,by rw [Fm.abs_if]; omega,?_⟩;rw [Fm.abs_if,Int.gcd_natCast_natCast];generalize hg:sh.gcd tp.natAbs = g;have g0:0 < g:=by rw [<- hg]; exact gcd_pos_of_pos_left _ s0
 have gw:Wee (g:Int):=iO (by rw [<- hg]; exact le_of_dvd s0 (gcd_dvd_left _ _)) sw;walk_at "d";refine ?_;obtain ⟨e1,e2⟩:=Fm.add_parts a b sh hs.symm tp ht.symm g hg.symm;walk_at "d";refine ⟨⟨by omega,gw⟩,⟨by omega,gw⟩,dQ (iO (div_le_self _ _) oa.d) (by rw [<- natCast_ediv]; exact iO (div_le_self _ _) ob.d),?_⟩;rw [<- natCast_ediv,<- Int.natCast_mul,<- e1,<- e2];exact k
theorem Pn (T:Txt K mg A):FnOk P w K mg base (eP P w) 3 A.a_qd A.d_qd ["one","other"] (fC K (Yw (· - ·))):=by
 refine gE T.F_qd.F aIh (by walk_at "l") fun cdv Ar outer s H E hr=>?_;refine ⟨_,(aH (aV (cG (vE T) hr T.F_qc aO (aA (pv 0) (aA (cA (aA (pP kZ (cR (K:=K) rfl (pv 1))) (aA (cR (K:=K) rfl (pv 1)) aD))) aD))))),_,(bI (aB (aM (aC (aE 0) (aC (aB (cI (aQ (lS (aB (aS 0 (aL 1)))) (aQ (aS 1 (aL 1)) bE)) (by decide))) aG))))),?_⟩;rintro ds Q X ⟨a,b,rfl,oa,ob,k⟩;walk_at "d";refine ⟨a,-b,rfl,oa,⟨Et ob.n,ob.d⟩,rfl,?_⟩;dsimp only;rw [<- sub_eq_add_neg];exact k
theorem sJ (T:Txt K mg A):FnOk P w K mg base (eP P w) 3 A.a_qe A.d_qe ["one","other"] (fC K (Yw (· * ·))):=by
 refine gE T.F_qe.F Mp (by walk_at "l") fun cdv Ar outer s H E hr=>?_
 refine ⟨_,(aF (cY 2 Mp (cG (Gg T) hr T.F_qb aO (aA (cR (K:=K) rfl (pv 0)) (aA (cR (K:=K) rfl (pv 1)) aD))))
   (aF (cY 3 Mp (cG (Gg T) hr T.F_qb aO (aA (cR (K:=K) rfl (pv 1)) (aA (cR (K:=K) rfl (pv 0)) aD))))
   (aH (aV (cA (aA (aY bV (cR (K:=K) rfl (pv 2)) (cR (K:=K) rfl (pv 3))) (aA (aY bV (cR (K:=K) rfl (pv 2)) (cR (K:=K) rfl (pv 3))) aD))))))),_,(aJ (bD (aM (aC (aB (aS 0 (aL 0))) (aC (aB (aS 1 (aL 1))) aG))) (aI 2))
   (aJ (bD (aM (aC (aB (aS 0 (aL 1))) (aC (aB (aS 1 (aL 0))) aG))) (aI 3))
   (bI (aB (cI (aQ (aN dM (aB (aS 0 (aL 2))) (aB (aS 0 (aL 3)))) (aQ (aN dM (aB (aS 1 (aL 2))) (aB (aS 1 (aL 3)))) bE)) (by decide)))))),?_⟩
 rintro ds Q X ⟨a,b,rfl,oa,ob,k⟩;have z1:((b.den:Nat):Int) ≠ 0:=by have:=b.den_nz; omega
 have z2:((a.den:Nat):Int) ≠ 0:=by have:=a.den_nz; omega
 obtain ⟨e1,e2⟩:=Fm.mul_parts a b;walk_at "s";refine ⟨_,_,rfl,ob.d,fun z=>absurd z z1,fun _=>?_⟩;walk_at "s";refine ⟨_,_,rfl,oa.d,fun z=>absurd z z2,fun _=>?_⟩;have n1:=Fm.num_le a.num z1;have n2:=Fm.den_le a.num z1;have n3:=Fm.num_le b.num z2;have n4:=Fm.den_le b.num z2;have w1:=oa.n; have w2:=oa.d; have w3:=ob.n; have w4:=ob.d
 walk_at "d";refine ⟨dQ (by unfold Wee at *; omega) (by unfold Wee at *; omega),dQ (by unfold Wee at *; omega) (by unfold Wee at *; omega),?_⟩;rw [<- Int.natCast_mul,<- e1,<- e2];exact k
def aHh:DW:=fun ds Q _=>∃ a b:Rat,ds = [fr a,fr b]/\Ok a/\Ok b/\Q (.dat (.bool (decide (a < b))))
theorem sI (T:Txt K mg A):FnOk P w K mg base (eP P w) 1 A.a_qg A.d_qg ["one","other"] (fC K aHh):=by
 refine gE T.F_qg.F aIf (by walk_at "l") fun cdv Ar outer s H E hr=>?_;refine ⟨_,(aH (aV (iK lJ (aY bV (cR (K:=K) rfl (pv 0)) (cR (K:=K) rfl (pv 1))) (aY bV (cR (K:=K) rfl (pv 1)) (cR (K:=K) rfl (pv 0))) (aX _)))),_,(bI (aB (aN eW (aB (aN dM (aB (aS 0 (aL 0))) (aB (aS 1 (aL 1))))) (aB (aN dM (aB (aS 0 (aL 1))) (aB (aS 1 (aL 0)))))))),?_⟩;rintro ds Q X ⟨a,b,rfl,oa,ob,k⟩;walk_at "d";refine ⟨dQ oa.n ob.d,dQ ob.n oa.d,?_⟩;have e:decide (a.num * (b.den:Int) < b.num * (a.den:Int)) = decide (a < b):=by
  rw [decide_eq_decide]; exact Fm.less_iff a b
 rw [e];exact k
def aHc (C:Addr):DW:=fun ds Q X=>∃ a b:Rat,ds = [fr a,fr b]/\Ok a/\Ok b/\(b = 0->X C)/\(b ≠ 0->Q (.dat (fr (a / b))))
theorem aJj (T:Txt K mg A):FnOk P w K mg base (eP P w) 4 A.a_qf A.d_qf ["one","other"] (fC K (aHc A.x_NoNumber)):=by
 refine gE T.F_qf.F aIg (by walk_at "l") fun cdv Ar outer s H E hr=>?_
 refine ⟨_,(aF (bK (aT cP (cR (K:=K) rfl (pv 1)) aP (aX _)) (aH (cU T.x_NoNumber hr.hd bX rfl (aA bF aD))) aW)
   (aH (aV (cG (sJ T) hr T.F_qe aO (aA (pv 0) (aA (cG (Gg T) hr T.F_qb aO (aA (cR (K:=K) rfl (pv 1)) (aA (cR (K:=K) rfl (pv 1)) aD))) aD)))))),_,(aJ (bP (aU (aB (aN cN (aB (aS 0 (aL 1))) (aB aK)))) (cT (aQ bG bE) (by decide)) aZ)
   (bI (aB (aM (aC (aE 0) (aC (aB (aM (aC (aB (aS 1 (aL 1))) (aC (aB (aS 0 (aL 1))) aG)))) aG)))))),?_⟩
 rintro ds Q X ⟨a,b,rfl,oa,ob,k0,k1⟩;walk_at "s";refine bU (fun c=>?_) (fun c=>?_)
 ·exact k0 (Rat.num_eq_zero.mp c)
 ·have c2:b.num ≠ 0:=c;have hb:b ≠ 0:=fun z=>c2 (by rw [z]; rfl);walk_at "d";refine ⟨_,_,rfl,ob.n,fun z=>absurd z c2,fun _=>⟨rfl,a,b⁻¹,?_,oa,?_,rfl,?_⟩⟩
  ·rw [Fm.div_inv]
  ·rw [<- Fm.div_inv];have n1:=Fm.num_le (b.den:Int) c2;have n2:=Fm.den_le (b.den:Int) c2;have w3:=ob.n; have w4:=ob.d
   exact ⟨by unfold Wee at *; omega,by unfold Wee at *; omega⟩
  ·dsimp only;rw [<- div_def];exact k1 hb
theorem Ww {α β:Type} (f:α->β) (xs:List α) (i:Int):nI (xs.map f) i = (nI xs i).map f:=by
 unfold nI;rw [length_map];cases Gr xs.length i with
 | none=>rfl
 | some j=>exact getElem?_map
theorem aLe {α:Type} [Inhabited α] {xs:List α} {k:Int} (h0:0<=k) (h1:k < (xs.length:Int)):nI xs k = some (xs.getD k.toNat default):=by
 have e:k = ((k.toNat:Nat):Int):=by omega
 have hl:k.toNat < xs.length:=by omega
 conv=>lhs; rw [e]
 refine fS ?_;rw [getElem?_eq_getElem hl];simp [getD,hl]
theorem pM {α β:Type} [Inhabited α] (f:α->β) {xs:List α} {k:Int} (h0:0<=k) (h1:k < (xs.length:Int)):nI (xs.map f) k = some (f (xs.getD k.toNat default)):=by
 rw [Ww,aLe h0 h1]; rfl
theorem getD_mem' {α:Type} [Inhabited α] {xs:List α} {j:Nat} (h:j < xs.length):xs.getD j default∈xs:=by
 have e:xs.getD j default = xs[j]:=by simp [getD,h]
 rw [e]; exact getElem_mem h
theorem Qu {α:Type} [Inhabited α] {xs:List α} {j:Nat} {p:α->Prop} (h:∀ v∈xs,p v) (h0:p default):p (xs.getD j default):=by
 by_cases hj:j < xs.length
 ·exact h _ (getD_mem' hj)
 ·have e:xs.getD j default = default:=by simp [getD,hj]
  rw [e]; exact h0
def Iu (C:Addr):DW:=fun ds Q X=>∃ qs:List Rat,ds = [.list (qs.map fr)]/\(∀ q∈qs,Ok q)/\(qs = []->X C)/\∀ q∈qs,(∀ r∈qs,r<=q)->Q (.dat (fr q))
theorem Pm (T:Txt K mg A):FnOk P w K mg base (eP P w) 2 A.a_qj A.d_qj ["some"] (fC K (Iu A.x_NoNumber)):=by
 refine gE T.F_qj.F Fo (by walk_at "l") fun cdv Ar outer s H E hr=>?_
 refine ⟨_,(aF (bK (aT cP (bB (gH (K:=K) rfl) rfl T.n_len boot_len (aA (pv 0) aD)) aP (aX _)) (aH (cU T.x_NoNumber hr.hd bX rfl (aA bF aD))) aW)
   (aF (cY 1 Fo (kP (K:=K) rfl (pv 0)))
   (aF (dU PassesOwn.leaving rfl (fV (K:=K) rfl (pv 0)) (mG 2 Fo)
    (aH (bK (eL (cG (sI T) hr T.F_qg aO (aA (pv 1) (aA (pv 2) aD)))) (aH (cY 1 Fo (pv 2))) aW)))
   (aH (aV (pv 1)))))),_,(aJ (bP (aU (aB (aN cN (aB (bT cO (aC (aE 0) aG))) (aB aK)))) (cT (aQ bG bE) (by decide)) aZ)
   (aJ (bD (bO (bA 0) (aB aK)) (aI 1))
   (aJ (eC (gZ (aL 0)) (aI 2)
    (bP (jF (aB (aM (aC (aE 1) (aC (aE 2) aG))))) (bD (aL 2) (aI 1)) aZ))
   (eA 1)))),?_⟩
 rintro ds Q X ⟨qs,rfl,ho,k0,k⟩;walk_at "s";rcases qs with _ | ⟨q0,qs⟩
 ·rw [if_pos (by simp)];exact k0 rfl
 rw [if_neg (by simp; omega)];walk_at "s";refine ⟨fr q0,fS (j:=0) rfl,cK (dE fr (q0 :: qs) (fun Q h=>h) (fun i δ=>∃ q r,δ = [some (.dat (.list ((q0 :: qs).map fr))),some (.dat (fr q)),r]/\q∈q0 :: qs/\∀ j r,j < i->(q0 :: qs)[j]? = some r->r<=q) ⟨q0,none,rfl,mem_cons_self,fun j r hj=>absurd hj (not_lt_zero _)⟩ ?_ ?_)⟩
 ·rintro i q1 δ hi ⟨q,r,rfl,hq,hle⟩;walk_at "d";refine ⟨q,q1,rfl,ho q hq,ho q1 (mem_of_getElem? hi),?_⟩;walk_at "d";have up:∀ z,q<=z->q1<=z->∀ j r,j < i + 1->(q0 :: qs)[j]? = some r->r<=z:=fun z h1 h2 j r hj e=>by
   by_cases hji:j = i
   ·subst hji;rw [hi] at e;cases e;exact h2
   ·exact Rat.le_trans (hle j r (by omega) e) h1
  refine bU (fun c=>?_) (fun c=>?_)
  ·exact ⟨q1,_,rfl,mem_of_getElem? hi,up q1 (by grind) Rat.le_refl⟩
  ·exact ⟨q,_,rfl,hq,up q Rat.le_refl (not_lt.mp c)⟩
 ·rintro δ ⟨q,r,rfl,hq,hle⟩;walk_at "d";refine k q hq fun r hr'=>?_;obtain ⟨j,hj⟩:=getElem?_of_mem hr';exact hle j r (List.getElem?_eq_some_iff.mp hj).1 hj
def Zg (C:Addr):DW:=fun ds Q X=>∃ qs:List Rat,ds = [.list (qs.map fr)]/\(∀ q∈qs,Ok q)/\(qs = []->X C)/\∀ q∈qs,(∀ r∈qs,q<=r)->Q (.dat (fr q))
theorem aJi (T:Txt K mg A):FnOk P w K mg base (eP P w) 2 A.a_qk A.d_qk ["some"] (fC K (Zg A.x_NoNumber)):=by
 refine gE T.F_qk.F Fl (by walk_at "l") fun cdv Ar outer s H E hr=>?_
 refine ⟨_,(aF (bK (aT cP (bB (gH (K:=K) rfl) rfl T.n_len boot_len (aA (pv 0) aD)) aP (aX _)) (aH (cU T.x_NoNumber hr.hd bX rfl (aA bF aD))) aW)
   (aF (cY 1 Fl (kP (K:=K) rfl (pv 0)))
   (aF (dU PassesOwn.leaving rfl (fV (K:=K) rfl (pv 0)) (mG 2 Fl)
    (aH (bK (eL (cG (sI T) hr T.F_qg aO (aA (pv 2) (aA (pv 1) aD)))) (aH (cY 1 Fl (pv 2))) aW)))
   (aH (aV (pv 1)))))),_,(aJ (bP (aU (aB (aN cN (aB (bT cO (aC (aE 0) aG))) (aB aK)))) (cT (aQ bG bE) (by decide)) aZ)
   (aJ (bD (bO (bA 0) (aB aK)) (aI 1))
   (aJ (eC (gZ (aL 0)) (aI 2)
    (bP (jF (aB (aM (aC (aE 2) (aC (aE 1) aG))))) (bD (aL 2) (aI 1)) aZ))
   (eA 1)))),?_⟩
 rintro ds Q X ⟨qs,rfl,ho,k0,k⟩;walk_at "s";rcases qs with _ | ⟨q0,qs⟩
 ·rw [if_pos (by simp)];exact k0 rfl
 rw [if_neg (by simp; omega)];walk_at "s";refine ⟨fr q0,fS (j:=0) rfl,cK (dE fr (q0 :: qs) (fun Q h=>h) (fun i δ=>∃ q r,δ = [some (.dat (.list ((q0 :: qs).map fr))),some (.dat (fr q)),r]/\q∈q0 :: qs/\∀ j r,j < i->(q0 :: qs)[j]? = some r->q<=r) ⟨q0,none,rfl,mem_cons_self,fun j r hj=>absurd hj (not_lt_zero _)⟩ ?_ ?_)⟩
 ·rintro i q1 δ hi ⟨q,r,rfl,hq,hle⟩;walk_at "d";refine ⟨q1,q,rfl,ho q1 (mem_of_getElem? hi),ho q hq,?_⟩;walk_at "d";have up:∀ z,z<=q->z<=q1->∀ j r,j < i + 1->(q0 :: qs)[j]? = some r->z<=r:=fun z h1 h2 j r hj e=>by
   by_cases hji:j = i
   ·subst hji;rw [hi] at e;cases e;exact h2
   ·exact Rat.le_trans h1 (hle j r (by omega) e)
  refine bU (fun c=>?_) (fun c=>?_)
  ·exact ⟨q1,_,rfl,mem_of_getElem? hi,up q1 (by grind) Rat.le_refl⟩
  ·exact ⟨q,_,rfl,hq,up q Rat.le_refl (not_lt.mp c)⟩
 ·rintro δ ⟨q,r,rfl,hq,hle⟩;walk_at "d";refine k q hq fun r hr'=>?_;obtain ⟨j,hj⟩:=getElem?_of_mem hr';exact hle j r (List.getElem?_eq_some_iff.mp hj).1 hj
def tot:List Rat->Rat
 | []=>0
 | q :: qs=>q + tot qs
theorem mB:∀ (a b:List Rat),tot (a ++ b) = tot a + tot b
 | [],b=>by simp [tot,zero_add]
 | q :: a,b=>by
  show q + tot (a ++ b) = q + tot a + tot b;rw [mB a b,Rat.add_assoc]
theorem lA (qs:List Rat) (q:Rat):tot (qs ++ [q]) = tot qs + q:=by
 rw [mB];simp [tot,add_zero]
theorem eQ {α:Type} {xs:List α} {i:Nat} {x:α} (h:xs[i]? = some x):xs.take (i + 1) = xs.take i ++ [x]:=by
 rw [take_add_one,h]; rfl
def Yx:DW:=fun ds Q _=>∃ qs:List Rat,ds = [.list (qs.map fr)]/\(∀ q∈qs,Ok q)/\(∀ i,Ok (tot (qs.take i)))/\Q (.dat (fr (tot qs)))
theorem Ad (T:Txt K mg A):FnOk P w K mg base (eP P w) 3 A.a_qi A.d_qi ["some"] (fC K Yx):=by
 refine gE T.F_qi.F Fp (by walk_at "l") fun cdv Ar outer s H E hr=>?_
 refine ⟨_,(aF (cY 1 Fp (fH rfl T.c_NOUGHT (show RelV (.ref _) (.ref _) from rfl)))
   (aF (dU PassesOwn.leaving rfl (fV (K:=K) rfl (pv 0)) (mG 2 Fp)
    (aH (cY 1 Fp (cG (vE T) hr T.F_qc aO (aA (pv 1) (aA (pv 2) aD))))))
   (aH (aV (pv 1))))),_,(aJ (bD (tY T.k_NOUGHT) (aI 1))
   (aJ (eC (gZ (aL 0)) (aI 2)
    (bD (aM (aC (aE 1) (aC (aE 2) aG))) (aI 1)))
   (eA 1))),?_⟩
 rintro ds Q X ⟨qs,rfl,ho,ht,k⟩;walk_at "s";refine ?_;refine cK (dE fr qs (fun Q h=>h) (fun i δ=>∃ r,δ = [some (.dat (.list (qs.map fr))),some (.dat (fr (tot (qs.take i)))),r]) ⟨none,rfl⟩ ?_ ?_)
 ·rintro i q δ hi ⟨r,rfl⟩;walk_at "d";refine ⟨_,q,rfl,ht i,ho q (mem_of_getElem? hi),?_⟩;walk_at "d";exact ⟨_,by rw [eQ hi,lA]⟩
 ·rintro δ ⟨r,rfl⟩;walk_at "d";rw [take_of_length_le (le_refl _)];exact k
theorem bH {α β:Type} (f:α->β):∀ xs:List α,xs.flatMap (fun x=>[f x]) = xs.map f
 | []=>rfl
 | x :: xs=>by simp [bH f xs]
abbrev Mk:=Rat × Rat × Int
abbrev dP (m:Mk):PyData:=.tuple [fr m.1,fr m.2.1,.int m.2.2]
theorem oA:∀ ms:List Mk,dF (ms.map dP) = true
 | []=>rfl
 | m :: ms=>by
  have:=oA ms;simp only [map_cons,dF,mR,this,Bool.and_self]
def Bg (n:Nat) (v:Int):Prop:=v.natAbs < 2 ^ n
theorem Bg.bits {n:Nat} {v:Int} (h:Bg n v):Builtin.Int.intBits v<=n:=Ie h
theorem Bg.of {n:Nat} {v:Int} (h:Builtin.Int.intBits v<=n):Bg (n + 1) v:=by
 unfold Bg;by_cases h0:v = 0
 ·subst h0; exact Nat.two_pow_pos _
 ·unfold Builtin.Int.intBits at h;rw [if_neg (by simpa using h0)] at h;exact (log2_lt (by omega)).mp (by omega)
theorem Bg.mono {n m:Nat} {v:Int} (h:Bg n v) (l:n<=m):Bg m v:=lt_of_lt_of_le h (pow_le_pow_right (by decide) l)
theorem Bg.add {n:Nat} {a b:Int} (ha:Bg n a) (hb:Bg n b):Bg (n + 1) (a + b):=by
 unfold Bg at *
 rw [pow_succ];have:=Int.natAbs_add_le a b;omega
theorem Bg.small {n:Nat} {a:Int} (h:a.natAbs < 2 ^ 64) (hn:64<=n):Bg n a:=lt_of_lt_of_le h (pow_le_pow_right (by decide) hn)
open Fm
theorem eE {n:Nat} {q:Rat} (h:Dg n q) (l:n<=2400):Ok q:=okS (h.mono l) (by decide +kernel)
theorem kA {n:Nat} {i:Int} (h:i.natAbs<=10 ^ n) (l:n<=2400):Wee i:=fM (le_trans h (Lo l)) (by decide +kernel)
theorem eY {α β:Type} (f:α->PyData) (g:β->PyData):∀ (xs:List α) (ys:List β),pairD (xs.map f) (ys.map g) = (xs.zip ys).map fun p=>PyData.tuple [f p.1,g p.2]
 | [],_=>by simp [Dl.pairD]
 | x :: xs,[]=>by simp [Dl.pairD]
 | x :: xs,y :: ys=>by
  have:=eY f g xs ys;simp [Dl.pairD,this]
theorem jX {α β γ:Type} (f:α->β->γ):∀ (xs:List α) (ys:List β),((xs.zip ys).map fun p=>f p.1 p.2) = zipWith f xs ys
 | [],_=>by simp
 | x :: xs,[]=>by simp
 | x :: xs,y :: ys=>by simp [jX f xs ys]
theorem nJ {α β:Type} {p:α->Prop} {q:β->Prop}:∀ {xs:List α} {ys:List β},(∀ x∈xs,p x)->(∀ y∈ys,q y)->∀ z∈xs.zip ys,p z.1/\q z.2:=fun {xs ys} h1 h2 z hz=>by
 have:=of_mem_zip (a:=z.1) (b:=z.2) hz;exact ⟨h1 _ this.1,h2 _ this.2⟩
theorem kW {α β γ:Type} {f:α->β->γ} {p:α->Prop} {q:β->Prop} {r:γ->Prop} {xs:List α} {ys:List β} (h1:∀ x∈xs,p x) (h2:∀ y∈ys,q y) (h:∀ x y,p x->q y->r (f x y)):∀ z∈zipWith f xs ys,r z:=fun z hz=>by
 rw [<- jX] at hz;obtain ⟨w,hw,rfl⟩:=mem_map.mp hz;have:=nJ h1 h2 w hw;exact h _ _ this.1 this.2
def bN (ms:List Mk) (row:List Rat):List Rat:=zipWith (fun (m:Mk) h=>m.2.1 - h) ms row
def bY (ms:List Mk) (row:List Rat):List Rat:=zipWith (fun (m:Mk) x=>(m.2.2:Rat) * x) ms (bN ms row)
def wR (ms:List Mk) (row:List Rat):List Rat:=zipWith (fun a b=>a * b) (bY ms row) (bN ms row)
def fW:List Rat->Rat
 | []=>0
 | x :: xs=>if fW xs < x then x else fW xs
theorem mI:∀ xs:List Rat,0<=fW xs
 | []=>Rat.le_refl
 | x :: xs=>by
  have:=mI xs;unfold fW;split
  ·grind
  ·exact this
theorem kK:∀ {xs:List Rat},∀ x∈xs,x<=fW xs
 | y :: xs,x,h=>by
  have ih:=@kK xs;unfold fW;rcases mem_cons.mp h with rfl | h
  ·split
   ·exact Rat.le_refl
   ·exact not_lt.mp ‹_›
  ·have:=ih x h;split
   ·grind
   ·exact this
theorem iD:∀ {xs:List Rat},fW xs = 0\/fW xs∈xs
 | []=>.inl rfl
 | x :: xs=>by
  unfold fW;split
  ·exact .inr mem_cons_self
  ·rcases @iD xs with h | h
   ·exact .inl h
   ·exact .inr (mem_cons_of_mem _ h)
theorem mJ {xs:List Rat} {m:Rat} (h0:0<=m) (h1:m = 0\/m∈xs) (h2:∀ x∈xs,x<=m):m = fW xs:=by
 refine le_antisymm ?_ ?_
 ·rcases h1 with rfl | h1
  ·exact mI xs
  ·exact kK m h1
 ·rcases @iD xs with h | h
  ·rw [h]; exact h0
  ·exact h2 _ h
def dI (kd:Str) (ms:List Mk) (row:List Rat):Rat:=if kd = "far" then fW ((bN ms row).map bL) else if kd = "sum" then tot ((bY ms row).map bL) else tot (wR ms row)
theorem Cm.tot {L B:Nat}:∀ {qs:List Rat},(∀ q∈qs,Cm L B q)->Cm L (qs.length * B) (tot qs)
 | [],_=>Cm.zero
 | q :: qs,h=>by
  have h1:=h q mem_cons_self;have h2:=Cm.tot (qs:=qs) fun x hx=>h x (mem_cons_of_mem _ hx);exact (h1.add h2).mono (dvd_refl _) (by rw [length_cons,add_mul]; omega)
theorem gF {B b:Nat} (h:B<=10 ^ b):B + B<=10 ^ (b + 1):=by rw [pow_succ]; omega
theorem fQ {B b C c:Nat} (h:B<=10 ^ b) (h2:C<=10 ^ c):B * C<=10 ^ (b + c):=by rw [pow_add]; exact mul_le_mul h h2
theorem iP {n B b:Nat} (hn:n<=60) (h:B<=10 ^ b):n * B<=10 ^ (b + 2):=by
 have:n * B<=60 * 10 ^ b:=mul_le_mul hn h;rw [pow_add];omega
structure MSz (L B W l b wd:Nat) (ms:List Mk) (row:List Rat):Prop where
 len:ms.length<=60
 pos:0 < L
 pL:L<=10 ^ l
 pB:B<=10 ^ b
 pW:W<=10 ^ wd
 h:∀ m∈ms,Cm L B m.2.1
 r:∀ q∈row,Cm L B q
 w:∀ m∈ms,m.2.2.natAbs<=W
 fit:2 * l + 2 * b + wd + 6<=2400
section
variable {L B W l b wd:Nat} {ms:List Mk} {row:List Rat}
theorem MSz.miss (z:MSz L B W l b wd ms row):∀ x∈bN ms row,Cm L (B + B) x:=kW z.h z.r fun _ _ h1 h2=>h1.sub h2
theorem MSz.wmiss (z:MSz L B W l b wd ms row):∀ x∈bY ms row,Cm L (W * (B + B)) x:=kW z.w z.miss fun _ _ h1 h2=>((Cm.int h1).mul h2).mono (by rw [one_mul]; exact dvd_refl _) (le_refl _)
theorem MSz.sq (z:MSz L B W l b wd ms row):∀ x∈wR ms row,Cm (L * L) (W * (B + B) * (B + B)) x:=kW z.wmiss z.miss fun _ _ h1 h2=>h1.mul h2
theorem MSz.missOk (z:MSz L B W l b wd ms row):∀ x∈bN ms row,Ok x:=fun x hx=>eE ((z.miss x hx).dg z.pos z.pL (gF z.pB)) (by have:=z.fit; omega)
theorem MSz.wmissOk (z:MSz L B W l b wd ms row):∀ x∈bY ms row,Ok x:=fun x hx=>eE ((z.wmiss x hx).dg z.pos z.pL (fQ z.pW (gF z.pB))) (by have:=z.fit; omega)
theorem MSz.sqOk (z:MSz L B W l b wd ms row):∀ x∈wR ms row,Ok x:=fun x hx=>eE ((z.sq x hx).dg (Nat.mul_pos z.pos z.pos) (fQ z.pL z.pL) (fQ (fQ z.pW (gF z.pB)) (gF z.pB))) (by have:=z.fit; omega)
theorem jY:(bY ms row).length<=ms.length:=by unfold bY; rw [length_zipWith]; omega
theorem Ff:(wR ms row).length<=ms.length:=by unfold wR; rw [length_zipWith]; have:=jY (ms:=ms) (row:=row); omega
theorem MSz.sumOk (z:MSz L B W l b wd ms row) (i:Nat):Ok (tot (((bY ms row).map bL).take i)):=by
 have h:=Cm.tot (qs:=((bY ms row).map bL).take i) (L:=L) (B:=W * (B + B)) fun q hq=>by
  obtain ⟨x,hx,rfl⟩:=mem_map.mp (mem_of_mem_take hq);exact (z.wmiss x hx).abs
 have hl:(((bY ms row).map bL).take i).length<=60:=by
  rw [length_take,length_map]; have:=jY (ms:=ms) (row:=row); have:=z.len; omega
 exact eE (h.dg z.pos z.pL (iP hl (fQ z.pW (gF z.pB)))) (by have:=z.fit; omega)
theorem MSz.sqsOk (z:MSz L B W l b wd ms row) (i:Nat):Ok (tot ((wR ms row).take i)):=by
 have h:=Cm.tot (qs:=(wR ms row).take i) (L:=L * L) (B:=W * (B + B) * (B + B)) fun q hq=>z.sq q (mem_of_mem_take hq);have hl:((wR ms row).take i).length<=60:=by
  rw [length_take]; have:=Ff (ms:=ms) (row:=row); have:=z.len; omega
 exact eE (h.dg (Nat.mul_pos z.pos z.pos) (fQ z.pL z.pL) (iP hl (fQ (fQ z.pW (gF z.pB)) (gF z.pB)))) (by have:=z.fit; omega)
theorem MSz.hOk (z:MSz L B W l b wd ms row):∀ m∈ms,Ok m.2.1:=fun m hm=>eE ((z.h m hm).dg z.pos z.pL z.pB) (by have:=z.fit; omega)
theorem MSz.rOk (z:MSz L B W l b wd ms row):∀ q∈row,Ok q:=fun m hm=>eE ((z.r m hm).dg z.pos z.pL z.pB) (by have:=z.fit; omega)
theorem MSz.wOk (z:MSz L B W l b wd ms row) {m:Mk} (hm:m∈ms):Ok (m.2.2:Rat):=⟨kA (le_trans (z.w m hm) z.pW) (by have:=z.fit; omega),show Wee ((1:Nat):Int) from Ir (by decide +kernel)⟩
end
def aGy:DW:=fun ds Q _=>∃ q:Rat,ds = [fr q]/\Q (.dat (fr (bL q)))
theorem Xp (T:Txt K mg A):FnOk P w K mg base (eP P w) 1 A.a_qh A.d_qh ["one"] (fC K aGy):=by
 refine gE T.F_qh.F aIe (by walk_at "l") fun cdv Ar outer s H E hr=>?_;refine ⟨_,(aH (aV (cA (aA (bB gK rfl T.n_abs kM (aA (cR (K:=K) rfl (pv 0)) aD)) (aA (cR (K:=K) rfl (pv 0)) aD))))),_,(bI (aB (cI (aQ (bT kF (aC (aB (aS 0 (aL 0))) aG)) (aQ (aS 1 (aL 0)) bE)) (by decide)))),?_⟩;rintro ds Q X ⟨q,rfl,k⟩;walk_at "d";rw [Fm.abs_if];exact k
def Tk:DW:=fun ds Q _=>∃ (ms:List Mk) (row:List Rat),ds = [.list (ms.map dP),.list (row.map fr)]/\ms.length<=1000/\(∀ m∈ms,Ok m.2.1)/\(∀ q∈row,Ok q)/\Q (.own ((bN ms row).map fr))
theorem Pk (T:Txt K mg A):FnOk P w K mg base (eP P w) 4 A.a_qp A.d_qp ["marks","row"] (fC K Tk):=by
 refine gE T.F_qp.F aIb (by walk_at "l") fun cdv Ar outer s H E hr=>?_;refine ⟨_,(aH (aV (fA (cap:=[none,none]) (NC:=["mark","height"]) rfl (qE rfl) (jI (K:=K) rfl rfl T.n_zip (aA (pv 0) (aA (pv 1) aD))) (fun _ _ _ _=>(nB (K:=K) (n:=2) rfl rfl (bQ (kI 0 ["mark","height"]) (bQ (kI 1 ["mark","height"]) eV)))) (fun _ _ _ _=>cC) (fun _ _ _ _=>(cG (Pn T) hr T.F_qd aO (aA (cR (K:=K) rfl (pv 0)) (aA (pv 1) aD))))))),_,(kB (dW (lO (bA 0) (bA 1)) (fX (bW (aI 0) (bW (aI 1) fY))) cM (aM (aC (aB (aS 1 (aL 0))) (aC (aE 1) aG))) (by decide) (by decide))),?_⟩;rintro ds Q X ⟨ms,row,rfl,hl,hm,hr',k⟩;walk_at "d"
 refine cL (fun p:Mk × Rat=>PyData.tuple [dP p.1,fr p.2]) fr (fun p:Mk × Rat=>[p.1.2.1 - p.2]) (ms.zip row) (by rw [length_zip]; omega) (fun Q h=>by
   walk_at "d"
   rw [eY]; exact h) (fun p hp N acc hN=>?_) ?_
 ·have:=nJ hm hr' p hp;walk_at "d";refine ⟨p.1.2.1,p.2,rfl,this.1,this.2,?_⟩;walk_at "d";exact hN
 ·rw [bH,jX (fun (m:Mk) h=>m.2.1 - h)];exact k
def Ky:DW:=fun ds Q _=>∃ (ms:List Mk) (row:List Rat) (L B W l b wd:Nat),ds = [.list (ms.map dP),.list (row.map fr)]/\MSz L B W l b wd ms row/\Q (.own ((bY ms row).map fr))
theorem Xo (T:Txt K mg A):FnOk P w K mg base (eP P w) 5 A.a_qr A.d_qr ["marks","row"] (fC K Ky):=by
 refine gE T.F_qr.F aHz (by walk_at "l") fun cdv Ar outer s H E hr=>?_;refine ⟨_,(aH (aV (fA (cap:=[none,none]) (NC:=["mark","miss"]) rfl (qE rfl) (jI (K:=K) rfl rfl T.n_zip (aA (pv 0) (aA (cG (Pk T) hr T.F_qp aO (aA (pv 0) (aA (pv 1) aD))) aD))) (fun _ _ _ _=>(nB (K:=K) (n:=2) rfl rfl (bQ (kI 0 ["mark","miss"]) (bQ (kI 1 ["mark","miss"]) eV)))) (fun _ _ _ _=>cC) (fun _ _ _ _=>(cG (sJ T) hr T.F_qe aO (aA (cA (aA (cR (K:=K) rfl (pv 0)) (aA aP aD))) (aA (pv 1) aD))))))),_,(kB (dW (lO (bA 0) (mP (dH (aC (aE 0) (aC (aE 1) aG))))) (fX (bW (aI 0) (bW (aI 1) fY))) cM (aM (aC (aB (cI (aQ (aS 2 (aL 0)) (aQ aK bE)) (by decide))) (aC (aE 1) aG))) (by decide) (by decide))),?_⟩;rintro ds Q X ⟨ms,row,L,B,W,l,b,wd,rfl,z,k⟩;walk_at "d"
 refine cL (fun p:Mk × Rat=>PyData.tuple [dP p.1,fr p.2]) fr (fun p:Mk × Rat=>[(p.1.2.2:Rat) * p.2]) (ms.zip (bN ms row)) (by rw [length_zip]; have:=z.len; omega) (fun Q h=>by
   walk_at "d"
   refine ⟨ms,row,rfl,by have:=z.len; omega,z.hOk,z.rOk,?_⟩
   walk_at "d"
   refine ⟨dZ _,?_⟩
   rw [eY]; exact h) (fun p hp N acc hN=>?_) ?_
 ·have:=nJ (p:=fun m=>m∈ms) (fun _ h=>h) z.missOk p hp;walk_at "d";refine ⟨(p.1.2.2:Rat),p.2,rfl,z.wOk this.1,this.2,?_⟩;walk_at "d";exact hN
 ·rw [bH,jX (fun (m:Mk) x=>(m.2.2:Rat) * x)];exact k
def dJ:List Str:=["far","sum","square"]
def aEf:List { x:Str // PyData.strOk x = true }:=[⟨"far",by decide +kernel⟩,⟨"sum",by decide +kernel⟩,⟨"square",by decide +kernel⟩]
theorem Vr {kd:Str} (h:PyData.strOk kd = true):(⟨kd,h⟩:{ x:Str // PyData.strOk x = true })∈aEf ↔ kd∈dJ:=by
 simp [aEf,dJ,Subtype.ext_iff]
def Zq (C:Addr):DW:=fun ds Q X=>∃ d:PyData,ds = [d]/\(∀ kd:Str,d = .str kd->PyData.strOk kd = true)/\((∃ kd:Str,d = .str kd/\kd∈dJ)->Q (.dat .none))/\((∀ kd:Str,d = .str kd->kd ∉ dJ)->X C)
theorem Pj (T:Txt K mg A):FnOk P w K mg base (eP P w) 1 A.a_qq A.d_qq ["kind"] (fC K (Zq A.x_NoKind)):=by
 refine gE T.F_qq.F aIa (by walk_at "l") fun cdv Ar outer s H E hr=>?_;refine ⟨_,(aH (bK (PW.pt (gA (kH (eL (bB (Gs (K:=K) rfl) rfl T.n_isinstance hV (aA (pv 0) (aA (qR rfl T.n_str yJ (show RelV (.ty "str") (.type "str") from rfl)) aD))))) (fU (aT (Vc (K:=K) rfl hr.units) (pv 0) (fH rfl T.c_KINDS (show RelV (.ref _) (.ref _) from rfl)) rfl)))) (aH (cU T.x_NoKind hr.hd bX rfl (aA bF aD))) aW)),_,(bP (fZ (jZ (jF (aB (xY (by decide) (aE 0))))) (aU (aB (aN Ji (aE 0) (aB (tY T.k_KINDS)))))) (cT (aQ bG bE) (by decide)) aZ),?_⟩;rintro ds Q X ⟨d,rfl,ok,k1,k2⟩;have no:(∀ kd:Str,d ≠ .str kd)->X A.x_NoKind:=fun h=>k2 fun kd e=>absurd e (h kd);cases d with
 | str kd =>
  walk_at "d";refine ⟨_,aNi,⟨kd,ok kd rfl⟩,aEf,rfl,rfl,fun b hb=>?_⟩;rw [Vr] at hb;cases b with
  | true =>
   walk_at "d";exact k1 ⟨kd,rfl,hb.mp rfl⟩
  | false =>
   walk_at "d";refine k2 fun kd' e h=>?_;cases e;exact absurd (hb.mpr h) (by decide)
 | _=>exact no fun _=>by simp
def aHe (C:Addr):DW:=fun ds Q X=>∃ (d:PyData) (ms:List Mk) (row:List Rat) (L B W l b wd:Nat),ds = [d,.list (ms.map dP),.list (row.map fr)]/\MSz L B W l b wd ms row/\ms ≠ []/\row.length = ms.length/\(∀ kd:Str,d = .str kd->PyData.strOk kd = true) /\
 (∀ kd:Str,d = .str kd->kd∈dJ->Q (.dat (fr (dI kd ms row))))/\((∀ kd:Str,d = .str kd->kd ∉ dJ)->X C)
theorem Xn (T:Txt K mg A):FnOk P w K mg base (eP P w) 6 A.a_qs A.d_qs ["kind","marks","row"] (fC K (aHe A.x_NoKind)):=by
 refine gE T.F_qs.F Mj (by walk_at "l") fun cdv Ar outer s H E hr=>?_
 refine ⟨_,(aF (eG (cG (Pj T) hr T.F_qq bX (aA (pv 0) aD)))
   (aF (cY 3 Mj (cG (Pk T) hr T.F_qp aO (aA (pv 1) (aA (pv 2) aD))))
   (aF (bK (aT cP (pv 0) bF (aX _)) (aH (aV (cG (Pm T) hr T.F_qj aO (aA (fA (cap:=[none]) (NC:=["miss"]) rfl (qE rfl) (fV (K:=K) rfl (pv 3)) (fun _ _ _ _=>(kI 0 ["miss"])) (fun _ _ _ _=>cC) (fun _ _ _ _=>(cG (Xp T) hr T.F_qh aO (aA (pv 0) aD)))) aD)))) aW)
   (aF (cY 4 Mj (cG (Xo T) hr T.F_qr aO (aA (pv 1) (aA (pv 2) aD))))
   (aF (bK (aT cP (pv 0) bF (aX _)) (aH (aV (cG (Ad T) hr T.F_qi aO (aA (fA (cap:=[none]) (NC:=["one"]) rfl (qE rfl) (fV (K:=K) rfl (pv 4)) (fun _ _ _ _=>(kI 0 ["one"])) (fun _ _ _ _=>cC) (fun _ _ _ _=>(cG (Xp T) hr T.F_qh aO (aA (pv 0) aD)))) aD)))) aW)
   (aH (aV (cG (Ad T) hr T.F_qi aO (aA (fA (cap:=[none,none]) (NC:=["one","miss"]) rfl (qE rfl) (jI (K:=K) rfl rfl T.n_zip (aA (pv 4) (aA (pv 3) aD))) (fun _ _ _ _=>(nB (K:=K) (n:=2) rfl rfl (bQ (kI 0 ["one","miss"]) (bQ (kI 1 ["one","miss"]) eV)))) (fun _ _ _ _=>cC) (fun _ _ _ _=>(cG (sJ T) hr T.F_qe aO (aA (pv 0) (aA (pv 1) aD))))) aD))))))))),_,(aJ (mC (aB (hG (aC (aE 0) aG))))
   (aJ (bZ 3 (dH (aC (aE 1) (aC (aE 2) aG))))
   (aJ (bP (aU (aB (aN cN (aE 0) (aB bG)))) (bI (aB (aM (aC (aB (eI (dW (cW (bA 3)) (aI 0) cM (aM (aC (aE 0) aG)) (by decide) (by decide)))) aG)))) aZ)
   (aJ (bZ 4 (dH (aC (aE 1) (aC (aE 2) aG))))
   (aJ (bP (aU (aB (aN cN (aE 0) (aB bG)))) (bI (aB (aM (aC (aB (eI (dW (cW (bA 4)) (aI 0) cM (aM (aC (aE 0) aG)) (by decide) (by decide)))) aG)))) aZ)
   (bI (aB (aM (aC (aB (eI (dW (lO (bA 4) (bA 3)) (fX (bW (aI 0) (bW (aI 1) fY))) cM (aM (aC (aE 0) (aC (aE 1) aG))) (by decide) (by decide)))) aG))))))))),?_⟩
 rintro ds Q X ⟨d,ms,row,L,B,W,l,b,wd,rfl,z,hne,hlr,ok,k,kx⟩;have zl:=z.len;walk_at "s";refine ⟨d,rfl,ok,?_,kx⟩;rintro ⟨kd,rfl,hkd⟩;have kq:=k kd rfl hkd;walk_at "s";refine ⟨ms,row,rfl,by omega,z.hOk,z.rOk,?_⟩;walk_at "d";refine ⟨dZ _,?_⟩;walk_at "s";have hml:(bN ms row).length = ms.length:=by unfold bN; rw [length_zipWith]; omega
 refine bU (fun c=>?_) (fun c=>?_)
 ·have ek:kd = "far":=c;subst ek;have e:dI "far" ms row = fW ((bN ms row).map bL):=by unfold dI; rw [if_pos rfl]
  rw [e] at kq;walk_at "d";refine cL fr fr (fun q:Rat=>[bL q]) (bN ms row) (by omega) (fun Q h=>h) (fun q hq N acc hN=>?_) ?_
  ·walk_at "d";refine ⟨q,rfl,?_⟩;walk_at "d";exact hN
  rw [bH];refine ⟨(bN ms row).map bL,rfl,fun q hq=>?_,fun h0=>?_,fun q hq hle=>?_⟩
  ·obtain ⟨x,hx,rfl⟩:=mem_map.mp hq;have:=z.missOk x hx;exact ⟨by rw [jW]; have:=this.n; unfold Wee at *; omega,this.d⟩
  ·have:=congrArg length h0;rw [length_map,hml] at this;exact absurd (length_eq_zero_iff.mp this) hne
  ·have hq0:0<=q:=by
    obtain ⟨x,_,rfl⟩:=mem_map.mp hq;exact oO x
   rw [mJ hq0 (.inr hq) hle];walk_at "d";exact kq
 have nk:kd ≠ "far":=c;walk_at "s";refine ⟨ms,row,L,B,W,l,b,wd,rfl,z,?_⟩;walk_at "d";refine ⟨dZ _,?_⟩;walk_at "s";have hwl:=jY (ms:=ms) (row:=row);refine bU (fun c=>?_) (fun c=>?_)
 ·have ek:kd = "sum":=c;subst ek;have e:dI "sum" ms row = tot ((bY ms row).map bL):=by unfold dI; rw [if_neg (by decide),if_pos rfl]
  rw [e] at kq;walk_at "d";refine cL fr fr (fun q:Rat=>[bL q]) (bY ms row) (by omega) (fun Q h=>h) (fun q hq N acc hN=>?_) ?_
  ·walk_at "d";refine ⟨q,rfl,?_⟩;walk_at "d";exact hN
  rw [bH];refine ⟨(bY ms row).map bL,rfl,fun q hq=>?_,z.sumOk,?_⟩
  ·obtain ⟨x,hx,rfl⟩:=mem_map.mp hq;have:=z.wmissOk x hx;exact ⟨by rw [jW]; have:=this.n; unfold Wee at *; omega,this.d⟩
  ·walk_at "d";exact kq
 ·have nk2:kd ≠ "sum":=c;have e:dI kd ms row = tot (wR ms row):=by unfold dI; rw [if_neg nk,if_neg nk2]
  rw [e] at kq;walk_at "d"
  refine cL (fun p:Rat × Rat=>PyData.tuple [fr p.1,fr p.2]) fr (fun p:Rat × Rat=>[p.1 * p.2]) ((bY ms row).zip (bN ms row)) (by rw [length_zip]; omega) (fun Q h=>by
    walk_at "d"
    rw [eY]; exact h) (fun p hp N acc hN=>?_) ?_
  ·have:=nJ z.wmissOk z.missOk p hp;walk_at "d";refine ⟨p.1,p.2,rfl,this.1,this.2,?_⟩;walk_at "d";exact hN
  rw [bH,jX (fun a b:Rat=>a * b)];refine ⟨wR ms row,rfl,z.sqOk,z.sqsOk,?_⟩;walk_at "d";exact kq
abbrev Pr:=Rat × Rat
def Fz (z:Pr):PyData:=.tuple [fr z.1,fr z.2]
theorem zV:∀ zs:List Pr,dF (zs.map Fz) = true
 | []=>rfl
 | z :: zs=>by
  have:=zV zs;simp only [map_cons,dF,Fz,mR,fr,this,Bool.and_self]
def UpP (zs:List Pr):Prop:=zs.Pairwise fun a b=>a.1<=b.1
def gJ (zs:List Pr) (p:Rat):Nat:=(zs.flatMap fun z=>if z.1 < p then [z] else []).length
theorem tL (a b:List Pr) (p:Rat):gJ (a ++ b) p = gJ a p + gJ b p:=by
 unfold gJ;rw [List.flatMap_append,length_append]
theorem Sh {a:List Pr} {p:Rat} (h:∀ z∈a,z.1 < p):gJ a p = a.length:=by
 induction a with
 | nil=>rfl
 | cons m a ih =>
  have e:gJ (m :: a) p = gJ [m] p + gJ a p:=tL [m] a p;have e1:gJ [m] p = 1:=by unfold gJ; simp [h m mem_cons_self]
  rw [e,e1,ih fun x hx=>h x (mem_cons_of_mem _ hx),length_cons];omega
theorem Kq {a:List Pr} {p:Rat} (h:∀ z∈a,¬ z.1 < p):gJ a p = 0:=by
 induction a with
 | nil=>rfl
 | cons m a ih =>
  have e:gJ (m :: a) p = gJ [m] p + gJ a p:=tL [m] a p;have e1:gJ [m] p = 0:=by unfold gJ; simp [h m mem_cons_self]
  rw [e,e1,ih fun x hx=>h x (mem_cons_of_mem _ hx)]
theorem uK (p:Rat):∀ {zs:List Pr},UpP zs->∃ a b,zs = a ++ b/\(∀ z∈a,z.1 < p)/\(∀ z∈b,¬ z.1 < p)
 | [],_=>⟨[],[],rfl,(fun _ h=>nomatch h),fun _ h=>nomatch h⟩
 | m :: ms,h=>by
  have h1:=pairwise_cons.mp h;by_cases c:m.1 < p
  ·obtain ⟨a,b,e,h2,h3⟩:=uK p h1.2;refine ⟨m :: a,b,by rw [e]; rfl,fun x hx=>?_,h3⟩;rcases mem_cons.mp hx with rfl | hx
   ·exact c
   ·exact h2 x hx
  ·refine ⟨[],m :: ms,rfl,(fun _ h=>nomatch h),fun x hx=>?_⟩;rcases mem_cons.mp hx with rfl | hx
   ·exact c
   ·have:=h1.1 x hx;grind
theorem Tt {zs:List Pr} (h:UpP zs) (z:Pr):gJ zs z.1<=zs.length/\UpP (zs.take (gJ zs z.1) ++ z :: zs.drop (gJ zs z.1))/\(zs.take (gJ zs z.1) ++ z :: zs.drop (gJ zs z.1)).Perm (zs ++ [z]):=by
 obtain ⟨a,b,e,h1,h2⟩:=uK z.1 h;have ec:gJ zs z.1 = a.length:=by rw [e,tL,Sh h1,Kq h2]; rfl
 have et:zs.take a.length = a:=by rw [e]; simp
 have ed:zs.drop a.length = b:=by rw [e]; simp
 rw [ec,et,ed];refine ⟨by rw [e,length_append]; omega,?_,?_⟩
 ·rw [e] at h;have h3:=pairwise_append.mp h;refine pairwise_append.mpr ⟨h3.1,pairwise_cons.mpr ⟨fun y hy=>not_lt.mp (h2 y hy),h3.2.1⟩,fun x hx y hy=>?_⟩;rcases mem_cons.mp hy with rfl | hy
  ·have:=h1 x hx; grind
  ·exact h3.2.2 x hx y hy
 ·rw [e,append_assoc];exact Perm.append_left a (List.perm_append_comm (l₁:=[z]) (l₂:=b))
theorem zD {a b:List Rat} (h:a.Perm b):tot a = tot b:=by
 induction h with
 | nil=>rfl
 | cons x _ ih=>simp only [tot,ih]
 | swap x y l=>simp only [tot]; grind
 | trans _ _ i1 i2=>rw [i1,i2]
def fO (p:Pr->Bool) (zs:List Pr):Rat:=tot ((zs.filter p).map (·.2))
theorem oC (p:Pr->Bool) (a b:List Pr):fO p (a ++ b) = fO p a + fO p b:=by
 unfold fO;rw [List.filter_append,map_append,mB]
theorem Qv {p:Pr->Bool} {a:List Pr} (h:∀ z∈a,p z = true):fO p a = tot (a.map (·.2)):=by
 unfold fO;rw [List.filter_eq_self.mpr h]
theorem Kk {p:Pr->Bool} {a:List Pr} (h:∀ z∈a,¬ p z = true):fO p a = 0:=by
 unfold fO;rw [List.filter_eq_nil_iff.mpr h]; rfl
theorem wK:∀ {a:List Rat},(∀ q∈a,0<=q)->0<=tot a
 | [],_=>Rat.le_refl
 | x :: a,h=>by
  have h1:=h x mem_cons_self;have h2:=wK (a:=a) fun q hq=>h q (mem_cons_of_mem _ hq);simp only [tot];grind
theorem Wc {p:Pr->Bool} {a:List Pr} (h:∀ z∈a,0<=z.2):0<=fO p a:=wK fun q hq=>by
 obtain ⟨z,hz,rfl⟩:=mem_map.mp hq;exact h z (mem_filter.mp hz).1
theorem Gy {p:Pr->Bool}:∀ {a:List Pr},(∀ z∈a,0<=z.2)->fO p a<=tot (a.map (·.2))
 | [],_=>Rat.le_refl
 | x :: a,h=>by
  have h1:=h x mem_cons_self;have h2:=Gy (p:=p) (a:=a) fun q hq=>h q (mem_cons_of_mem _ hq);have e:fO p (x :: a) = fO p [x] + fO p a:=oC p [x] a;have e1:fO p [x]<=x.2:=by
   unfold fO;by_cases c:p x = true
   ·simp [c,tot]; grind
   ·simp [c,tot]; exact h1
  rw [e];simp only [map_cons,tot];grind
theorem vN {p:Pr->Bool} {a b:List Pr} (h:a.Perm b):fO p a = fO p b:=zD ((h.filter p).map _)
structure Mid (zs:List Pr) (x:Rat):Prop where
 mem:∃ z∈zs,z.1 = x
 lo:fO (fun z=>decide (z.1 < x)) zs + fO (fun z=>decide (z.1 < x)) zs < tot (zs.map (·.2))
 hi:tot (zs.map (·.2))<=fO (fun z=>decide (z.1<=x)) zs + fO (fun z=>decide (z.1<=x)) zs
theorem aDw {zs ps:List Pr} {s:Nat} (up:UpP ps) (pm:ps.Perm zs) (nn:∀ z∈zs,0<=z.2) (hs:s < ps.length) (h1:tot ((ps.take s).map (·.2)) + tot ((ps.take s).map (·.2)) < tot (zs.map (·.2)))
  (h2:tot (zs.map (·.2))<=tot ((ps.take (s + 1)).map (·.2)) + tot ((ps.take (s + 1)).map (·.2))):Mid zs ps[s].1:=by
 have np:∀ z∈ps,0<=z.2:=fun z hz=>nn z (pm.mem_iff.mp hz);refine ⟨⟨ps[s],pm.mem_iff.mp (getElem_mem hs),rfl⟩,?_,?_⟩
 ·rw [<- vN pm];have e:=oC (fun z=>decide (z.1 < ps[s].1)) (ps.take s) (ps.drop s);rw [take_append_drop] at e;have e0:fO (fun z=>decide (z.1 < ps[s].1)) (ps.drop s) = 0:=Kk fun z hz=>by
   rw [drop_eq_getElem_cons hs] at hz;have hp:UpP (ps.drop s):=Pairwise.drop up;rw [drop_eq_getElem_cons hs] at hp;rcases mem_cons.mp hz with rfl | hz
   ·simp
   ·have:=(pairwise_cons.mp hp).1 z hz;simpa using not_lt.mpr this
  have e1:=Gy (p:=fun z=>decide (z.1 < ps[s].1)) (a:=ps.take s) fun z hz=>np z (mem_of_mem_take hz);grind
 ·rw [<- vN pm];have e:=oC (fun z=>decide (z.1<=ps[s].1)) (ps.take (s + 1)) (ps.drop (s + 1));rw [take_append_drop] at e;have e0:=Wc (p:=fun z=>decide (z.1<=ps[s].1)) (a:=ps.drop (s + 1)) fun z hz=>np z (List.mem_of_mem_drop hz);have e1:fO (fun z=>decide (z.1<=ps[s].1)) (ps.take (s + 1)) = tot ((ps.take (s + 1)).map (·.2)):=Qv fun z hz=>by
   obtain ⟨i,hi,rfl⟩:=getElem_of_mem hz;rw [List.getElem_take];rw [length_take] at hi;by_cases c:i = s
   ·subst c; simp
   ·have:=List.pairwise_iff_getElem.mp up i s (by omega) hs (by omega);simpa using this
  grind
theorem Ej {ps:List Pr} {k:Int} {j:Nat} (e:k = (j:Int)) (h:j < ps.length):nI (ps.map Fz) k = some (Fz ps[j]):=by
 rw [pM (xs:=ps) Fz (by omega) (by omega),e,toNat_natCast];simp [h]
def Zd:DW:=fun ds Q _=>∃ qs vs:List Rat,ds = [.list (qs.map fr),.list (vs.map fr)]/\qs.length = vs.length/\qs.length<=60/\(∀ q∈qs,Ok q)/\∀ ps:List Pr,UpP ps->ps.Perm (qs.zip vs)->Q (.own (ps.map Fz))
theorem aJc (T:Txt K mg A):FnOk P w K mg base (eP P w) 2 A.a_qv A.d_qv ["some","weights"] (fC K Zd):=by
 refine gE T.F_qv.F sc_qv (by walk_at "l") fun cdv Ar outer s H E hr=>?_
 refine ⟨_,(aF (cY 2 sc_qv (dN aD))
   (aF (dU PassesOwn.leaving rfl (jI (K:=K) rfl rfl T.n_zip (aA (pv 0) (aA (pv 1) aD))) (nB (K:=K) (n:=2) rfl rfl (bQ (xF (i:=3) sc_qv.nd rfl (Or.inr rfl)) (bQ (mG 4 sc_qv) eV)))
    (aF (cY 5 sc_qv (bB (gH (K:=K) rfl) rfl T.n_len boot_len (aA (fA (cap:=[none,some 3]) (NC:=["pair","one"]) rfl ⟨rfl,rfl,by decide +kernel,by decide +kernel,⟨⟨_,rfl,rfl,rfl,rfl,rfl⟩,trivial⟩,(forall_mem_cons.2 ⟨rfl,(fun _ h=>nomatch h)⟩),rfl⟩ (fV (K:=K) rfl (pv 2)) (fun _ _ _ _=>(kI 0 ["pair","one"])) (fun _ _ _ _=>(Fy (eL (cG (sI T) hr T.F_qg aO (aA (cR (K:=K) rfl (pv 0)) (aA (pv 1) aD)))))) (fun _ _ _ _=>(pv 0))) aD)))
   (aH (eG (fB F.plainAttrs_list F.slot_list_insert F.type_list_insert vH (pv 2) (aA (pv 5) (aA (cA (aA (pv 3) (aA (pv 4) aD))) aD)))))))
   (aH (aV (pv 2))))),_,(aJ (bZ 2 (dO bE (by decide)))
   (aJ (eC (Qm (aL 0) (aL 1)) (fX (bW (aI 3) (bW (aI 4) fY)))
    (aJ (bD (bT cO (aC (aB (eI (dW (cW (bA 2)) (aI 0) (jF (aB (aM (aC (aB (aS 0 (aL 0))) (aC (aE 1) aG))))) (aL 0) (by decide) (by decide)))) aG)) (aI 5))
   (Lu 2 (aE 5) (cI (aQ (aL 3) (aQ (aL 4) bE)) (by decide)))))
   (eA 2))),?_⟩
 rintro ds Q X ⟨qs,vs,rfl,hl,n60,ho,k⟩;have zl:(qs.zip vs).length<=60:=by rw [length_zip]; omega
 have hz:∀ z∈qs.zip vs,Ok z.1:=fun z h=>ho _ (of_mem_zip (a:=z.1) (b:=z.2) h).1;walk_at "s"
 refine cK (dE (fun z:Pr=>PyData.tuple [fr z.1,fr z.2]) (qs.zip vs) (fun Q h=>by
   walk_at "d"
   rw [eY]; exact h)
  (fun i δ=>∃ (ps:List Pr) (t1 t2 t3:Option Sl),δ = [some (.dat (.list (qs.map fr))),some (.dat (.list (vs.map fr))),some (.own (ps.map Fz)),t1,t2,t3]/\UpP ps/\ps.Perm ((qs.zip vs).take i))
  ⟨[],_,_,_,rfl,Pairwise.nil,.nil⟩ ?_ ?_)
 ·rintro i z δ hi ⟨ps,t1,t2,t3,rfl,up,pm⟩;have pl:ps.length<=60:=by have:=pm.length_eq; rw [length_take] at this; omega
  have po:∀ x∈ps,Ok x.1:=fun x hx=>hz x (mem_of_mem_take (pm.mem_iff.mp hx));have oz:=hz z (mem_of_getElem? hi);obtain ⟨h1,h2,h3⟩:=Tt up z;have pm2:(ps.take (gJ ps z.1) ++ z :: ps.drop (gJ ps z.1)).Perm ((qs.zip vs).take (i + 1)):=by
   rw [eQ hi];exact h3.trans (pm.append_right [z])
  walk_at "s";refine cL Fz Fz (fun x:Pr=>if x.1 < z.1 then [x] else []) ps (by omega) (fun Q h=>h) (fun x h N acc hN=>?_) ?_
  ·walk_at "d";refine ⟨x.1,z.1,rfl,po x h,oz,?_⟩;walk_at "d";by_cases c:x.1 < z.1
   ·rw [if_pos c];rw [if_pos c] at hN;exact hN
   ·rw [if_neg c];rw [if_neg c] at hN;simpa using hN
  have ec:((ps.flatMap fun x:Pr=>if x.1 < z.1 then [x] else []).map Fz).length = gJ ps z.1:=by rw [length_map]; rfl
  generalize (ps.flatMap fun x:Pr=>if x.1 < z.1 then [x] else []) = L at *
  walk_at "d";rw [length_map] at ec;rw [ec];have ef:take (gJ ps z.1) (ps.map Fz) ++ PyData.tuple [fr z.1,fr z.2] :: List.drop (gJ ps z.1) (ps.map Fz) = (ps.take (gJ ps z.1) ++ z :: ps.drop (gJ ps z.1)).map Fz:=by
   rw [map_append,map_cons,map_take,List.map_drop];rfl
  rw [toNat_natCast,ef];exact ⟨by omega,by omega,by omega,_,_,_,_,rfl,h2,pm2⟩
 ·rintro δ ⟨ps,t1,t2,t3,rfl,up,pm⟩;walk_at "d";rw [take_of_length_le (le_refl _)] at pm;exact k ps up pm
theorem Fa:∀ {a:List Rat},a ≠ []->(∀ q∈a,0 < q)->0 < tot a
 | [],h,_=>absurd rfl h
 | x :: a,_,h=>by
  have h1:=h x mem_cons_self;have h2:=wK (a:=a) fun q hq=>by have:=h q (mem_cons_of_mem _ hq); grind
  simp only [tot];grind
def Tn:DW:=fun ds Q _=>∃ qs vs:List Rat,ds = [.list (qs.map fr),.list (vs.map fr)]/\qs.length = vs.length/\1<=qs.length/\qs.length<=60/\(∀ q∈qs,Ok q)/\(∀ v∈vs,0 < v/\Cm 1 (10 ^ 120) v)/\∀ x:Rat,Mid (qs.zip vs) x->Q (.dat (fr x))
theorem aJd (T:Txt K mg A):FnOk P w K mg base (eP P w) 4 A.a_qu A.d_qu ["some","weights"] (fC K Tn):=by
 refine gE T.F_qu.F rP (by walk_at "l") fun cdv Ar outer s H E hr=>?_
 refine ⟨_,(aF (cY 2 rP (cG (aJc T) hr T.F_qv aO (aA (pv 0) (aA (pv 1) aD))))
   (aF (cY 3 rP (cG (Ad T) hr T.F_qi aO (aA (pv 1) aD)))
   (aF (cY 4 rP aP)
   (aF (cY 5 rP (cR (K:=K) rfl (kP (K:=K) rfl (pv 2))))
   (aF (lH PassesOwn.leaving (eL (cG (sI T) hr T.F_qg aO (aA (cG (vE T) hr T.F_qc aO (aA (pv 5) (aA (pv 5) aD))) (aA (pv 3) aD)))) (aF (cY 4 rP (aY eR (pv 4) aP))
   (aH (cY 5 rP (cG (vE T) hr T.F_qc aO (aA (pv 5) (aA (cR (K:=K) rfl (gB (lN (K:=K) rfl) (pv 2) (pv 4) (fun _ _=>rfl))) aD)))))))
   (aH (aV (cR (K:=K) rfl (gB (lN (K:=K) rfl) (pv 2) (pv 4) (fun _ _=>rfl)))))))))),_,(aJ (bZ 2 (dH (aC (aE 0) (aC (aE 1) aG))))
   (aJ (bD (aM (aC (aE 1) aG)) (aI 3))
   (aJ (bD aK (aI 4))
   (aJ (bD (aS 1 (bO (bA 2) (aB aK))) (aI 5))
   (aJ (lB (jF (aB (aM (aC (aB (aM (aC (aE 5) (aC (aE 5) aG)))) (aC (aE 3) aG))))) (aJ (bD (aN eO (aE 4) (aB aK)) (aI 4))
   (bD (aM (aC (aE 5) (aC (aB (aS 1 (bO (bA 2) (aE 4)))) aG))) (aI 5))))
   (bI (aB (aS 0 (bO (bA 2) (aE 4)))))))))),?_⟩
 rintro ds Q X ⟨qs,vs,rfl,hl,n1,n60,ho,hv,k⟩;have cdg:∀ {l:List Rat},l.length<=60->(∀ v∈l,Cm 1 (10 ^ 120) v)->Dg 123 (tot l):=fun {l} h1 h2=>by
  have h:=Cm.tot (qs:=l) (L:=1) (B:=10 ^ 120) h2;refine h.dg (by decide) (l:=0) (by decide) (b:=122) ?_;exact le_trans (mul_le_mul_right _ h1) (by decide +kernel)
 walk_at "s";refine ⟨qs,vs,rfl,hl,n60,ho,fun ps up pm=>?_⟩;have pl:ps.length = qs.length:=by rw [pm.length_eq,length_zip]; omega
 have zs2:(qs.zip vs).map (·.2) = vs:=List.map_snd_zip (by omega);have p2:(ps.map (·.2)).Perm vs:=by rw [<- zs2]; exact pm.map _
 have pv:∀ v∈ps.map (·.2),0 < v/\Cm 1 (10 ^ 120) v:=fun v h=>hv v (p2.mem_iff.mp h);have sdg:∀ s,Dg 123 (tot ((ps.take s).map (·.2))):=fun s=>cdg (by rw [length_map,length_take]; omega) fun v h=>by
  rw [map_take] at h;exact (pv v (mem_of_mem_take h)).2
 have wdg:Dg 123 (tot vs):=cdg (by omega) fun v h=>(hv v h).2;have wpos:0 < tot vs:=Fa (fun e=>by rw [e,length_nil] at hl; omega) fun v h=>(hv v h).1;walk_at "d";refine ⟨zV _,?_⟩;walk_at "s";refine ⟨vs,rfl,fun v h=>eE ((hv v h).2.dg (by decide) (l:=0) (by decide) (b:=120) (le_refl _)) (by decide),fun i=>eE (cdg (by rw [length_take]; omega) fun v h=>(hv v (mem_of_mem_take h)).2) (by decide),?_⟩;walk_at "s";walk_at "s";refine ⟨_,Ej (j:=0) rfl (by omega),?_⟩;walk_at "s";have s1:tot ((ps.take 1).map (·.2)) = ps[0].2:=by
  rw [eQ (getElem?_eq_getElem (show 0 < ps.length by omega))];simp [tot,add_zero]
 refine ⟨fun m δ=>∃ s:Nat,s < ps.length/\m = ps.length - s/\δ = [some (.dat (.list (qs.map fr))),some (.dat (.list (vs.map fr))),some (.own (ps.map Fz)),some (.dat (fr (tot vs))),some (.dat (.int (s:Int))),some (.dat (fr (tot ((ps.take (s + 1)).map (·.2)))))]/\tot ((ps.take s).map (·.2)) + tot ((ps.take s).map (·.2)) < tot vs,⟨_,0,by omega,rfl,by rw [s1]; rfl,by simpa [tot,add_zero] using wpos⟩,?_⟩;rintro m δ ⟨s,hs,rfl,rfl,hlt⟩;have o1:=eE (sdg (s + 1)) (by decide);have d2:Dg 247 (tot ((ps.take (s + 1)).map (·.2)) + tot ((ps.take (s + 1)).map (·.2))):=(sdg (s + 1)).add (sdg (s + 1));walk_at "d";refine ⟨_,_,rfl,o1,o1,?_⟩;walk_at "d";refine ⟨_,_,rfl,eE d2 (by decide),eE wdg (by decide),?_⟩;walk_at "d";refine bU (fun c=>?_) (fun c=>?_)
 ·have hs2:s + 1 < ps.length:=Decidable.not_not.mp fun z=>by
   rw [take_of_length_le (by omega),zD p2] at c;grind
  walk_at "s";refine ⟨_,Ej (j:=s + 1) (by omega) hs2,?_⟩;have ov:Ok ps[s + 1].2:=eE ((pv _ (mem_map.mpr ⟨_,getElem_mem hs2,rfl⟩)).2.dg (by decide) (l:=0) (by decide) (b:=120) (le_refl _)) (by decide);refine ⟨_,_,rfl,o1,ov,?_⟩;walk_at "d";refine ⟨ps.length - (s + 1),by omega,s + 1,hs2,rfl,?_,c⟩;rw [eQ (getElem?_eq_getElem hs2),map_append,mB];simp [tot,add_zero]
 ·walk_at "d";refine ⟨_,Ej (j:=s) rfl hs,?_⟩;refine k _ (aDw up pm (fun z hz=>?_) hs ?_ ?_)
  ·have:=(hv z.2 (of_mem_zip (a:=z.1) (b:=z.2) hz).2).1;grind
  ·rw [zs2]; exact hlt
  ·rw [zs2]; exact not_lt.mp c
def lP:Rat:=divInt 1 2
def fJ (ms:List Mk):List Rat:=ms.map fun m=>m.2.1
def gL (ms:List Mk):List Rat:=ms.map fun m=>(m.2.2:Rat)
structure LevelOk (kd:Str) (ms:List Mk) (x:Rat):Prop where
 far:kd = "far"->∃ a b,a∈fJ ms/\(∀ r∈fJ ms,r<=a)/\b∈fJ ms/\(∀ r∈fJ ms,b<=r)/\x = lP * (a + b)
 sum:kd = "sum"->Mid ((fJ ms).zip (gL ms)) x
 sq:kd = "square"->x = tot (zipWith (fun v h=>v * h) (gL ms) (fJ ms)) / tot (gL ms)
def Zf:DW:=fun ds Q _=>∃ (kd:Str) (ms:List Mk) (L:Nat),ds = [.str kd,.list (ms.map dP)]/\kd∈dJ/\1<=ms.length/\ms.length<=60/\0 < L/\L<=10 ^ 100/\(∀ m∈ms,Cm L (10 ^ 100) m.2.1)/\(∀ m∈ms,1<=m.2.2/\m.2.2<=10 ^ 100)/\∀ x,LevelOk kd ms x->Q (.dat (fr x))
theorem Gd (T:Txt K mg A):FnOk P w K mg base (eP P w) 5 A.a_qt A.d_qt ["kind","marks"] (fC K Zf):=by
 refine gE T.F_qt.F sc_qt (by walk_at "l") fun cdv Ar outer s H E hr=>?_
 refine ⟨_,(aF (iU (i:=2) (cap:=[none]) (NC:=["mark"]) sc_qt.nd rfl rfl rfl (qE rfl) (fV (K:=K) rfl (pv 1)) (fun _ _ _ _=>(kI 0 ["mark"])) (fun _ _ _ _=>cC) (fun _ _ _ _=>(cR (K:=K) rfl (pv 0))))
   (aF (bK (aT cP (pv 0) bF (aX _)) (aH (aV (cG (sJ T) hr T.F_qe aO (aA (cA (aA aP (aA aP aD))) (aA (cG (vE T) hr T.F_qc aO (aA (cG (Pm T) hr T.F_qj aO (aA (pv 2) aD)) (aA (cG (aJi T) hr T.F_qk aO (aA (pv 2) aD)) aD))) aD))))) aW)
   (aF (iU (i:=3) (cap:=[none]) (NC:=["mark"]) sc_qt.nd rfl rfl rfl (qE rfl) (fV (K:=K) rfl (pv 1)) (fun _ _ _ _=>(kI 0 ["mark"])) (fun _ _ _ _=>cC) (fun _ _ _ _=>(cA (aA (cR (K:=K) rfl (pv 0)) (aA aP aD)))))
   (aF (bK (aT cP (pv 0) bF (aX _)) (aH (aV (cG (aJd T) hr T.F_qu aO (aA (pv 2) (aA (pv 3) aD))))) aW)
   (aF (iU (i:=4) (cap:=[none,none]) (NC:=["weight","height"]) sc_qt.nd rfl rfl rfl (qE rfl) (jI (K:=K) rfl rfl T.n_zip (aA (pv 3) (aA (pv 2) aD))) (fun _ _ _ _=>(nB (K:=K) (n:=2) rfl rfl (bQ (kI 0 ["weight","height"]) (bQ (kI 1 ["weight","height"]) eV)))) (fun _ _ _ _=>cC) (fun _ _ _ _=>(cG (sJ T) hr T.F_qe aO (aA (pv 0) (aA (pv 1) aD)))))
   (aH (aV (cG (aJj T) hr T.F_qf aO (aA (cG (Ad T) hr T.F_qi aO (aA (pv 4) aD)) (aA (cG (Ad T) hr T.F_qi aO (aA (pv 3) aD)) aD)))))))))),_,(aJ (bZ 2 (dW (cW (bA 1)) (aI 0) cM (aS 1 (aL 0)) (by decide) (by decide)))
   (aJ (bP (aU (aB (aN cN (aE 0) (aB bG)))) (bI (aB (aM (aC (aB (cI (aQ aK (aQ aK bE)) (by decide))) (aC (aB (aM (aC (aB (aM (aC (aE 2) aG))) (aC (aB (aM (aC (aE 2) aG))) aG)))) aG))))) aZ)
   (aJ (bZ 3 (dW (cW (bA 1)) (aI 0) cM (cI (aQ (aS 2 (aL 0)) (aQ aK bE)) (by decide)) (by decide) (by decide)))
   (aJ (bP (aU (aB (aN cN (aE 0) (aB bG)))) (bI (aB (aM (aC (aE 2) (aC (aE 3) aG))))) aZ)
   (aJ (bZ 4 (dW (lO (bA 3) (bA 2)) (fX (bW (aI 0) (bW (aI 1) fY))) cM (aM (aC (aE 0) (aC (aE 1) aG))) (by decide) (by decide)))
   (bI (aB (aM (aC (aB (aM (aC (aE 4) aG))) (aC (aB (aM (aC (aE 3) aG))) aG)))))))))),?_⟩
 rintro ds Q X ⟨kd,ms,L,rfl,hkd,n1,n60,L0,L1,hc,hw,k⟩;walk_at "s";refine cL dP fr (fun m:Mk=>[m.2.1]) ms (by omega) (fun Q h=>h) (fun m h N acc hN=>?_) ?_
 ·walk_at "d";exact hN
 rw [bH];obtain ⟨hs,hhs⟩:∃ hs,fJ ms = hs:=⟨_,rfl⟩;rw [show ms.map (fun m:Mk=>m.2.1) = hs from hhs];have hl:hs.length = ms.length:=by rw [<- hhs,fJ,length_map]
 have hcm:∀ q∈hs,Cm L (10 ^ 100) q:=fun q hq=>by
  rw [<- hhs] at hq;obtain ⟨m,hm,rfl⟩:=mem_map.mp hq;exact hc m hm
 have hdg:∀ q∈hs,Dg 201 q:=fun q hq=>(hcm q hq).dg L0 L1 (b:=100) (le_refl _);have hok:∀ q∈hs,Ok q:=fun q hq=>eE (hdg q hq) (by decide);walk_at "s";refine bU (fun c=>?_) (fun c=>?_)
 ·have ek:kd = "far":=c;subst ek;walk_at "d";have hne:hs ≠ []:=fun e=>by rw [e,length_nil] at hl; omega
  refine ⟨hs,rfl,hok,fun e=>hne e,fun a ha hla=>⟨rfl,?_⟩⟩;refine ⟨hs,rfl,hok,fun e=>hne e,fun b hb hlb=>⟨rfl,?_⟩⟩;refine ⟨a,b,rfl,hok a ha,hok b hb,rfl,?_⟩;have dab:Dg 403 (a + b):=(hdg a ha).add (hdg b hb);have dh:Dg 1 lP:=⟨by decide +kernel,by decide +kernel⟩;refine ⟨lP,a + b,rfl,eE dh (by decide),eE dab (by decide),rfl,?_⟩;refine k _ ⟨fun _=>⟨a,b,?_,?_,?_,?_,rfl⟩,fun h=>absurd h (by decide),fun h=>absurd h (by decide)⟩ <;> rw [hhs] <;> assumption
 have nk:kd ≠ "far":=c;walk_at "s";refine cL dP fr (fun m:Mk=>[(m.2.2:Rat)]) ms (by omega) (fun Q h=>h) (fun m h N acc hN=>?_) ?_
 ·walk_at "d";exact hN
 rw [bH];obtain ⟨vs,hvs⟩:∃ vs,gL ms = vs:=⟨_,rfl⟩;rw [show ms.map (fun m:Mk=>(m.2.2:Rat)) = vs from hvs];have vl:vs.length = ms.length:=by rw [<- hvs,gL,length_map]
 have hv:∀ v∈vs,0 < v/\Cm 1 (10 ^ 120) v:=fun v h=>by
  rw [<- hvs] at h;obtain ⟨m,hm,rfl⟩:=mem_map.mp h;have h1:=hw m hm;refine ⟨intCast_pos.mpr (by omega),Cm.int ?_⟩;have:(10:Nat) ^ 100<=10 ^ 120:=by decide +kernel
  omega
 walk_at "s";refine bU (fun c=>?_) (fun c=>?_)
 ·have ek:kd = "sum":=c;subst ek;walk_at "d";refine ⟨hs,vs,rfl,by omega,by omega,by omega,hok,hv,fun x hx=>?_⟩;walk_at "d";exact k x ⟨fun h=>absurd h (by decide),fun _=>by rw [hhs,hvs]; exact hx,fun h=>absurd h (by decide)⟩
 have nk2:kd ≠ "sum":=c;walk_at "s";have v0:∀ v∈vs,Cm 1 (10 ^ 100) v:=fun v h=>by
  rw [<- hvs] at h;obtain ⟨m,hm,rfl⟩:=mem_map.mp h;have h1:=hw m hm;exact Cm.int (by omega)
 have vok:∀ v∈vs,Ok v:=fun v h=>eE ((v0 v h).dg (by decide) (l:=0) (by decide) (b:=100) (le_refl _)) (by decide)
 refine cL (fun p:Rat × Rat=>PyData.tuple [fr p.1,fr p.2]) fr (fun p:Rat × Rat=>[p.1 * p.2]) (vs.zip hs) (by rw [length_zip]; omega) (fun Q h=>by
   walk_at "d"
   rw [eY]; exact h) (fun p hp N acc hN=>?_) ?_
 ·have:=nJ vok hok p hp;walk_at "d";refine ⟨p.1,p.2,rfl,this.1,this.2,?_⟩;walk_at "d";exact hN
 rw [bH,jX (fun a b:Rat=>a * b)];obtain ⟨us,hus⟩:∃ us,zipWith (fun a b:Rat=>a * b) vs hs = us:=⟨_,rfl⟩;rw [hus];have ul:us.length<=60:=by rw [<- hus,length_zipWith]; omega
 have uc:∀ u∈us,Cm (1 * L) (10 ^ 100 * 10 ^ 100) u:=fun u hu=>by
  rw [<- hus,<- jX] at hu;obtain ⟨p,hp,rfl⟩:=mem_map.mp hu;have hz:=of_mem_zip (a:=p.1) (b:=p.2) hp;exact (v0 _ hz.1).mul (hcm _ hz.2)
 have ud:∀ i,Dg 303 (tot (us.take i)):=fun i=>by
  have h:=Cm.tot (qs:=us.take i) fun u hu=>uc u (mem_of_mem_take hu);refine h.dg (l:=100) (by omega) (by omega) (b:=202) ?_;exact le_trans (mul_le_mul_right _ (show _<=60 by rw [length_take]; omega)) (by decide +kernel)
 have wd:∀ i,Dg 103 (tot (vs.take i)):=fun i=>by
  have h:=Cm.tot (qs:=vs.take i) fun u hu=>v0 u (mem_of_mem_take hu);refine h.dg (l:=0) (by decide) (by decide) (b:=102) ?_;exact le_trans (mul_le_mul_right _ (show _<=60 by rw [length_take]; omega)) (by decide +kernel)
 have ude:=ud us.length;have wde:=wd vs.length;rw [take_of_length_le (le_refl _)] at ude wde;have wpos:0 < tot vs:=Fa (fun e=>by rw [e,length_nil] at vl; omega) fun v h=>(hv v h).1;refine ⟨us,rfl,fun u hu=>eE ((uc u hu).dg (l:=100) (by omega) (by omega) (b:=200) (by decide +kernel)) (by decide),fun i=>eE (ud i) (by decide),rfl,?_⟩;refine ⟨vs,rfl,vok,fun i=>eE (wd i) (by decide),rfl,?_⟩;refine ⟨tot us,tot vs,rfl,eE ude (by decide),eE wde (by decide),fun e=>by rw [e] at wpos; exact absurd wpos (by decide),fun _=>⟨rfl,?_⟩⟩;exact k _ ⟨fun h=>absurd h nk,fun h=>absurd h nk2,fun _=>by rw [hhs,hvs,hus]⟩
def cH:List Mk->Int
 | []=>0
 | m :: ms=>m.2.2 + cH ms
theorem nL:∀ ms:List Mk,tot (gL ms) = (cH ms:Rat)
 | []=>rfl
 | m :: ms=>by
  have:=nL ms;show (m.2.2:Rat) + tot (gL ms) = ((m.2.2 + cH ms:Int):Rat);rw [this,intCast_add]
theorem iA:∀ {ms:List Mk},ms ≠ []->(∀ m∈ms,1<=m.2.2)->1<=cH ms
 | [],h,_=>absurd rfl h
 | [m],_,h=>by have:=h m mem_cons_self; simp only [cH]; omega
 | m :: n :: ms,_,h=>by
  have h1:=h m mem_cons_self;have h2:=iA (ms:=n :: ms) (by simp) fun x hx=>h x (mem_cons_of_mem _ hx);rw [cH]; omega
theorem qH {W:Int}:∀ {ms:List Mk},(∀ m∈ms,m.2.2<=W)->cH ms<=ms.length * W
 | [],_=>by simp [cH]
 | m :: ms,h=>by
  have h1:=h m mem_cons_self;have h2:=qH (ms:=ms) fun x hx=>h x (mem_cons_of_mem _ hx);rw [cH,length_cons];have:((ms.length + 1:Nat):Int) * W = ms.length * W + W:=by rw [Int.natCast_add,Int.add_mul]; simp
  omega
def iY (ms:List Mk):Rat:=tot (zipWith (fun v h=>v * h) (gL ms) (fJ ms))
theorem gR (m:Mk) (ms:List Mk):iY (m :: ms) = (m.2.2:Rat) * m.2.1 + iY ms:=rfl
theorem Ey {B:Rat}:∀ {ms:List Mk},(∀ m∈ms,-B<=m.2.1/\m.2.1<=B)->(∀ m∈ms,1<=m.2.2)->-(B * (cH ms:Rat))<=iY ms/\iY ms<=B * (cH ms:Rat)
 | [],_,_=>by
  have e:iY [] = 0:=rfl;have e2:((cH []:Int):Rat) = 0:=rfl;rw [e,e2,mul_zero];exact ⟨by decide,by decide⟩
 | m :: ms,h,hw=>by
  have h1:=h m mem_cons_self;have w1:=hw m mem_cons_self;have h2:=Ey (B:=B) (ms:=ms) (fun x hx=>h x (mem_cons_of_mem _ hx)) fun x hx=>hw x (mem_cons_of_mem _ hx);have w0:(0:Rat)<=(m.2.2:Rat):=intCast_nonneg.mpr (by omega);have a:=mul_nonneg w0 (show 0<=B - m.2.1 by grind);have b:=mul_nonneg w0 (show 0<=B + m.2.1 by grind);rw [gR,cH,intCast_add];constructor <;> grind
theorem Ex {L B:Nat}:∀ {ms:List Mk},(∀ m∈ms,Cm L B m.2.1)->(iY ms).den ∣ L
 | [],_=>⟨L,(one_mul L).symm⟩
 | m :: ms,h=>by
  have h1:(((m.2.2:Int):Rat) * m.2.1).den ∣ 1 * L:=((Cm.int (i:=m.2.2) (le_refl _)).mul (h m mem_cons_self)).d;have h2:=Ex (ms:=ms) fun x hx=>h x (mem_cons_of_mem _ hx);rw [one_mul] at h1;rw [gR];have c1:Cm L ((((m.2.2:Int):Rat) * m.2.1).num.natAbs) (((m.2.2:Int):Rat) * m.2.1):=Cm.of h1 (le_mul_of_pos_right _ (Rat.den_pos _));have c2:Cm L (iY ms).num.natAbs (iY ms):=Cm.of h2 (le_mul_of_pos_right _ (Rat.den_pos _));exact (c1.add c2).d
theorem Sn {x T B:Rat} (hT:0 < T) (h:x * T<=B * T):x<=B:=not_lt.mp fun c=>by
 have:=mul_pos (show 0 < x - B by grind) hT;grind
theorem Kj (m:Rat):lP * m + lP * m = m:=by
 have:lP + lP = 1:=by decide +kernel
 grind
theorem Gx {s B:Rat} (h1:-(B + B)<=s) (h2:s<=B + B):-B<=lP * s/\lP * s<=B:=by
 have h0:(0:Rat)<=lP:=by decide +kernel
 have e:=Kj B;have a:=mul_nonneg h0 (show 0<=s + (B + B) by grind);have b:=mul_nonneg h0 (show 0<=(B + B) + -s by grind);rw [mul_add,mul_add,e] at a;rw [mul_add,mul_add,e,Rat.mul_neg] at b;constructor <;> grind
theorem sS {kd:Str} {ms:List Mk} {x:Rat} {L B:Nat} (hk:kd∈dJ) (X:LevelOk kd ms x) (hne:ms ≠ []) (hc:∀ m∈ms,Cm L B m.2.1) (hw:∀ m∈ms,1<=m.2.2):Cm (2 * L * (cH ms).toNat) B x:=by
 have hh:∀ q∈fJ ms,Cm L B q:=fun q hq=>by
  obtain ⟨m,hm,rfl⟩:=mem_map.mp hq;exact hc m hm
 have wp:=iA hne hw;have dl:L ∣ 2 * L * (cH ms).toNat:=⟨2 * (cH ms).toNat,by rw [mul_comm 2 L,mul_assoc]⟩;have hk3:kd = "far"\/kd = "sum"\/kd = "square":=by simpa [dJ] using hk
 rcases hk3 with e | e | e
 ·obtain ⟨a,b,ha,_,hb,_,rfl⟩:=X.far e;have ca:=hh a ha;have cb:=hh b hb;have ch:Cm 2 1 lP:=⟨by decide +kernel,by decide +kernel,by decide +kernel⟩;have cx:=ch.mul (ca.add cb);refine ⟨dvd_trans cx.d (dvd_mul_right _ _),?_,?_⟩
  ·have h1:=ca.lo; have h2:=cb.lo; have h3:=ca.hi; have h4:=cb.hi
   exact (Gx (by grind) (by grind)).1
  ·have h1:=ca.lo; have h2:=cb.lo; have h3:=ca.hi; have h4:=cb.hi
   exact (Gx (by grind) (by grind)).2
 ·obtain ⟨z,hz,rfl⟩:=(X.sum e).mem;exact (hh _ (of_mem_zip (a:=z.1) (b:=z.2) hz).1).mono dl (le_refl _)
 ·have ex:=X.sq e;have T0:(0:Rat) < (cH ms:Rat):=intCast_pos.mpr (by omega);have ex2:x * (cH ms:Rat) = iY ms:=by
   rw [ex,nL,div_mul_cancel (by grind)]; rfl
  have bd:=Ey (B:=(B:Rat)) (ms:=ms) (fun m hm=>⟨(hc m hm).lo,(hc m hm).hi⟩) hw;rw [<- ex2] at bd;refine ⟨?_,?_,Sn T0 bd.2⟩
  ·have c1:=Ex hc;have e3:x = iY ms * divInt 1 ((cH ms).toNat:Int):=by
    rw [<- ex2,Int.toNat_of_nonneg (by omega)];have:(cH ms:Rat) * divInt 1 (cH ms) = 1:=by
     rw [divInt_eq_div,div_def];show (cH ms:Rat) * (1 * (cH ms:Rat)⁻¹) = 1;rw [Rat.one_mul,Rat.mul_inv_cancel _ (by grind)]
    rw [Rat.mul_assoc,this,Rat.mul_one]
   rw [e3];have c2:Cm L (iY ms).num.natAbs (iY ms):=Cm.of c1 (le_mul_of_pos_right _ (Rat.den_pos _));have c3:Cm (cH ms).toNat 1 (divInt 1 ((cH ms).toNat:Int)):=Cm.div (by omega) (dvd_refl _) (by show 1<=_; omega);have:=(c2.mul c3).d;exact dvd_trans this ⟨2,by rw [mul_comm (L * _) 2,mul_assoc]⟩
  ·have:=Sn (x:=-x) (B:=(B:Rat)) T0 (by grind);grind
theorem vO (p:Pr->Bool) (z:Pr) (zs:List Pr):fO p (z :: zs) = (if p z = true then z.2 else 0) + fO p zs:=by
 have e:fO p (z :: zs) = fO p [z] + fO p zs:=oC p [z] zs;rw [e];by_cases c:p z = true
 ·rw [if_pos c]; simp [fO,c,tot,add_zero]
 ·rw [if_neg c]; simp [fO,c,tot]
theorem Br (h:Int) {b:Int}:divInt h b = (h:Rat) / (b:Rat):=divInt_eq_div _ _
theorem sN (x:Rat):∀ S:List Mk,bN S (replicate S.length x) = S.map fun m=>m.2.1 - x
 | []=>rfl
 | m :: S=>by
  have:=sN x S;unfold bN at *
  simp only [length_cons,replicate_succ,zipWith_cons_cons,map_cons,this]
theorem Ip (x:Rat):∀ S:List Mk,bY S (replicate S.length x) = S.map fun m=>(m.2.2:Rat) * (m.2.1 - x):=fun S=>by
 unfold bY;rw [sN]
 induction S with
 | nil=>rfl
 | cons m S ih=>simp only [map_cons,zipWith_cons_cons,ih]
theorem Kt {v:Int} (hv:1<=v) (y:Rat):bL ((v:Rat) * y) = (v:Rat) * bL y:=by
 have v0:(0:Rat)<=(v:Rat):=intCast_nonneg.mpr (by omega);rcases le_total (a:=0) (b:=y) with h | h
 ·rw [dL h,dL (mul_nonneg v0 h)]
 ·have:=mul_nonneg v0 (show 0<=-y by grind);rw [iV h,iV (by grind)]; grind
structure Lv (Ge Le:List Mk->Rat->Prop):Prop where
 geMono:∀ {A a m},m<=a->Ge A a->Ge A m
 leMono:∀ {A a m},a<=m->Le A a->Le A m
 geAdd:∀ {A B x},Ge A x->Ge B x->Ge (A ++ B) x
 leAdd:∀ {A B x},Le A x->Le B x->Le (A ++ B) x
 geCut:∀ {A B x},Ge (A ++ B) x->¬ Ge B x->Ge A x
 leCut:∀ {A B x},Le (A ++ B) x->¬ Le A x->Le B x
 gap1:∀ {A a m},A ≠ []->(∀ z∈A,1<=z.2.2)->Le A a->a < m->¬ Ge A m
 gap2:∀ {A a m},A ≠ []->(∀ z∈A,1<=z.2.2)->Ge A a->m < a->¬ Le A m
structure Blk (Ge Le:List Mk->Rat->Prop) (A:List Mk) (x:Rat):Prop where
 ne:A ≠ []
 w:∀ z∈A,1<=z.2.2
 pre:∀ X Y,A = X ++ Y->X ≠ []->Ge X x
 suf:∀ X Y,A = X ++ Y->Y ≠ []->Le Y x
section
variable {Ge Le:List Mk->Rat->Prop}
theorem Blk.ge {A:List Mk} {x:Rat} (h:Blk Ge Le A x):Ge A x:=h.pre A [] (by simp) h.ne
theorem Blk.le {A:List Mk} {x:Rat} (h:Blk Ge Le A x):Le A x:=h.suf [] A rfl h.ne
theorem Wu {m:Mk} {x:Rat} (hw:1<=m.2.2) (h1:Ge [m] x) (h2:Le [m] x):Blk Ge Le [m] x:=by
 refine ⟨by simp,fun z hz=>by rw [mem_singleton.mp hz]; exact hw,fun X Y e hX=>?_,fun X Y e hY=>?_⟩
 ·cases X with
  | nil=>exact absurd rfl hX
  | cons a X=>have:=List.cons.inj e; cases X with
   | nil=>rw [<- this.1]; exact h1
   | cons b X=>simp at this
 ·cases X with
  | nil=>rw [show Y = [m] from e.symm]; exact h2
  | cons a X=>have:=(List.cons.inj e).2; exact absurd (List.append_eq_nil_iff.mp this.symm).2 hY
theorem Sm (L:Lv Ge Le) {A B:List Mk} {a b m:Rat} (hA:Blk Ge Le A a) (hB:Blk Ge Le B b) (hab:b < a) (h1:Ge (A ++ B) m) (h2:Le (A ++ B) m):Blk Ge Le (A ++ B) m:=by
 have ma:m<=a:=not_lt.mp fun c=>L.gap1 hA.ne hA.w hA.le c (L.geCut h1 (L.gap1 hB.ne hB.w hB.le (by grind)));have mb:b<=m:=not_lt.mp fun c=>L.gap2 hB.ne hB.w hB.ge c (L.leCut h2 (L.gap2 hA.ne hA.w hA.ge (by grind)));refine ⟨by simp [hA.ne],fun z hz=>?_,fun X Y e hX=>?_,fun X Y e hY=>?_⟩
 ·rcases mem_append.mp hz with h | h
  ·exact hA.w z h
  ·exact hB.w z h
 ·rcases List.append_eq_append_iff.mp e with ⟨c,e1,e2⟩ | ⟨c,e1,e2⟩
  ·-- X = A ++ c,B = c ++ Y
   by_cases hY:Y = []
   ·have:A ++ B = X:=by rw [e,hY,append_nil]
    rw [<- this]; exact h1
   by_cases hm:b < m
   ·refine L.geCut (B:=Y) (by rw [<- e]; exact h1) (L.gap1 hY (fun z hz=>hB.w z (by rw [e2]; exact mem_append_right _ hz)) (hB.suf c Y e2 hY) hm)
   ·have em:m = b:=by grind
    rw [e1];by_cases hc:c = []
    ·rw [hc,append_nil]; exact L.geMono ma hA.ge
    ·exact L.geAdd (L.geMono ma hA.ge) (by rw [em]; exact hB.pre c Y e2 hc)
  ·exact L.geMono ma (hA.pre X c e1 hX)
 ·rcases List.append_eq_append_iff.mp e with ⟨c,e1,e2⟩ | ⟨c,e1,e2⟩
  ·exact L.leMono mb (hB.suf c Y e2 hY)
  ·-- A = X ++ c,Y = c ++ B
   by_cases hX:X = []
   ·have:A ++ B = Y:=by rw [e,hX]; rfl
    rw [<- this]; exact h2
   by_cases hm:m < a
   ·refine L.leCut (A:=X) (by rw [<- e]; exact h2) (L.gap2 hX (fun z hz=>hA.w z (by rw [e1]; exact mem_append_left _ hz)) (hA.pre X c e1 hX) hm)
   ·have em:m = a:=by grind
    rw [e2];by_cases hc:c = []
    ·rw [hc]; exact L.leMono mb hB.le
    ·exact L.leAdd (by rw [em]; exact hA.suf X c e1 hc) (L.leMono mb hB.le)
end
def fN (lev:List Mk->Rat):List (List Mk)->List Mk->List (List Mk)
 | [],blk=>[blk]
 | b :: st,blk=>if lev blk < lev b then fN lev st (b ++ blk) else blk :: b :: st
def eX (lev:List Mk->Rat) (ms:List Mk):List (List Mk):=ms.foldl (fun st m=>fN lev st [m]) []
structure Stk (Ge Le:List Mk->Rat->Prop) (lev:List Mk->Rat) (st:List (List Mk)):Prop where
 blk:∀ B∈st,Blk Ge Le B (lev B)
 up:st.Pairwise fun B A=>lev A<=lev B
theorem zX {Ge Le:List Mk->Rat->Prop} (L:Lv Ge Le) {lev:List Mk->Rat} (hl:∀ A:List Mk,A ≠ []->(∀ z∈A,1<=z.2.2)->Ge A (lev A)/\Le A (lev A)) :
  ∀ {st:List (List Mk)} {blk:List Mk},Stk Ge Le lev st->Blk Ge Le blk (lev blk)->Stk Ge Le lev (fN lev st blk)/\(fN lev st blk).reverse.flatten = st.reverse.flatten ++ blk
 | [],blk,_,hb=>by
  refine ⟨⟨fun B hB=>by rw [fN] at hB; rw [mem_singleton.mp hB]; exact hb,by rw [fN]; exact pairwise_singleton _ _⟩,by simp [fN]⟩
 | b :: st,blk,S,hb=>by
  have sb:=S.blk b mem_cons_self;have up:=pairwise_cons.mp S.up;rw [fN];by_cases c:lev blk < lev b
  ·rw [if_pos c];have hw:∀ z∈b ++ blk,1<=z.2.2:=fun z hz=>by
    rcases mem_append.mp hz with h | h
    ·exact sb.w z h
    ·exact hb.w z h
   obtain ⟨g,l⟩:=hl (b ++ blk) (by simp [sb.ne]) hw;obtain ⟨h1,h2⟩:=zX L hl (st:=st) (blk:=b ++ blk) ⟨fun B hB=>S.blk B (mem_cons_of_mem _ hB),up.2⟩ (Sm L sb hb c g l);exact ⟨h1,by rw [h2]; simp⟩
  ·rw [if_neg c];refine ⟨⟨fun B hB=>?_,pairwise_cons.mpr ⟨fun A hA=>?_,S.up⟩⟩,by simp⟩
   ·rcases mem_cons.mp hB with rfl | hB
    ·exact hb
    ·exact S.blk B hB
   ·have c2:=not_lt.mp c;rcases mem_cons.mp hA with rfl | hA
    ·exact c2
    ·have:=up.1 A hA; grind
theorem rZ (lev:List Mk->Rat) (ms:List Mk) (m:Mk):eX lev (ms ++ [m]) = fN lev (eX lev ms) [m]:=by
 unfold eX;rw [List.foldl_append]; rfl
theorem sA {Ge Le:List Mk->Rat->Prop} (L:Lv Ge Le) {lev:List Mk->Rat} (hl:∀ A:List Mk,A ≠ []->(∀ z∈A,1<=z.2.2)->Ge A (lev A)/\Le A (lev A)) {ms:List Mk} (hw:∀ z∈ms,1<=z.2.2) :
  ∀ n,n<=ms.length->Stk Ge Le lev (eX lev (ms.take n))/\(eX lev (ms.take n)).reverse.flatten = ms.take n
 | 0,_=>⟨⟨(fun B hB=>nomatch hB),Pairwise.nil⟩,rfl⟩
 | n + 1,h=>by
  obtain ⟨S,e⟩:=sA L hl hw n (by omega);have hn:n < ms.length:=by omega
  have et:ms.take (n + 1) = ms.take n ++ [ms[n]]:=by rw [take_add_one,getElem?_eq_getElem hn]; rfl
  have h1:∀ z∈[ms[n]],1<=z.2.2:=fun z hz=>by rw [mem_singleton.mp hz]; exact hw _ (getElem_mem hn)
  obtain ⟨g,l⟩:=hl [ms[n]] (by simp) h1;obtain ⟨a,b⟩:=zX L hl S (Wu (hw _ (getElem_mem hn)) g l);rw [et,rZ];exact ⟨a,by rw [b,e]⟩
def lay (lev:List Mk->Rat) (bs:List (List Mk)):List Rat:=(bs.map fun B=>replicate B.length (lev B)).flatten
theorem mK (lev:List Mk->Rat):∀ bs:List (List Mk),(lay lev bs).length = bs.flatten.length
 | []=>rfl
 | B :: bs=>by
  have:=mK lev bs;unfold lay at *
  simp only [map_cons,flatten_cons,length_append,length_replicate,this]
theorem qU {lev:List Mk->Rat} {bs:List (List Mk)} {q:Rat} (h:q∈lay lev bs):∃ B∈bs,B ≠ []/\q = lev B:=by
 unfold lay at h;obtain ⟨l,hl,hq⟩:=mem_flatten.mp h;obtain ⟨B,hB,rfl⟩:=mem_map.mp hl;refine ⟨B,hB,fun z=>?_,List.eq_of_mem_replicate hq⟩;rw [z] at hq; simp at hq
structure Up0 (p:List Rat):Prop where
 nn:∀ k,k<=p.length->0<=tot (p.take k)
 z:tot p = 0
theorem oZ (lev : List Mk -> Rat) (pl : List Mk -> List Rat) : ∀ {bs : List (List Mk)}, (∀ B ∈ bs, B ≠ [] /\ (pl B).length = B.length /\ Up0 (pl B)) -> bs.Pairwise (fun A B => lev A <= lev B) ->
  (∀ i,i + 1 < (lay lev bs).length->(lay lev bs).getD i 0<=(lay lev bs).getD (i + 1) 0) /\
  (∀ i,i < (lay lev bs).length->0<=tot (((bs.map pl).flatten).take (i + 1))/\(i + 1 = (lay lev bs).length\/(lay lev bs).getD (i + 1) 0 ≠ (lay lev bs).getD i 0->tot (((bs.map pl).flatten).take (i + 1)) = 0))/\tot ((bs.map pl).flatten) = 0
 | [],_,_=>⟨fun i hi=>absurd hi (not_lt_zero _),fun i hi=>absurd hi (not_lt_zero _),rfl⟩
 | B :: bs,hb,up=>by
  have hu:=pairwise_cons.mp up;obtain ⟨h1,h2,h3⟩:=oZ lev pl (bs:=bs) (fun A hA=>hb A (mem_cons_of_mem _ hA)) hu.2;obtain ⟨bne,bl,U⟩:=hb B mem_cons_self;have e1:lay lev (B :: bs) = replicate B.length (lev B) ++ lay lev bs:=rfl;have e2:((B :: bs).map pl).flatten = pl B ++ (bs.map pl).flatten:=rfl;have g1:∀ i,i < B.length->(lay lev (B :: bs)).getD i 0 = lev B:=fun i hi=>by
   rw [e1,getD_eq_getElem?_getD,getElem?_append_left (by simpa using hi)];simp [hi]
  have g2:∀ i,B.length<=i->(lay lev (B :: bs)).getD i 0 = (lay lev bs).getD (i - B.length) 0:=fun i hi=>by
   rw [e1,getD_eq_getElem?_getD,getElem?_append_right (by simpa using hi),getD_eq_getElem?_getD];simp
  have ll:(lay lev (B :: bs)).length = B.length + (lay lev bs).length:=by rw [e1]; simp
  have ge:∀ j,j < (lay lev bs).length->lev B<=(lay lev bs).getD j 0:=fun j hj=>by
   have e:(lay lev bs).getD j 0 = (lay lev bs)[j]:=by simp [getD,hj]
   obtain ⟨A,hA,_,eq⟩:=qU (getElem_mem hj);rw [e,eq]; exact hu.1 A hA
  refine ⟨fun i hi=>?_,fun i hi=>?_,?_⟩
  ·rcases lt_or_ge (i + 1) B.length with c | c
   ·rw [g1 i (by omega),g1 (i + 1) c]; exact Rat.le_refl
   ·rw [g2 (i + 1) c];rcases lt_or_ge i B.length with d | d
    ·rw [g1 i d]; exact ge _ (by omega)
    ·rw [g2 i d];have:=h1 (i - B.length) (by omega);rw [show i + 1 - B.length = i - B.length + 1 by omega];exact this
  ·rcases lt_or_ge i B.length with d | d
   ·have et:((pl B ++ (bs.map pl).flatten)).take (i + 1) = (pl B).take (i + 1):=List.take_append_of_le_length (by omega);rw [e2,et];refine ⟨U.nn (i + 1) (by omega),fun h=>?_⟩;have c:i + 1 = B.length:=by
     rcases lt_or_ge (i + 1) B.length with c | c
     ·rcases h with h | h
      ·omega
      ·exact absurd (by rw [g1 _ c,g1 i d]) h
     ·omega
    rw [show (pl B).take (i + 1) = pl B by rw [take_of_length_le (by omega)]];exact U.z
   ·have et:((pl B ++ (bs.map pl).flatten)).take (i + 1) = pl B ++ ((bs.map pl).flatten).take (i - B.length + 1):=by
     rw [List.take_append,take_of_length_le (by omega),bl,show i + 1 - B.length = i - B.length + 1 by omega]
    obtain ⟨a,b⟩:=h2 (i - B.length) (by omega);rw [e2,et,mB,U.z,zero_add];refine ⟨a,fun h=>b ?_⟩;rcases h with h | h
    ·exact .inl (by omega)
    ·refine .inr ?_;rw [g2 (i + 1) (by omega),g2 i d,show i + 1 - B.length = i - B.length + 1 by omega] at h;exact h
  ·rw [e2,mB,U.z,h3,zero_add]
def Ws (A:List Mk):Prop:=∀ z∈A,1<=z.2.2
theorem Ws.app {A B:List Mk} (h:Ws (A ++ B)):Ws A/\Ws B:=⟨fun z hz=>h z (mem_append_left _ hz),fun z hz=>h z (mem_append_right _ hz)⟩
theorem Ws.join {A B:List Mk} (a:Ws A) (b:Ws B):Ws (A ++ B):=fun z hz=>by
 rcases mem_append.mp hz with h | h
 ·exact a z h
 ·exact b z h
theorem iQ:∀ A B:List Mk,cH (A ++ B) = cH A + cH B
 | [],B=>by simp [cH]
 | m :: A,B=>by rw [cons_append,cH,cH,iQ A B]; omega
theorem yX:∀ A B:List Mk,iY (A ++ B) = iY A + iY B
 | [],B=>by
  have e:iY [] = 0:=rfl;rw [e,nil_append]; grind
 | m :: A,B=>by rw [cons_append,gR,gR,yX A B]; grind
theorem Ep:∀ {A:List Mk},Ws A->0<=cH A
 | [],_=>by simp [cH]
 | m :: A,h=>by
  have h1:=h m mem_cons_self;have h2:=Ep (A:=A) fun z hz=>h z (mem_cons_of_mem _ hz);rw [cH]; omega
def exc (A:List Mk) (x:Rat):Rat:=iY A - x * (cH A:Rat)
theorem qY (A B:List Mk) (x:Rat):exc (A ++ B) x = exc A x + exc B x:=by
 unfold exc;rw [yX,iQ,intCast_add]; grind
def GeS (A:List Mk) (x:Rat):Prop:=Ws A/\0<=exc A x
def LeS (A:List Mk) (x:Rat):Prop:=Ws A/\exc A x<=0
theorem Bl {A:List Mk} (h:Ws A) {a m:Rat} (e:m<=a):exc A a<=exc A m:=by
 have w0:(0:Rat)<=(cH A:Rat):=intCast_nonneg.mpr (Ep h);have:=mul_nonneg (show 0<=a - m by grind) w0;unfold exc; grind
theorem Qz {A:List Mk} (hne:A ≠ []) (h:Ws A) {a m:Rat} (e:m < a):exc A a < exc A m:=by
 have w0:(0:Rat) < (cH A:Rat):=intCast_pos.mpr (by have:=iA hne h; omega);have:=mul_pos (show 0 < a - m by grind) w0;unfold exc; grind
theorem aJr:Lv GeS LeS where
 geMono:=fun e h=>⟨h.1,by have:=Bl h.1 e; have:=h.2; grind⟩
 leMono:=fun e h=>⟨h.1,by have:=Bl h.1 e; have:=h.2; grind⟩
 geAdd:=fun h k=>⟨h.1.join k.1,by rw [qY]; have:=h.2; have:=k.2; grind⟩
 leAdd:=fun h k=>⟨h.1.join k.1,by rw [qY]; have:=h.2; have:=k.2; grind⟩
 geCut:=fun {A B x} h k=>by
  have hw:=h.1.app;have h2:=h.2;rw [qY] at h2;have:exc B x < 0:=not_le.mp fun c=>k ⟨hw.2,c⟩;exact ⟨hw.1,by grind⟩
 leCut:=fun {A B x} h k=>by
  have hw:=h.1.app;have h2:=h.2;rw [qY] at h2;have:0 < exc A x:=not_le.mp fun c=>k ⟨hw.1,c⟩;exact ⟨hw.2,by grind⟩
 gap1:=fun hne _ h e k=>by have:=Qz hne h.1 e; have:=h.2; have:=k.2; grind
 gap2:=fun hne _ h e k=>by have:=Qz hne h.1 e; have:=h.2; have:=k.2; grind
def Aq (A:List Mk):Rat:=iY A / (cH A:Rat)
theorem Ap {A:List Mk} (hne:A ≠ []) (h:Ws A):exc A (Aq A) = 0:=by
 have w0:(cH A:Rat) ≠ 0:=fun z=>by have:=intCast_pos.mpr (show 0 < cH A by have:=iA hne h; omega); grind
 unfold exc Aq;grind
theorem Vn (A:List Mk) (hne:A ≠ []) (h:∀ z∈A,1<=z.2.2):GeS A (Aq A)/\LeS A (Aq A):=by
 have:=Ap hne h;exact ⟨⟨h,by rw [this]; exact Rat.le_refl⟩,⟨h,by rw [this]; exact Rat.le_refl⟩⟩
theorem oQ (x:Rat):∀ S:List Mk,tot (S.map fun m=>(m.2.2:Rat) * (m.2.1 - x)) = exc S x
 | []=>by
  have e:iY [] = 0:=rfl;have e2:((cH []:Int):Rat) = 0:=rfl;unfold exc;rw [e,e2]; simp [tot]; grind
 | m :: S=>by
  have:=oQ x S;rw [map_cons,tot,this];unfold exc;rw [gR,cH,intCast_add]; grind
theorem Zr {B:List Mk} (hb:Blk GeS LeS B (Aq B)):Up0 (B.map fun m=>(m.2.2:Rat) * (m.2.1 - Aq B)):=by
 refine ⟨fun k hk=>?_,by rw [oQ]; exact Ap hb.ne hb.w⟩;rw [<- map_take,oQ];by_cases c:B.take k = []
 ·rw [c];have e:iY [] = 0:=rfl;have e2:((cH []:Int):Rat) = 0:=rfl;unfold exc; rw [e,e2]; grind
 ·exact (hb.pre (B.take k) (B.drop k) (take_append_drop k B).symm c).2
theorem Bj {A:List Mk} {x:Rat} (h:Ws A):∀ (_:A ≠ []) (_:0<=exc A x),∃ m∈A,x<=m.2.1:=fun hne he=>by
 refine Classical.byContradiction fun c=>?_;have c1:∀ m∈A,m.2.1 < x:=fun m hm=>not_le.mp fun k=>c ⟨m,hm,k⟩;have:exc A x < 0:=by
  clear c he
  induction A with
  | nil=>exact absurd rfl hne
  | cons m A ih =>
   have e1:exc (m :: A) x = (m.2.2:Rat) * (m.2.1 - x) + exc A x:=by
    unfold exc;rw [gR,cH,intCast_add]; grind
   have w0:(0:Rat) < (m.2.2:Rat):=intCast_pos.mpr (by have:=h m mem_cons_self; omega);have p:=mul_pos w0 (show 0 < x - m.2.1 by have:=c1 m mem_cons_self; grind);by_cases d:A = []
   ·rw [e1,d];have e:iY [] = 0:=rfl;have e2:((cH []:Int):Rat) = 0:=rfl;unfold exc; rw [e,e2]; grind
   ·have:=ih (fun z hz=>h z (mem_cons_of_mem _ hz)) d fun z hz=>c1 z (mem_cons_of_mem _ hz);grind
 grind
theorem Bk {A:List Mk} {x:Rat} (h:Ws A):∀ (_:A ≠ []) (_:exc A x<=0),∃ m∈A,m.2.1<=x:=fun hne he=>by
 refine Classical.byContradiction fun c=>?_;have c1:∀ m∈A,x < m.2.1:=fun m hm=>not_le.mp fun k=>c ⟨m,hm,k⟩;have:0 < exc A x:=by
  clear c he
  induction A with
  | nil=>exact absurd rfl hne
  | cons m A ih =>
   have e1:exc (m :: A) x = (m.2.2:Rat) * (m.2.1 - x) + exc A x:=by
    unfold exc;rw [gR,cH,intCast_add]; grind
   have w0:(0:Rat) < (m.2.2:Rat):=intCast_pos.mpr (by have:=h m mem_cons_self; omega);have p:=mul_pos w0 (show 0 < m.2.1 - x by have:=c1 m mem_cons_self; grind);by_cases d:A = []
   ·rw [e1,d];have e:iY [] = 0:=rfl;have e2:((cH []:Int):Rat) = 0:=rfl;unfold exc; rw [e,e2]; grind
   ·have:=ih (fun z hz=>h z (mem_cons_of_mem _ hz)) d fun z hz=>c1 z (mem_cons_of_mem _ hz);grind
 grind
def qI (x:Rat):List Mk->Int
 | []=>0
 | m :: A=>(if m.2.1 < x then m.2.2 else 0) + qI x A
def nM (x:Rat):List Mk->Int
 | []=>0
 | m :: A=>(if m.2.1<=x then m.2.2 else 0) + nM x A
theorem wH (x:Rat):∀ A B:List Mk,qI x (A ++ B) = qI x A + qI x B
 | [],B=>by simp [qI]
 | m :: A,B=>by rw [cons_append,qI,qI,wH x A B]; omega
theorem qJ (x:Rat):∀ A B:List Mk,nM x (A ++ B) = nM x A + nM x B
 | [],B=>by simp [nM]
 | m :: A,B=>by rw [cons_append,nM,nM,qJ x A B]; omega
theorem yR {a m:Rat} (e:m<=a):∀ {A:List Mk},Ws A->qI m A<=qI a A
 | [],_=>Int.le_refl _
 | z :: A,h=>by
  have h1:=h z mem_cons_self;have h2:=yR e (A:=A) fun y hy=>h y (mem_cons_of_mem _ hy);rw [qI,qI];by_cases c:z.2.1 < m
  ·rw [if_pos c,if_pos (by grind)]; omega
  ·rw [if_neg c]; split <;> omega
theorem yS {a m:Rat} (e:m<=a):∀ {A:List Mk},Ws A->nM m A<=nM a A
 | [],_=>Int.le_refl _
 | z :: A,h=>by
  have h1:=h z mem_cons_self;have h2:=yS e (A:=A) fun y hy=>h y (mem_cons_of_mem _ hy);rw [nM,nM];by_cases c:z.2.1<=m
  ·rw [if_pos c,if_pos (by grind)]; omega
  ·rw [if_neg c]; split <;> omega
theorem wI {a m:Rat} (e:m < a):∀ {A:List Mk},Ws A->nM m A<=qI a A
 | [],_=>Int.le_refl _
 | z :: A,h=>by
  have h1:=h z mem_cons_self;have h2:=wI e (A:=A) fun y hy=>h y (mem_cons_of_mem _ hy);rw [nM,qI];by_cases c:z.2.1<=m
  ·rw [if_pos c,if_pos (by grind)]; omega
  ·rw [if_neg c]; split <;> omega
def GeM (A:List Mk) (x:Rat):Prop:=Ws A/\2 * qI x A < cH A
def LeM (A:List Mk) (x:Rat):Prop:=Ws A/\cH A<=2 * nM x A
theorem lv_sum:Lv GeM LeM where
 geMono:=fun e h=>⟨h.1,by have:=yR e h.1; have:=h.2; omega⟩
 leMono:=fun e h=>⟨h.1,by have:=yS e h.1; have:=h.2; omega⟩
 geAdd:=fun h k=>⟨h.1.join k.1,by rw [wH,iQ]; have:=h.2; have:=k.2; omega⟩
 leAdd:=fun h k=>⟨h.1.join k.1,by rw [qJ,iQ]; have:=h.2; have:=k.2; omega⟩
 geCut:=fun {A B x} h k=>by
  have hw:=h.1.app;have h2:=h.2;rw [wH,iQ] at h2;have:¬ 2 * qI x B < cH B:=fun c=>k ⟨hw.2,c⟩;exact ⟨hw.1,by omega⟩
 leCut:=fun {A B x} h k=>by
  have hw:=h.1.app;have h2:=h.2;rw [qJ,iQ] at h2;have:¬ cH A<=2 * nM x A:=fun c=>k ⟨hw.1,c⟩;exact ⟨hw.2,by omega⟩
 gap1:=fun _ _ h e k=>by have:=wI e h.1; have:=h.2; have:=k.2; omega
 gap2:=fun _ _ h e k=>by have:=wI e h.1; have:=h.2; have:=k.2; omega
theorem xW (x:Rat):∀ A:List Mk,fO (fun z=>decide (z.1 < x)) ((fJ A).zip (gL A)) = (qI x A:Rat)
 | []=>rfl
 | m :: A=>by
  have e:(fJ (m :: A)).zip (gL (m :: A)) = (m.2.1,(m.2.2:Rat)) :: (fJ A).zip (gL A):=rfl;rw [e,vO,xW x A,qI,intCast_add];by_cases c:m.2.1 < x
  ·rw [if_pos (by simpa using c),if_pos c]
  ·rw [if_neg (by simpa using c),if_neg c]; rfl
theorem sX (x:Rat):∀ A:List Mk,fO (fun z=>decide (z.1<=x)) ((fJ A).zip (gL A)) = (nM x A:Rat)
 | []=>rfl
 | m :: A=>by
  have e:(fJ (m :: A)).zip (gL (m :: A)) = (m.2.1,(m.2.2:Rat)) :: (fJ A).zip (gL A):=rfl;rw [e,vO,sX x A,nM,intCast_add];by_cases c:m.2.1<=x
  ·rw [if_pos (by simpa using c),if_pos c]
  ·rw [if_neg (by simpa using c),if_neg c]; rfl
theorem Eo (A:List Mk):tot (((fJ A).zip (gL A)).map (·.2)) = (cH A:Rat):=by
 have e:((fJ A).zip (gL A)).map (·.2) = gL A:=by
  induction A with
  | nil=>rfl
  | cons m A ih =>
   show (m.2.2:Rat) :: ((fJ A).zip (gL A)).map (·.2) = (m.2.2:Rat) :: gL A;rw [ih]
 rw [e,nL]
theorem Dn {A:List Mk} {x:Rat} (hw:Ws A) (M:Mid ((fJ A).zip (gL A)) x):GeM A x/\LeM A x:=by
 have h1:=M.lo;have h2:=M.hi;rw [xW,Eo,<- intCast_add,intCast_lt_intCast] at h1;rw [sX,Eo,<- intCast_add,intCast_le_intCast] at h2;exact ⟨⟨hw,by omega⟩,⟨hw,by omega⟩⟩
theorem Vi {A:List Mk} {x y:Rat} (hne:A ≠ []) (hw:Ws A) (M:Mid ((fJ A).zip (gL A)) x) (N:Mid ((fJ A).zip (gL A)) y):x = y:=by
 obtain ⟨a,b⟩:=Dn hw M;obtain ⟨c,d⟩:=Dn hw N;refine le_antisymm (not_lt.mp fun e=>lv_sum.gap1 hne hw d e a) (not_lt.mp fun e=>lv_sum.gap1 hne hw b e c)
def oE (x:Rat) (m:Mk):Int:=if 0 < m.2.1 - x then m.2.2 else -m.2.2
def gM (x:Rat):List Mk->Int
 | []=>0
 | m :: A=>oE x m + gM x A
def iI (x:Rat):List Mk->Int
 | []=>0
 | m :: A=>(if m.2.1 - x = 0 then m.2.2 else 0) + iI x A
def Lh (x:Rat) (left:Int) (m:Mk):Int:=if m.2.1 - x = 0 then (if 2 * m.2.2 < left then 2 * m.2.2 else left) else 0
def fF (x:Rat):Int->List Mk->List Int
 | _,[]=>[]
 | left,m :: A=>(oE x m + Lh x left m) :: fF x (left - Lh x left m) A
theorem jT (x:Rat):∀ (left:Int) (A:List Mk),(fF x left A).length = A.length
 | _,[]=>rfl
 | left,m :: A=>by rw [fF,length_cons,jT,length_cons]
theorem tE (x:Rat):∀ (k:Nat) (left:Int) (A:List Mk),(fF x left A).take k = fF x left (A.take k)
 | 0,_,_=>by simp [fF]
 | k + 1,_,[]=>by simp [fF]
 | k + 1,left,m :: A=>by rw [fF,take_succ_cons,take_succ_cons,fF,tE x k]
theorem pG (x:Rat):∀ (left:Int) (A:List Mk),0<=left->Ws A->(fF x left A).sum = gM x A + (if 2 * iI x A < left then 2 * iI x A else left)
 | left,[],h,_=>by
  have e1:gM x [] = 0:=rfl;have e2:iI x [] = 0:=rfl;have e3:(fF x left []).sum = 0:=rfl;rw [e1,e3];by_cases c:2 * iI x [] < left
  ·rw [if_pos c]; omega
  ·rw [if_neg c]; omega
 | left,m :: A,h,hw=>by
  have h1:=hw m mem_cons_self;have u0:0<=left - Lh x left m:=by unfold Lh; split <;> (try split) <;> omega
  have ih:=pG x (left - Lh x left m) A u0 fun z hz=>hw z (mem_cons_of_mem _ hz);have z0:0<=iI x A:=by
   clear ih u0
   induction A with
   | nil=>exact Int.le_refl _
   | cons y A ih =>
    have:=ih fun z hz=>hw z (by rcases mem_cons.mp hz with rfl | hz; exact mem_cons_self; exact mem_cons_of_mem _ (mem_cons_of_mem _ hz));have:=hw y (mem_cons_of_mem _ mem_cons_self);rw [iI]; split <;> omega
  rw [fF,sum_cons,ih,gM,iI];generalize oE x m = f at *
  generalize gM x A = F at *
  generalize iI x A = Z at *
  unfold Lh at *
  by_cases c:m.2.1 - x = 0
  ·rw [if_pos c,if_pos c] at *
   split <;> split <;> split <;> omega
  ·rw [if_neg c,if_neg c] at *
   split <;> split <;> omega
theorem iN (x:Rat):∀ A:List Mk,gM x A = cH A - 2 * nM x A
 | []=>by simp [gM,cH,nM]
 | m :: A=>by
  rw [gM,cH,nM,iN x A,oE];by_cases c:m.2.1<=x
  ·rw [if_neg (by grind),if_pos c]; omega
  ·rw [if_pos (by grind),if_neg c]; omega
theorem rA (x:Rat):∀ A:List Mk,iI x A = nM x A - qI x A
 | []=>by simp [iI,qI,nM]
 | m :: A=>by
  rw [iI,qI,nM,rA x A];by_cases c:m.2.1 < x
  ·rw [if_neg (by grind),if_pos c,if_pos (by grind)]; omega
  ·by_cases d:m.2.1 = x
   ·rw [if_pos (by grind),if_neg c,if_pos (by grind)]; omega
   ·rw [if_neg (by grind),if_neg c,if_neg (by grind)]; omega
theorem Qw (x:Rat) (A B:List Mk):gM x (A ++ B) = gM x A + gM x B:=by
 rw [iN,iN,iN,iQ,qJ]; omega
theorem rG:∀ ns:List Int,tot (ns.map fun n:Int=>(n:Rat)) = (ns.sum:Rat)
 | []=>rfl
 | n :: ns=>by rw [map_cons,tot,rG ns,sum_cons,intCast_add]
theorem Tu {B:List Mk} {x:Rat} (hb:Blk GeM LeM B x):Up0 ((fF x (-gM x B) B).map fun n:Int=>(n:Rat)):=by
 have hl:=hb.le.2;have hg:=hb.ge.2;have l0:0<=-gM x B:=by rw [iN]; omega
 refine ⟨fun k hk=>?_,?_⟩
 ·rw [<- map_take,tE,rG,pG x _ _ l0 (fun z hz=>hb.w z (mem_of_mem_take hz))];refine intCast_nonneg.mpr ?_;have e:=Qw x (B.take k) (B.drop k);rw [take_append_drop] at e;by_cases c:2 * iI x (B.take k) < -gM x B
  ·rw [if_pos c];by_cases d:B.take k = []
   ·rw [d]; simp [gM,iI]
   ·have:=(hb.pre (B.take k) (B.drop k) (take_append_drop k B).symm d).2;rw [iN,rA]; omega
  ·rw [if_neg c];by_cases d:B.drop k = []
   ·rw [d] at e; simp [gM] at e; omega
   ·have:=(hb.suf (B.take k) (B.drop k) (take_append_drop k B).symm d).2;have e2:=iN x (B.drop k);omega
 ·rw [rG,pG x _ _ l0 hb.w];have e1:=iN x B;have e2:=rA x B;have:(gM x B + (if 2 * iI x B < -gM x B then 2 * iI x B else -gM x B)) = 0:=by split <;> omega
  rw [this]; rfl
theorem Vm {kd:Str} {A:List Mk} {x y:Rat} (hk:kd = "sum"\/kd = "square") (hne:A ≠ []) (hw:∀ m∈A,1<=m.2.2) (h:LevelOk kd A x) (h':LevelOk kd A y):x = y:=by
 rcases hk with e | e
 ·exact Vi hne hw (h.sum e) (h'.sum e)
 ·rw [h.sq e,h'.sq e]
def cE (kd:Str) (A:List Mk):Rat:=open Classical in if h:∃ x,LevelOk kd A x then Classical.choose h else 0
theorem jE {kd:Str} {A:List Mk} {x:Rat} (hk:kd = "sum"\/kd = "square") (hne:A ≠ []) (hw:∀ m∈A,1<=m.2.2) (h:LevelOk kd A x):cE kd A = x:=by
 have e:∃ x,LevelOk kd A x:=⟨x,h⟩;unfold cE;rw [dif_pos e];exact Vm hk hne hw (Classical.choose_spec e) h
theorem Qf {kd:Str} {A:List Mk} {x:Rat} {L:Nat} (hk:kd∈dJ) (h:LevelOk kd A x) (hne:A ≠ []) (h60:A.length<=60) (L0:0 < L) (L1:L<=10 ^ 100) (hc:∀ m∈A,Cm L (10 ^ 100) m.2.1) (hw:∀ m∈A,1<=m.2.2/\m.2.2<=10 ^ 100):Ok x:=by
 have wp:=iA hne fun m h=>(hw m h).1;have wl:cH A<=60 * 10 ^ 100:=by
  have h1:=qH (W:=10 ^ 100) fun m h=>(hw m h).2;have h2:(A.length:Int) * 10 ^ 100<=60 * 10 ^ 100:=Int.mul_le_mul_of_nonneg_right (by omega) (by decide +kernel);omega
 have wn:(cH A).toNat<=60 * 10 ^ 100:=by omega
 have cx:=sS hk h hne hc fun m h=>(hw m h).1;have p1:0 < 2 * L * (cH A).toNat:=Nat.mul_pos (by omega) (by omega);have p2:2 * L * (cH A).toNat<=10 ^ 203:=le_trans (mul_le_mul (mul_le_mul_left 2 L1) wn) (by decide +kernel);exact eE (cx.dg p1 p2 (b:=100) (le_refl _)) (by decide)
def nH (B:List Mk):PyData:=.list (B.map dP)
theorem Ss (ds:List PyData) (d:PyData):nI (ds ++ [d]) (-1) = some d:=by
 have h:Gr (ds ++ [d]).length (-1) = some ds.length:=by
  unfold Gr;rw [length_append,length_singleton,if_neg (by decide),if_pos (by omega)]
  congr 1
  omega
 unfold nI;rw [h];simp
def Ti:DW:=fun ds Q _=>∃ (kd:Str) (ms:List Mk) (L:Nat),ds = [.str kd,.list (ms.map dP)]/\(kd = "sum"\/kd = "square")/\ms.length<=60/\0 < L/\L<=10 ^ 100/\(∀ m∈ms,Cm L (10 ^ 100) m.2.1)/\(∀ m∈ms,1<=m.2.2/\m.2.2<=10 ^ 100) /\
 Q (.dat (.list ((eX (cE kd) ms).reverse.map nH)))
structure Pst (ms:List Mk) (n:Nat) (st:List (List Mk)) (blk:List Mk):Prop where
 s:∀ B∈st,B ≠ []/\∀ z∈B,z∈ms
 b:blk ≠ []/\∀ z∈blk,z∈ms
 n:st.flatten.length + blk.length<=n
theorem uX {ms:List Mk} {n:Nat} {lev:List Mk->Rat}:∀ {st:List (List Mk)} {blk:List Mk},Pst ms n st blk->(∀ B∈fN lev st blk,B ≠ []/\∀ z∈B,z∈ms)/\(fN lev st blk).flatten.length<=n
 | [],blk,h=>⟨fun B hB=>by rw [fN] at hB; rw [mem_singleton.mp hB]; exact h.b,by have:=h.n; simpa [fN] using this⟩
 | b :: st,blk,h=>by
  rw [fN];have hb:=h.s b mem_cons_self;have hn:=h.n;rw [flatten_cons,length_append] at hn;split
  ·exact uX ⟨fun B hB=>h.s B (mem_cons_of_mem _ hB),⟨by simp [hb.1],fun z hz=>by
    rcases mem_append.mp hz with q | q
    ·exact hb.2 z q
    ·exact h.b.2 z q⟩,by rw [length_append]; omega⟩
  ·refine ⟨fun B hB=>?_,by rw [flatten_cons,length_append,flatten_cons,length_append]; omega⟩;rcases mem_cons.mp hB with rfl | hB
   ·exact h.b
   ·exact h.s B hB
theorem aIy (T:Txt K mg A):FnOk P w K mg base (eP P w) 6 A.a_qz A.d_qz ["kind","marks"] (fC K Ti):=by
 refine gE T.F_qz.F zR (by walk_at "l") fun cdv Ar outer s H E hr=>?_
 refine ⟨_,(aF (cY 2 zR (dN aD))
   (aF (dU PassesOwn.leaving rfl (fV (K:=K) rfl (pv 1)) (mG 3 zR)
    (aF (cY 4 zR (dN (aA (pv 3) aD)))
   (aF (lH PassesOwn.leaving (PW.pt (mY (aT jP (bB (gH (K:=K) rfl) rfl T.n_len boot_len (aA (pv 2) aD)) aP (aX _)) (kG (eL (cG (sI T) hr T.F_qg aO (aA (cG (Gd T) hr T.F_qt aO (aA (pv 0) (aA (pv 4) aD))) (aA (cG (Gd T) hr T.F_qt aO (aA (pv 0) (aA (gB (lN (K:=K) rfl) (pv 2) (pP kZ aP) (fun _ _=>rfl)) aD))) aD))))))) (aH (cY 4 zR (aY (Si (K:=K) rfl) (aCi F.plainAttrs_list F.slot_list_pop F.type_list_pop aDv (pv 2)) (pv 4)))))
   (aH (eG (fB F.plainAttrs_list F.slot_list_append F.type_list_append gW (pv 2) (aA (pv 4) aD)))))))
   (aH (aV (pv 2))))),_,(aJ (bZ 2 (dO bE (by decide)))
   (aJ (eC (gZ (aL 1)) (aI 3)
    (aJ (Fe 4 (bZ 4 (dO (aQ (aL 3) bE) (by decide))))
   (aJ (lB (mS (aU (aB (aN eW (aB (bT cO (aC (aE 2) aG))) (aB aK)))) (jF (aB (aM (aC (aB (aM (aC (aE 0) (aC (aE 4) aG)))) (aC (aB (aM (aC (aE 0) (aC (aB (bO (bA 2) (aB (Wg (v:=(-1)) (lS (aB aK)) (fun ex δ Q h=>Eq.mpr (congrArg (fun z=>Q (.int z)) (by decide +kernel:((-1):Int) = -1)) h))))) aG)))) aG)))))) (Fe 4 (Je 2 4 (by decide))))
   (oR 2 (aL 4)))))
   (mT 2 (eA 2)))),?_⟩
 rintro ds Q X ⟨kd,ms,L,rfl,hkd,n60,L0,L1,hc,hw,k⟩;have hkk:kd∈dJ:=by rcases hkd with rfl | rfl <;> simp [dJ]
 have call:∀ {B:List Mk},B ≠ []->(∀ z∈B,z∈ms)->B.length<=60->(∀ m∈B,Cm L (10 ^ 100) m.2.1)/\(∀ m∈B,1<=m.2.2/\m.2.2<=10 ^ 100)/\∀ x,LevelOk kd B x->cE kd B = x/\Ok x:=fun {B} hne hm hl =>
  ⟨fun m h=>hc m (hm m h),fun m h=>hw m (hm m h),fun x hx=>⟨jE hkd hne (fun m h=>(hw m (hm m h)).1) hx,Qf hkk hx hne hl L0 L1 (fun m h=>hc m (hm m h)) fun m h=>hw m (hm m h)⟩⟩
 walk_at "s"
 refine cK (dE dP ms (fun Q h=>by walk_at "d"; exact h)
  (fun i δ=>∃ t1 t2:Option Sl,δ = [some (.dat (.str kd)),some (.dat (.list (ms.map dP))),some (.own ((eX (cE kd) (ms.take i)).reverse.map nH)),t1,t2]/\(∀ B∈eX (cE kd) (ms.take i),B ≠ []/\∀ z∈B,z∈ms)/\(eX (cE kd) (ms.take i)).flatten.length<=i)
  ⟨_,_,rfl,(fun B h=>nomatch h),le_refl _⟩ ?_ ?_)
 ·rintro i m δ hi ⟨t1,t2,rfl,hB,hn⟩;have hi2:i < ms.length:=(List.getElem?_eq_some_iff.mp hi).1;have hm:m∈ms:=mem_of_getElem? hi;have et:ms.take (i + 1) = ms.take i ++ [m]:=by rw [take_add_one,hi]; rfl
  rw [et,rZ];generalize eX (cE kd) (ms.take i) = st0 at *
  walk_at "s";have P0:Pst ms (i + 1) st0 [m]:=⟨hB,⟨by simp,fun z hz=>by rw [mem_singleton.mp hz]; exact hm⟩,by rw [length_singleton]; omega⟩
  refine cK ⟨fun f δ=>∃ (st:List (List Mk)) (blk:List Mk),δ = [some (.dat (.str kd)),some (.dat (.list (ms.map dP))),some (.own (st.reverse.map nH)),some (.dat (dP m)),some (.dat (.list (blk.map dP)))]/\f = st.length/\Pst ms (i + 1) st blk/\fN (cE kd) st blk = fN (cE kd) st0 [m],
   ⟨_,st0,[m],rfl,rfl,P0,rfl⟩,?_⟩
  rintro f δ ⟨st,blk,rfl,rfl,PS,ep⟩;have fin:(∀ B∈fN (cE kd) st0 [m],B ≠ []/\∀ z∈B,z∈ms)/\(fN (cE kd) st0 [m]).flatten.length<=i + 1:=uX P0;have sl:st.length<=st.flatten.length:=by
   have hs:=PS.s;clear ep PS
   induction st with
   | nil=>exact zero_le _
   | cons b st ih =>
    have h1:=length_pos_iff.mpr (hs b mem_cons_self).1;have:=ih fun B hB=>hs B (mem_cons_of_mem _ hB);rw [length_cons,flatten_cons,length_append]; omega
  have pn:=PS.n;cases st with
  | nil =>
   walk_at "d";rw [if_neg (by decide)];rw [<- ep] at fin ⊢;exact ⟨by decide,_,_,by rw [fN]; rfl,fin.1,fin.2⟩
  | cons b st =>
   have eb:(b :: st).reverse.map nH = st.reverse.map nH ++ [nH b]:=by rw [reverse_cons,map_append]; rfl
   obtain ⟨bne,bm⟩:=PS.s b mem_cons_self;obtain ⟨kne,km⟩:=PS.b;rw [flatten_cons,length_append] at pn;obtain ⟨c1,c2,c3⟩:=call kne km (by omega);obtain ⟨d1,d2,d3⟩:=call bne bm (by omega);rw [eb];walk_at "d";rw [if_pos (by rw [length_append,length_singleton]; omega)];refine ⟨kd,blk,L,rfl,hkk,length_pos_iff.mpr kne,by omega,L0,L1,c1,c2,fun x hx=>⟨rfl,?_⟩⟩;obtain ⟨rfl,ox⟩:=c3 x hx;refine ⟨_,Ss _ _,kd,b,L,rfl,hkk,length_pos_iff.mpr bne,by omega,L0,L1,d1,d2,fun y hy=>⟨rfl,?_⟩⟩;obtain ⟨rfl,oy⟩:=d3 y hy;refine ⟨cE kd blk,cE kd b,rfl,ox,oy,?_⟩;walk_at "d";refine bU (fun c=>?_) (fun c=>?_)
   ·refine ⟨st.reverse.map nH,b.map dP,rfl,by rw [length_map]; omega,st.length,by omega,st,b ++ blk,by rw [map_append],rfl,⟨fun B hB=>PS.s B (mem_cons_of_mem _ hB),⟨by simp [bne],fun z hz=>?_⟩,by rw [length_append]; omega⟩,?_⟩
    ·rcases mem_append.mp hz with q | q
     ·exact bm z q
     ·exact km z q
    ·rw [<- ep,fN,if_pos c]
   ·rw [<- ep] at fin ⊢;rw [fN,if_neg c] at fin ⊢;refine ⟨?_,some (.dat (dP m)),some (.dat (.list (blk.map dP))),?_,fin.1,fin.2⟩
    ·rw [length_append,length_map,List.length_reverse,length_singleton];rw [length_cons,flatten_cons,length_append] at sl;omega
    ·rw [reverse_cons,reverse_cons,map_append,map_append];rfl
 ·rintro δ ⟨t1,t2,rfl,hB,hn⟩;rw [take_length];walk_at "d";exact k
theorem xP {A:List Mk} (hne:A ≠ []) (hw:∀ m∈A,1<=m.2.2):cE "square" A = Aq A:=by
 refine jE (.inr rfl) hne hw ⟨fun e=>absurd e (by decide),fun e=>absurd e (by decide),fun _=>?_⟩;unfold Aq;rw [nL]; rfl
theorem Du (A:List Mk) (hne:A ≠ []) (hw:∀ z∈A,1<=z.2.2):GeS A (cE "square" A)/\LeS A (cE "square" A):=by
 rw [xP hne hw];exact Vn A hne hw
def plQ (lev:List Mk->Rat) (B:List Mk):List Rat:=B.map fun m=>(m.2.2:Rat) * (m.2.1 - lev B)
theorem Iq {A B:List Mk} {r s:List Rat} (h:A.length = r.length):bY (A ++ B) (r ++ s) = bY A r ++ bY B s:=by
 unfold bY bN;rw [List.zipWith_append h,List.zipWith_append (by rw [length_zipWith]; omega)]
theorem uC (lev:List Mk->Rat):∀ bs:List (List Mk),bY bs.flatten (lay lev bs) = (bs.map (plQ lev)).flatten
 | []=>rfl
 | B :: bs=>by
  have ih:=uC lev bs;have e1:lay lev (B :: bs) = replicate B.length (lev B) ++ lay lev bs:=rfl;rw [e1,flatten_cons,Iq (by simp),ih,Ip];rfl
def nX:List (List Mk)->Nat
 | []=>1
 | B :: bs=>(cH B).toNat * nX bs
theorem uW {B:List Mk}:∀ {bs:List (List Mk)},B∈bs->(cH B).toNat ∣ nX bs
 | A :: bs,h=>by
  rcases mem_cons.mp h with rfl | h
  ·exact dvd_mul_right _ _
  ·exact dvd_trans (uW h) (Nat.dvd_mul_left _ _)
theorem uV:∀ {bs:List (List Mk)},(∀ B∈bs,B ≠ []/\∀ m∈B,1<=m.2.2)->0 < nX bs
 | [],_=>Nat.one_pos
 | B :: bs,h=>by
  have hb:=h B mem_cons_self;have:=iA hb.1 hb.2;exact Nat.mul_pos (by omega) (uV fun A hA=>h A (mem_cons_of_mem _ hA))
theorem zW {W:Nat}:∀ {bs:List (List Mk)},(∀ B∈bs,(cH B).toNat<=W)->nX bs<=W ^ bs.length
 | [],_=>le_refl _
 | B :: bs,h=>by
  rw [nX,length_cons,pow_succ,mul_comm];exact mul_le_mul (zW fun A hA=>h A (mem_cons_of_mem _ hA)) (h B mem_cons_self)
structure HoldR (row pulls:List Rat):Prop where
 up:∀ i,i + 1 < row.length->row.getD i 0<=row.getD (i + 1) 0
 nn:∀ i,i < row.length->0<=tot (pulls.take (i + 1))
 zr:∀ i,i < row.length->0 < tot (pulls.take (i + 1))->i + 1 < row.length/\row.getD (i + 1) 0 = row.getD i 0
theorem Az {row pulls:List Rat} (h1:∀ i,i + 1 < row.length->row.getD i 0<=row.getD (i + 1) 0)
  (h2:∀ i,i < row.length->0<=tot (pulls.take (i + 1))/\(i + 1 = row.length\/row.getD (i + 1) 0 ≠ row.getD i 0->tot (pulls.take (i + 1)) = 0)):HoldR row pulls:=by
 refine ⟨h1,fun i hi=>(h2 i hi).1,fun i hi hp=>?_⟩;have h3:=(h2 i hi).2;refine ⟨?_,?_⟩
 ·rcases lt_or_ge (i + 1) row.length with c | c
  ·exact c
  ·rw [h3 (.inl (by omega))] at hp; exact absurd hp (by decide)
 ·exact Classical.byContradiction fun c=>by rw [h3 (.inr c)] at hp; exact absurd hp (by decide)
structure BlkOk (kd:Str) (ms:List Mk) (bs:List (List Mk)):Prop where
 all:bs.flatten = ms
 ne:∀ B∈bs,B ≠ []
 mem:∀ B∈bs,∀ z∈B,z∈ms
 len:bs.length<=ms.length
theorem tQ:∀ {bs:List (List Mk)},(∀ B∈bs,B ≠ [])->bs.length<=bs.flatten.length
 | [],_=>le_refl _
 | B :: bs,h=>by
  have h1:=length_pos_iff.mpr (h B mem_cons_self);have h2:=tQ (bs:=bs) fun A hA=>h A (mem_cons_of_mem _ hA);rw [length_cons,flatten_cons,length_append]; omega
structure SqFacts (ms:List Mk) (row pulls:List Rat):Prop where
 len:row.length = ms.length
 pl:pulls = bY ms row
 hold:HoldR row pulls
 mid:∀ q∈row,(∃ m∈ms,q<=m.2.1)/\∃ m∈ms,m.2.1<=q
theorem mE {ms:List Mk} (hw:∀ m∈ms,1<=m.2.2):Stk GeS LeS (cE "square") (eX (cE "square") ms)/\(eX (cE "square") ms).reverse.flatten = ms:=by
 have:=sA aJr (lev:=cE "square") Du hw ms.length (le_refl _);rw [take_length] at this;exact this
theorem Mb {ms:List Mk} (hw:∀ m∈ms,1<=m.2.2):SqFacts ms (lay (cE "square") (eX (cE "square") ms).reverse) (bY ms (lay (cE "square") (eX (cE "square") ms).reverse)):=by
 obtain ⟨S,e⟩:=mE hw;generalize hb:(eX (cE "square") ms).reverse = bs at *
 have Sb:∀ B∈bs,Blk GeS LeS B (cE "square" B):=fun B hB=>S.blk B (by rw [<- hb] at hB; exact mem_reverse.mp hB);have up:bs.Pairwise fun A B=>cE "square" A<=cE "square" B:=by
  rw [<- hb,List.pairwise_reverse];exact S.up
 have ep:bY ms (lay (cE "square") bs) = (bs.map (plQ (cE "square"))).flatten:=by rw [<- e]; exact uC _ bs
 obtain ⟨h1,h2,h3⟩:=oZ (cE "square") (plQ (cE "square")) (bs:=bs) (fun B hB=>⟨(Sb B hB).ne,by simp [plQ],by
  have:=Zr (B:=B) (by rw [<- xP (Sb B hB).ne (Sb B hB).w]; exact Sb B hB)
  unfold plQ
  rw [xP (Sb B hB).ne (Sb B hB).w]
  exact this⟩) up
 refine ⟨by rw [mK,e],rfl,?_,fun q hq=>?_⟩
 ·rw [ep];exact Az h1 h2
 ·obtain ⟨B,hB,hne,rfl⟩:=qU hq;have sub:∀ z∈B,z∈ms:=fun z hz=>by rw [<- e]; exact mem_flatten.mpr ⟨B,hB,hz⟩
  obtain ⟨m,hm,h⟩:=Bj (Sb B hB).w hne (Sb B hB).ge.2;obtain ⟨m',hm',h'⟩:=Bk (Sb B hB).w hne (Sb B hB).le.2;exact ⟨⟨m,sub m hm,h⟩,⟨m',sub m' hm',h'⟩⟩
theorem aDy {kd:Str} {ms:List Mk} {bs:List (List Mk)} {L B:Nat} (hk:kd = "sum"\/kd = "square") (hx:∀ A:List Mk,A ≠ []->(∀ m∈A,1<=m.2.2)->∃ x,LevelOk kd A x) (e:bs.flatten = ms) (hne:∀ A∈bs,A ≠ []) (hw:∀ m∈ms,1<=m.2.2) (hc:∀ m∈ms,Cm L B m.2.1) :
  ∀ q∈lay (cE kd) bs,Cm (2 * L * nX bs) B q:=fun q hq=>by
 obtain ⟨A,hA,_,rfl⟩:=qU hq;have sub:∀ z∈A,z∈ms:=fun z hz=>by rw [<- e]; exact mem_flatten.mpr ⟨A,hA,hz⟩
 obtain ⟨x,h⟩:=hx A (hne A hA) fun m hm=>hw m (sub m hm);have ex:=jE hk (hne A hA) (fun m hm=>hw m (sub m hm)) h;rw [ex];have hkk:kd∈dJ:=by rcases hk with rfl | rfl <;> simp [dJ]
 exact (sS hkk h (hne A hA) (fun m hm=>hc m (sub m hm)) fun m hm=>hw m (sub m hm)).mono (Nat.mul_dvd_mul_left _ (uW hA)) (le_refl _)
theorem Oz {ms:List Mk} {bs:List (List Mk)} {W N:Nat} (e:bs.flatten = ms) (hne:∀ A∈bs,A ≠ []) (hw:∀ m∈ms,1<=m.2.2/\m.2.2<=(W:Int)) (hl:ms.length<=N) (hN:1<=N * W):0 < nX bs/\nX bs<=(N * W) ^ N:=by
 have sub:∀ A∈bs,∀ z∈A,z∈ms:=fun A hA z hz=>by rw [<- e]; exact mem_flatten.mpr ⟨A,hA,hz⟩
 refine ⟨uV fun A hA=>⟨hne A hA,fun m hm=>(hw m (sub A hA m hm)).1⟩,?_⟩;have h1:∀ A∈bs,(cH A).toNat<=N * W:=fun A hA=>by
  have a:=qH (W:=(W:Int)) fun m hm=>(hw m (sub A hA m hm)).2;have b:A.length<=ms.length:=by
   rw [<- e];clear e hw hl hN hne
   induction bs with
   | nil=>exact nomatch hA
   | cons C bs ih =>
    rw [flatten_cons,length_append];rcases mem_cons.mp hA with rfl | hA
    ·omega
    ·have:=ih (fun A hA z hz=>sub A (mem_cons_of_mem _ hA) z hz) hA; omega
  have c:(A.length:Int) * (W:Int)<=(N:Int) * (W:Int):=Int.mul_le_mul_of_nonneg_right (by omega) (by omega);have d:(N:Int) * (W:Int) = ((N * W:Nat):Int):=by rw [Int.natCast_mul]
  omega
 have h2:bs.length<=N:=by have:=tQ hne; rw [e] at this; omega
 exact le_trans (zW h1) (pow_le_pow_right hN h2)
theorem Ao {p:Rat->Prop}:∀ {l:List Rat},(∃ a∈l,p a)->∃ a∈l,p a/\∀ b∈l,p b->a<=b
 | [],h=>by obtain ⟨a,h,_⟩:=h; exact nomatch h
 | c :: l,h=>by
  by_cases hl:∃ a∈l,p a
  ·obtain ⟨a,ha,pa,hm⟩:=Ao hl;by_cases hc:p c/\c < a
   ·refine ⟨c,mem_cons_self,hc.1,fun b hb pb=>?_⟩;rcases mem_cons.mp hb with rfl | hb
    ·exact Rat.le_refl
    ·have:=hm b hb pb; have:=hc.2; grind
   ·refine ⟨a,mem_cons_of_mem _ ha,pa,fun b hb pb=>?_⟩;rcases mem_cons.mp hb with rfl | hb
    ·exact not_lt.mp fun z=>hc ⟨pb,z⟩
    ·exact hm b hb pb
  ·obtain ⟨a,ha,pa⟩:=h;rcases mem_cons.mp ha with rfl | ha
   ·refine ⟨a,mem_cons_self,pa,fun b hb pb=>?_⟩;rcases mem_cons.mp hb with rfl | hb
    ·exact Rat.le_refl
    ·exact absurd ⟨b,hb,pb⟩ hl
   ·exact absurd ⟨a,ha,pa⟩ hl
theorem sR {p:Rat->Prop}:∀ {l:List Rat},(∃ a∈l,p a)->∃ a∈l,p a/\∀ b∈l,p b->b<=a
 | [],h=>by obtain ⟨a,h,_⟩:=h; exact nomatch h
 | c :: l,h=>by
  by_cases hl:∃ a∈l,p a
  ·obtain ⟨a,ha,pa,hm⟩:=sR hl;by_cases hc:p c/\a < c
   ·refine ⟨c,mem_cons_self,hc.1,fun b hb pb=>?_⟩;rcases mem_cons.mp hb with rfl | hb
    ·exact Rat.le_refl
    ·have:=hm b hb pb; have:=hc.2; grind
   ·refine ⟨a,mem_cons_of_mem _ ha,pa,fun b hb pb=>?_⟩;rcases mem_cons.mp hb with rfl | hb
    ·exact not_lt.mp fun z=>hc ⟨pb,z⟩
    ·exact hm b hb pb
  ·obtain ⟨a,ha,pa⟩:=h;rcases mem_cons.mp ha with rfl | ha
   ·refine ⟨a,mem_cons_self,pa,fun b hb pb=>?_⟩;rcases mem_cons.mp hb with rfl | hb
    ·exact Rat.le_refl
    ·exact absurd ⟨b,hb,pb⟩ hl
   ·exact absurd ⟨a,ha,pa⟩ hl
theorem Es {x:Rat}:∀ {A:List Mk},(∀ h∈fJ A,h<=x)->nM x A = cH A
 | [],_=>rfl
 | m :: A,h=>by
  have i:=Es (A:=A) fun y hy=>h y (mem_cons_of_mem _ hy);have h1:m.2.1<=x:=h m.2.1 mem_cons_self;rw [nM,cH,i,if_pos h1]
theorem yQ {x:Rat}:∀ {A:List Mk},(∀ h∈fJ A,¬ h < x)->qI x A = 0
 | [],_=>rfl
 | m :: A,h=>by
  have i:=yQ (A:=A) fun y hy=>h y (mem_cons_of_mem _ hy);have h1:¬ m.2.1 < x:=h m.2.1 mem_cons_self;rw [qI,i,if_neg h1]; rfl
theorem Er {x y:Rat} (hxy:y < x):∀ {A:List Mk},(∀ h∈fJ A,h < x->h<=y)->qI x A = nM y A
 | [],_=>rfl
 | m :: A,h=>by
  have i:=Er hxy (A:=A) fun z hz=>h z (mem_cons_of_mem _ hz);have h1:m.2.1 < x->m.2.1<=y:=h m.2.1 mem_cons_self;rw [qI,nM,i];by_cases c:m.2.1 < x
  ·rw [if_pos c,if_pos (h1 c)]
  ·rw [if_neg c,if_neg (by grind)]
theorem aDx {A:List Mk} (hne:A ≠ []) (hw:Ws A):∃ x,Mid ((fJ A).zip (gL A)) x:=by
 have hp:=iA hne hw;have ne:∃ a∈fJ A,True:=by
  cases A with
  | nil=>exact absurd rfl hne
  | cons m A=>exact ⟨m.2.1,mem_cons_self,trivial⟩
 obtain ⟨t,ht,_,tm⟩:=sR ne;have hx:∃ x∈fJ A,cH A<=2 * nM x A:=⟨t,ht,by rw [Es fun h hh=>tm h hh trivial]; omega⟩;obtain ⟨x,x1,x2,x3⟩:=Ao hx;refine ⟨x,?_,?_,?_⟩
 ·obtain ⟨m,hm,e⟩:=mem_map.mp x1;obtain ⟨i,hi,rfl⟩:=getElem_of_mem hm;refine ⟨(x,(A[i].2.2:Rat)),?_,rfl⟩;have l1:(fJ A).length = A.length:=by simp [fJ]
  have l2:(gL A).length = A.length:=by simp [gL]
  have hz:i < ((fJ A).zip (gL A)).length:=by rw [length_zip]; omega
  have:=getElem_mem hz;rw [getElem_zip] at this;have e1:(fJ A)[i] = x:=by simp [fJ]; exact e
  have e2:(gL A)[i] = (A[i].2.2:Rat):=by simp [gL]
  rw [e1,e2] at this;exact this
 ·rw [xW,Eo,<- intCast_add,intCast_lt_intCast];by_cases c:∃ h∈fJ A,h < x
  ·obtain ⟨y,y1,y2,y3⟩:=sR c;have:=Er y2 y3;have n:¬ cH A<=2 * nM y A:=fun z=>by have:=x3 y y1 z; grind
   omega
  ·have:=yQ (x:=x) (A:=A) fun h hh z=>c ⟨h,hh,z⟩;omega
 ·rw [sX,Eo,<- intCast_add,intCast_le_intCast];omega
theorem Gn {A:List Mk} (hne:A ≠ []) (hw:∀ m∈A,1<=m.2.2):∃ x,LevelOk "sum" A x:=by
 obtain ⟨x,M⟩:=aDx hne hw;exact ⟨x,fun e=>absurd e (by decide),fun _=>M,fun e=>absurd e (by decide)⟩
theorem Au (A:List Mk) (hne:A ≠ []) (hw:∀ z∈A,1<=z.2.2):GeM A (cE "sum" A)/\LeM A (cE "sum" A):=by
 obtain ⟨x,h⟩:=Gn hne hw;rw [jE (.inl rfl) hne hw h];exact Dn hw (h.sum rfl)
def Ij (m:Mk) (x:Rat) (p:Int):Prop:=(0 < m.2.1 - x->p = m.2.2)/\(m.2.1 - x < 0->p = -m.2.2)/\-m.2.2<=p/\p<=m.2.2
theorem tF {x:Rat}:∀ {left:Int} {A:List Mk},0<=left->Ws A->∀ t∈A.zip (fF x left A),Ij t.1 x t.2
 | left,[],_,_=>fun t h=>nomatch h
 | left,m :: A,h,hw=>fun t ht=>by
  have h1:=hw m mem_cons_self;have u0:0<=left - Lh x left m:=by unfold Lh; split <;> (try split) <;> omega
  rw [fF,List.zip_cons_cons] at ht;rcases mem_cons.mp ht with rfl | ht
  ·unfold Ij oE Lh;dsimp only;by_cases c:0 < m.2.1 - x
   ·rw [if_pos c,if_neg (by grind)];exact ⟨fun _=>by omega,fun z=>by grind,by omega,by omega⟩
   ·rw [if_neg c];by_cases d:m.2.1 - x = 0
    ·rw [if_pos d];refine ⟨fun z=>absurd z c,fun z=>by grind,?_,?_⟩ <;> split <;> omega
    ·rw [if_neg d];exact ⟨fun z=>absurd z c,fun _=>by omega,by omega,by omega⟩
  ·exact tF u0 (fun z hz=>hw z (mem_cons_of_mem _ hz)) t ht
def Tc (lev:List Mk->Rat) (B:List Mk):List Int:=fF (lev B) (-gM (lev B) B) B
def plM (lev:List Mk->Rat) (B:List Mk):List Rat:=(Tc lev B).map fun n:Int=>(n:Rat)
def gU (lev:List Mk->Rat) (bs:List (List Mk)):List Int:=(bs.map (Tc lev)).flatten
theorem rX (lev:List Mk->Rat):∀ bs:List (List Mk),(gU lev bs).map (fun n:Int=>(n:Rat)) = (bs.map (plM lev)).flatten
 | []=>rfl
 | B :: bs=>by
  have:=rX lev bs;unfold gU at *
  rw [map_cons,flatten_cons,map_append,this];rfl
theorem mZ (lev:List Mk->Rat):∀ bs:List (List Mk),(gU lev bs).length = bs.flatten.length
 | []=>rfl
 | B :: bs=>by
  have:=mZ lev bs;unfold gU at *
  rw [map_cons,flatten_cons,length_append,this,flatten_cons,length_append]
  congr 1
  exact jT _ _ _
theorem Ax {lev:List Mk->Rat}:∀ {bs:List (List Mk)},(∀ B∈bs,Ws B/\gM (lev B) B<=0)->∀ t∈bs.flatten.zip ((lay lev bs).zip (gU lev bs)),Ij t.1 t.2.1 t.2.2
 | [],_=>fun t h=>nomatch h
 | B :: bs,hb=>fun t ht=>by
  have e1:lay lev (B :: bs) = replicate B.length (lev B) ++ lay lev bs:=rfl;have e2:gU lev (B :: bs) = Tc lev B ++ gU lev bs:=rfl;have l1:(Tc lev B).length = B.length:=jT _ _ _;rw [e1,e2,flatten_cons,List.zip_append (by simp [l1]),List.zip_append (by simp [l1])] at ht;rcases mem_append.mp ht with h | h
  ·obtain ⟨h1,h2⟩:=hb B mem_cons_self;obtain ⟨i,hi,rfl⟩:=getElem_of_mem h;rw [length_zip,length_zip,length_replicate] at hi;rw [getElem_zip,getElem_zip,List.getElem_replicate];have hz:i < (B.zip (Tc lev B)).length:=by rw [length_zip]; omega
   have:=tF (x:=lev B) (left:=-gM (lev B) B) (by omega) h1 _ (getElem_mem (l:=B.zip (Tc lev B)) hz);rw [getElem_zip] at this;exact this
  ·exact Ax (fun A hA=>hb A (mem_cons_of_mem _ hA)) t h
structure SumFacts (ms:List Mk) (row:List Rat) (ps:List Int):Prop where
 len:row.length = ms.length
 plen:ps.length = ms.length
 hold:HoldR row (ps.map fun n:Int=>(n:Rat))
 fair:∀ t∈ms.zip (row.zip ps),Ij t.1 t.2.1 t.2.2
theorem mU {ms:List Mk} (hw:∀ m∈ms,1<=m.2.2):Stk GeM LeM (cE "sum") (eX (cE "sum") ms)/\(eX (cE "sum") ms).reverse.flatten = ms:=by
 have:=sA lv_sum (lev:=cE "sum") Au hw ms.length (le_refl _);rw [take_length] at this;exact this
theorem uO {ms:List Mk} (hw:∀ m∈ms,1<=m.2.2):SumFacts ms (lay (cE "sum") (eX (cE "sum") ms).reverse) (gU (cE "sum") (eX (cE "sum") ms).reverse):=by
 obtain ⟨S,e⟩:=mU hw;generalize hb:(eX (cE "sum") ms).reverse = bs at *
 have Sb:∀ B∈bs,Blk GeM LeM B (cE "sum" B):=fun B hB=>S.blk B (by rw [<- hb] at hB; exact mem_reverse.mp hB);have up:bs.Pairwise fun A B=>cE "sum" A<=cE "sum" B:=by
  rw [<- hb,List.pairwise_reverse];exact S.up
 obtain ⟨h1,h2,h3⟩:=oZ (cE "sum") (plM (cE "sum")) (bs:=bs) (fun B hB=>⟨(Sb B hB).ne,by unfold plM Tc; rw [length_map,jT],Tu (Sb B hB)⟩) up;refine ⟨by rw [mK,e],by rw [mZ,e],by rw [rX]; exact Az h1 h2,?_⟩;have:=Ax (lev:=cE "sum") (bs:=bs) fun B hB=>⟨(Sb B hB).w,by have:=(Sb B hB).le.2; rw [iN]; omega⟩;rw [e] at this;exact this
theorem vB {α:Type} (f g:α->PyData):∀ xs:List α,pairD (xs.map f) (xs.map g) = xs.map fun x=>PyData.tuple [f x,g x]
 | []=>by simp [Dl.pairD]
 | x :: xs=>by
  have:=vB f g xs;simp [Dl.pairD,this]
theorem zC {α:Type} (f g h:α->PyData):∀ xs:List α,triD (xs.map f) (xs.map g) (xs.map h) = xs.map fun x=>PyData.tuple [f x,g x,h x]
 | []=>by simp [Dl.triD]
 | x :: xs=>by
  have:=zC f g h xs;simp [Dl.triD,this]
theorem Bc (x:Rat):∀ A:List Mk,(A.map (oE x)).sum = gM x A
 | []=>rfl
 | m :: A=>by rw [map_cons,sum_cons,Bc x A,gM]
theorem pR (q:Rat):0 < q.num ↔ 0 < q:=by
 have h1:=@num_nonneg (-q);have h2:(-q).num = -q.num:=rfl;rw [h2] at h1;have h3:(0<=-q) ↔ ¬ 0 < q:=by rw [not_lt]; constructor <;> intro <;> grind
 rw [h3] at h1;constructor
 ·intro h; exact Decidable.not_not.mp fun z=>by have:=h1.mpr z; omega
 ·intro h; exact Int.not_le.mp fun z=>absurd h (h1.mp (by omega))
def Xy (n:Int):PyData:=fr (n:Rat)
theorem pE:∀ ns:List Int,dF (ns.map Xy) = true
 | []=>rfl
 | n :: ns=>by
  have:=pE ns;simp only [map_cons,dF,Xy,mR,fr,this,Bool.and_self]
def ok0:Ok (0:Rat):=⟨Ir (by decide +kernel),show Wee ((1:Nat):Int) from Ir (by decide +kernel)⟩
def aMl:DW:=fun ds Q _=>∃ x p:Rat,ds = [.list [fr x],fr p]/\Ok x/\Ok p/\Q (.dat (fr x))
theorem aJh (T:Txt K mg A):FnOk P w K mg base (eP P w) 4 A.a_ql A.d_ql ["numbers","x"] (fC K aMl):=by
 refine gE T.F_ql.F Fk (by walk_at "l") fun cdv Ar outer s H E hr=>?_
 refine ⟨_,(aF (cY 2 Fk (fH rfl T.c_NOUGHT (show RelV (.ref _) (.ref _) from rfl)))
   (aF (dU PassesOwn.leaving rfl (zZ (K:=K) rfl rfl T.n_reversed (aA (pv 0) aD)) (mG 3 Fk)
    (aH (cY 2 Fk (cG (vE T) hr T.F_qc aO (aA (cG (sJ T) hr T.F_qe aO (aA (pv 2) (aA (pv 1) aD))) (aA (pv 3) aD))))))
   (aH (aV (pv 2))))),_,(aJ (bD (tY T.k_NOUGHT) (aI 2))
   (aJ (eC (aEn (aL 0)) (aI 3)
    (bD (aM (aC (aB (aM (aC (aE 2) (aC (aE 1) aG)))) (aC (aE 3) aG))) (aI 2)))
   (eA 2))),?_⟩
 rintro ds Q X ⟨x,p,rfl,ox,op,k⟩;walk_at "s"
 refine cK (dE fr [x] (fun Q h=>by walk_at "d"; exact h)
  (fun i δ=>∃ t:Option Sl,δ = [some (.dat (.list [fr x])),some (.dat (fr p)),some (.dat (fr (if i = 0 then 0 else x))),t]) ⟨_,rfl⟩ ?_ ?_)
 ·rintro i y δ hi ⟨t,rfl⟩;have h0:i = 0:=by have:=(List.getElem?_eq_some_iff.mp hi).1; simpa using this
  subst h0;have hy:y = x:=by simpa using hi.symm
  subst hy;rw [if_pos rfl];walk_at "d";refine ⟨0,p,rfl,ok0,op,rfl,?_⟩;dsimp only;rw [zero_mul];refine ⟨0,y,rfl,ok0,ox,?_⟩;dsimp only;rw [zero_add];walk_at "d";exact ⟨_,rfl⟩
 ·rintro δ ⟨t,rfl⟩;walk_at "d";exact k
def aGz:DW:=fun ds Q _=>∃ (x:Rat) (ms:List Mk),ds = [.list [fr x],.list (ms.map dP)]/\ms.length<=1000/\Ok x/\(∀ m∈ms,Ok m.1)/\Q (.own ((replicate ms.length x).map fr))
theorem aJg (T:Txt K mg A):FnOk P w K mg base (eP P w) 5 A.a_qm A.d_qm ["numbers","marks"] (fC K aGz):=by
 refine gE T.F_qm.F aId (by walk_at "l") fun cdv Ar outer s H E hr=>?_;refine ⟨_,(aH (aV (fA (cap:=[none,some 0]) (NC:=["mark","numbers"]) rfl ⟨rfl,rfl,by decide +kernel,by decide +kernel,⟨⟨_,rfl,rfl,rfl,rfl,rfl⟩,trivial⟩,(forall_mem_cons.2 ⟨rfl,(fun _ h=>nomatch h)⟩),rfl⟩ (fV (K:=K) rfl (pv 1)) (fun _ _ _ _=>(kI 0 ["mark","numbers"])) (fun _ _ _ _=>cC) (fun _ _ _ _=>(cG (aJh T) hr T.F_ql aO (aA (pv 1) (aA (cR (K:=K) rfl (pv 0)) aD))))))),_,(kB (dW (cW (bA 1)) (aI 0) cM (aM (aC (aE 1) (aC (aB (aS 0 (aL 0))) aG))) (by decide) (by decide))),?_⟩;rintro ds Q X ⟨x,ms,rfl,n,ox,op,k⟩;walk_at "d";refine cL dP fr (fun m:Mk=>[x]) ms n (fun Q h=>h) (fun m h N acc hN=>?_) ?_
 ·walk_at "d";refine ⟨x,m.1,rfl,ox,op m h,?_⟩;walk_at "d";exact hN
 rw [bH,List.map_const'];exact k
def Zo:DW:=fun ds Q _=>∃ (ms:List Mk) (x:Rat),ds = [.list (ms.map dP),.list (ms.map fun m=>fr (m.2.1 - x))]/\ms.length<=60/\(∀ m∈ms,1<=m.2.2/\m.2.2<=10 ^ 100)/\Q (.own ((fF x (-gM x ms) ms).map Xy))
theorem aJa (T:Txt K mg A):FnOk P w K mg base (eP P w) 1 A.a_qx A.d_qx ["marks","misses"] (fC K Zo):=by
 refine gE T.F_qx.F sc_qx (by walk_at "l") fun cdv Ar outer s H E hr=>?_
 refine ⟨_,(aF (iU (i:=2) (cap:=[none,none]) (NC:=["mark","miss"]) sc_qx.nd rfl rfl rfl (qE rfl) (jI (K:=K) rfl rfl T.n_zip (aA (pv 0) (aA (pv 1) aD))) (fun _ _ _ _=>(nB (K:=K) (n:=2) rfl rfl (bQ (kI 0 ["mark","miss"]) (bQ (kI 1 ["mark","miss"]) eV)))) (fun _ _ _ _=>cC) (fun _ _ _ _=>(sC (aT jP (cR (K:=K) rfl (pv 1)) aP (aX _)) (cR (K:=K) rfl (pv 0)) (pP kZ (cR (K:=K) rfl (pv 0))))))
   (aF (cY 3 sc_qx (pP kZ (bB (aMs (K:=K) rfl rfl) rfl T.n_sum aFr (aA (pv 2) aD))))
   (aF (cY 4 sc_qx (dN aD))
   (aF (dU PassesOwn.leaving rfl (xD (K:=K) rfl rfl T.n_zip (aA (pv 0) (aA (pv 1) (aA (pv 2) aD)))) (nB (K:=K) (n:=3) rfl rfl (bQ (mG 5 sc_qx) (bQ (mG 6 sc_qx) (bQ (mG 7 sc_qx) eV))))
    (aF (cY 8 sc_qx (sC (aT (eqK (K:=K) rfl hr.units) (pv 6) (fH rfl T.c_NOUGHT (show RelV (.ref _) (.ref _) from rfl)) (aX _)) (bB (pJ rfl) rfl T.n_min Eg (aA (pv 3) (aA (aY bV aP (cR (K:=K) rfl (pv 5))) aD))) aP))
   (aF (cY 3 sc_qx (aY lI (pv 3) (pv 8)))
   (aH (eG (fB F.plainAttrs_list F.slot_list_append F.type_list_append gW (pv 4) (aA (cA (aA (aY eR (pv 7) (pv 8)) (aA aP aD))) aD)))))))
   (aH (aV (pv 4))))))),_,(aJ (bZ 2 (dW (lO (bA 0) (bA 1)) (fX (bW (aI 0) (bW (aI 1) fY))) cM (Rc (aU (aB (aN eW (aB (aS 0 (aL 1))) (aB aK)))) (aS 2 (aL 0)) (lS (aB (aS 2 (aL 0))))) (by decide) (by decide)))
   (aJ (bD (lS (aB (bT aBz (aC (aE 2) aG)))) (aI 3))
   (aJ (bZ 4 (dO bE (by decide)))
   (aJ (mT 2 (eC (xS (aL 0) (aL 1) (aL 2)) (fX (bW (aI 5) (bW (aI 6) (bW (aI 7) fY))))
    (rK (bD (Rc (aU (aB (aN oX (aE 6) (aB (tY T.k_NOUGHT))))) (bT Ct (aC (aE 3) (aC (aB (aN dM (aB aK) (aB (aS 2 (aL 5))))) aG))) aK) (aI 8))
   (aJ (bD (aN eO (aE 3) (aE 8)) (aI 3))
   (oR 4 (cI (aQ (aN eO (aE 7) (aE 8)) (aQ aK bE)) (by decide)))))))
   (eA 4))))),?_⟩
 rintro ds Q X ⟨ms,x,rfl,n60,hw,k⟩;walk_at "s"
 refine cL (fun m:Mk=>PyData.tuple [dP m,fr (m.2.1 - x)]) PyData.int (fun m:Mk=>[oE x m]) ms (by omega) (fun Q h=>by
   walk_at "d"
   rw [vB]; exact h) (fun m h N acc hN=>?_) ?_
 ·walk_at "d";unfold oE at hN;refine bU (fun c=>?_) (fun c=>?_)
  ·rw [if_pos ((pR _).mp c)] at hN;exact hN
  ·rw [if_neg (fun z=>c ((pR _).mpr z))] at hN;exact hN
 rw [bH];walk_at "s";refine ⟨ms.map (oE x),rfl,?_⟩;rw [Bc];walk_at "s";generalize hL:-gM x ms = L0 at *
 refine cK (dE (fun m:Mk=>PyData.tuple [dP m,fr (m.2.1 - x),.int (oE x m)]) ms (fun Q h=>by
   walk_at "d"
   rw [map_map,zC]; exact h)
  (fun i δ=>∃ (left:Int) (ps:List Int) (t1 t2 t3 t4:Option Sl),δ = [some (.dat (.list (ms.map dP))),some (.dat (.list (ms.map fun m=>fr (m.2.1 - x)))),some (.dat (.list ((ms.map (oE x)).map .int))),some (.dat (.int left)),some (.own (ps.map Xy)),t1,t2,t3,t4]/\fF x L0 ms = ps ++ fF x left (ms.drop i)/\ps.length = i)
  ⟨L0,[],_,_,_,_,rfl,rfl,rfl⟩ ?_ ?_)
 ·rintro i m δ hi ⟨left,ps,t1,t2,t3,t4,rfl,he,hl⟩;have hi2:=(List.getElem?_eq_some_iff.mp hi).1;have hm:=hw m (mem_of_getElem? hi);have ed:ms.drop i = m :: ms.drop (i + 1):=by
   rw [drop_eq_getElem_cons hi2]
   congr 1
   exact (List.getElem?_eq_some_iff.mp hi).2
  rw [ed,fF] at he;obtain ⟨u,hu⟩:∃ u,Lh x left m = u:=⟨_,rfl⟩;rw [hu] at he;walk_at "d";refine tJ (fun δ=>δ = [some (.dat (.list (ms.map dP))),some (.dat (.list (ms.map fun m=>fr (m.2.1 - x)))),some (.dat (.list ((ms.map (oE x)).map .int))),some (.dat (.int left)),some (.own (ps.map Xy)),some (.dat (dP m)),some (.dat (fr (m.2.1 - x))),some (.dat (.int (oE x m))),some (.dat (.int u))]) ?_ ?_
  ·walk_at "d";refine ⟨Rat,eRat,m.2.1 - x,0,rfl,rfl,fun b hb=>?_⟩;unfold Lh at hu;cases b with
   | true =>
    rw [if_pos (hb.mp rfl)] at hu;walk_at "d";refine ⟨dQ (Ir (by decide +kernel)) (fM (n:=10 ^ 100) (by omega) (by decide +kernel)),?_⟩;rw [hu]
   | false =>
    rw [if_neg (fun z=>by have:=hb.mpr z; cases this)] at hu;walk_at "d";rw [hu]
  rintro δ rfl;walk_at "s";refine ⟨by omega,left - u,ps ++ [oE x m + u],_,_,_,_,by rw [map_append]; rfl,by rw [he,append_assoc]; rfl,by rw [length_append,hl]; rfl⟩
 ·rintro δ ⟨left,ps,t1,t2,t3,t4,rfl,he,hl⟩;rw [List.drop_length,fF,append_nil] at he;walk_at "d";rw [<- he];exact k
def aHg:DW:=fun ds Q _=>∃ (ms:List Mk) (L:Nat),ds = [.list (ms.map dP)]/\1<=ms.length/\ms.length<=60/\0 < L/\L<=10 ^ 100/\(∀ m∈ms,Cm L (10 ^ 100) m.2.1)/\(∀ m∈ms,1<=m.2.2/\m.2.2<=10 ^ 100)/\(∀ m∈ms,Ok m.1) /\
 ∀ x,LevelOk "sum" ms x->Q (.dat (.tuple [.list [fr x],.list ((fF x (-gM x ms) ms).map Xy)]))
theorem aJb (T:Txt K mg A):FnOk P w K mg base (eP P w) 6 A.a_qw A.d_qw ["marks"] (fC K aHg):=by
 refine gE T.F_qw.F Mi (by walk_at "l") fun cdv Ar outer s H E hr=>?_
 refine ⟨_,(aF (cY 1 Mi (dN (aA (cG (Gd T) hr T.F_qt aO (aA bF (aA (pv 0) aD))) aD)))
   (aF (cY 2 Mi (cG (Pk T) hr T.F_qp aO (aA (pv 0) (aA (cG (aJg T) hr T.F_qm aO (aA (pv 1) (aA (pv 0) aD))) aD))))
   (aH (aV (cA (aA (pv 1) (aA (cG (aJa T) hr T.F_qx aO (aA (pv 0) (aA (pv 2) aD))) aD))))))),_,(aJ (bZ 1 (dO (aQ (aM (aC (aB bG) (aC (aE 0) aG))) bE) (by decide)))
   (aJ (bZ 2 (dH (aC (aE 0) (aC (aB (eI (dH (aC (aE 1) (aC (aE 0) aG))))) aG))))
   (mT 1 (bI (aB (cI (aQ (aL 1) (aQ (eI (dH (aC (aE 0) (aC (aE 2) aG)))) bE)) (by decide))))))),?_⟩
 rintro ds Q X ⟨ms,L,rfl,n1,n60,L0,L1,hc,hw,hp,k⟩;have hne:ms ≠ []:=length_pos_iff.mp n1;walk_at "s";refine ⟨"sum",ms,L,rfl,by simp [dJ],n1,n60,L0,L1,hc,hw,fun x hx=>?_⟩;have ox:Ok x:=Qf (by simp [dJ]) hx hne n60 L0 L1 hc hw;have oh:∀ m∈ms,Ok m.2.1:=fun m h=>eE ((hc m h).dg L0 L1 (b:=100) (le_refl _)) (by decide);walk_at "d";walk_at "s";refine ⟨x,ms,rfl,by omega,ox,hp,?_⟩;walk_at "d";refine ⟨dZ _,?_⟩;refine ⟨ms,replicate ms.length x,rfl,by omega,oh,fun q hq=>by rw [List.eq_of_mem_replicate hq]; exact ox,?_⟩;walk_at "d";refine ⟨dZ _,?_⟩;rw [sN,map_map];walk_at "d";refine ⟨ms,x,rfl,n60,hw,?_⟩;walk_at "d";exact ⟨pE _,k x hx⟩
def zY (h:Nat->Rat):Nat->Nat
 | 0=>0
 | i + 1=>if h (zY h i) < h i then i else zY h i
def pk (h:Nat->Rat) (i:Nat):Nat:=zY h (i + 1)
theorem Cv (h:Nat->Rat):∀ i,zY h i<=i
 | 0=>le_refl _
 | i + 1=>by
  have:=Cv h i;unfold zY;split <;> omega
theorem uY (h:Nat->Rat) (i:Nat):pk h i<=i:=by
 unfold pk zY;have:=Cv h i;split <;> omega
theorem nA (h:Nat->Rat):∀ i j,j<=i->h j<=h (pk h i)
 | 0,j,hj=>by
  have:j = 0:=by omega
  subst this;have e:pk h 0 = 0:=by unfold pk zY zY; split <;> rfl
  rw [e]; exact Rat.le_refl
 | i + 1,j,hj=>by
  have ih:=nA h i;unfold pk;rw [zY];show h j<=h (if h (pk h i) < h (i + 1) then i + 1 else pk h i);split
  ·by_cases e:j = i + 1
   ·rw [e]; exact Rat.le_refl
   ·have:=ih j (by omega); grind
  ·by_cases e:j = i + 1
   ·rw [e]; exact not_lt.mp ‹_›
   ·exact ih j (by omega)
theorem Ur (h:Nat->Rat) (i:Nat):h (pk h (pk h i)) = h (pk h i):=by
 refine le_antisymm (nA h i _ ?_) (nA h (pk h i) _ (le_refl _));have:=uY h i;have:=uY h (pk h i);omega
theorem Ga (h:Nat->Rat) {i j:Nat} (hij:i<=j):h (pk h i)<=h (pk h j):=nA h j _ (le_trans (uY h i) hij)
def gO (h:Nat->Rat) (i:Nat):Rat:=h (pk h i) - h i
theorem Hh (h:Nat->Rat) (i:Nat):0<=gO h i:=by
 have:=nA h i i (le_refl _);unfold gO;grind
theorem vU {α:Type} (f:α->PyData):∀ (k:Nat) (xs:List α),enumD k (xs.map f) = (xs.zipIdx k).map fun p=>PyData.tuple [.int (p.2:Int),f p.1]
 | _,[]=>rfl
 | k,x :: xs=>by
  have:=vU f (k + 1) xs;simp [Dl.enumD,this]
theorem Ei {qs:List Rat} {k:Int} {j:Nat} (e:k = (j:Int)) (h:j < qs.length):nI (qs.map fr) k = some (fr (qs.getD j 0)):=by
 rw [pM (xs:=qs) fr (by omega) (by omega),e,toNat_natCast];rfl
theorem qP {xs:List Rat} {j:Nat} (h:j < xs.length):xs.getD j 0∈xs:=by
 have e:xs.getD j 0 = xs[j]:=by simp [getD,h]
 rw [e]; exact getElem_mem h
def hF (hs:List Rat):Nat->Rat:=fun j=>hs.getD j 0
def kR (hs:List Rat) (n:Nat):List Nat:=(range n).map (pk (hF hs))
def Zc:DW:=fun ds Q _=>∃ hs:List Rat,ds = [.list (hs.map fr)]/\1<=hs.length/\hs.length<=60/\(∀ q∈hs,Ok q)/\Q (.own ((kR hs hs.length).map fun p:Nat=>PyData.int (p:Int)))
theorem aDn (T:Txt K mg A):FnOk P w K mg base (eP P w) 2 A.a_qb1 A.d_qb1 ["heights"] (fC K Zc):=by
 refine gE T.F_qb1.F oW (by walk_at "l") fun cdv Ar outer s H E hr=>?_
 refine ⟨_,(aF (cY 1 oW (dN aD))
   (aF (cY 2 oW aP)
   (aF (dU PassesOwn.leaving rfl (xE (K:=K) rfl rfl T.n_enumerate (aA (pv 0) aD)) (nB (K:=K) (n:=2) rfl rfl (bQ (mG 3 oW) (bQ (mG 4 oW) eV)))
    (aF (bK (eL (cG (sI T) hr T.F_qg aO (aA (gB (lN (K:=K) rfl) (pv 0) (pv 2) (fun _ _=>rfl)) (aA (pv 4) aD)))) (aH (cY 2 oW (pv 3))) aW)
   (aH (eG (fB F.plainAttrs_list F.slot_list_append F.type_list_append gW (pv 1) (aA (pv 2) aD))))))
   (aH (aV (pv 1)))))),_,(aJ (bZ 1 (dO bE (by decide)))
   (aJ (bD aK (aI 2))
   (aJ (eC (Vx (aL 0)) (fX (bW (aI 3) (bW (aI 4) fY)))
    (aJ (bP (jF (aB (aM (aC (aB (bO (bA 0) (aE 2))) (aC (aE 4) aG))))) (bD (aL 3) (aI 2)) aZ)
   (oR 1 (aL 2))))
   (eA 1)))),?_⟩
 rintro ds Q X ⟨hs,rfl,n1,n60,ho,k⟩;walk_at "s";walk_at "s"
 refine cK (dE (fun p:Rat × Nat=>PyData.tuple [.int (p.2:Int),fr p.1]) (hs.zipIdx 0) (fun Q h=>by
   walk_at "d"
   rw [vU]; exact h)
  (fun i δ=>∃ t1 t2:Option Sl,δ = [some (.dat (.list (hs.map fr))),some (.own ((kR hs i).map fun p:Nat=>PyData.int (p:Int))),some (.dat (.int (zY (hF hs) i:Int))),t1,t2])
  ⟨_,_,rfl⟩ ?_ ?_)
 ·rintro i p δ hi ⟨t1,t2,rfl⟩;have hil:i < hs.length:=by have:=(List.getElem?_eq_some_iff.mp hi).1; simpa using this
  have hp:p = (hF hs i,i):=by
   rw [List.getElem?_zipIdx,getElem?_eq_getElem hil] at hi;simp at hi;rw [<- hi];simp [hF,getD,hil]
  subst hp;have pl:=Cv (hF hs) i;have e:kR hs (i + 1) = kR hs i ++ [pk (hF hs) i]:=by unfold kR; rw [List.range_succ,map_append]; rfl
  have ep:pk (hF hs) i = if hF hs (zY (hF hs) i) < hF hs i then i else zY (hF hs) i:=rfl
  have eb:zY (hF hs) (i + 1) = pk (hF hs) i:=rfl;have ll:(kR hs i).length = i:=by unfold kR; rw [length_map,length_range]
  rw [e,eb,map_append];walk_at "s";refine ⟨_,Ei (j:=zY (hF hs) i) rfl (by omega),?_⟩;refine ⟨hs.getD (zY (hF hs) i) 0,hF hs i,rfl,ho _ (qP (by omega)),ho _ (qP hil),?_⟩;walk_at "d";refine bU (fun c=>?_) (fun c=>?_)
  ·have c':hF hs (zY (hF hs) i) < hF hs i:=c;rw [ep,if_pos c'];exact ⟨by omega,_,_,rfl⟩
  ·have c':¬ hF hs (zY (hF hs) i) < hF hs i:=c;rw [ep,if_neg c'];walk_at "d";exact ⟨by omega,_,_,rfl⟩
 ·rintro δ ⟨t1,t2,rfl⟩;walk_at "d";rw [List.length_zipIdx];exact k
theorem vG:∀ ps:List Nat,dF (ps.map fun p:Nat=>PyData.int (p:Int)) = true
 | []=>rfl
 | p :: ps=>by
  have:=vG ps;simp only [map_cons,dF,mR,this,Bool.and_self]
theorem vR {α:Type} [DecidableEq α] {a:α}:∀ {l:List α},a∈l->∃ j:Nat,l[j]? = some a/\∀ m:Nat,m < j->l[m]? ≠ some a
 | [],h=>nomatch h
 | b :: l,h=>by
  by_cases e:b = a
  ·exact ⟨0,by rw [e]; rfl,fun m hm=>absurd hm (not_lt_zero _)⟩
  ·obtain ⟨j,h1,h2⟩:=vR (l:=l) (by
    rcases mem_cons.mp h with z | z
    ·exact absurd z.symm e
    ·exact z)
   refine ⟨j + 1,by simpa using h1,fun m hm=>?_⟩;cases m with
   | zero=>simpa using e
   | succ m=>simpa using h2 m (by omega)
def jO:Rat:=divInt 1 2
theorem aJy:jO + jO = 1:=by decide +kernel
theorem Qp:PyData.tuple [.int 1,.int 2] = fr jO:=rfl
theorem Vz:PyData.tuple [.int (-1),.int 2] = fr (-jO):=rfl
theorem aBy (n:Nat):(replicate n [PyData.tuple [PyData.int 0,PyData.int 1]]).flatten = (replicate n (0:Rat)).map fr:=by
 rw [List.map_replicate];simp
theorem ixN_nat' {n j:Nat} {k:Int} (e:k = (j:Int)) (h:j < n):Gr n k = some j:=by
 unfold Gr;rw [if_pos (by omega),if_pos (by omega),e,toNat_natCast]
theorem vM {R:List Rat} {i t:Nat} {x:Rat} (h:i < R.length):(R.set i x).getD t 0 = if t = i then x else R.getD t 0:=by
 simp only [getD_eq_getElem?_getD,List.getElem?_set];by_cases e:t = i
 ·subst e; simp [h]
 ·rw [if_neg (Ne.symm e),if_neg e]
structure FarOk (hs row pulls:List Rat):Prop where
 len:row.length = hs.length/\pulls.length = hs.length
 h:∃ (m:Rat) (sp:Nat),sp < hs.length/\gO (hF hs) sp = m/\(∀ i,i < hs.length->gO (hF hs) i<=m)/\(∀ i,i < hs.length->row.getD i 0 = hF hs (pk (hF hs) i) - jO * m) /\
  (∀ i,i < hs.length->pulls.getD i 0 = if m = 0 then 0 else if i = sp then -jO else if i = pk (hF hs) sp then jO else 0)/\∀ i,i < sp->gO (hF hs) i ≠ m
def aMn:DW:=fun ds Q _=>∃ ms:List Mk,ds = [.list (ms.map dP)]/\1<=ms.length/\ms.length<=60/\(∀ m∈ms,Dg 100 m.2.1)/\∀ row pulls:List Rat,FarOk (ms.map (·.2.1)) row pulls->Q (.two (row.map fr) (pulls.map fr))
theorem aDp (T:Txt K mg A):FnOk P w K mg base (eP P w) 4 A.a_qa1 A.d_qa1 ["marks"] (fC K aMn):=by
 refine gE T.F_qa1.F sc_qa1 (by walk_at "l") fun cdv Ar outer s H E hr=>?_
 refine ⟨_,(aF (rY (i:=1) sc_qa1.nd rfl (Or.inr rfl) (fA (cap:=[none]) (NC:=["mark"]) rfl (qE rfl) (fV (K:=K) rfl (pv 0)) (fun _ _ _ _=>(kI 0 ["mark"])) (fun _ _ _ _=>cC) (fun _ _ _ _=>(cR (K:=K) rfl (pv 0)))))
   (aF (cY 2 sc_qa1 (cG (aDn T) hr T.F_qb1 aO (aA (pv 1) aD)))
   (aF (iU (i:=3) (cap:=[none,none,some 1]) (NC:=["peak","height","heights"]) sc_qa1.nd rfl rfl rfl ⟨rfl,rfl,by decide +kernel,by decide +kernel,⟨⟨_,rfl,rfl,rfl,rfl,rfl⟩,trivial⟩,(forall_mem_cons.2 ⟨rfl,(fun _ h=>nomatch h)⟩),rfl⟩ (jI (K:=K) rfl rfl T.n_zip (aA (pv 2) (aA (pv 1) aD))) (fun _ _ _ _=>(nB (K:=K) (n:=2) rfl rfl (bQ (kI 0 ["peak","height","heights"]) (bQ (kI 1 ["peak","height","heights"]) eV)))) (fun _ _ _ _=>cC) (fun _ _ _ _=>(cG (Pn T) hr T.F_qd aO (aA (gB (lN (K:=K) rfl) (pv 2) (pv 0) (fun _ _=>rfl)) (aA (pv 1) aD)))))
   (aF (cY 4 sc_qa1 (cG (Pm T) hr T.F_qj aO (aA (pv 3) aD)))
   (aF (rY (i:=5) sc_qa1.nd rfl (Or.inr rfl) (cG (sJ T) hr T.F_qe aO (aA (cA (aA aP (aA aP aD))) (aA (pv 4) aD))))
   (aF (iU (i:=6) (cap:=[none,some 5,some 1]) (NC:=["peak","half","heights"]) sc_qa1.nd rfl rfl rfl ⟨rfl,rfl,by decide +kernel,by decide +kernel,⟨⟨_,rfl,rfl,rfl,rfl,rfl⟩,⟨⟨_,rfl,rfl,rfl,rfl,rfl⟩,trivial⟩⟩,(forall_mem_cons.2 ⟨rfl,(forall_mem_cons.2 ⟨rfl,(fun _ h=>nomatch h)⟩)⟩),rfl⟩ (fV (K:=K) rfl (pv 2)) (fun _ _ _ _=>(kI 0 ["peak","half","heights"])) (fun _ _ _ _=>cC) (fun _ _ _ _=>(cG (Pn T) hr T.F_qd aO (aA (gB (lN (K:=K) rfl) (pv 2) (pv 0) (fun _ _=>rfl)) (aA (pv 1) aD)))))
   (aF (cY 7 sc_qa1 (aY Pg (dN (aA (fH rfl T.c_NOUGHT (show RelV (.ref _) (.ref _) from rfl)) aD)) (bB (gH (K:=K) rfl) rfl T.n_len boot_len (aA (pv 0) aD))))
   (aF (bK (aT (Pt (K:=K) rfl hr.units) (pv 4) (fH rfl T.c_NOUGHT (show RelV (.ref _) (.ref _) from rfl)) (aX _)) (aF (cY 8 sc_qa1 (fB F.plainAttrs_list F.slot_list_index F.type_list_index (Jv (K:=K) rfl hr.units) (pv 3) (aA (pv 4) aD)))
   (aF (Cu (cA (aA aP (aA aP aD))) (Pa (pv 7) (gB (lN (K:=K) rfl) (pv 2) (pv 8) (fun _ _=>rfl)) zQ))
   (aH (Cu (cA (aA (pP kZ aP) (aA aP aD))) (Pa (pv 7) (pv 8) zQ))))) aW)
   (aH (aV (cA (aA (pv 6) (aA (pv 7) aD))))))))))))),_,(aJ (bZ 1 (dW (cW (bA 0)) (aI 0) cM (aS 1 (aL 0)) (by decide) (by decide)))
   (aJ (bZ 2 (dH (aC (aE 1) aG)))
   (aJ (bZ 3 (dW (lO (bA 2) (bA 1)) (fX (bW (aI 0) (bW (aI 1) fY))) cM (aM (aC (aB (bO (bA 2) (aE 0))) (aC (aE 1) aG))) (by decide) (by decide)))
   (aJ (bD (aM (aC (aE 3) aG)) (aI 4))
   (aJ (bD (aM (aC (aB (cI (aQ aK (aQ aK bE)) (by decide))) (aC (aE 4) aG))) (aI 5))
   (aJ (bZ 6 (dW (cW (bA 2)) (aI 0) cM (aM (aC (aB (bO (bA 2) (aE 0))) (aC (aE 1) aG))) (by decide) (by decide)))
   (aJ (bZ 7 (Pe (Gj (dO (aQ (tY T.k_NOUGHT) bE) (by decide))) (aB (bT cO (aC (aE 0) aG)))))
   (aJ (bP (aU (aB (aN iT (aE 4) (aB (tY T.k_NOUGHT))))) (aJ (bD (Rb 3 (aE 4)) (aI 8))
   (aJ (zK 7 (cI (aQ aK (aQ aK bE)) (by decide)) (aB (bO (bA 2) (aE 8))))
   (zK 7 (cI (aQ (Wg (v:=(-1)) (lS (aB aK)) (fun ex δ Q h=>Eq.mpr (congrArg (fun z=>Q (.int z)) (by decide +kernel:((-1):Int) = -1)) h)) (aQ aK bE)) (by decide)) (aE 8)))) aZ)
   (wQ (Xq 6 7 (by decide))))))))))),?_⟩
 rintro ds Q X ⟨ms,rfl,n1,n60,hd,k⟩;walk_at "s";refine cL dP fr (fun m:Mk=>[m.2.1]) ms (by omega) (fun Q h=>h) (fun m h N acc hN=>?_) ?_
 ·walk_at "d";exact hN
 rw [bH];obtain ⟨hs,hhs⟩:∃ hs,ms.map (fun m:Mk=>m.2.1) = hs:=⟨_,rfl⟩;have hl:hs.length = ms.length:=by rw [<- hhs,length_map]
 have hdg:∀ q∈hs,Dg 100 q:=fun q hq=>by
  rw [<- hhs] at hq;obtain ⟨m,hm,rfl⟩:=mem_map.mp hq;exact hd m hm
 rw [hhs] at k ⊢;have hdi:∀ i,i < hs.length->Dg 100 (hF hs i):=fun i hi=>hdg _ (qP hi);have pki:∀ i,i < hs.length->pk (hF hs) i < hs.length:=fun i hi=>by have:=uY (hF hs) i; omega
 walk_at "s";refine ⟨hs,rfl,by omega,by omega,fun q hq=>eE (hdg q hq) (by decide),?_⟩;walk_at "d";refine ⟨vG _,?_⟩;have pl:(kR hs hs.length).length = hs.length:=by unfold kR; rw [length_map,length_range]
 have pm:∀ p∈kR hs hs.length,p < hs.length:=fun p hp=>by
  obtain ⟨i,hi,rfl⟩:=mem_map.mp hp;exact pki i (mem_range.mp hi)
 walk_at "s"
 refine cL (fun p:Nat × Rat=>PyData.tuple [.int (p.1:Int),fr p.2]) fr (fun p:Nat × Rat=>[hF hs p.1 - p.2]) ((kR hs hs.length).zip hs) (by rw [length_zip]; omega) (fun Q h=>by
   walk_at "d"
   rw [eY]; exact h) (fun p hp N acc hN=>?_) ?_
 ·have hz:=of_mem_zip (a:=p.1) (b:=p.2) hp;have h1:=pm _ hz.1;walk_at "d";refine ⟨_,Ei (j:=p.1) rfl h1,?_⟩;refine ⟨hF hs p.1,p.2,rfl,eE (hdi _ h1) (by decide),eE (hdg _ hz.2) (by decide),?_⟩;walk_at "d";exact hN
 rw [bH];obtain ⟨dl,hdl⟩:∃ dl:List Rat,(range hs.length).map (gO (hF hs)) = dl:=⟨_,rfl⟩;have edl:((kR hs hs.length).zip hs).map (fun p:Nat × Rat=>hF hs p.1 - p.2) = dl:=by
  rw [<- hdl];apply List.ext_getElem
  ·rw [length_map,length_zip,length_map,length_range]; omega
  ·intro i h1 h2;have hi:i < hs.length:=by simpa using h2
   simp [kR,gO,hF,getD,hi]
 rw [edl];have dll:dl.length = hs.length:=by rw [<- hdl,length_map,length_range]
 have dat:∀ i,i < hs.length->dl[i]? = some (gO (hF hs) i):=fun i hi=>by rw [<- hdl,getElem?_map,List.getElem?_range hi]; rfl
 have ddg:∀ i,i < hs.length->Dg 210 (gO (hF hs) i):=fun i hi=>((hdi _ (pki i hi)).sub (hdi i hi)).mono (by decide);have dmem:∀ q∈dl,∃ i,i < hs.length/\q = gO (hF hs) i:=fun q hq=>by
  rw [<- hdl] at hq;obtain ⟨i,hi,rfl⟩:=mem_map.mp hq;exact ⟨i,mem_range.mp hi,rfl⟩
 walk_at "s";refine ⟨dl,rfl,fun q hq=>?_,fun h0=>?_,fun m hm hle=>?_⟩
 ·obtain ⟨i,hi,rfl⟩:=dmem q hq;exact eE (ddg i hi) (by decide)
 ·rw [h0] at dll; simp at dll; omega
 have mdg:Dg 210 m:=by
  obtain ⟨i,hi,rfl⟩:=dmem m hm;exact ddg i hi
 obtain ⟨sp,hsp,hfst⟩:=vR hm;have spl:sp < hs.length:=by have:=(List.getElem?_eq_some_iff.mp hsp).1; omega
 have spe:gO (hF hs) sp = m:=by have:=dat sp spl; rw [hsp] at this; cases this; rfl
 have one:∀ i,i < sp->gO (hF hs) i ≠ m:=fun i hi e=>hfst i hi (by rw [<- e]; exact dat i (by omega));have top:∀ i,i < hs.length->gO (hF hs) i<=m:=fun i hi=>hle _ (mem_of_getElem? (dat i hi));walk_at "d";walk_at "s";rw [Qp];have hdgh:Dg 1 jO:=⟨by decide +kernel,by decide +kernel⟩;have pdg:=hdgh.mul mdg;refine ⟨jO,m,rfl,eE hdgh (by decide),eE mdg (by decide),?_⟩;walk_at "d";walk_at "s";refine cL (fun p:Nat=>PyData.int (p:Int)) fr (fun p:Nat=>[hF hs p - jO * m]) (kR hs hs.length) (by omega) (fun Q h=>h) (fun p hp N acc hN=>?_) ?_
 ·have h1:=pm _ hp;walk_at "d";refine ⟨_,Ei (j:=p) rfl h1,?_⟩;refine ⟨hF hs p,jO * m,rfl,eE (hdi _ h1) (by decide),eE pdg (by decide),?_⟩;walk_at "d";exact hN
 rw [bH];obtain ⟨row,hrow⟩:∃ row:List Rat,(kR hs hs.length).map (fun p:Nat=>hF hs p - jO * m) = row:=⟨_,rfl⟩;have rl:row.length = hs.length:=by rw [<- hrow,length_map,pl]
 have rat:∀ i,i < hs.length->row.getD i 0 = hF hs (pk (hF hs) i) - jO * m:=fun i hi=>by
  rw [<- hrow];simp [kR,getD,hi]
 rw [hrow];walk_at "s";refine ⟨⟨by omega,by omega⟩,by omega,?_⟩;rw [toNat_natCast,aBy];have z0:∀ i,(replicate ms.length (0:Rat)).getD i 0 = 0:=fun i=>by
  rw [getD_eq_getElem?_getD,List.getElem?_replicate];split <;> rfl
 walk_at "s";refine ⟨Rat,eRat,m,0,rfl,rfl,fun b hb=>?_⟩;cases b with
 | true =>
  have m0:=hb.mp rfl;walk_at "d";exact k row _ ⟨⟨rl,by rw [length_replicate]; omega⟩,m,sp,spl,spe,top,rat,fun i hi=>by rw [if_pos m0]; exact z0 i,one⟩
 | false =>
  have m0:m ≠ 0:=fun z=>absurd (hb.mpr z) (by decide);have ppl:=pki sp spl;walk_at "s";refine ⟨m,dl,sp,rfl,rfl,hsp,hfst,by omega,?_⟩;walk_at "s"
  have ap:nI ((kR hs hs.length).map fun p:Nat=>PyData.int (p:Int)) (sp:Int) = some (PyData.int (pk (hF hs) sp:Int)):=fS (by
   rw [getElem?_map]
   unfold kR
   rw [getElem?_map,List.getElem?_range spl]
   rfl)
  rw [Qp];refine ⟨_,ap,?_⟩;walk_at "d";refine ⟨pk (hF hs) sp,ixN_nat' rfl (by rw [length_replicate]; omega),?_⟩;walk_at "d";rw [Vz];refine ⟨sp,ixN_nat' rfl (by rw [length_set,length_map,length_replicate]; omega),?_⟩;walk_at "d";rw [<- List.map_set,<- List.map_set];refine k row _ ⟨⟨rl,by rw [length_set,length_set,length_replicate]; omega⟩,m,sp,spl,spe,top,rat,fun i hi=>?_,one⟩;rw [if_neg m0,vM (by rw [length_set,length_replicate]; omega),vM (by rw [length_replicate]; omega),z0]
def aLu (M:Rat) (z:Rat × Rat):Prop:=z.2 ≠ 0->bL z.1 = M/\0 < z.1 * z.2
def Ik (xs ps:List Rat):Prop:=((∀ p∈ps,p = 0)/\∀ x∈xs,x = 0)\/(¬ (∀ p∈ps,p = 0)/\(∀ z∈xs.zip ps,aLu (fW (xs.map bL)) z)/\tot (ps.map bL) = 1)
def aLh (w x p:Rat):Prop:=bL p<=w/\(0 < x->p = w)/\(x < 0->p = -w)
def Xc (ms:List Mk) (xs ps:List Rat):Prop:=∀ z∈ms.zip (xs.zip ps),aLh (z.1.2.2:Rat) z.2.1 z.2.2
def Cd (kd:Str) (ms:List Mk) (row ps:List Rat):Prop:=if kd = "far" then Ik (bN ms row) ps else if kd = "sum" then Xc ms (bN ms row) ps else ps = bY ms row
def mO:List Rat->List Rat->Rat
 | a :: as,b :: bs=>a * b + mO as bs
 | _,_=>0
theorem absR_le_iff {a b:Rat}:bL a<=b ↔ -b<=a/\a<=b:=by
 rcases dG a with ⟨h,e⟩ | ⟨h,e⟩ <;> rw [e] <;> constructor <;> intro h2
 ·constructor <;> grind
 ·exact h2.2
 ·constructor <;> grind
 ·grind
theorem Dk {p y M:Rat} (h:bL y<=M):p * y<=bL p * M:=by
 have h2:=absR_le_iff.mp h;rcases dG p with ⟨hp,e⟩ | ⟨hp,e⟩ <;> rw [e]
 ·have:=mul_nonneg hp (show 0<=M - y by grind);grind
 ·have:=mul_nonneg (show 0<=-p by grind) (show 0<=M + y by grind);grind
theorem tH:∀ {ps ys:List Rat} {M:Rat},ps.length = ys.length->(∀ y∈ys,bL y<=M)->mO ps ys<=tot (ps.map bL) * M
 | [],[],M,_,_=>by simp [mO,tot,zero_mul]
 | p :: ps,y :: ys,M,hl,h=>by
  have ih:=tH (ps:=ps) (ys:=ys) (M:=M) (by simpa using hl) fun x hx=>h x (mem_cons_of_mem _ hx);have h1:=Dk (p:=p) (h y mem_cons_self);simp only [mO,map_cons,tot];grind
theorem tI:∀ {ps xs:List Rat} {M:Rat},ps.length = xs.length->(∀ z∈ps.zip xs,z.1 = 0\/(bL z.2 = M/\0 < z.2 * z.1))->mO ps xs = tot (ps.map bL) * M
 | [],[],M,_,_=>by simp [mO,tot,zero_mul]
 | p :: ps,x :: xs,M,hl,h=>by
  have ih:=tI (ps:=ps) (xs:=xs) (M:=M) (by simpa using hl) fun z hz=>h z (by simp [hz]);have h1:=h (p,x) (by simp);simp only [mO,map_cons,tot,ih];have e:p * x = bL p * M:=by
   rcases h1 with h1 | ⟨h1,h2⟩
   ·dsimp only at h1;rw [h1,dL Rat.le_refl,zero_mul,zero_mul]
   ·dsimp only at h1 h2;rw [<- h1];rcases dG p with ⟨a1,a2⟩ | ⟨a1,a2⟩ <;> rcases dG x with ⟨b1,b2⟩ | ⟨b1,b2⟩ <;> rw [a2,b2]
    ·exfalso;have:=mul_nonneg a1 (show 0<=-x by grind);grind
    ·exfalso;have:=mul_nonneg (show 0<=-p by grind) b1;grind
    ·grind
  rw [e];grind
theorem Hi:∀ {ws ps xs ys:List Rat},ps.length = ws.length->xs.length = ws.length->ys.length = ws.length->(∀ z∈ws.zip (ps.zip xs),bL z.2.1<=z.1/\(0 < z.2.2->z.2.1 = z.1)/\(z.2.2 < 0->z.2.1 = -z.1)) ->
  tot (zipWith (fun w x=>w * bL x) ws xs) = mO ps xs/\mO ps ys<=tot (zipWith (fun w y=>w * bL y) ws ys)
 | [],[],[],[],_,_,_,_=>⟨rfl,Rat.le_refl⟩
 | w :: ws,p :: ps,x :: xs,y :: ys,h1,h2,h3,h=>by
  obtain ⟨i1,i2⟩:=Hi (ws:=ws) (ps:=ps) (xs:=xs) (ys:=ys) (by simpa using h1) (by simpa using h2) (by simpa using h3) fun z hz=>h z (by simp [hz]);obtain ⟨a,b,c⟩:=h (w,p,x) (by simp);dsimp only at a b c;simp only [zipWith_cons_cons,tot,mO];constructor
  ·rw [i1];have e:w * bL x = p * x:=by
    by_cases q:0 < x
    ·rw [b q,dL (by grind)]
    ·by_cases q2:x < 0
     ·rw [c q2,iV (by grind)]; grind
     ·have:x = 0:=le_antisymm (not_lt.mp q) (not_lt.mp q2);rw [this,dL Rat.le_refl,mul_zero,mul_zero]
   rw [e]
  ·have e:p * y<=w * bL y:=by
    have h4:=absR_le_iff.mp a;rcases dG y with ⟨q,e⟩ | ⟨q,e⟩ <;> rw [e]
    ·have:=mul_nonneg (show 0<=w - p by grind) q;grind
    ·have:=mul_nonneg (show 0<=w + p by grind) (show 0<=-y by grind);grind
   grind
theorem Rh:∀ {ws xs ys:List Rat},xs.length = ws.length->ys.length = ws.length->(∀ w∈ws,0 < w) ->
  0<=tot (zipWith (fun w (z:Rat × Rat)=>w * (z.2 - z.1) * (z.2 - z.1)) ws (xs.zip ys)) /\
  (tot (zipWith (fun w (z:Rat × Rat)=>w * (z.2 - z.1) * (z.2 - z.1)) ws (xs.zip ys)) = 0->ys = xs) /\
  tot (zipWith (fun w y=>w * y * y) ws ys) = tot (zipWith (fun w x=>w * x * x) ws xs) + 2 * (mO (zipWith (fun w x=>w * x) ws xs) ys - mO (zipWith (fun w x=>w * x) ws xs) xs) + tot (zipWith (fun w (z:Rat × Rat)=>w * (z.2 - z.1) * (z.2 - z.1)) ws (xs.zip ys))
 | [],[],[],_,_,_=>⟨Rat.le_refl,fun _=>rfl,by simp [tot,mO] <;> grind⟩
 | w :: ws,x :: xs,y :: ys,h1,h2,hw=>by
  obtain ⟨i1,i2,i3⟩:=Rh (ws:=ws) (xs:=xs) (ys:=ys) (by simpa using h1) (by simpa using h2) fun v hv=>hw v (mem_cons_of_mem _ hv);have w0:=hw w mem_cons_self;simp only [List.zip_cons_cons,zipWith_cons_cons,tot,mO];generalize tot (zipWith (fun w (z:Rat × Rat)=>w * (z.2 - z.1) * (z.2 - z.1)) ws (xs.zip ys)) = S at i1 i2 i3 ⊢;have sq:0<=w * (y - x) * (y - x):=by
   have h:=mul_nonneg (show (0:Rat)<=w by grind) (show 0<=(y - x) * (y - x) by
    rcases le_total (a:=0) (b:=y - x) with q | q
    ·exact mul_nonneg q q
    ·have:=mul_nonneg (show 0<=-(y - x) by grind) (show 0<=-(y - x) by grind)
     grind)
   grind
  refine ⟨by grind,fun e=>?_,by grind⟩;have e1:w * (y - x) * (y - x) = 0:=by grind
  have e2:S = 0:=by grind
  rw [i2 e2];have e3:y - x = 0:=by
   rcases Rat.mul_eq_zero.mp e1 with z | z
   ·rcases Rat.mul_eq_zero.mp z with z | z
    ·grind
    ·exact z
   ·exact z
  have:y = x:=by grind
  rw [this]
theorem yA:∀ (ps:List Rat) (ms:List Mk) (row:List Rat),ps.length = ms.length->row.length = ms.length->mO ps (bN ms row) = mO ps (ms.map (·.2.1)) - mO ps row
 | [],[],[],_,_=>by simp [mO,bN]; grind
 | p :: ps,m :: ms,r :: row,h1,h2=>by
  have ih:=yA ps ms row (by simpa using h1) (by simpa using h2);unfold bN at ih ⊢;simp only [zipWith_cons_cons,map_cons,mO,ih];grind
theorem yP {ms:List Mk} {xs ps:List Rat} {p:Rat->Rat × Rat->Prop} (h:∀ z∈ms.zip (xs.zip ps),p (z.1.2.2:Rat) (z.2.2,z.2.1)):∀ z∈(ms.map fun m=>(m.2.2:Rat)).zip (ps.zip xs),p z.1 z.2:=by
 intro z hz;obtain ⟨i,hi,rfl⟩:=getElem_of_mem hz;simp only [length_zip,length_map] at hi;have hi2:i < (ms.zip (xs.zip ps)).length:=by simp only [length_zip]; omega
 have:=h _ (getElem_mem hi2);simpa using this
theorem Cc {w x:Rat} (hw:0 < w):bL (w * x) = w * bL x:=by
 rcases dG x with ⟨h1,h2⟩ | ⟨h1,h2⟩
 ·rw [h2,dL (mul_nonneg (by grind) h1)]
 ·rw [h2,iV]
  ·grind
  ·have:=mul_nonneg (a:=w) (b:=-x) (by grind) (by grind);grind
theorem Kv {ms:List Mk} {xs:List Rat} {f:Rat->Rat->Rat}:zipWith (fun (m:Mk) x=>f (m.2.2:Rat) x) ms xs = zipWith f (ms.map fun m=>(m.2.2:Rat)) xs:=by rw [List.zipWith_map_left]
theorem Kw {ms:List Mk} {xs:List Rat} {f g:Mk->Rat->Rat} (h:∀ m x,m∈ms->f m x = g m x):zipWith f ms xs = zipWith g ms xs:=by
 induction ms generalizing xs with
 | nil=>simp
 | cons m ms ih =>
  cases xs with
  | nil=>simp
  | cons x xs=>rw [zipWith_cons_cons,zipWith_cons_cons,h m x mem_cons_self,ih fun m' x' hm=>h m' x' (mem_cons_of_mem _ hm)]
theorem Al:∀ {ms:List Mk} {ot row:List Rat},ot.length = ms.length->row.length = ms.length->bN ms ot = bN ms row->ot = row
 | [],[],[],_,_,_=>rfl
 | m :: ms,o :: ot,r :: row,h1,h2,h=>by
  unfold bN at h;rw [zipWith_cons_cons,zipWith_cons_cons] at h;injection h with e1 e2
  have:=Al (ms:=ms) (by simpa using h1) (by simpa using h2) e2;rw [this];have:o = r:=by grind
  rw [this]
theorem maxR_zero' {xs:List Rat}:fW (xs.map bL) = 0 ↔ ∀ x∈xs,x = 0:=by
 constructor
 ·intro h x hx;have h1:=kK (bL x) (mem_map.mpr ⟨x,hx,rfl⟩);rw [h] at h1;have h2:=oO x;have h3:bL x = 0:=le_antisymm h1 h2;rcases dG x with ⟨_,b⟩ | ⟨_,b⟩
  ·rw [b] at h3; exact h3
  ·rw [b] at h3; grind
 ·intro h;rcases @iD (xs.map bL) with z | z
  ·exact z
  ·obtain ⟨x,hx,e⟩:=mem_map.mp z;rw [<- e,h x hx,dL Rat.le_refl]
theorem pV {ms:List Mk} {row:List Rat} (hw:∀ m∈ms,0 < m.2.2):(bY ms row).map bL = zipWith (fun w x=>w * bL x) (ms.map fun m=>(m.2.2:Rat)) (bN ms row):=by
 unfold bY;rw [map_zipWith,<- Kv];refine Kw fun m x hm=>?_;exact Cc (intCast_pos.mpr (hw m hm))
theorem Xj:∀ (ws xs:List Rat),zipWith (fun a b=>a * b) (zipWith (fun w x=>w * x) ws xs) xs = zipWith (fun w x=>w * x * x) ws xs
 | [],_=>by simp
 | _ :: _,[]=>by simp
 | w :: ws,x :: xs=>by simp [Xj ws xs]
theorem Eb {kd:Str} {ms:List Mk} {row ot ps:List Rat} (hkd:kd∈dJ) (hw:∀ m∈ms,0 < m.2.2) (hr:row.length = ms.length) (ho:ot.length = ms.length) (hp:ps.length = ms.length) (hf:Cd kd ms row ps) (hd:mO ps ot<=mO ps row) :
  dI kd ms row<=dI kd ms ot/\(kd = "square"->dI kd ms ot = dI kd ms row->ot = row):=by
 have lx:(bN ms row).length = ms.length:=by unfold bN; rw [length_zipWith]; omega
 have ly:(bN ms ot).length = ms.length:=by unfold bN; rw [length_zipWith]; omega
 have h1:=yA ps ms row hp hr;have h2:=yA ps ms ot hp ho;have hxy:mO ps (bN ms row)<=mO ps (bN ms ot):=by grind
 simp only [dJ,mem_cons,not_mem_nil,or_false] at hkd;unfold Cd at hf;unfold dI;rcases hkd with rfl | rfl | rfl
 ·rw [if_pos rfl] at hf ⊢;rw [if_pos rfl];refine ⟨?_,fun h=>absurd h (by decide)⟩;rcases hf with ⟨_,hx0⟩ | ⟨_,hfar,htot⟩
  ·rw [maxR_zero'.mpr hx0]; exact mI _
  ·have e1:=tI (ps:=ps) (xs:=bN ms row) (M:=fW ((bN ms row).map bL)) (by omega) fun y hy=>by
    by_cases y0:y.1 = 0
    ·exact .inl y0
    ·have hy2:(y.2,y.1)∈(bN ms row).zip ps:=by
      obtain ⟨i,hi,rfl⟩:=getElem_of_mem hy;rw [length_zip] at hi;rw [getElem_zip];have hi2:i < ((bN ms row).zip ps).length:=by rw [length_zip]; omega
      have:=getElem_mem hi2;rw [getElem_zip] at this;exact this
     exact .inr (hfar _ hy2 y0)
   have e2:=tH (ps:=ps) (ys:=bN ms ot) (M:=fW ((bN ms ot).map bL)) (by omega) fun y hy=>kK _ (mem_map.mpr ⟨y,hy,rfl⟩);rw [htot,Rat.one_mul] at e1 e2;rw [e1] at hxy;exact Rat.le_trans hxy e2
 ·rw [if_neg (by decide),if_pos rfl] at hf ⊢;rw [if_neg (by decide),if_pos rfl];refine ⟨?_,fun h=>absurd h (by decide)⟩;rw [pV hw,pV hw];obtain ⟨e1,e2⟩:=Hi (ws:=ms.map fun m=>(m.2.2:Rat)) (ps:=ps) (xs:=bN ms row) (ys:=bN ms ot) (by simp [hp]) (by simp [lx]) (by simp [ly]) (yP (p:=fun w z=>bL z.1<=w/\(0 < z.2->z.1 = w)/\(z.2 < 0->z.1 = -w)) fun y hy=>hf y hy);rw [e1];exact Rat.le_trans hxy e2
 ·rw [if_neg (by decide),if_neg (by decide)] at hf ⊢;rw [if_neg (by decide),if_neg (by decide)];obtain ⟨i1,i2,i3⟩:=Rh (ws:=ms.map fun m=>(m.2.2:Rat)) (xs:=bN ms row) (ys:=bN ms ot) (by simp [lx]) (by simp [ly]) fun v hv=>by
   obtain ⟨m,hm,rfl⟩:=mem_map.mp hv;exact intCast_pos.mpr (hw m hm)
  have ew:∀ r:List Rat,bY ms r = zipWith (fun w x=>w * x) (ms.map fun m=>(m.2.2:Rat)) (bN ms r):=fun r=>by unfold bY; exact Kv
  have es:∀ r:List Rat,wR ms r = zipWith (fun w x=>w * x * x) (ms.map fun m=>(m.2.2:Rat)) (bN ms r):=fun r=>by unfold wR; rw [ew,Xj]
  rw [es,es];rw [hf,ew] at hxy;generalize tot (zipWith (fun w (z:Rat × Rat)=>w * (z.2 - z.1) * (z.2 - z.1)) (ms.map fun m=>(m.2.2:Rat)) ((bN ms row).zip (bN ms ot))) = S at i1 i2 i3;refine ⟨by grind,fun _ he=>?_⟩;have s0:S = 0:=by grind
  have e:=i2 s0;exact Al ho hr e
theorem lV:∀ (ps row:List Rat) (i:Nat),ps.length = row.length->(h:i < row.length)->mO (ps.take (i + 1)) (row.take (i + 1)) = mO (ps.take i) (row.take i) + ps.getD i default * row.getD i default
 | [],row,i,hl,h=>by rw [<- hl] at h; exact absurd h (not_lt_zero _)
 | _ :: _,[],i,hl,h=>absurd h (not_lt_zero _)
 | p :: ps,r :: row,0,_,_=>by simp [mO]; grind
 | p :: ps,r :: row,i + 1,hl,h=>by
  have ih:=lV ps row i (by simpa using hl) (by simpa using h);simp only [take_succ_cons,mO,List.getD_cons_succ] at ih ⊢;rw [ih];grind
def aLt (row pulls:List Rat):Prop:=(∀ i,i + 1 < row.length->row.getD i 0<=row.getD (i + 1) 0)/\∀ i,i < row.length->0<=tot (pulls.take (i + 1))/\(0 < tot (pulls.take (i + 1))->i + 1 < row.length/\row.getD (i + 1) 0 = row.getD i 0)
theorem xU:(0:Rat) < jO:=by decide +kernel
theorem Sv {a b:Rat} (h1:-b<=a) (h2:a<=b):bL a<=b:=by
 rcases dG a with ⟨h,e⟩ | ⟨h,e⟩ <;> rw [e] <;> grind
theorem Wa (m:Rat):jO * m + jO * m = m:=by
 have:=aJy;grind
theorem wL {qs:List Rat} {f:Nat->Rat} (h0:f 0 = 0) (h:∀ i,i < qs.length->f (i + 1) = f i + qs.getD i 0):∀ i,i<=qs.length->tot (qs.take i) = f i
 | 0,_=>by rw [h0]; rfl
 | i + 1,hi=>by
  have hpi:qs[i]? = some (qs.getD i 0):=by rw [getElem?_eq_getElem (show i < qs.length by omega)]; simp [getD,show i < qs.length by omega]
  rw [eQ hpi,lA,wL h0 h i (by omega),h i (by omega)]
theorem Am {qs:List Rat} {q:Rat} (h:q∈qs):∃ i,i < qs.length/\qs.getD i 0 = q:=by
 obtain ⟨i,hi⟩:=getElem?_of_mem h;have hl:=(List.getElem?_eq_some_iff.mp hi).1;exact ⟨i,hl,by rw [getD_eq_getElem?_getD,hi]; rfl⟩
structure FarFacts (hs row pulls:List Rat) (m:Rat):Prop where
 hold:aLt row pulls
 nn:0<=m
 le:∀ i,i < hs.length->bL (hF hs i - row.getD i 0)<=jO * m
 at1:jO * m = 0\/∃ i,i < hs.length/\bL (hF hs i - row.getD i 0) = jO * m
 fair:∀ i,i < hs.length->pulls.getD i 0 = 0\/(bL (hF hs i - row.getD i 0) = jO * m/\0 < pulls.getD i 0 * (hF hs i - row.getD i 0))
 all:tot (pulls.map bL) = 1\/(tot (pulls.map bL) = 0/\jO * m = 0)
 drop:∀ j i,j < i->i < hs.length->hF hs j - hF hs i<=m
 at2:m = 0\/∃ j i,j < i/\i < hs.length/\hF hs j - hF hs i = m
 pc:∀ q∈pulls,Cm 2 1 q
theorem vS {hs row pulls:List Rat} (F:FarOk hs row pulls):∃ m,FarFacts hs row pulls m:=by
 obtain ⟨⟨rl,pl⟩,m,sp,hsp,em,hle,hrow,hpull,_⟩:=F;have m0:0<=m:=by rw [<- em]; exact Hh _ _
 obtain ⟨h,eh⟩:∃ h,h = hF hs:=⟨_,rfl⟩;rw [<- eh] at em hle hrow hpull;obtain ⟨p,ep⟩:∃ p,p = pk h sp:=⟨_,rfl⟩;have psp:p<=sp:=by rw [ep]; exact uY h sp
 have hself:h (pk h p) = h p:=by rw [ep]; exact Ur h sp
 rw [<- ep] at hpull;have em':h p - h sp = m:=by rw [<- em,ep]; rfl
 have hx:∀ i,i < hs.length->h i - row.getD i 0 = jO * m - gO h i:=fun i hi=>by
  rw [hrow i hi]; unfold gO; grind
 have hd:=Wa m;have M0:0<=jO * m:=mul_nonneg (by have:=xU; grind) m0;have hplt:m ≠ 0->p < sp:=fun z=>by
  rcases lt_or_ge p sp with q | q
  ·exact q
  ·have:p = sp:=by omega
   rw [this] at em';exact absurd em' (by grind)
 have xsp:h sp - row.getD sp 0 = -(jO * m):=by rw [hx sp hsp,em]; grind
 have xp:h p - row.getD p 0 = jO * m:=by
  rw [hx p (by omega)];have:gO h p = 0:=by unfold gO; rw [hself]; grind
  rw [this]; grind
 have hS:∀ i,i<=pulls.length->tot (pulls.take i) = if m = 0 then 0 else if p < i/\i<=sp then jO else 0:=by
  refine wL ?_ fun i hi=>?_
  ·by_cases z:m = 0
   ·rw [if_pos z]
   ·rw [if_neg z,if_neg (by omega)]
  ·rw [hpull i (by omega)];by_cases z:m = 0
   ·rw [if_pos z,if_pos z,if_pos z]; grind
   ·have:=hplt z;rw [if_neg z,if_neg z,if_neg z];by_cases a:i = sp
    ·rw [if_pos a,if_neg (by omega),if_pos (by omega)]; grind
    ·rw [if_neg a];by_cases b:i = p
     ·rw [if_pos b,if_pos (by omega),if_neg (by omega)]; grind
     ·rw [if_neg b];by_cases c:p < i/\i<=sp
      ·rw [if_pos c,if_pos (by omega)]; grind
      ·rw [if_neg c,if_neg (by omega)]; grind
 have hpc:∀ i,i < hs.length->pulls.getD i 0 = 0\/(m ≠ 0/\i = sp/\pulls.getD i 0 = -jO)\/(m ≠ 0/\i = p/\pulls.getD i 0 = jO):=fun i hi=>by
  have e:=hpull i hi;by_cases z:m = 0
  ·rw [if_pos z] at e; exact .inl e
  ·rw [if_neg z] at e;by_cases a:i = sp
   ·rw [if_pos a] at e; exact .inr (.inl ⟨z,a,e⟩)
   ·rw [if_neg a] at e;by_cases b:i = p
    ·rw [if_pos b] at e; exact .inr (.inr ⟨z,b,e⟩)
    ·rw [if_neg b] at e; exact .inl e
 have hh:=xU;have al:(pulls.map bL).length = hs.length:=by rw [length_map,pl]
 have agd:∀ i,i < hs.length->(pulls.map bL).getD i 0 = bL (pulls.getD i 0):=fun i hi=>by
  simp [getD,show i < pulls.length by omega]
 have hT:∀ i,i<=(pulls.map bL).length->tot ((pulls.map bL).take i) = if m = 0 then 0 else (if p < i then jO else 0) + (if sp < i then jO else 0):=by
  refine wL ?_ fun i hi=>?_
  ·by_cases z:m = 0
   ·rw [if_pos z]
   ·rw [if_neg z,if_neg (by omega),if_neg (by omega)]; decide +kernel
  ·rw [agd i (by omega),hpull i (by omega)];by_cases z:m = 0
   ·rw [if_pos z,if_pos z,if_pos z,dL Rat.le_refl]; grind
   ·have:=hplt z;rw [if_neg z,if_neg z,if_neg z];by_cases a:i = sp
    ·rw [if_pos a,if_pos (by omega),if_pos (by omega),if_pos (by omega),if_neg (by omega),show bL (-jO) = jO by decide +kernel]; grind
    ·rw [if_neg a];by_cases b:i = p
     ·rw [if_pos b,if_pos (by omega),if_neg (by omega),if_neg (by omega),if_neg (by omega),show bL jO = jO by decide +kernel]; grind
     ·rw [if_neg b,dL Rat.le_refl];by_cases c:p < i
      ·rw [if_pos c,if_pos (by omega)];by_cases d:sp < i
       ·rw [if_pos d,if_pos (by omega)]; grind
       ·rw [if_neg d,if_neg (by omega)]; grind
      ·rw [if_neg c,if_neg (by omega),if_neg (by omega),if_neg (by omega)]; grind
 refine ⟨m,⟨⟨fun i hi=>?_,fun i hi=>?_⟩,m0,fun i hi=>?_,?_,fun i hi=>?_,?_,fun j i hj hi=>?_,?_,fun q hq=>?_⟩⟩
 ·rw [hrow i (by omega),hrow (i + 1) (by omega)];have:=Ga h (show i<=i + 1 by omega);grind
 ·rw [hS (i + 1) (by omega)];by_cases z:m = 0
  ·rw [if_pos z]; exact ⟨Rat.le_refl,fun c=>absurd c (by decide)⟩
  ·rw [if_neg z];by_cases c:p < i + 1/\i + 1<=sp
   ·rw [if_pos c];refine ⟨by grind,fun _=>⟨by omega,?_⟩⟩;have e:∀ t,p<=t->t<=sp->h (pk h t) = h p:=fun t h1 h2=>le_antisymm (by rw [ep]; exact Ga h h2) (nA h t p h1);rw [hrow i (by omega),hrow (i + 1) (by omega),e i (by omega) (by omega),e (i + 1) (by omega) (by omega)]
   ·rw [if_neg c]; exact ⟨Rat.le_refl,fun c=>absurd c (by decide)⟩
 ·rw [<- eh,hx i hi];have a:=hle i hi;have b:=Hh h i;exact Sv (by grind) (by grind)
 ·exact .inr ⟨p,by omega,by rw [<- eh,xp]; exact dL M0⟩
 ·rw [<- eh];rcases hpc i hi with z | ⟨z,rfl,e⟩ | ⟨z,rfl,e⟩
  ·exact .inl z
  ·refine .inr ⟨?_,?_⟩
   ·rw [xsp];rw [iV (by grind)]; grind
   ·rw [xsp,e];have:0 < jO * (jO * m):=mul_pos hh (mul_pos hh (by grind));grind
  ·refine .inr ⟨by rw [xp]; exact dL M0,?_⟩;rw [xp,e];exact mul_pos hh (mul_pos hh (by grind))
 ·have e:=hT hs.length (by omega);rw [take_of_length_le (by omega)] at e;by_cases z:m = 0
  ·rw [if_pos z] at e;exact .inr ⟨e,by rw [z]; decide +kernel⟩
  ·rw [if_neg z,if_pos (by omega),if_pos (by omega),aJy] at e;exact .inl e
 ·have a:=hle i hi;have b:=nA h i j (by omega);unfold gO at a;rw [<- eh];grind
 ·by_cases z:m = 0
  ·exact .inl z
  ·exact .inr ⟨p,sp,hplt z,hsp,by rw [<- eh]; exact em'⟩
 ·obtain ⟨i,hi,rfl⟩:=Am hq;rcases hpc i (by omega) with z | ⟨_,_,e⟩ | ⟨_,_,e⟩
  ·rw [z]; exact Cm.zero
  ·rw [e]; exact ⟨by decide +kernel,by decide +kernel,by decide +kernel⟩
  ·rw [e]; exact ⟨by decide +kernel,by decide +kernel,by decide +kernel⟩
theorem uM:∀ ps:List Rat,tot (ps.map fun _=>(0:Rat)) = 0
 | []=>rfl
 | p :: ps=>by rw [map_cons,tot,uM ps,zero_add]
theorem rF {q:Rat}:∀ {a:List Rat},(∀ x∈a,0<=x)->q∈a->q<=tot a
 | x :: a,h,hq=>by
  have h1:=h x mem_cons_self;have h2:=wK (a:=a) fun y hy=>h y (mem_cons_of_mem _ hy);rw [tot];rcases mem_cons.mp hq with rfl | hq
  ·grind
  ·have:=rF (a:=a) (fun y hy=>h y (mem_cons_of_mem _ hy)) hq; grind
theorem Qo {row ps:List Rat} (H:HoldR row ps) (hl:ps.length = row.length) (hne:row ≠ []):tot ps = 0:=by
 have hp:=length_pos_iff.mpr hne;have h1:=H.nn (row.length - 1) (by omega);have h2:=H.zr (row.length - 1) (by omega);rw [show row.length - 1 + 1 = row.length by omega,<- hl,take_length] at h1 h2;refine le_antisymm (not_lt.mp fun c=>?_) h1;have:=(h2 c).1;omega
theorem lZ (ps:List Rat) {i:Nat} (h:i < ps.length):tot (ps.take (i + 1)) = tot (ps.take i) + ps.getD i 0:=by
 have hpi:ps[i]? = some (ps.getD i 0):=by rw [getElem?_eq_getElem h]; simp [getD,h]
 rw [eQ hpi,lA]
theorem Ig {row ps ot:List Rat} (H:HoldR row ps) (hp:ps.length = row.length) (ho:ot.length = row.length) (up:∀ i,i + 1 < ot.length->ot.getD i 0<=ot.getD (i + 1) 0) :
  ∀ k,k < row.length->mO (ps.take (k + 1)) (ot.take (k + 1))<=tot (ps.take (k + 1)) * ot.getD k 0
 | 0,h=>by
  rw [lV ps ot 0 (by omega) (by omega),lZ ps (by omega)];simp only [take_zero,mO,tot];have:(default:Rat) = 0:=rfl;rw [this]; grind
 | k + 1,h=>by
  have ih:=Ig H hp ho up k (by omega);rw [lV ps ot (k + 1) (by omega) (by omega),lZ ps (by omega)];have n1:=H.nn k (by omega);have u1:=up k (by omega);have m1:=mul_nonneg n1 (show 0<=ot.getD (k + 1) 0 - ot.getD k 0 by grind);have:(default:Rat) = 0:=rfl;rw [this]; grind
theorem Ih {row ps:List Rat} (H:HoldR row ps) (hp:ps.length = row.length):∀ k,k < row.length->mO (ps.take (k + 1)) (row.take (k + 1)) = tot (ps.take (k + 1)) * row.getD k 0
 | 0,h=>by
  rw [lV ps row 0 (by omega) (by omega),lZ ps (by omega)];simp only [take_zero,mO,tot];have:(default:Rat) = 0:=rfl;rw [this]; grind
 | k + 1,h=>by
  have ih:=Ih H hp k (by omega);rw [lV ps row (k + 1) (by omega) (by omega),lZ ps (by omega)];have n1:=H.nn k (by omega);have z1:=H.zr k (by omega);have:(default:Rat) = 0:=rfl;rw [this];by_cases c:0 < tot (ps.take (k + 1))
  ·have:=(z1 c).2;rw [ih,this]; grind
  ·have e:tot (ps.take (k + 1)) = 0:=by grind
   rw [ih,e]; grind
theorem Ri {row ps ot:List Rat} (H:HoldR row ps) (hp:ps.length = row.length) (ho:ot.length = row.length) (up:∀ i,i + 1 < ot.length->ot.getD i 0<=ot.getD (i + 1) 0):mO ps ot<=mO ps row:=by
 by_cases hne:row = []
 ·subst hne;have h1:ps = []:=length_eq_zero_iff.mp (by simpa using hp);have h2:ot = []:=length_eq_zero_iff.mp (by simpa using ho);rw [h1,h2]; exact Rat.le_refl
 have hpos:=length_pos_iff.mpr hne;have e0:=Qo H hp hne;have h1:=Ig H hp ho up (row.length - 1) (by omega);have h2:=Ih H hp (row.length - 1) (by omega);rw [show row.length - 1 + 1 = row.length by omega] at h1 h2;rw [show ps.take row.length = ps by rw [<- hp,take_length]] at h1 h2;rw [show ot.take row.length = ot by rw [<- ho,take_length],e0,zero_mul] at h1;rw [take_length,e0,zero_mul] at h2;grind
structure RF (kd:Str) (ms:List Mk) (row ps:List Rat):Prop where
 len:row.length = ms.length
 plen:ps.length = ms.length
 fair:Cd kd ms row ps
 hold:HoldR row ps
theorem RF.least {kd:Str} {ms:List Mk} {row ps ot:List Rat} (F:RF kd ms row ps) (hk:kd∈dJ) (hw:∀ m∈ms,0 < m.2.2) (ho:ot.length = ms.length) (up:∀ i,i + 1 < ot.length->ot.getD i 0<=ot.getD (i + 1) 0) :
  dI kd ms row<=dI kd ms ot/\(kd = "square"->dI kd ms ot = dI kd ms row->ot = row) :=
 Eb hk hw F.len ho F.plen F.fair (Ri F.hold (by rw [F.plen,F.len]) (by rw [ho,F.len]) up)
theorem aIl {ms:List Mk} {row ps:List Rat} (F:SqFacts ms row ps):RF "square" ms row ps:=by
 refine ⟨F.len,?_,?_,F.hold⟩
 ·rw [F.pl]; unfold bY bN; rw [length_zipWith,length_zipWith,F.len]; omega
 ·unfold Cd;rw [if_neg (by decide),if_neg (by decide)];exact F.pl
theorem aBw {ms:List Mk} {row:List Rat} {ps:List Int} (F:SumFacts ms row ps):RF "sum" ms row (ps.map fun n:Int=>(n:Rat)):=by
 refine ⟨F.len,by rw [length_map,F.plen],?_,F.hold⟩;unfold Cd;rw [if_neg (by decide),if_pos rfl];intro z hz;obtain ⟨i,hi,rfl⟩:=getElem_of_mem hz;have lm:(bN ms row).length = ms.length:=by unfold bN; rw [length_zipWith,F.len]; omega
 rw [length_zip,length_zip,length_map] at hi;have hz2:i < (ms.zip (row.zip ps)).length:=by rw [length_zip,length_zip,F.len,F.plen]; omega
 have h:=F.fair _ (getElem_mem hz2);rw [getElem_zip,getElem_zip] at h ⊢;rw [List.getElem_map];have em:(bN ms row)[i]'(by omega) = ms[i].2.1 - row[i]'(by rw [F.len]; omega):=by unfold bN; rw [List.getElem_zipWith]
 dsimp only at h ⊢;rw [em];obtain ⟨h1,h2,h3,h4⟩:=h;refine ⟨?_,fun c=>?_,fun c=>?_⟩
 ·have a:((-ms[i].2.2:Int):Rat)<=((ps[i]:Int):Rat):=intCast_le_intCast.mpr h3;have b:((ps[i]:Int):Rat)<=((ms[i].2.2:Int):Rat):=intCast_le_intCast.mpr h4;rw [intCast_neg] at a;exact absR_le_iff.mpr ⟨a,b⟩
 ·rw [h1 c]
 ·rw [h2 c,intCast_neg]
theorem aBx {ms:List Mk} {row ps:List Rat} (F:FarOk (ms.map (·.2.1)) row ps):RF "far" ms row ps:=by
 obtain ⟨m,X⟩:=vS F;obtain ⟨rl,pl⟩:=F.len;rw [length_map] at rl pl;refine ⟨rl,pl,?_,⟨X.hold.1,fun i hi=>(X.hold.2 i hi).1,fun i hi=>(X.hold.2 i hi).2⟩⟩;unfold Cd;rw [if_pos rfl];have lm:(bN ms row).length = ms.length:=by unfold bN; rw [length_zipWith,rl]; omega
 have xg:∀ i (h:i < ms.length),(bN ms row)[i]'(by omega) = hF (ms.map (·.2.1)) i - row.getD i 0:=fun i h=>by
  unfold bN;rw [List.getElem_zipWith];simp [hF,getD,h,show i < row.length by omega]
 have pg:∀ i (h:i < ms.length),ps[i]'(by omega) = ps.getD i 0:=fun i h=>by simp [getD,show i < ps.length by omega]
 have hl:(ms.map (·.2.1)).length = ms.length:=length_map _;have nn:(0:Rat)<=jO * m:=mul_nonneg (by have:=xU; grind) X.nn;have top:fW ((bN ms row).map bL) = jO * m:=by
  refine (mJ nn ?_ fun q hq=>?_).symm
  ·rcases X.at1 with e | ⟨i,hi,e⟩
   ·exact .inl e
   ·rw [hl] at hi;refine .inr ?_;rw [<- e,<- xg i hi];exact mem_map.mpr ⟨_,getElem_mem _,rfl⟩
  ·obtain ⟨x,hx,rfl⟩:=mem_map.mp hq;obtain ⟨i,hi,rfl⟩:=getElem_of_mem hx;rw [xg i (by omega)];exact X.le i (by rw [hl]; omega)
 have tz:tot (ps.map bL) = 0->∀ p∈ps,p = 0:=fun e p hp=>by
  have h1:=rF (q:=bL p) (a:=ps.map bL) (fun q hq=>by
   obtain ⟨x,_,rfl⟩:=mem_map.mp hq
   exact oO x) (mem_map.mpr ⟨p,hp,rfl⟩)
  rw [e] at h1;have h2:=oO p;rcases dG p with ⟨_,b⟩ | ⟨_,b⟩ <;> rw [b] at h1 h2 <;> grind
 rcases X.all with e | ⟨e,ez⟩
 ·refine .inr ⟨fun c=>?_,fun z hz=>?_,e⟩
  ·have:tot (ps.map bL) = 0:=by
    have:ps.map bL = ps.map fun _=>(0:Rat):=map_congr_left fun p hp=>by rw [c p hp]; exact dL Rat.le_refl
    rw [this];exact uM ps
   rw [this] at e;exact absurd e (by decide)
  ·obtain ⟨i,hi,rfl⟩:=getElem_of_mem hz;rw [length_zip] at hi;rw [getElem_zip];intro c;dsimp only at c ⊢;rw [pg i (by omega)] at c ⊢;rw [xg i (by omega),top];rcases X.fair i (by rw [hl]; omega) with z | ⟨z1,z2⟩
   ·exact absurd z c
   ·exact ⟨z1,by rw [Rat.mul_comm]; exact z2⟩
 ·refine .inl ⟨tz e,fun x hx=>?_⟩;rw [ez] at top;exact maxR_zero'.mp top x hx
def eT2 {α β:Type} (a:Enc α) (b:Enc β) (h:a.dep<=50) (h':b.dep<=50):Enc (α × β) where
 d:=fun p=>.tuple [a.d p.1,b.d p.2]
 dep:=a.dep + b.dep + 1 - min a.dep b.dep
 small:=by omega
 lay:=fun p=>by
  show ((a.d p.1).canLay0 && ((b.d p.2).canLay0 && true)) = true;rw [a.lay,b.lay]; rfl
 depth:=fun p=>by
  have h1:=a.depth p.1;have h2:=b.depth p.2;simp only [PyData.depth,PyData.depthAll];omega
 eqv:=fun p q=>by
  show PyData.eqvAll [a.d p.1,b.d p.2] [a.d q.1,b.d q.2] = true ↔ p = q;have h1:=a.eqv p.1 q.1;have h2:=b.eqv p.2 q.2;simp only [PyData.eqvAll,and_eq_true,h1,h2,and_true];exact ⟨fun ⟨x,y⟩=>Prod.ext x y,fun e=>by rw [e]; exact ⟨rfl,rfl⟩⟩
theorem Fu (n:Nat) (x:Rat):(replicate n [fr x]).flatten = (replicate n x).map fr:=by
 rw [List.map_replicate];simp
theorem iM {B:List Mk}:∀ {bs:List (List Mk)},B∈bs->B.length<=bs.flatten.length
 | C :: bs,h=>by
  rw [flatten_cons,length_append];rcases mem_cons.mp h with rfl | h
  ·omega
  ·have:=iM h; omega
def qD (kd:Str) (ms:List Mk):List Rat:=lay (cE kd) (eX (cE kd) ms).reverse
def Jm (ms:List Mk):List Int:=gU (cE "sum") (eX (cE "sum") ms).reverse
theorem sT (lev:List Mk->Rat) (bs:List (List Mk)) (B:List Mk):lay lev (bs ++ [B]) = lay lev bs ++ replicate B.length (lev B):=by
 unfold lay;rw [map_append,flatten_append];simp
theorem zU (lev:List Mk->Rat) (bs:List (List Mk)) (B:List Mk):gU lev (bs ++ [B]) = gU lev bs ++ Tc lev B:=by
 unfold gU;rw [map_append,flatten_append];simp
theorem Go {A:List Mk} (hne:A ≠ []) (hw:∀ m∈A,1<=m.2.2):∃ x,LevelOk "square" A x :=
 ⟨_,fun e=>absurd e (by decide),fun e=>absurd e (by decide),fun _=>rfl⟩
theorem Uj {ms:List Mk} {L:Nat} (n30:ms.length<=30) (L0:0 < L) (L1:L<=10 ^ 22) (hc:∀ m∈ms,Cm L (10 ^ 31) m.2.1) (hw:∀ m∈ms,1<=m.2.2/\m.2.2<=10 ^ 20) :
  ∃ M:Nat,0 < M/\M<=10 ^ 670/\L ∣ M/\∀ q∈qD "square" ms,Cm M (10 ^ 31) q:=by
 have hw1:∀ m∈ms,1<=m.2.2:=fun m h=>(hw m h).1;obtain ⟨S,e⟩:=mE hw1;unfold qD;generalize hb:(eX (cE "square") ms).reverse = bs at *
 have hne:∀ B∈bs,B ≠ []:=fun B hB=>(S.blk B (by rw [<- hb] at hB; exact mem_reverse.mp hB)).ne;obtain ⟨p0,p1⟩:=Oz (W:=10 ^ 20) (N:=30) e hne hw n30 (by decide);refine ⟨2 * L * nX bs,Nat.mul_pos (by omega) p0,?_,?_,aDy (.inr rfl) (fun A h1 h2=>Go h1 h2) e hne hw1 hc⟩
 ·exact le_trans (mul_le_mul (mul_le_mul_left 2 L1) p1) (by decide +kernel)
 ·rw [mul_comm 2 L,mul_assoc]; exact dvd_mul_right _ _
structure RiseOk (kd:Str) (ms:List Mk) (row ps:List Rat):Prop where
 far:kd = "far"->FarOk (ms.map (·.2.1)) row ps
 sq:kd = "square"->row = qD "square" ms/\ps = bY ms row
 sum:kd = "sum"->row = qD "sum" ms/\ps = (Jm ms).map fun n:Int=>(n:Rat)
theorem Ft {kd:Str} {ms:List Mk} {row ps:List Rat} (hk:kd∈dJ) (hw:∀ m∈ms,1<=m.2.2) (F:RiseOk kd ms row ps):RF kd ms row ps:=by
 have hk3:kd = "far"\/kd = "sum"\/kd = "square":=by simpa [dJ] using hk
 rcases hk3 with rfl | rfl | rfl
 ·exact aBx (F.far rfl)
 ·obtain ⟨rfl,rfl⟩:=F.sum rfl;exact aBw (uO hw)
 ·obtain ⟨rfl,rfl⟩:=F.sq rfl;exact aIl (Mb hw)
theorem Wf {hs row pulls:List Rat} (F:FarOk hs row pulls) {L B:Nat} (h:∀ q∈hs,Cm L B q):∀ q∈row,Cm (2 * L) (B + 1 * (B + B)) q:=fun q hq=>by
 obtain ⟨⟨rl,pl⟩,m,sp,hsp,em,hle,hrow,hpull,ho⟩:=F;obtain ⟨i,hi,rfl⟩:=Am hq;have hc:∀ i,i < hs.length->Cm L B (hF hs i):=fun i hi=>h _ (qP hi);have hp:∀ i,i < hs.length->pk (hF hs) i < hs.length:=fun i hi=>by have:=uY (hF hs) i; omega
 rw [hrow i (by omega)];have cm:Cm L (B + B) m:=by rw [<- em]; exact (hc _ (hp sp hsp)).sub (hc sp hsp)
 have ch:Cm 2 1 jO:=⟨by decide +kernel,by decide +kernel,by decide +kernel⟩;exact ((hc _ (hp i (by omega))).mono (Nat.dvd_mul_left _ _) (le_refl _)).sub (ch.mul cm)
structure RSz (L M:Nat) (row ps:List Rat):Prop where
 pos:0 < M
 le:M<=10 ^ 670
 dvd:L ∣ M
 r:∀ q∈row,Cm M (10 ^ 32) q
 p:∀ q∈ps,Cm M (10 ^ 53) q
def aHa (C:Addr):DW:=fun ds Q X=>∃ (d:PyData) (ms:List Mk) (L:Nat),ds = [d,.list (ms.map dP)]/\(∀ kd:Str,d = .str kd->PyData.strOk kd = true)/\1<=ms.length/\ms.length<=30/\0 < L/\L<=10 ^ 22/\(∀ m∈ms,Cm L (10 ^ 31) m.2.1)/\(∀ m∈ms,1<=m.2.2/\m.2.2<=10 ^ 20)/\(∀ m∈ms,Ok m.1) /\
 (∀ kd:Str,d = .str kd->kd∈dJ->∀ row ps,RiseOk kd ms row ps->Q (.two (row.map fr) (ps.map fr)))/\((∀ kd:Str,d = .str kd->kd ∉ dJ)->X C)
theorem aIz (T:Txt K mg A):FnOk P w K mg base (eP P w) 7 A.a_qy A.d_qy ["kind","marks"] (fC K (aHa A.x_NoKind)):=by
 refine gE T.F_qy.F uS (by walk_at "l") fun cdv Ar outer s H E hr=>?_
 refine ⟨_,(aF (eG (cG (Pj T) hr T.F_qq bX (aA (pv 0) aD)))
   (aF (bK (aT cP (pv 0) bF (aX _)) (aH (aV (cG (aDp T) hr T.F_qa1 aO (aA (pv 1) aD)))) aW)
   (aF (cY 2 uS (cG (aIy T) hr T.F_qz aO (aA (pv 0) (aA (pv 1) aD))))
   (aF (cY 3 uS (dN aD))
   (aF (dU PassesOwn.leaving rfl (fV (K:=K) rfl (pv 2)) (mG 4 uS)
    (aH (eG (fB F.plainAttrs_list F.slot_list_extend F.type_list_extend (Xz (K:=K) rfl) (pv 3) (aA (aY Pg (dN (aA (cG (Gd T) hr T.F_qt aO (aA (pv 0) (aA (pv 4) aD))) aD)) (bB (gH (K:=K) rfl) rfl T.n_len boot_len (aA (pv 4) aD))) aD)))))
   (aF (bK (aT cP (pv 0) bF (aX _)) (aH (aV (cA (aA (pv 3) (aA (cG (Xo T) hr T.F_qr aO (aA (pv 1) (aA (pv 3) aD))) aD))))) aW)
   (aF (cY 5 uS (dN aD))
   (aF (dU PassesOwn.leaving rfl (fV (K:=K) rfl (pv 2)) (mG 4 uS)
    (aH (eG (fB F.plainAttrs_list F.slot_list_extend F.type_list_extend (Xz (K:=K) rfl) (pv 5) (aA (cR (K:=K) rfl (cG (aJb T) hr T.F_qw aO (aA (pv 4) aD))) aD)))))
   (aH (aV (cA (aA (pv 3) (aA (pv 5) aD))))))))))))),_,(aJ (mC (aB (hG (aC (aE 0) aG))))
   (aJ (bP (aU (aB (aN cN (aE 0) (aB bG)))) (Jc (aC (aE 1) aG)) aZ)
   (aJ (nR (aC (aE 0) (aC (aE 1) aG)) (aI 2))
   (aJ (bZ 3 (dO bE (by decide)))
   (aJ (eC (gZ (aL 2)) (aI 4)
    (Lw 3 (aB (eI (Pe (Gj (dO (aQ (aM (aC (aE 0) (aC (aE 4) aG))) bE) (by decide))) (aB (bT cO (aC (aE 4) aG))))))))
   (aJ (bP (aU (aB (aN cN (aE 0) (aB bG)))) (wQ (aJo 3 (dH (aC (aE 1) (aC (aE 3) aG))))) aZ)
   (aJ (bZ 5 (dO bE (by decide)))
   (aJ (eC (gZ (aL 2)) (aI 4)
    (Lw 5 (aFq 1 (Bz (aC (aE 4) aG)))))
   (wQ (Xq 3 5 (by decide))))))))))),?_⟩
 rintro ds Q X ⟨d,ms,L,rfl,hok,n1,n30,L0,L1,hc,hw,hp,kq,kx⟩;have hw1:∀ m∈ms,1<=m.2.2:=fun m h=>(hw m h).1;have cB:∀ m∈ms,Cm L (10 ^ 100) m.2.1:=fun m h=>(hc m h).mono (dvd_refl _) (by decide +kernel);have wB:∀ m∈ms,1<=m.2.2/\m.2.2<=10 ^ 100:=fun m h=>by
  have:=hw m h;have:(10:Int) ^ 20<=10 ^ 100:=by decide +kernel
  omega
 have L2:L<=10 ^ 100:=le_trans L1 (by decide +kernel);walk_at "s";refine ⟨d,rfl,hok,fun h=>?_,fun h=>kx h⟩;obtain ⟨kd,rfl,hkd⟩:=h;have k0:=kq kd rfl hkd;clear kq kx hok;have hk3:kd = "far"\/kd = "sum"\/kd = "square":=by simpa [dJ] using hkd
 rcases hk3 with rfl | rfl | rfl
 ·walk_at "s";refine ⟨ms,rfl,n1,by omega,fun m h=>?_,fun row ps F=>?_⟩
  ·exact ((hc m h).dg L0 L1 (b:=31) (le_refl _)).mono (by decide)
  ·walk_at "d";exact k0 row ps ⟨fun _=>F,fun e=>absurd e (by decide),fun e=>absurd e (by decide)⟩
 ·obtain ⟨S,e⟩:=mU hw1;have k:=k0 (qD "sum" ms) ((Jm ms).map fun n:Int=>(n:Rat)) ⟨fun e=>absurd e (by decide),fun e=>absurd e (by decide),fun _=>⟨rfl,rfl⟩⟩;rw [map_map] at k;change Q (.two ((qD "sum" ms).map fr) ((Jm ms).map Xy)) at k;unfold qD Jm at k;walk_at "s";rw [if_neg (by decide)];walk_at "s";refine ⟨"sum",ms,L,rfl,.inl rfl,by omega,L0,L2,cB,wB,?_⟩;generalize hb:(eX (cE "sum") ms).reverse = bs at *
  have Sb:∀ B∈bs,Blk GeM LeM B (cE "sum" B):=fun B hB=>S.blk B (by rw [<- hb] at hB; exact mem_reverse.mp hB);have sub:∀ B∈bs,∀ z∈B,z∈ms:=fun B hB z hz=>by rw [<- e]; exact mem_flatten.mpr ⟨B,hB,hz⟩
  have B60:∀ B∈bs,B.length<=60:=fun B hB=>by
   have:=iM hB;rw [e] at this; omega
  have tk:∀ {i:Nat} {B:List Mk},bs[i]? = some B->bs.take (i + 1) = bs.take i ++ [B]/\(bs.take i).flatten.length + B.length<=60:=fun {i B} hi=>by
   have et:bs.take (i + 1) = bs.take i ++ [B]:=by rw [take_add_one,hi]; rfl
   refine ⟨et,?_⟩;have h1:(bs.take (i + 1)).flatten.length<=bs.flatten.length:=by
    conv=>rhs; rw [<- take_append_drop (i + 1) bs,flatten_append,length_append]
    omega
   rw [e,et,flatten_append,length_append,flatten_cons,List.flatten_nil,append_nil] at h1;omega
  walk_at "s";walk_at "s"
  refine cK (dE nH bs (fun Q h=>by walk_at "d"; exact h)
   (fun i δ=>∃ t1:Option Sl,δ = [some (.dat (.str "sum")),some (.dat (.list (ms.map dP))),some (.dat (.list (bs.map nH))),some (.own ((lay (cE "sum") (bs.take i)).map fr)),t1,none])
   ⟨_,rfl⟩ ?_ ?_)
  ·rintro i B δ hi ⟨t1,rfl⟩;have hB:B∈bs:=mem_of_getElem? hi;obtain ⟨et,tl⟩:=tk hi;have ll:=mK (cE "sum") (bs.take i);have Bne:=(Sb B hB).ne;have b60:=B60 B hB;rw [et,sT];walk_at "d";refine ⟨"sum",B,L,rfl,by simp [dJ],length_pos_iff.mpr Bne,b60,L0,L2,fun m h=>cB m (sub B hB m h),fun m h=>wB m (sub B hB m h),fun x hx=>⟨rfl,?_⟩⟩;rw [jE (.inl rfl) Bne (fun m h=>hw1 m (sub B hB m h)) hx];unfold nH;dsimp only;rw [length_map,toNat_natCast,Fu];refine ⟨⟨by omega,by omega⟩,by omega,?_⟩;refine ⟨dZ _,by rw [length_map,length_replicate]; omega,_,by rw [map_append]⟩
  rintro δ ⟨t1,rfl⟩;rw [take_length];walk_at "s";rw [if_neg (by decide)];walk_at "s";walk_at "s"
  refine cK (dE nH bs (fun Q h=>by walk_at "d"; exact h)
   (fun i δ=>∃ t1:Option Sl,δ = [some (.dat (.str "sum")),some (.dat (.list (ms.map dP))),some (.dat (.list (bs.map nH))),some (.own ((lay (cE "sum") bs).map fr)),t1,some (.own ((gU (cE "sum") (bs.take i)).map Xy))])
   ⟨_,rfl⟩ ?_ ?_)
  ·rintro i B δ hi ⟨t1,rfl⟩;have hB:B∈bs:=mem_of_getElem? hi;obtain ⟨et,tl⟩:=tk hi;have ll:=mZ (cE "sum") (bs.take i);have Bne:=(Sb B hB).ne;have b60:=B60 B hB;rw [et,zU];walk_at "d";refine ⟨B,L,rfl,length_pos_iff.mpr Bne,b60,L0,L2,fun m h=>cB m (sub B hB m h),fun m h=>wB m (sub B hB m h),fun m h=>hp m (sub B hB m h),fun x hx=>?_⟩;have ex:=jE (.inl rfl) Bne (fun m h=>hw1 m (sub B hB m h)) hx;have ep:Tc (cE "sum") B = fF x (-gM x B) B:=by unfold Tc; rw [ex]
   rw [ep];walk_at "d";refine ⟨pE _,?_,_,by rw [map_append]⟩;rw [jT]; omega
  ·rintro δ ⟨t1,rfl⟩;rw [take_length];walk_at "d";exact k
 ·obtain ⟨M,M0,M1,LM,hr⟩:=Uj n30 L0 L1 hc hw;obtain ⟨S,e⟩:=mE hw1;have k:=k0 (qD "square" ms) (bY ms (qD "square" ms)) ⟨fun e=>absurd e (by decide),fun _=>⟨rfl,rfl⟩,fun e=>absurd e (by decide)⟩;unfold qD at hr k;walk_at "s";rw [if_neg (by decide)];walk_at "s";refine ⟨"square",ms,L,rfl,.inr rfl,by omega,L0,le_trans L1 (by decide +kernel),cB,wB,?_⟩;generalize hb:(eX (cE "square") ms).reverse = bs at *
  have Sb:∀ B∈bs,Blk GeS LeS B (cE "square" B):=fun B hB=>S.blk B (by rw [<- hb] at hB; exact mem_reverse.mp hB);have sub:∀ B∈bs,∀ z∈B,z∈ms:=fun B hB z hz=>by rw [<- e]; exact mem_flatten.mpr ⟨B,hB,hz⟩
  walk_at "s";walk_at "s"
  refine cK (dE nH bs (fun Q h=>by walk_at "d"; exact h)
   (fun i δ=>∃ t1:Option Sl,δ = [some (.dat (.str "square")),some (.dat (.list (ms.map dP))),some (.dat (.list (bs.map nH))),some (.own ((lay (cE "square") (bs.take i)).map fr)),t1,none])
   ⟨_,rfl⟩ ?_ ?_)
  ·rintro i B δ hi ⟨t1,rfl⟩;have hB:B∈bs:=mem_of_getElem? hi;have et:bs.take (i + 1) = bs.take i ++ [B]:=by rw [take_add_one,hi]; rfl
   have ll:=mK (cE "square") bs;have l2:=mK (cE "square") (bs.take (i + 1));have Bne:=(Sb B hB).ne;have B60:B.length<=60:=by
    have:=iM hB;rw [e] at this; omega
   have tl:(lay (cE "square") (bs.take i)).length + B.length<=60:=by
    have h1:(bs.take (i + 1)).flatten.length<=bs.flatten.length:=by
     conv=>rhs; rw [<- take_append_drop (i + 1) bs,flatten_append,length_append]
     omega
    rw [e] at h1;rw [et,sT,length_append,length_replicate] at l2;rw [et] at h1;omega
   rw [et,sT];walk_at "d";refine ⟨"square",B,L,rfl,by simp [dJ],length_pos_iff.mpr Bne,B60,L0,le_trans L1 (by decide +kernel),fun m h=>cB m (sub B hB m h),fun m h=>wB m (sub B hB m h),fun x hx=>⟨rfl,?_⟩⟩;rw [jE (.inr rfl) Bne (fun m h=>hw1 m (sub B hB m h)) hx];unfold nH;dsimp only;rw [length_map,toNat_natCast,Fu];refine ⟨⟨by omega,by omega⟩,by omega,?_⟩;refine ⟨dZ _,by rw [length_map,length_replicate]; omega,_,by rw [map_append]⟩
  ·rintro δ ⟨t1,rfl⟩;rw [take_length];walk_at "s";refine ⟨ms,lay (cE "square") bs,M,10 ^ 31,10 ^ 20,670,31,20,rfl,⟨by omega,M0,M1,le_refl _,le_refl _,fun m h=>(hc m h).mono LM (le_refl _),hr,fun m h=>?_,by decide⟩,?_⟩
   ·have:=hw m h; omega
   ·walk_at "d";exact ⟨dZ _,k⟩
def iJ (ns:List Int) (k:Int):Int:=if k < (ns.length:Int) then ns.getD k.toNat default else 5 * k * k + 11 * k + 2
theorem Bw {ns:List Int} (h:∀ v∈ns,Builtin.Int.intBits v<=1048576) {k:Int} (h0:0<=k) (h1:k<=1000):Bg 1048577 (iJ ns k):=by
 unfold iJ;split
 ·exact Bg.of (Qu (p:=fun v=>Builtin.Int.intBits v<=1048576) h (by decide))
 ·refine Bg.small ?_ (by decide);have h2:5 * k * k<=5000 * 1000:=Int.mul_le_mul (by omega) h1 h0 (by omega);have h3:0<=5 * k * k:=Int.mul_nonneg (by omega) h0;omega
def aHl:DW:=fun ds Q _=>∃ (ns:List Int) (k:Int),ds = [.list (ns.map .int),.int k]/\0<=k/\k<=1000/\Q (.dat (.int (iJ ns k)))
theorem lK (T:Txt K mg A):FnOk P w K mg base (eP P w) 1 A.a_qp1 A.d_qp1 ["script","k"] (fC K aHl):=by
 refine gE T.F_qp1.F aAh (by walk_at "l") fun cdv Ar outer s H E hr=>?_
 refine ⟨_,(aF (bK (aT lJ (pv 1) (bB (gH (K:=K) rfl) rfl T.n_len boot_len (aA (pv 0) aD)) (aX _)) (aH (aV (gB (lN (K:=K) rfl) (pv 0) (pv 1) (fun _ _=>rfl)))) aW)
   (aH (aV (aY eR (aY eR (aY bV (aY bV aP (pv 1)) (pv 1)) (aY bV aP (pv 1))) aP)))),_,(aJ (bP (aU (aB (aN eW (aE 1) (aB (bT cO (aC (aE 0) aG)))))) (bI (aB (bO (bA 0) (aE 1)))) aZ)
   (bI (aB (aN eO (aB (aN eO (aB (aN dM (aB (aN dM (aB aK) (aE 1))) (aE 1))) (aB (aN dM (aB aK) (aE 1))))) (aB aK))))),?_⟩
 rintro ds Q X ⟨ns,k,rfl,h0,h1,kq⟩;unfold iJ at kq;walk_at "s";refine bU (fun c=>?_) (fun c=>?_)
 ·rw [if_pos c] at kq;exact ⟨_,pM PyData.int h0 c,kq⟩
 ·rw [if_neg c] at kq;walk_at "d";exact ⟨dQ (Ir (by decide +kernel)) (fM (n:=1000) (by omega) (by decide +kernel)),dQ (fM (n:=5000) (by omega) (by decide +kernel)) (fM (n:=1000) (by omega) (by decide +kernel)),dQ (Ir (by decide +kernel)) (fM (n:=1000) (by omega) (by decide +kernel)),kq⟩
def aMj:DW:=fun ds Q _=>∃ t b:Int,ds = [.int t,.int b]/\1<=b/\Wee b/\Q (.dat (fr (divInt t b)))
theorem iH (T:Txt K mg A):FnOk P w K mg base (eP P w) 1 A.a_qq1 A.d_qq1 ["top","bottom"] (fC K aMj):=by
 refine gE T.F_qq1.F sc_qq1 (by walk_at "l") fun cdv Ar outer s H E hr=>?_
 refine ⟨_,(aF (cY 2 sc_qq1 (bB gK rfl T.n_abs kM (aA (pv 0) aD)))
   (aF (cY 3 sc_qq1 (pv 1))
   (aF (lH PassesOwn.leaving (aT jP (pv 3) aP (aX _)) (aH (aCe (i:=2) (j:=3) rfl sc_qq1.nd rfl rfl (by decide) rfl rfl (aA (pv 3) (aA (aY eN (pv 2) (pv 3)) aD)) rfl)))
   (aH (aV (cA (aA (aY dY (pv 0) (pv 2)) (aA (aY dY (pv 1) (pv 2)) aD)))))))),_,(aJ (bD (bT kF (aC (aE 0) aG)) (aI 2))
   (aJ (bD (aL 1) (aI 3))
   (aJ (lB (aU (aB (aN eW (aE 3) (aB aK)))) (Zu 2 3 (aQ (aL 3) (aQ (aN dM (aE 2) (aE 3)) bE))))
   (bI (aB (cI (aQ (aN dM (aE 0) (aE 2)) (aQ (aN dM (aE 1) (aE 2)) bE)) (by decide))))))),?_⟩
 rintro ds Q X ⟨t,b,rfl,hb,hw,k⟩;walk_at "s";walk_at "s";refine cK ?_;refine ⟨fun m δ=>∃ x y:Int,δ = [some (.dat (.int t)),some (.dat (.int b)),some (.dat (.int x)),some (.dat (.int y))]/\m = y.toNat/\0<=x/\0<=y/\Int.gcd x y = Int.gcd t b,⟨_,_,b,rfl,rfl,by split <;> omega,by omega,by rw [Fm.abs_if]; simp [Int.gcd]⟩,?_⟩;rintro m δ ⟨x,y,rfl,rfl,hx,hy,hg⟩;walk_at "d";refine bU (fun c=>?_) (fun c=>?_)
 ·refine ⟨c,_,?_,y,x % y,rfl,rfl,hy,emod_nonneg _ (by omega),?_⟩
  ·have:=emod_lt_of_pos x c;have:=emod_nonneg x (show y ≠ 0 by omega);omega
  ·rw [Fm.gcd_step x y c,hg]
 ·have hy0:y = 0:=by omega
  subst hy0;have ex:x = ((Int.gcd t b:Nat):Int):=by rw [<- hg,Fm.gcd_zero hx]
  have g0:(0:Int) < ((Int.gcd t b:Nat):Int):=by have:=Fm.gcd_pos_right (a:=t) (b:=b) (by omega); omega
  have gw:Wee ((Int.gcd t b:Nat):Int):=Eu (Fm.gcd_le_right (a:=t) (b:=b) (by omega)) hw;obtain ⟨e1,e2⟩:=Fm.fr_pos (t:=t) (b:=b) (by omega);rw [ex];refine ⟨⟨g0,gw⟩,⟨g0,gw⟩,?_⟩;rw [e1,e2];exact k
def sW (kd:Str) (a b:Rat):Rat:=if kd = "far" then (if a < b then b else a) else a + b
theorem sK (a:Rat):a * (a.den:Rat) = (a.num:Rat):=(Fm.num_eq a).symm
theorem sV {kd:Str} (h:kd∈dJ):PyData.strOk kd = true:=by
 have:kd = "far"\/kd = "sum"\/kd = "square":=by simpa [dJ] using h
 rcases this with rfl | rfl | rfl <;> decide +kernel
theorem nK {α β γ:Type} (f:α->β->γ):∀ {A:List α} {r:List β} {B:List α} {t:List β},A.length = r.length->zipWith f (A ++ B) (r ++ t) = zipWith f A r ++ zipWith f B t
 | [],[],_,_,_=>rfl
 | [],_ :: _,_,_,h=>by cases h
 | _ :: _,[],_,_,h=>by cases h
 | a :: A,x :: r,B,t,h=>by
  rw [cons_append,cons_append,zipWith_cons_cons,zipWith_cons_cons,cons_append,nK f (by simpa using h)]
theorem wM:∀ (a b:List Rat),tot (a ++ b) = tot a + tot b
 | [],b=>by show tot b = 0 + tot b; grind
 | x :: a,b=>by
  have:=wM a b;rw [cons_append];simp only [tot];rw [this];grind
theorem Qa (a b:List Rat):fW (a ++ b) = if fW a < fW b then fW b else fW a:=by
 have ha:=mI a;have hb:=mI b
 symm
 refine mJ ?_ ?_ fun x hx=>?_
 ·split <;> assumption
 ·split
  ·rcases @iD b with h | h
   ·exact .inl h
   ·exact .inr (mem_append_right _ h)
  ·rcases @iD a with h | h
   ·exact .inl h
   ·exact .inr (mem_append_left _ h)
 ·rcases mem_append.mp hx with h | h
  ·have:=kK x h;split <;> grind
  ·have:=kK x h;split <;> grind
theorem sO {A B:List Mk} {r t:List Rat} (h:A.length = r.length):bN (A ++ B) (r ++ t) = bN A r ++ bN B t:=nK _ h
theorem sP {A:List Mk} {r:List Rat} (h:A.length = r.length):(bN A r).length = A.length:=by
 unfold bN;rw [length_zipWith]; omega
theorem uD {A B:List Mk} {r t:List Rat} (h:A.length = r.length):bY (A ++ B) (r ++ t) = bY A r ++ bY B t:=by
 unfold bY;rw [sO h];exact nK _ (sP h).symm
theorem Zv {A B:List Mk} {r t:List Rat} (h:A.length = r.length):wR (A ++ B) (r ++ t) = wR A r ++ wR B t:=by
 unfold wR;rw [sO h,uD h];refine nK _ ?_;unfold bY;rw [length_zipWith,sP h]; omega
theorem Py (kd:Str) {A B:List Mk} {r t:List Rat} (h:A.length = r.length):dI kd (A ++ B) (r ++ t) = sW kd (dI kd A r) (dI kd B t):=by
 unfold dI sW;by_cases h1:kd = "far"
 ·rw [if_pos h1,if_pos h1,if_pos h1,if_pos h1,sO h,map_append,Qa]
 ·rw [if_neg h1,if_neg h1,if_neg h1,if_neg h1];by_cases h2:kd = "sum"
  ·rw [if_pos h2,if_pos h2,if_pos h2,uD h,map_append,wM]
  ·rw [if_neg h2,if_neg h2,if_neg h2,Zv h,wM]
def Zj:DW:=fun ds Q _=>∃ a b:Rat,ds = [fr a,fr b]/\Ok a/\Ok b/\Q (.dat (.bool (decide (a < b))))
theorem sH (T:Txt K mg A):FnOk P w K mg base (eP P w) 1 A.a_qr1 A.d_qr1 ["one","other"] (fC K Zj):=by
 refine gE T.F_qr1.F aAg (by walk_at "l") fun cdv Ar outer s H E hr=>?_;refine ⟨_,(aH (aV (iK lJ (aY bV (cR (K:=K) rfl (pv 0)) (cR (K:=K) rfl (pv 1))) (aY bV (cR (K:=K) rfl (pv 1)) (cR (K:=K) rfl (pv 0))) (aX _)))),_,(bI (aB (aN eW (aB (aN dM (aB (aS 0 (aL 0))) (aB (aS 1 (aL 1))))) (aB (aN dM (aB (aS 0 (aL 1))) (aB (aS 1 (aL 0)))))))),?_⟩;rintro ds Q X ⟨a,b,rfl,oa,ob,k⟩;walk_at "d";refine ⟨dQ oa.n ob.d,dQ ob.n oa.d,?_⟩;have e:decide (a.num * (b.den:Int) < b.num * (a.den:Int)) = decide (a < b):=by rw [decide_eq_decide]; exact Fm.less_iff a b
 rw [e];exact k
theorem Ma (a b:Rat):divInt (a.num * (b.den:Int) + b.num * (a.den:Int)) ((a.den:Int) * (b.den:Int)) = a + b:=by
 have ha:=sK a;have hb:=sK b;have pa:=kS a;have pb:=kS b;refine (Fm.eq_divInt (mul_ne_zero (by omega) (by omega)) ?_).symm;rw [intCast_mul,intCast_add,intCast_mul,intCast_mul,<- ha,<- hb];show (a + b) * ((a.den:Rat) * (b.den:Rat)) = a * (a.den:Rat) * (b.den:Rat) + b * (b.den:Rat) * (a.den:Rat);grind
def Zk:DW:=fun ds Q _=>∃ (kd:Str) (a b:Rat) (Da Db:Nat),ds = [.str kd,fr a,fr b]/\Dg Da a/\Dg Db b/\Da + Db<=2300/\Q (.dat (fr (sW kd a b)))
theorem De (T:Txt K mg A):FnOk P w K mg base (eP P w) 2 A.a_qs1 A.d_qs1 ["kind","one","other"] (fC K Zk):=by
 refine gE T.F_qs1.F aAf (by walk_at "l") fun cdv Ar outer s H E hr=>?_
 refine ⟨_,(aF (bK (aT cP (pv 0) bF (aX _)) (aF (bK (eL (cG (sH T) hr T.F_qr1 aO (aA (pv 1) (aA (pv 2) aD)))) (aH (aV (pv 2))) aW)
   (aH (aV (pv 1)))) aW)
   (aH (aV (cG (iH T) hr T.F_qq1 aO (aA (aY eR (aY bV (cR (K:=K) rfl (pv 1)) (cR (K:=K) rfl (pv 2))) (aY bV (cR (K:=K) rfl (pv 2)) (cR (K:=K) rfl (pv 1)))) (aA (aY bV (cR (K:=K) rfl (pv 1)) (cR (K:=K) rfl (pv 2))) aD)))))),_,(aJ (bP (aU (aB (aN cN (aE 0) (aB bG)))) (aJ (bP (jF (aB (aM (aC (aE 1) (aC (aE 2) aG))))) (eA 2) aZ)
   (eA 1)) aZ)
   (bI (aB (aM (aC (aB (aN eO (aB (aN dM (aB (aS 0 (aL 1))) (aB (aS 1 (aL 2))))) (aB (aN dM (aB (aS 0 (aL 2))) (aB (aS 1 (aL 1))))))) (aC (aB (aN dM (aB (aS 1 (aL 1))) (aB (aS 1 (aL 2))))) aG)))))),?_⟩
 rintro ds Q X ⟨kd,a,b,Da,Db,rfl,da,db,hD,k⟩;have oa:Ok a:=eE da (by omega);have ob:Ok b:=eE db (by omega);unfold sW at k;walk_at "s";refine bU (fun c=>?_) (fun c=>?_)
 ·have ek:kd = "far":=c;rw [if_pos ek] at k;walk_at "s";refine ⟨a,b,rfl,oa,ob,?_⟩;walk_at "d";refine bU (fun c2=>?_) (fun c2=>?_)
  ·rw [if_pos c2] at k;exact k
  ·rw [if_neg c2] at k;walk_at "d";exact k
 ·have nk:kd ≠ "far":=c;rw [if_neg nk] at k;walk_at "d";have p3:((a.den:Int) * (b.den:Int)).natAbs<=10 ^ (Da + Db):=by
   rw [natAbs_mul,pow_add];exact mul_le_mul (by have:=da.d; omega) (by have:=db.d; omega)
  refine ⟨dQ oa.n ob.d,dQ ob.n oa.d,dQ oa.d ob.d,_,_,rfl,Int.mul_pos (kS a) (kS b),kA p3 (by omega),?_⟩;rw [Ma];walk_at "d";exact k
theorem Pz {x:Rat} (h:0<=x):fW [x] = x:=(mJ h (.inr (by simp)) fun y hy=>by rw [mem_singleton.mp hy]; exact Rat.le_refl).symm
theorem An (kd:Str) (m:Mk) (h:Rat):dI kd [m] [h] = if kd = "far" then bL (m.2.1 - h) else if kd = "sum" then bL ((m.2.2:Rat) * (m.2.1 - h)) else (m.2.2:Rat) * (m.2.1 - h) * (m.2.1 - h):=by
 unfold dI bN bY wR bY bN;by_cases h1:kd = "far"
 ·rw [if_pos h1,if_pos h1];exact Pz (oO _)
 ·rw [if_neg h1,if_neg h1];by_cases h2:kd = "sum"
  ·rw [if_pos h2,if_pos h2];show bL _ + 0 = _;grind
  ·rw [if_neg h2,if_neg h2];show _ + 0 = _;grind
theorem Wk (a b:Rat):divInt (a.num * (b.den:Int) - b.num * (a.den:Int)) ((a.den:Int) * (b.den:Int)) = a - b:=by
 have ha:=sK a;have hb:=sK b;have pa:=kS a;have pb:=kS b;refine (Fm.eq_divInt (mul_ne_zero (by omega) (by omega)) ?_).symm;rw [intCast_mul,Rat.intCast_sub,intCast_mul,intCast_mul,<- ha,<- hb];show (a - b) * ((a.den:Rat) * (b.den:Rat)) = a * (a.den:Rat) * (b.den:Rat) - b * (b.den:Rat) * (a.den:Rat);grind
theorem aGb {x y:Int} (hy:0 < y):divInt (if x < 0 then -x else x) y = bL (divInt x y):=by
 have y0:(0:Rat) < (y:Rat):=intCast_pos.mpr hy;have yi:(0:Rat) < (y:Rat)⁻¹:=inv_pos.mpr y0;rw [Br,Br,div_def,div_def];by_cases h:x < 0
 ·rw [if_pos h];have hx:(x:Rat)<=0:=by
   have:=intCast_le_intCast.mpr (show x<=0 by omega);exact this
  have h2:0<=(-(x:Rat)) * (y:Rat)⁻¹:=mul_nonneg (by grind) (Rat.le_of_lt yi);rw [iV (by grind),intCast_neg];grind
 ·rw [if_neg h];have hx:(0:Rat)<=(x:Rat):=intCast_nonneg.mpr (by omega);rw [dL (mul_nonneg hx (Rat.le_of_lt yi))]
theorem zE {α:Type} {xs:List α} {i:Nat} {x:α} (h:xs[i]? = some x):xs.take (i + 1) = xs.take i ++ [x]:=by
 rw [take_add_one,h]; rfl
theorem dg0 (n:Nat):Dg n 0:=by
 refine ⟨?_,?_⟩
 ·show natAbs 0<=_; simp
 ·show (1:Nat)<=_; exact pow_pos (by decide:0 < 10)
theorem aKh {n:Nat} {v:Int} (h:v.natAbs<=10 ^ n):Dg n (v:Rat):=⟨h,by show (1:Nat)<=_; exact pow_pos (by decide:0 < 10)⟩
theorem Rm {n:Nat} {q:Rat} (h:Dg n q):Dg n (bL q):=by
 rcases dG q with ⟨_,e⟩ | ⟨_,e⟩ <;> rw [e]
 ·exact h
 ·exact h.neg
theorem aCr {kd:Str} {m:Mk} {h:Rat} {Dh Dr wd:Nat} (h1:Dg Dh m.2.1) (h2:m.2.2.natAbs<=10 ^ wd) (h3:Dg Dr h):Dg (2 * (Dh + Dr + 1) + wd + 2) (dI kd [m] [h]):=by
 rw [An];have d1:=h1.sub h3;have d2:=(aKh h2).mul d1;split
 ·exact (Rm d1).mono (by omega)
 ·split
  ·exact (Rm d2).mono (by omega)
  ·exact (d2.mul d1).mono (by omega)
theorem Vt {kd:Str} {a b:Rat} {Da Db:Nat} (h1:Dg Da a) (h2:Dg Db b):Dg (Da + Db + 1) (sW kd a b):=by
 unfold sW;split
 ·split
  ·exact h2.mono (by omega)
  ·exact h1.mono (by omega)
 ·exact h1.add h2
theorem Jw {kd:Str} {ms:List Mk} {row:List Rat} {i:Nat} {m:Mk} {h:Rat} (hm:ms[i]? = some m) (hh:row[i]? = some h):dI kd (ms.take (i + 1)) (row.take (i + 1)) = sW kd (dI kd (ms.take i) (row.take i)) (dI kd [m] [h]):=by
 rw [zE hm,zE hh];refine Py kd ?_;have:=(List.getElem?_eq_some_iff.mp hm).1;have:=(List.getElem?_eq_some_iff.mp hh).1;rw [length_take,length_take]; omega
theorem aHx {w tp bt:Int} {d:Rat} (hb:0 < bt) (h:divInt tp bt = bL d):divInt (w * tp * tp) (bt * bt) = (w:Rat) * d * d:=by
 have b0:(bt:Rat) ≠ 0:=fun z=>by have:=intCast_pos.mpr hb; grind
 have h2:bL d * (bt:Rat) = (tp:Rat):=by
  rw [<- h,Br];exact div_mul_cancel b0
 have e6:bL d * bL d = d * d:=by
  rcases dG d with ⟨_,z⟩ | ⟨_,z⟩ <;> rw [z];grind
 refine (Fm.eq_divInt (mul_ne_zero (by omega) (by omega)) ?_).symm;rw [intCast_mul,intCast_mul,intCast_mul,<- h2];have e7:(w:Rat) * (bL d * (bt:Rat)) * (bL d * (bt:Rat)) = (w:Rat) * (bL d * bL d) * ((bt:Rat) * (bt:Rat)):=by grind
 rw [e7,e6];grind
def Tl:DW:=fun ds Q _=>∃ (kd:Str) (ms:List Mk) (row:List Rat) (Dh Dr wd:Nat),ds = [.str kd,.list (ms.map dP),.list (row.map fr)]/\kd∈dJ/\row.length = ms.length/\ms.length<=60/\(∀ m∈ms,Dg Dh m.2.1/\1<=m.2.2/\m.2.2.natAbs<=10 ^ wd)/\(∀ q∈row,Dg Dr q) /\
 (ms.length + 1) * (2 * (Dh + Dr + 1) + wd + 3)<=2300/\Q (.dat (fr (dI kd ms row)))
theorem Pi (T:Txt K mg A):FnOk P w K mg base (eP P w) 3 A.a_qt1 A.d_qt1 ["kind","some","row"] (fC K Tl):=by
 refine gE T.F_qt1.F kC (by walk_at "l") fun cdv Ar outer s H E hr=>?_
 refine ⟨_,(aF (cY 3 kC (cA (aA aP (aA aP aD))))
   (aF (dU PassesOwn.leaving rfl (jI (K:=K) rfl rfl T.n_zip (aA (pv 1) (aA (pv 2) aD))) (nB (K:=K) (n:=2) rfl rfl (bQ (mG 4 kC) (bQ (mG 5 kC) eV)))
    (aF (cY 6 kC (bB gK rfl T.n_abs kM (aA (aY lI (aY bV (cR (K:=K) rfl (cR (K:=K) rfl (pv 4))) (cR (K:=K) rfl (pv 5))) (aY bV (cR (K:=K) rfl (pv 5)) (cR (K:=K) rfl (cR (K:=K) rfl (pv 4))))) aD)))
   (aF (cY 7 kC (aY bV (cR (K:=K) rfl (cR (K:=K) rfl (pv 4))) (cR (K:=K) rfl (pv 5))))
   (aF (bK (aT cP (pv 0) bF (aX _)) (aH (cY 3 kC (cG (De T) hr T.F_qs1 aO (aA (pv 0) (aA (pv 3) (aA (cG (iH T) hr T.F_qq1 aO (aA (pv 6) (aA (pv 7) aD))) aD)))))) aW)
   (aF (bK (aT cP (pv 0) bF (aX _)) (aH (cY 3 kC (cG (De T) hr T.F_qs1 aO (aA (pv 0) (aA (pv 3) (aA (cG (iH T) hr T.F_qq1 aO (aA (aY bV (cR (K:=K) rfl (pv 4)) (pv 6)) (aA (pv 7) aD))) aD)))))) aW)
   (aH (bK (aT cP (pv 0) bF (aX _)) (aH (cY 3 kC (cG (De T) hr T.F_qs1 aO (aA (pv 0) (aA (pv 3) (aA (cG (iH T) hr T.F_qq1 aO (aA (aY bV (aY bV (cR (K:=K) rfl (pv 4)) (pv 6)) (pv 6)) (aA (aY bV (pv 7) (pv 7)) aD))) aD)))))) aW)))))))
   (aH (aV (pv 3))))),_,(aJ (bD (cI (aQ aK (aQ aK bE)) (by decide)) (aI 3))
   (aJ (eC (Qm (aL 1) (aL 2)) (fX (bW (aI 4) (bW (aI 5) fY)))
    (aJ (bD (bT kF (aC (aB (aN eO (aB (aN dM (aB (aS 0 (aS 1 (aL 4)))) (aB (aS 1 (aL 5))))) (aB (aN dM (aB (aS 0 (aL 5))) (aB (aS 1 (aS 1 (aL 4)))))))) aG)) (aI 6))
   (aJ (bD (aN dM (aB (aS 1 (aS 1 (aL 4)))) (aB (aS 1 (aL 5)))) (aI 7))
   (aJ (bP (aU (aB (aN cN (aE 0) (aB bG)))) (bD (aM (aC (aE 0) (aC (aE 3) (aC (aB (aM (aC (aE 6) (aC (aE 7) aG)))) aG)))) (aI 3)) aZ)
   (aJ (bP (aU (aB (aN cN (aE 0) (aB bG)))) (bD (aM (aC (aE 0) (aC (aE 3) (aC (aB (aM (aC (aB (aN dM (aB (aS 2 (aL 4))) (aE 6))) (aC (aE 7) aG)))) aG)))) (aI 3)) aZ)
   (bP (aU (aB (aN cN (aE 0) (aB bG)))) (bD (aM (aC (aE 0) (aC (aE 3) (aC (aB (aM (aC (aB (aN dM (aB (aN dM (aB (aS 2 (aL 4))) (aE 6))) (aE 6))) (aC (aB (aN dM (aE 7) (aE 7))) aG)))) aG)))) (aI 3)) aZ))))))
   (eA 3))),?_⟩
 rintro ds Q X ⟨kd,ms,row,Dh,Dr,wd,rfl,hk,hl,n60,hm,hr2,hsz,k⟩;walk_at "s"
 refine cK (dE (fun p:Mk × Rat=>PyData.tuple [dP p.1,fr p.2]) (ms.zip row) (fun Q h=>by
   walk_at "d"
   rw [eY]; exact h)
  (fun i δ=>∃ s4 s5 s6 s7:Option Sl,δ = [some (.dat (.str kd)),some (.dat (.list (ms.map dP))),some (.dat (.list (row.map fr))),some (.dat (fr (dI kd (ms.take i) (row.take i)))),s4,s5,s6,s7]/\Dg (i * (2 * (Dh + Dr + 1) + wd + 3)) (dI kd (ms.take i) (row.take i))) ⟨none,none,none,none,?_,?_⟩ ?_ ?_)
 ·have e:dI kd (ms.take 0) (row.take 0) = 0:=by
   unfold dI;split
   ·rfl
   ·split <;> rfl
  rw [e]; rfl
 ·have e:dI kd (ms.take 0) (row.take 0) = 0:=by
   unfold dI;split
   ·rfl
   ·split <;> rfl
  rw [e]; exact dg0 _
 ·rintro i ⟨m,h⟩ δ hi ⟨s4,s5,s6,s7,rfl,hd⟩;obtain ⟨hi1,hi2⟩:=getElem?_zip_eq_some.mp hi;have hmm:=hm m (mem_of_getElem? hi1);have hhh:=hr2 h (mem_of_getElem? hi2);have il:i < ms.length:=(List.getElem?_eq_some_iff.mp hi1).1;have e:=Jw (kd:=kd) hi1 hi2;obtain ⟨Di,hDi⟩:∃ Di,2 * (Dh + Dr + 1) + wd + 2 = Di:=⟨_,rfl⟩;have hsz2:(i + 1) * (Di + 1) + (Di + 1)<=2300:=by
   refine le_trans ?_ hsz;rw [<- succ_mul,<- hDi];exact mul_le_mul_right _ (by omega)
  have hone:=aCr (kd:=kd) hmm.1 hmm.2.2 hhh;rw [hDi] at hone;rw [show 2 * (Dh + Dr + 1) + wd + 3 = Di + 1 by omega] at hd;have hnx:Dg ((i + 1) * (Di + 1)) (dI kd (ms.take (i + 1)) (row.take (i + 1))):=by
   rw [e,succ_mul];exact (Vt hd hone).mono (by omega)
  have om:Ok m.2.1:=eE hmm.1 (by omega);have oh:Ok h:=eE hhh (by omega);have hf:2 * (Dh + Dr + 1) + wd + 3 = Di + 1:=by omega
  obtain ⟨T0,hT0⟩:∃ T0,dI kd (ms.take i) (row.take i) = T0:=⟨_,rfl⟩;rw [hT0] at e hd ⊢;walk_at "s";refine ⟨dQ om.n oh.d,dQ oh.n om.d,?_⟩;walk_at "s";refine ⟨dQ om.d oh.d,?_⟩;have hq0:=aGb (x:=m.2.1.num * (h.den:Int) - h.num * (m.2.1.den:Int)) (y:=(m.2.1.den:Int) * (h.den:Int)) (Int.mul_pos (kS _) (kS _));rw [Wk] at hq0;have pr:∀ {x y:Int},x.natAbs<=10 ^ Dh->y.natAbs<=10 ^ Dr->(x * y).natAbs<=10 ^ (Dh + Dr):=fun {x y} hx hy=>by
   rw [natAbs_mul,pow_add];exact mul_le_mul hx hy
  have p1:=pr hmm.1.n (y:=(h.den:Int)) (by have:=hhh.d; omega);have p2:=pr (x:=(m.2.1.den:Int)) (by have:=hmm.1.d; omega) hhh.n;rw [Int.mul_comm] at p2;have p3:=pr (x:=(m.2.1.den:Int)) (y:=(h.den:Int)) (by have:=hmm.1.d; omega) (by have:=hhh.d; omega);have p4:(if m.2.1.num * (h.den:Int) - h.num * (m.2.1.den:Int) < 0 then -(m.2.1.num * (h.den:Int) - h.num * (m.2.1.den:Int)) else m.2.1.num * (h.den:Int) - h.num * (m.2.1.den:Int)).natAbs<=10 ^ (Dh + Dr + 1):=by
   rw [pow_succ];split <;> omega
  have b0:(0:Int) < (m.2.1.den:Int) * (h.den:Int):=Int.mul_pos (kS _) (kS _);obtain ⟨tp,htp⟩:∃ tp:Int,(if m.2.1.num * (h.den:Int) - h.num * (m.2.1.den:Int) < 0 then -(m.2.1.num * (h.den:Int) - h.num * (m.2.1.den:Int)) else m.2.1.num * (h.den:Int) - h.num * (m.2.1.den:Int)) = tp:=⟨_,rfl⟩;obtain ⟨bt,hbt⟩:∃ bt:Int,(m.2.1.den:Int) * (h.den:Int) = bt:=⟨_,rfl⟩;rw [htp] at hq0 p4 ⊢;rw [hbt] at hq0 p3 b0 ⊢;have wt:Wee tp:=kA p4 (by omega);have wb:Wee bt:=kA p3 (by omega);have ww:Wee m.2.2:=kA hmm.2.2 (by omega);have bq:(bt:Rat) ≠ 0:=fun z=>by have:=intCast_pos.mpr b0; grind
  rw [An] at e hone;have hk3:kd = "far"\/kd = "sum"\/kd = "square":=by simpa [dJ] using hk
  rw [hf] at *
  rcases hk3 with rfl | rfl | rfl
  ·rw [if_pos rfl] at e hone;walk_at "s";refine ⟨tp,bt,rfl,by omega,wb,?_⟩;rw [hq0];walk_at "d";refine ⟨_,_,_,_,_,rfl,hd,hone,by rw [succ_mul] at hsz2; omega,?_⟩;rw [<- e];walk_at "s";refine bU (fun c=>absurd c (by decide)) (fun _=>?_);walk_at "d";refine bU (fun c=>absurd c (by decide)) (fun _=>?_);exact ⟨_,_,_,_,rfl,hnx⟩
  ·rw [if_neg (by decide),if_pos rfl] at e hone;walk_at "s";refine bU (fun c=>absurd c (by decide)) (fun _=>?_);walk_at "s";refine ⟨dQ ww wt,m.2.2 * tp,bt,rfl,by omega,wb,?_⟩;have e5:divInt (m.2.2 * tp) bt = bL ((m.2.2:Rat) * (m.2.1 - h)):=by
    rw [Kt hmm.2.1,<- hq0,Br,Br,intCast_mul];grind
   rw [e5];walk_at "d";refine ⟨_,_,_,_,_,rfl,hd,hone,by rw [succ_mul] at hsz2; omega,?_⟩;rw [<- e];walk_at "d";refine bU (fun c=>absurd c (by decide)) (fun _=>?_);exact ⟨_,_,_,_,rfl,hnx⟩
  ·rw [if_neg (by decide),if_neg (by decide)] at e hone;walk_at "s";refine bU (fun c=>absurd c (by decide)) (fun _=>?_);walk_at "s";refine bU (fun c=>absurd c (by decide)) (fun _=>?_);walk_at "d";have q1:(m.2.2 * tp).natAbs<=10 ^ (wd + (Dh + Dr + 1)):=by
    rw [natAbs_mul,pow_add];exact mul_le_mul hmm.2.2 p4
   have q2:(bt * bt).natAbs<=10 ^ ((Dh + Dr) + (Dh + Dr)):=by
    rw [natAbs_mul,pow_add];exact mul_le_mul p3 p3
   have bb:0 < bt * bt:=Int.mul_pos b0 b0;refine ⟨dQ ww wt,dQ (kA q1 (by omega)) wt,dQ wb wb,m.2.2 * tp * tp,bt * bt,rfl,bb,kA q2 (by omega),?_⟩;have e5:divInt (m.2.2 * tp * tp) (bt * bt) = (m.2.2:Rat) * (m.2.1 - h) * (m.2.1 - h):=aHx b0 hq0;rw [e5];walk_at "d";refine ⟨_,_,_,_,_,rfl,hd,hone,by rw [succ_mul] at hsz2; omega,?_⟩;rw [<- e];walk_at "d";exact ⟨_,_,_,_,rfl,hnx⟩
 ·rintro δ ⟨s4,s5,s6,s7,rfl,hd⟩;have e:(ms.zip row).length = ms.length:=by rw [length_zip]; omega
  have e2:row.take ms.length = row:=take_of_length_le (by omega);rw [e,take_length,e2];walk_at "d";exact k
theorem MSz.measDg {L B W l b wd:Nat} {ms:List Mk} {row:List Rat} (z:MSz L B W l b wd ms row) (kd:Str):Dg (2 * l + 2 * b + wd + 6) (dI kd ms row):=by
 unfold dI;split
 ·rcases @iD ((bN ms row).map bL) with h | h
  ·rw [h]; exact dg0 _
  ·obtain ⟨x,hx,e⟩:=mem_map.mp h;rw [<- e];exact (Rm ((z.miss x hx).dg z.pos z.pL (gF z.pB))).mono (by omega)
 ·split
  ·have h:=Cm.tot (qs:=(bY ms row).map bL) (L:=L) (B:=W * (B + B)) fun q hq=>by
    obtain ⟨x,hx,rfl⟩:=mem_map.mp hq;exact (z.wmiss x hx).abs
   have hl:((bY ms row).map bL).length<=60:=by
    rw [length_map]; have:=jY (ms:=ms) (row:=row); have:=z.len; omega
   exact (h.dg z.pos z.pL (iP hl (fQ z.pW (gF z.pB)))).mono (by omega)
  ·have h:=Cm.tot (qs:=wR ms row) (L:=L * L) (B:=W * (B + B) * (B + B)) fun q hq=>z.sq q hq;have hl:(wR ms row).length<=60:=by
    have:=Ff (ms:=ms) (row:=row); have:=z.len; omega
   exact (h.dg (Nat.mul_pos z.pos z.pos) (fQ z.pL z.pL) (iP hl (fQ (fQ z.pW (gF z.pB)) (gF z.pB)))).mono (by omega)
def LL:Nat:=2329089562800
def NN:Nat:=24888331782803390919937920000
theorem aGj {b:Nat} (h1:1<=b) (h2:b<=30):b ∣ LL:=by
 have:∀ b:Nat,b < 31->1<=b->b ∣ LL:=by decide +kernel
 exact this b (by omega) h1
theorem aGf {v:Nat} (h1:1<=v) (h2:v<=40):2 * LL * v ∣ NN:=by
 have:∀ v:Nat,v < 41->1<=v->2 * LL * v ∣ NN:=by decide +kernel
 exact this v (by omega) h1
theorem iW:0 < NN:=by decide +kernel
theorem lX:NN<=10 ^ 29:=by decide +kernel
theorem Sy:LL ∣ NN:=by decide +kernel
abbrev Ro (q:Rat):Prop:=Cm NN (10 ^ 7) q
structure MkT (ms:List Mk):Prop where
 n1:1<=ms.length
 n10:ms.length<=10
 hc:∀ m∈ms,Cm LL (10 ^ 6) m.2.1
 hw:∀ m∈ms,1<=m.2.2/\m.2.2<=4
theorem MkT.ms {ms:List Mk} {row:List Rat} (M:MkT ms) (hr:∀ q∈row,Ro q):MSz NN (10 ^ 7) 4 29 7 1 ms row :=
 ⟨by have:=M.n10; omega,iW,lX,le_refl _,by decide,fun m h=>(M.hc m h).mono Sy (by decide),hr,fun m h=>by have:=M.hw m h; omega,by decide⟩
theorem MkT.dg {ms:List Mk} {row:List Rat} (M:MkT ms) (hr:∀ q∈row,Ro q) (kd:Str):Dg 79 (dI kd ms row):=((M.ms hr).measDg kd).mono (by decide)
theorem Ro.dg {q:Rat} (h:Ro q):Dg 37 q:=(Cm.dg h iW lX (le_refl (10 ^ 7))).mono (by decide)
theorem Yt {ms A:List Mk} (M:MkT ms) (hne:A ≠ []) (sub:∀ z∈A,z∈ms) (hl:A.length<=ms.length):1<=(cH A).toNat/\(cH A).toNat<=40:=by
 have wp:=iA hne fun m h=>(M.hw m (sub m h)).1;have h1:=qH (W:=4) fun m h=>(M.hw m (sub m h)).2;have:=M.n10;omega
theorem Qg {kd:Str} {ms:List Mk} {bs:List (List Mk)} (M:MkT ms) (hk:kd = "sum"\/kd = "square") (hx:∀ A:List Mk,A ≠ []->(∀ m∈A,1<=m.2.2)->∃ x,LevelOk kd A x) (e:bs.flatten = ms) (hne:∀ A∈bs,A ≠ []) :
  ∀ q∈lay (cE kd) bs,Ro q:=fun q hq=>by
 have hw:∀ m∈ms,1<=m.2.2:=fun m h=>(M.hw m h).1;obtain ⟨A,hA,_,rfl⟩:=qU hq;have sub:∀ z∈A,z∈ms:=fun z hz=>by rw [<- e]; exact mem_flatten.mpr ⟨A,hA,hz⟩
 have hl:A.length<=ms.length:=by rw [<- e]; exact iM hA
 obtain ⟨x,h⟩:=hx A (hne A hA) fun m hm=>hw m (sub m hm);rw [jE hk (hne A hA) (fun m hm=>hw m (sub m hm)) h];have hkk:kd∈dJ:=by rcases hk with rfl | rfl <;> simp [dJ]
 obtain ⟨w1,w2⟩:=Yt M (hne A hA) sub hl;exact (sS hkk h (hne A hA) (fun m hm=>M.hc m (sub m hm)) fun m hm=>hw m (sub m hm)).mono (aGf w1 w2) (by decide)
structure RSq (row ps:List Rat):Prop where
 r:∀ q∈row,Ro q
 p:∀ q∈ps,Cm NN (10 ^ 9) q
theorem Fr {kd:Str} {ms:List Mk} {row ps:List Rat} (hk:kd∈dJ) (M:MkT ms) (F:RiseOk kd ms row ps):RSq row ps:=by
 have hw:∀ m∈ms,1<=m.2.2:=fun m h=>(M.hw m h).1;have hk3:kd = "far"\/kd = "sum"\/kd = "square":=by simpa [dJ] using hk
 rcases hk3 with rfl | rfl | rfl
 ·have F1:=F.far rfl;obtain ⟨m,X⟩:=vS F1;refine ⟨fun q hq=>?_,fun q hq=>(X.pc q hq).mono (by decide +kernel) (by decide +kernel)⟩
  exact (Wf F1 (L:=LL) (B:=10 ^ 6) (fun q hq=>by
   obtain ⟨z,hz,rfl⟩:=mem_map.mp hq
   exact M.hc z hz) q hq).mono (by decide +kernel) (by decide +kernel)
 ·obtain ⟨rfl,rfl⟩:=F.sum rfl;have X:=uO (ms:=ms) hw;change SumFacts ms (qD "sum" ms) (Jm ms) at X;obtain ⟨S,e⟩:=mU hw;refine ⟨Qg M (.inl rfl) (fun A h1 h2=>Gn h1 h2) e fun B hB=>(S.blk B (mem_reverse.mp hB)).ne,fun q hq=>?_⟩;obtain ⟨p,hp,rfl⟩:=mem_map.mp hq;obtain ⟨i,hi,rfl⟩:=getElem_of_mem hp;have pl:=X.plen;have rl:=X.len;have hz:i < (ms.zip ((qD "sum" ms).zip (Jm ms))).length:=by rw [length_zip,length_zip]; omega
  have h1:=X.fair _ (getElem_mem hz);rw [getElem_zip,getElem_zip] at h1;have h2:=M.hw _ (getElem_mem (show i < ms.length by omega));have h3:=h1.2.2;dsimp only at h3;exact (Cm.int (B:=10) (by omega)).mono (Nat.one_dvd _) (by decide +kernel)
 ·obtain ⟨rfl,rfl⟩:=F.sq rfl;obtain ⟨S,e⟩:=mE hw;have hr:=Qg (kd:="square") M (.inr rfl) (fun A h1 h2=>Go h1 h2) e fun B hB=>(S.blk B (mem_reverse.mp hB)).ne;refine ⟨hr,fun q hq=>?_⟩;exact (MSz.wmiss (M.ms hr) q hq).mono (dvd_refl _) (by decide +kernel)
open PySem.NumText (AllDigits digitsVal)
theorem fP {x y:Str} (h:x.cps.toList = y.cps.toList):x = y:=by
 cases x; cases y;simp only at h;rw [Array.toList_inj.mp h]
theorem cZ (x:Str):x.cps.toList.length = x.length:=by simp [Str.length]
theorem Zx (x:Str):(PySem.Txt.slice x none (some 1)).cps.toList = x.cps.toList.take 1:=by
 have hl:=cZ x;by_cases h:1<=x.length
 ·have e:=slice_closes_to (x:=x) (j:=1) ⟨by decide,by omega⟩;rw [eq_of_beq e];simp
 ·have e:=PySem.Txt.slice_le x none (some 1);have e1:(PySem.Txt.slice x none (some 1)).cps.toList = []:=length_eq_zero_iff.mp (by rw [cZ]; omega);have e2:x.cps.toList = []:=length_eq_zero_iff.mp (by omega);rw [e1,e2]; rfl
theorem Fi (x:Str):(PySem.Txt.slice x (some 1) none).cps.toList = x.cps.toList.drop 1:=by
 have hl:=cZ x;by_cases h:1<=x.length
 ·have e:=slice_closes_from (x:=x) (i:=1) ⟨by decide,by omega⟩;rw [eq_of_beq e];have e2:((x.cps.toList.length:Int) - 1).toNat = (x.cps.toList.drop 1).length:=by rw [length_drop]; omega
  rw [e2];show take _ (x.cps.toList.drop (toNat 1)) = _;exact take_length
 ·have e:=PySem.Txt.slice_le x (some 1) none;have e1:(PySem.Txt.slice x (some 1) none).cps.toList = []:=length_eq_zero_iff.mp (by rw [cZ]; omega);have e2:x.cps.toList = []:=length_eq_zero_iff.mp (by omega);rw [e1,e2]; rfl
theorem uA (x y:Str):PySem.Txt.contains x y = decide (0<=PySem.Txt.find x y):=by
 unfold PySem.Txt.contains PySem.Txt.find;cases Builtin.Str.occurrences x y 0 x.length 1 with
 | nil=>rfl
 | cons i r=>simp
theorem sD {x y:Str} (h:PySem.Txt.contains x y = false):PySem.Txt.partition x y = (x,Str.empty,Str.empty):=by
 unfold PySem.Txt.contains at h;unfold PySem.Txt.partition;cases e:Builtin.Str.occurrences x y 0 x.length 1 with
 | nil=>rfl
 | cons i r=>rw [e] at h; cases h
theorem Uv {x y:Str} (h:PySem.Txt.contains x y = true):(PySem.Txt.partition x y).2.1 = y:=by
 unfold PySem.Txt.contains at h;unfold PySem.Txt.partition;cases e:Builtin.Str.occurrences x y 0 x.length 1 with
 | nil=>rw [e] at h; cases h
 | cons i r=>rfl
def oB (c:Nat):Bool:=decide (48<=c) && decide (c<=57)
theorem isDig_iff {c:Nat}:oB c = true ↔ 48<=c/\c<=57:=by simp [oB]
theorem aEs:("0123456789":Str).cps.toList = [48,49,50,51,52,53,54,55,56,57]:=by decide +kernel
theorem Qx (c:Nat):PySem.Txt.find "0123456789" ⟨#[c]⟩ = if oB c = true then (c:Int) - 48 else -1:=by
 have key:∀ i:Nat,StrLaws.At "0123456789" ⟨#[c]⟩ ("0123456789":Str).length i ↔ i < 10/\c = 48 + i:=by
  intro i;unfold StrLaws.At;have hl:("0123456789":Str).length = 10:=by decide +kernel
  have h1:(⟨#[c]⟩:Str).length = 1:=rfl;rw [StrLaws.subAt_eq,aEs,hl,h1];constructor
  ·rintro ⟨h2,h3⟩;have h4:i < 10:=by omega
   refine ⟨h4,?_⟩;have h5:=eq_of_beq h3;have h6:∀ i:Nat,i < 10->([48,49,50,51,52,53,54,55,56,57].drop i).take 1 = [48 + i]:=by decide
   rw [h6 i h4] at h5;have h7:[48 + i] = [c]:=h5;injection h7 with h7
   omega
  ·rintro ⟨h4,rfl⟩;refine ⟨by omega,?_⟩;have h6:∀ i:Nat,i < 10->([48,49,50,51,52,53,54,55,56,57].drop i).take 1 = [48 + i]:=by decide
   rw [h6 i h4];exact beq_self_eq_true _
 rcases find_whole "0123456789" ⟨#[c]⟩ with ⟨h,hn⟩ | ⟨i,h,hi,_⟩
 ·rw [h,if_neg];intro hc;have hc:=isDig_iff.mp hc;exact hn (c - 48) ((key _).mpr ⟨by omega,by omega⟩)
 ·obtain ⟨h1,h2⟩:=(key i).mp hi;rw [h,if_pos (isDig_iff.mpr ⟨by omega,by omega⟩)];omega
theorem Qn (c:Nat):PySem.Txt.contains "0123456789" ⟨#[c]⟩ = oB c:=by
 rw [uA,Qx];cases h:oB c with
 | true =>
  have:=isDig_iff.mp h;rw [if_pos rfl];exact decide_eq_true (by omega)
 | false =>
  rw [if_neg Bool.false_ne_true];rfl
def pF (cs:List Nat):List Nat:=if cs.head? = some 45 then cs.drop 1 else cs
def nG (cs:List Nat):Bool:=decide (1<=cs.length) && decide (cs.length<=40) && !(decide (cs.head? = some 48) && decide (1 < cs.length)) && cs.all oB
def jK (cs:List Nat):Option Int:=if (!decide (cs = [45,48]) && nG (pF cs)) = true then some (if cs.head? = some 45 then -((digitsVal (pF cs):Nat):Int) else ((digitsVal (pF cs):Nat):Int)) else none
def Bf (x:Str):Str:=if x.cps.toList.head? = some 45 then PySem.Txt.slice x (some 1) none else x
theorem Kl (x:Str):(Bf x).cps.toList = pF x.cps.toList:=by
 unfold Bf pF;split
 ·exact Fi x
 ·rfl
theorem Qy (x:Str):(Bf x).length<=x.length:=by
 unfold Bf;split
 ·exact PySem.Txt.slice_le x _ _
 ·exact le_refl _
theorem nE:("-":Str).cps.toList = [45]:=by decide +kernel
theorem pU:("-0":Str).cps.toList = [45,48]:=by decide +kernel
theorem lQ (x:Str):PySem.Txt.slice x none (some 1) = "-" ↔ x.cps.toList.head? = some 45:=by
 have e:=Zx x;constructor
 ·intro h;rw [h,nE] at e;cases hx:x.cps.toList with
  | nil=>rw [hx] at e; cases e
  | cons c r=>rw [hx] at e; injection e with e1; rw [List.head?_cons,<- e1]
 ·intro h;apply fP;rw [e,nE];cases hx:x.cps.toList with
  | nil=>rw [hx] at h; cases h
  | cons c r=>rw [hx] at h; injection h with h1; rw [h1]; rfl
theorem vT (x:Str):x = "-0" ↔ x.cps.toList = [45,48]:=⟨fun h=>by rw [h,pU],fun h=>fP (by rw [h,pU])⟩
theorem Bh {cs:List Nat} (h:nG cs = true):1<=cs.length/\cs.length<=40/\AllDigits cs/\(cs.head? = some 48->cs.length = 1):=by
 simp only [nG,and_eq_true,decide_eq_true_eq,not_eq_true',and_eq_false_iff,decide_eq_false_iff_not,all_eq_true] at h;obtain ⟨⟨⟨h1,h2⟩,h3⟩,h4⟩:=h;exact ⟨h1,h2,fun c hc=>isDig_iff.mp (h4 c hc),fun e=>by rcases h3 with h3 | h3; exact absurd e h3; omega⟩
theorem vF {cs:List Nat} {n:Int} (h:jK cs = some n):nG (pF cs) = true/\cs ≠ [45,48]/\n = if cs.head? = some 45 then -((digitsVal (pF cs):Nat):Int) else ((digitsVal (pF cs):Nat):Int):=by
 unfold jK at h;split at h
 ·rename_i hc
  simp only [and_eq_true,not_eq_true',decide_eq_false_iff_not] at hc;cases h;exact ⟨hc.2,hc.1,rfl⟩
 ·cases h
theorem Vb {x:Str} {n:Int} (h:jK x.cps.toList = some n):x.length<=41/\PySem.intText? x = some n:=by
 obtain ⟨h1,h2,h3⟩:=vF h;obtain ⟨l1,l2,hd,_⟩:=Bh h1;have hl:=cZ x;unfold pF at l1 l2 hd h3;split at l1
 ·rename_i hc
  rw [if_pos hc] at l2 hd h3;cases hx:x.cps.toList with
  | nil=>rw [hx] at hc; cases hc
  | cons c r =>
   rw [hx] at hc l1 l2 hd h3 hl;injection hc with hc
   subst hc;have hlen:x.length<=41:=by
    rw [length_drop] at l2;omega
   refine ⟨hlen,?_⟩;rw [PySem.intText_neg hx (show AllDigits r from hd) (fun e=>by rw [e] at l1; exact absurd l1 (by decide)) (by omega),h3];rfl
 ·rename_i hc
  rw [if_neg hc] at l2 hd h3;refine ⟨by omega,?_⟩;rw [PySem.intText_digits hd (fun e=>by rw [e] at l1; exact absurd l1 (by decide)) (by omega),h3,if_neg hc]
theorem xL (a b:String):(Str.ofString (a ++ b)).cps.toList = (Str.ofString a).cps.toList ++ (Str.ofString b).cps.toList:=by
 rw [signs_ofString,signs_ofString,signs_ofString];simp
theorem aKe {cs:List Nat} (h:AllDigits cs):digitsVal cs < 10 ^ cs.length:=by
 have key:∀ (cs:List Nat) (a:Nat),AllDigits cs->cs.foldl (fun acc c=>acc * 10 + (c - 48)) a < (a + 1) * 10 ^ cs.length:=by
  intro cs
  induction cs with
  | nil=>intro a _; simp
  | cons c r ih =>
   intro a h;have hc:=h c (by simp);have h1:=ih (a * 10 + (c - 48)) fun d hd=>h d (by simp [hd]);rw [List.foldl_cons,length_cons,pow_succ];refine lt_of_lt_of_le h1 ?_;have e:(a + 1) * (10 ^ r.length * 10) = (a * 10 + 10) * 10 ^ r.length:=by
    rw [mul_comm (10 ^ r.length) 10,<- mul_assoc,add_mul a 1 10,one_mul]
   rw [e];exact mul_le_mul_right _ (by omega)
 have:=key cs 0 h;simpa [digitsVal] using this
theorem Jr {cs:List Nat} {n:Int} (h:jK cs = some n):n.natAbs < 10 ^ 40:=by
 obtain ⟨h1,h2,h3⟩:=vF h;obtain ⟨l1,l2,hd,hz⟩:=Bh h1;have h4:=aKe hd;have h5:(10:Nat) ^ (pF cs).length<=10 ^ 40:=pow_le_pow_right (by decide) l2;have h6:n.natAbs = digitsVal (pF cs):=by
  rw [h3]; split <;> omega
 omega
theorem Gm {i:Int} (h:i.natAbs < 10 ^ 50):i.natAbs.log2 < 1920:=by
 by_cases h0:i.natAbs = 0
 ·rw [h0]; decide
 ·exact (log2_lt h0).mpr (lt_of_lt_of_le h (by decide +kernel))
theorem lY {n:Int} (h:n.natAbs < 10 ^ 50):(Str.ofString (toString n)).length<=51:=by
 by_cases h0:0<=n
 ·have:=toString_length_le (k:=50) h0 (by decide) (by omega);omega
 ·rw [len_text_neg (by omega)];have:=toString_length_le (k:=50) (v:=0 - n) (by omega) (by decide) (by omega);omega
def kY (x:Str):Option (Int × Int) :=
 match jK (PySem.Txt.partition x "/").1.cps.toList with
 | none=>none
 | some t=>if (PySem.Txt.partition x "/").2.1 = Str.empty then some (t,1) else
  match jK (PySem.Txt.partition x "/").2.2.cps.toList with
  | none=>none
  | some b=>if b < 2\/Int.gcd t b ≠ 1 then none else some (t,b)
theorem gT:(Str.ofString "/").length = 1:=by decide +kernel
theorem Mg:(Str.ofString "/") ≠ Str.empty:=by decide +kernel
theorem sF (x:Str):(PySem.Txt.partition x "/").2.1 = Str.empty ↔ PySem.Txt.contains x "/" = false:=by
 constructor
 ·intro h;cases hc:PySem.Txt.contains x "/" with
  | false=>rfl
  | true=>exact absurd ((Uv hc).symm.trans h) Mg
 ·intro h;rw [sD h]
theorem sE (x y:Str):(PySem.Txt.partition x y).1.length<=x.length/\(PySem.Txt.partition x y).2.1.length<=x.length/\(PySem.Txt.partition x y).2.2.length<=x.length:=fact_partition x y
theorem rD {x:Str} (hc:PySem.Txt.contains x "/" = false):kY x = (jK x.cps.toList).map (fun t=>(t,1)):=by
 unfold kY;rw [sD hc];cases jK x.cps.toList with
 | none=>rfl
 | some t=>simp
theorem uJ {x:Str} (hc:PySem.Txt.contains x "/" = true) {t b:Int} (h1:jK (PySem.Txt.partition x "/").1.cps.toList = some t) (h2:jK (PySem.Txt.partition x "/").2.2.cps.toList = some b) :
  kY x = if b < 2\/Int.gcd t b ≠ 1 then none else some (t,b):=by
 unfold kY;rw [h1,h2];simp only;rw [if_neg fun z=>by rw [(sF x).mp z] at hc; cases hc]
theorem Lg {x:Str} (h1:jK (PySem.Txt.partition x "/").1.cps.toList = none):kY x = none:=by
 unfold kY;rw [h1]
theorem Lf {x:Str} (hc:PySem.Txt.contains x "/" = true) (h2:jK (PySem.Txt.partition x "/").2.2.cps.toList = none):kY x = none:=by
 unfold kY;split
 ·rfl
 ·rw [h2];simp only;rw [if_neg fun z=>by rw [(sF x).mp z] at hc; cases hc]
theorem Vk {t b:Int} (hb:2<=b):((divInt t b).num = t/\((divInt t b).den:Int) = b) ↔ Int.gcd t b = 1:=by
 obtain ⟨e1,e2⟩:=Fm.fr_pos (t:=t) (b:=b) (by omega);rw [<- e1,<- e2];constructor
 ·rintro ⟨_,h⟩;have hd:((Int.gcd t b:Nat):Int) ∣ b:=Int.gcd_dvd_right ..;have hm:=Int.mul_ediv_cancel' hd;rw [h] at hm;have h1:((Int.gcd t b:Nat):Int) * b = 1 * b:=by rw [hm,Int.one_mul]
  have h2:=Int.eq_of_mul_eq_mul_right (by omega) h1;omega
 ·intro h;rw [h];simp
open PySem.StrLaws (At ChainG partsFrom occ_tight partsBetween_eq)
open PySem.Builtin.Str (occurrences partsBetween strSub subAt)
theorem nS (x:Str) (i j:Nat):(strSub x i j).cps.toList = (x.cps.toList.drop i).take (j - i):=StrLaws.strSub_toList x i j
theorem Eh (x y:Str) (i:Nat):At x y x.length i ↔ i + y.length<=x.length/\(x.cps.toList.drop i).take y.length = y.cps.toList:=by
 unfold StrLaws.At;rw [StrLaws.subAt_eq];exact ⟨fun h=>⟨h.1,eq_of_beq h.2⟩,fun h=>⟨h.1,beq_iff_eq.mpr h.2⟩⟩
structure Sp1 (y:Str) (c:Nat) (pre post:List Nat):Prop where
 is:y.cps.toList = pre ++ c :: post
 no:c ∉ pre
theorem Sp1.len {y:Str} {c:Nat} {pre post:List Nat} (s:Sp1 y c pre post):y.length = pre.length + 1 + post.length:=by
 rw [<- cZ,s.is,length_append,length_cons]; omega
theorem Be {x y:Str} {c:Nat} {pre post u v:List Nat} {a:Nat} (s:Sp1 y c pre post) (hx:x.cps.toList.drop a = u ++ y.cps.toList ++ v) (ha:a<=x.length) (hu:c ∉ u) :
  At x y x.length (a + u.length)/\∀ k,a<=k->k < a + u.length->¬ At x y x.length k:=by
 have hl:=cZ x;have hly:=cZ y;have hlen:x.length - a = u.length + y.length + v.length:=by
  have:=congrArg length hx;simp only [length_drop,length_append] at this;omega
 refine ⟨(Eh x y _).mpr ⟨by omega,?_⟩,fun k h1 h2 h3=>?_⟩
 ·rw [<- drop_drop,hx,append_assoc,drop_left,List.take_append_of_le_length (by omega),take_of_length_le (by omega)]
 ·obtain ⟨h4,h5⟩:=(Eh x y k).mp h3;obtain ⟨j,rfl⟩:∃ j,k = a + j:=⟨k - a,by omega⟩;rw [<- drop_drop,hx] at h5;have e1:(take y.length (List.drop j (u ++ y.cps.toList ++ v)))[pre.length]? = some c:=by
   rw [h5,s.is,getElem?_append_right (le_refl _),sub_self]; rfl
  rw [getElem?_take_of_lt (by rw [s.len]; omega),List.getElem?_drop,append_assoc] at e1;by_cases h6:j + pre.length < u.length
  ·rw [getElem?_append_left h6] at e1;exact hu (mem_of_getElem? e1)
  ·rw [getElem?_append_right (by omega),s.is,append_assoc,getElem?_append_left (by omega)] at e1;exact s.no (mem_of_getElem? e1)
theorem Vd {x y:Str} {c:Nat} {pre post:List Nat} {a:Nat} (s:Sp1 y c pre post) (hu:c ∉ x.cps.toList.drop a):∀ k,a<=k->¬ At x y x.length k:=fun k h1 h3=>by
 obtain ⟨h4,h5⟩:=(Eh x y k).mp h3;obtain ⟨j,rfl⟩:∃ j,k = a + j:=⟨k - a,by omega⟩;rw [<- drop_drop] at h5;have e1:(take y.length (List.drop j (x.cps.toList.drop a)))[pre.length]? = some c:=by
  rw [h5,s.is,getElem?_append_right (le_refl _),sub_self]; rfl
 rw [getElem?_take_of_lt (by rw [s.len]; omega),List.getElem?_drop] at e1;exact hu (mem_of_getElem? e1)
def qA (y:List Nat):List (List Nat)->List Nat
 | []=>[]
 | [w]=>w
 | w :: r=>w ++ y ++ qA y r
theorem iE (y w z:List Nat) (r:List (List Nat)):qA y (w :: z :: r) = w ++ y ++ qA y (z :: r):=rfl
theorem gC (y:Str):∀ ws:List Str,(Txt.join y ws).cps.toList = qA y.cps.toList (ws.map fun w=>w.cps.toList):=by
 intro ws;show (Builtin.Str.glued y ws).cps.toList = _;rw [StrLaws.glued_eq_join]
 induction ws with
 | nil=>rfl
 | cons w r ih =>
  cases r with
  | nil=>rfl
  | cons z r =>
   show (w ++ y ++ Str.join y (z :: r)).cps.toList = _;rw [map_cons,map_cons,iE,<- map_cons (f:=fun w:Str=>w.cps.toList),<- ih];simp only [Str.cps_append,toList_append]
theorem zM {x y:Str} {c:Nat} {pre post:List Nat} (s:Sp1 y c pre post):∀ (ws:List (List Nat)) (a f:Nat) (cuts:List Nat),ws ≠ []->a<=x.length->x.cps.toList.drop a = qA y.cps.toList ws->(∀ w∈ws,c ∉ w) ->
  ChainG x y x.length a cuts f->(∀ k,f<=k->¬ At x y x.length k)->(partsFrom x y.length a cuts).map (fun p=>p.cps.toList) = ws
 | [],_,_,_,h,_,_,_,_,_=>absurd rfl h
 | [w],a,f,cuts,_,ha,hx,hw,hc,hn=>by
  have no:=Vd s (a:=a) (by rw [hx]; exact hw w (by simp));cases cuts with
  | nil =>
   show [(strSub x a x.length).cps.toList] = [w];have hl:=cZ x;rw [nS,take_of_length_le (by rw [length_drop]; omega),hx];rfl
  | cons d r=>exact absurd hc.2.1 (no d hc.1)
 | w :: z :: r,a,f,cuts,_,ha,hx,hw,hc,hn=>by
  rw [iE] at hx;obtain ⟨h1,h2⟩:=Be s hx ha (hw w (by simp));have hl:=cZ x;have hly:=cZ y;have hlen:x.length - a = w.length + y.length + (qA y.cps.toList (z :: r)).length:=by
   have:=congrArg length hx;simp only [length_drop,length_append] at this;omega
  cases cuts with
  | nil =>
   have e:f = a:=hc;exact absurd h1 (hn _ (by omega))
  | cons d q =>
   obtain ⟨c1,c2,c3,c4⟩:=hc;have e:d = a + w.length:=by
    rcases Nat.lt_trichotomy d (a + w.length) with z1 | z1 | z1
    ·exact absurd c2 (h2 d c1 z1)
    ·exact z1
    ·exact absurd h1 (c3 _ (by omega) z1)
   subst e;show (strSub x a (a + w.length)).cps.toList :: (partsFrom x y.length (a + w.length + y.length) q).map (fun p=>p.cps.toList) = _;rw [nS,hx,show a + w.length - a = w.length by omega,append_assoc,List.take_left]
   congr 1
   refine zM s (z :: r) _ f q (by simp) (by omega) ?_ (fun u hu=>hw u (mem_cons_of_mem _ hu)) c4 hn;have e3:x.cps.toList.drop (a + w.length + y.length) = List.drop (w.length + y.length) (x.cps.toList.drop a):=by
    rw [drop_drop]; congr 1; omega
   rw [e3,hx,append_assoc,<- drop_drop,drop_left,<- hly,drop_left]
theorem Md {x y:Str} (hy:1<=y.length) (hk:Builtin.Str.strKind y<=Builtin.Str.strKind x):Txt.split x y = partsFrom x y.length 0 (occurrences x y 0 x.length (x.length + 1)):=by
 unfold PySem.Txt.split;by_cases h1:x.length < y.length
 ·rw [if_pos (by simp [h1])];obtain ⟨f,h2,_⟩:=occ_tight x y hy;cases e:occurrences x y 0 x.length (x.length + 1) with
  | nil =>
   show [x] = [strSub x 0 x.length];rw [StrLaws.sub_whole]
  | cons c r =>
   rw [e] at h2;have:=h2.2.1.1;omega
 ·rw [if_neg (by simp; omega)];split
  ·rename_i h2
   rw [List.isEmpty_iff.mp h2];show [x] = [strSub x 0 x.length];rw [StrLaws.sub_whole]
  ·exact partsBetween_eq x _ _
theorem Qi {y:Str} (h:∀ c∈y.cps.toList,c < 128) (x:Str):Builtin.Str.strKind y<=Builtin.Str.strKind x:=by
 have h1:Builtin.Str.strKind y = 1:=by
  unfold Builtin.Str.strKind;rw [if_pos];rw [<- Array.all_toList];exact all_eq_true.mpr fun c hc=>decide_eq_true (lt_trans (h c hc) (by decide))
 rw [h1];unfold Builtin.Str.strKind;split
 ·exact le_refl _
 ·split <;> decide
theorem mW {y:Str} {c:Nat} {pre post:List Nat} (s:Sp1 y c pre post) (hy:∀ d∈y.cps.toList,d < 128) {ws:List Str} (hne:ws ≠ []) (hw:∀ w∈ws,c ∉ w.cps.toList):Txt.split (Txt.join y ws) y = ws:=by
 have hyl:1<=y.length:=by rw [s.len]; omega
 rw [Md hyl (Qi hy _)];obtain ⟨f,h1,h2⟩:=occ_tight (Txt.join y ws) y hyl;have h:=zM s (ws.map fun w=>w.cps.toList) 0 f _ (by simpa using hne) (zero_le _) (by rw [drop_zero,gC]) (by simpa using hw) h1 h2;have inj:∀ (a b:List Str),a.map (fun w=>w.cps.toList) = b.map (fun w=>w.cps.toList)->a = b:=by
  intro a
  induction a with
  | nil=>intro b hb; cases b with | nil=>rfl | cons _ _=>simp at hb
  | cons w r ih =>
   intro b hb;cases b with
   | nil=>simp at hb
   | cons z q =>
    simp only [map_cons,List.cons.injEq] at hb;rw [fP hb.1,ih q hb.2]
 exact inj _ _ h
theorem qS {y:Str} {c:Nat} {pre post:List Nat} (s:Sp1 y c pre post) {a b:Str} (ha:c ∉ a.cps.toList):PySem.Txt.partition (a ++ y ++ b) y = (a,y,b):=by
 obtain ⟨x,hx⟩:∃ x,a ++ y ++ b = x:=⟨_,rfl⟩;have hxl:x.cps.toList = a.cps.toList ++ y.cps.toList ++ b.cps.toList:=by
  rw [<- hx]; simp only [Str.cps_append,toList_append]
 have hl:=cZ x;have la:=cZ a;have ly:=cZ y;obtain ⟨h1,h2⟩:=Be (a:=0) s (by rw [drop_zero]; exact hxl) (zero_le _) ha;rw [Nat.zero_add] at h1 h2;have hw:=find_whole x y;unfold PySem.Txt.find at hw;rw [hx];unfold PySem.Txt.partition;cases e:occurrences x y 0 x.length 1 with
 | nil =>
  rw [e] at hw;rcases hw with ⟨_,hn⟩ | ⟨i,hi,_⟩
  ·exact absurd h1 (hn _)
  ·simp at hi
 | cons i r =>
  rw [e] at hw;have hi:At x y x.length i/\∀ k,k < i->¬ At x y x.length k:=by
   rcases hw with ⟨z,_⟩ | ⟨j,hj,h3,h4⟩
   ·simp at z
   ·have:i = j:=by have:(i:Int) = (j:Int):=hj; omega
    subst this;exact ⟨h3,h4⟩
  have ei:i = a.cps.toList.length:=by
   rcases Nat.lt_trichotomy i a.cps.toList.length with z1 | z1 | z1
   ·exact absurd hi.1 (h2 i (zero_le _) z1)
   ·exact z1
   ·exact absurd h1 (hi.2 _ z1)
  subst ei;show (strSub x 0 a.cps.toList.length,y,strSub x (a.cps.toList.length + y.length) x.length) = (a,y,b);have e1:strSub x 0 a.cps.toList.length = a:=by
   apply fP;rw [nS,hxl,drop_zero,Nat.sub_zero,append_assoc,List.take_left]
  have e2:strSub x (a.cps.toList.length + y.length) x.length = b:=by
   apply fP;rw [nS,take_of_length_le (by rw [length_drop]; omega),hxl,append_assoc,<- drop_drop,drop_left,<- ly,drop_left]
  rw [e1,e2]
abbrev Sx:=(Int × Int) × (Int × Int) × Int
def mD (m:Sx):PyData:=.tuple [.tuple [.int m.1.1,.int m.1.2],.tuple [.int m.2.1.1,.int m.2.1.2],.int m.2.2]
def qO (t b:Int):Str:=if b = 1 then Str.ofString (toString t) else Str.ofString (toString t) ++ Str.ofString "/" ++ Str.ofString (toString b)
def Jf (m:Sx):Str:=qO m.1.1 m.1.2 ++ Str.ofString ":" ++ qO m.2.1.1 m.2.1.2 ++ Str.ofString "*" ++ Str.ofString (toString m.2.2)
def Sm7 (m:Sx):Prop:=m.1.1.natAbs < 10 ^ 50/\m.1.2.natAbs < 10 ^ 50/\m.2.1.1.natAbs < 10 ^ 50/\m.2.1.2.natAbs < 10 ^ 50/\m.2.2.natAbs < 10 ^ 50
theorem qN {t b:Int} (ht:t.natAbs < 10 ^ 50) (hb:b.natAbs < 10 ^ 50):(qO t b).length<=103:=by
 have l1:=lY ht;have l2:=lY hb;have sl:=gT;unfold qO;split
 ·omega
 ·rw [Str.length_append,Str.length_append]; omega
theorem pI:(Str.ofString ":").length = 1:=by decide +kernel
theorem rL:(Str.ofString "*").length = 1:=by decide +kernel
theorem fL:(Str.ofString " ").length = 1:=by decide +kernel
theorem wU {m:Sx} (h:Sm7 m):1<=(Jf m).length/\(Jf m).length<=259:=by
 have l1:=qN h.1 h.2.1;have l2:=qN h.2.2.1 h.2.2.2.1;have l3:=lY h.2.2.2.2;have:=pI;have:=rL;unfold Jf;rw [Str.length_append,Str.length_append,Str.length_append,Str.length_append];omega
def nV (x:Str):Option Sx :=
 match kY (PySem.Txt.partition x ":").1 with
 | none=>none
 | some a=>match kY (PySem.Txt.partition (PySem.Txt.partition x ":").2.2 "*").1 with
  | none=>none
  | some b=>match jK (PySem.Txt.partition (PySem.Txt.partition x ":").2.2 "*").2.2.cps.toList with
   | none=>none
   | some n=>if n < 1 then none else some (a,b,n)
structure Digs (k n:Nat) (cs:List Nat):Prop where
 al:AllDigits cs
 l1:1<=cs.length
 l2:cs.length<=k
 hd:cs.head? = some 48->cs.length = 1
 vl:digitsVal cs = n
theorem He (cs:List Nat) (c:Nat):digitsVal (cs ++ [c]) = digitsVal cs * 10 + (c - 48):=by
 unfold NumText.digitsVal;rw [List.foldl_append]; rfl
theorem yB:∀ (k n:Nat),n < 10 ^ (k + 1)->∃ cs,Digs (k + 1) n cs
 | 0,n,h=>⟨[48 + n],fun c hc=>by rw [mem_singleton.mp hc]; omega,by simp,by simp,fun _=>rfl,by have:=He [] (48 + n); rw [nil_append] at this; rw [this]; show 0 * 10 + _ = n; omega⟩
 | k + 1,n,h=>by
  by_cases h1:n < 10
  ·obtain ⟨cs,d⟩:=yB k n (by rw [pow_succ]; have:=pow_pos (n:=k) (show 0 < 10 by decide); omega);exact ⟨cs,d.al,d.l1,by have:=d.l2; omega,d.hd,d.vl⟩
  ·obtain ⟨cs,d⟩:=yB k (n / 10) (by rw [pow_succ] at h; omega);have l1:=d.l1;have l2:=d.l2;refine ⟨cs ++ [48 + n % 10],fun c hc=>?_,by simp,by simp; omega,fun e=>?_,?_⟩
   ·rcases mem_append.mp hc with z | z
    ·exact d.al c z
    ·rw [mem_singleton.mp z]; omega
   ·have e2:cs.head? = some 48:=by
     cases cs with
     | nil=>simp at l1
     | cons a r=>simpa using e
    have l3:=d.hd e2;obtain ⟨a,ha⟩:∃ a,cs = [a]:=List.length_eq_one_iff.mp l3;rw [ha] at e2;have ea:a = 48:=by simpa using e2
    have v:=d.vl;rw [ha,ea] at v;have:digitsVal [48] = 0:=rfl;omega
   ·rw [He,d.vl]; omega
theorem Wj {k n:Nat} {cs:List Nat} (d:Digs k n cs):(Str.ofString (toString ((n:Nat):Int))).cps.toList = cs:=by
 have key:∀ c:Nat,c < 58->(Char.ofNat c).toNat = c:=by decide
 have l1:=d.l1;rw [<- d.vl,W.KIN.signs_num,NumText.toDigits_digitsVal (cs.length - 1) cs (by omega) d.al ?_,map_map]
 ·refine (map_congr_left (g:=id) fun c hc=>?_).trans (List.map_id _);have:=d.al c hc;exact key c (by omega)
 ·cases cs with
  | nil=>exact absurd l1 (by decide)
  | cons c r =>
   by_cases hc:c = 48
   ·left;have:=d.hd (by rw [hc]; rfl);omega
   ·right;have:=d.al c (by simp);exact ⟨c,r,rfl,by omega⟩
theorem jQ {k:Nat} {n:Int} (h:n.natAbs < 10 ^ (k + 1)):∃ cs,Digs (k + 1) n.natAbs cs/\(Str.ofString (toString n)).cps.toList = if n < 0 then 45 :: cs else cs:=by
 obtain ⟨cs,d⟩:=yB k n.natAbs h;refine ⟨cs,d,?_⟩;have e:=Wj d;by_cases hn:n < 0
 ·rw [if_pos hn,toString_neg hn,xL];have e3:(0:Int) - n = ((n.natAbs:Nat):Int):=by omega
  rw [e3,e];show ("-":Str).cps.toList ++ cs = 45 :: cs;rw [nE]; rfl
 ·rw [if_neg hn];have e3:n = ((n.natAbs:Nat):Int):=by omega
  rw [e3];exact e
theorem xM {n:Int} (h:n.natAbs < 10 ^ 40):jK (Str.ofString (toString n)).cps.toList = some n:=by
 obtain ⟨cs,d,e⟩:=jQ (k:=39) h;have l1:=d.l1;have l2:=d.l2;have fb:nG cs = true:=by
  unfold nG;rw [decide_eq_true l1,decide_eq_true (show cs.length<=40 by omega)];have e2:(decide (cs.head? = some 48) && decide (1 < cs.length)) = false:=by
   rw [and_eq_false_iff];by_cases h0:cs.head? = some 48
   ·right; exact decide_eq_false (by have:=d.hd h0; omega)
   ·left; exact decide_eq_false h0
  rw [e2];simp only [Bool.not_false,Bool.and_true,Bool.true_and,all_eq_true];exact fun c hc=>isDig_iff.mpr (d.al c hc)
 have hv:=d.vl;have h45:cs.head? ≠ some 45:=fun z=>by
  cases cs with
  | nil=>simp at z
  | cons a r =>
   have:=d.al a (by simp);have:a = 45:=by simpa using z
   omega
 rw [e];unfold jK;by_cases hn:n < 0
 ·rw [if_pos hn];have ef:pF (45 :: cs) = cs:=rfl;rw [ef,fb];have ne:(45 :: cs) ≠ [45,48]:=fun z=>by
   have:cs = [48]:=by simpa using z
   rw [this] at hv;have:digitsVal [48] = 0:=rfl;omega
  rw [decide_eq_false ne];simp only [Bool.not_false,Bool.and_true,if_true,List.head?_cons,hv]
  congr 1; omega
 ·rw [if_neg hn];have ef:pF cs = cs:=if_neg h45;rw [ef,fb];have ne:cs ≠ [45,48]:=fun z=>by rw [z] at h45; exact h45 rfl
  rw [decide_eq_false ne,if_neg h45];simp only [Bool.not_false,Bool.and_true,if_true,hv]
  congr 1; omega
def Gi (c:Nat):Prop:=c = 45\/(48<=c/\c<=57)
theorem oY {n:Int} {k:Nat} (h:n.natAbs < 10 ^ (k + 1)):∀ c∈(Str.ofString (toString n)).cps.toList,Gi c:=by
 obtain ⟨cs,d,e⟩:=jQ h;rw [e];intro c hc;split at hc
 ·rcases mem_cons.mp hc with z | z
  ·exact .inl z
  ·exact .inr (d.al c z)
 ·exact .inr (d.al c hc)
theorem mX:(Str.ofString "/").cps.toList = [47]:=by decide +kernel
theorem tK:(Str.ofString ":").cps.toList = [58]:=by decide +kernel
theorem uR:(Str.ofString "*").cps.toList = [42]:=by decide +kernel
theorem gX:(Str.ofString " ").cps.toList = [32]:=by decide +kernel
theorem Cb:(Str.ofString " | ").cps.toList = [32,124,32]:=by decide +kernel
theorem zN:Sp1 (Str.ofString "/") 47 [] []:=⟨mX,by simp⟩
theorem Me:Sp1 (Str.ofString ":") 58 [] []:=⟨tK,by simp⟩
theorem Ub:Sp1 (Str.ofString "*") 42 [] []:=⟨uR,by simp⟩
theorem zO:Sp1 (Str.ofString " ") 32 [] []:=⟨gX,by simp⟩
theorem Zw:Sp1 (Str.ofString " | ") 124 [32] [32]:=⟨Cb,by decide⟩
theorem eJ (a b:Str):(a ++ b).cps.toList = a.cps.toList ++ b.cps.toList:=by simp only [Str.cps_append,toList_append]
theorem rN {t b:Int} {k:Nat} (ht:t.natAbs < 10 ^ (k + 1)) (hb:b.natAbs < 10 ^ (k + 1)):∀ c∈(qO t b).cps.toList,Gi c\/c = 47:=by
 intro c hc;unfold qO at hc;split at hc
 ·exact .inl (oY ht c hc)
 ·rw [eJ,eJ,mX] at hc;simp only [mem_append,mem_singleton] at hc;rcases hc with (z | z) | z
  ·exact .inl (oY ht c z)
  ·exact .inr z
  ·exact .inl (oY hb c z)
theorem Zz {m:Sx} (h:Sm7 m):∀ c∈(Jf m).cps.toList,Gi c\/c = 47\/c = 58\/c = 42:=by
 intro c hc;unfold Jf at hc;rw [eJ,eJ,eJ,eJ,tK,uR] at hc;simp only [mem_append,mem_singleton] at hc;rcases hc with (((z | z) | z) | z) | z
 ·rcases rN (k:=49) h.1 h.2.1 c z with y | y
  ·exact .inl y
  ·exact .inr (.inl y)
 ·exact .inr (.inr (.inl z))
 ·rcases rN (k:=49) h.2.2.1 h.2.2.2.1 c z with y | y
  ·exact .inl y
  ·exact .inr (.inl y)
 ·exact .inr (.inr (.inr z))
 ·exact .inl (oY (k:=49) h.2.2.2.2 c z)
theorem hU {x:Str} {c:Nat} {y:Str} (hy:y = ⟨#[c]⟩):PySem.Txt.contains x y = decide (c∈x.cps.toList):=by
 rw [hy]; exact StrLaws.found_one x c
theorem rM:(Str.ofString "/") = ⟨#[47]⟩:=by decide +kernel
theorem Ch {t b:Int} (ht:t.natAbs < 10 ^ 40) (hb:b.natAbs < 10 ^ 40) (h1:1<=b) (hg:Int.gcd t b = 1):kY (qO t b) = some (t,b):=by
 have sg:=oY (k:=39) ht;have no:47 ∉ (Str.ofString (toString t)).cps.toList:=fun z=>by
  rcases sg 47 z with y | y
  ·exact absurd y (by decide)
  ·omega
 unfold qO;by_cases e:b = 1
 ·rw [if_pos e,rD (by rw [hU rM]; exact decide_eq_false no),xM ht,e]; rfl
 ·rw [if_neg e];have hp:=qS zN (b:=Str.ofString (toString b)) no;have hc:PySem.Txt.contains (Str.ofString (toString t) ++ Str.ofString "/" ++ Str.ofString (toString b)) "/" = true:=by
   refine (hU (x:=Str.ofString (toString t) ++ Str.ofString "/" ++ Str.ofString (toString b)) rM).trans (decide_eq_true ?_);rw [eJ,eJ,mX]; simp
  rw [uJ hc (t:=t) (b:=b) (by rw [hp]; exact xM ht) (by rw [hp]; exact xM hb),if_neg];rintro (z | z)
  ·omega
  ·exact z hg
structure Lw7 (m:Sx):Prop where
 a:m.1.1.natAbs < 10 ^ 40
 b:m.1.2.natAbs < 10 ^ 40
 c:m.2.1.1.natAbs < 10 ^ 40
 d:m.2.1.2.natAbs < 10 ^ 40
 e:m.2.2.natAbs < 10 ^ 40
 b1:1<=m.1.2
 d1:1<=m.2.1.2
 e1:1<=m.2.2
 g1:Int.gcd m.1.1 m.1.2 = 1
 g2:Int.gcd m.2.1.1 m.2.1.2 = 1
theorem Lw7.sm {m:Sx} (h:Lw7 m):Sm7 m:=⟨lt_trans h.a (by decide),lt_trans h.b (by decide),lt_trans h.c (by decide),lt_trans h.d (by decide),lt_trans h.e (by decide)⟩
theorem Ua {m:Sx} (h:Lw7 m):nV (Jf m) = some m:=by
 have n1:58 ∉ (qO m.1.1 m.1.2).cps.toList:=fun z=>by
  rcases rN (k:=39) h.a h.b 58 z with (y | y) | y
  ·exact absurd y (by decide)
  ·omega
  ·exact absurd y (by decide)
 have n2:42 ∉ (qO m.2.1.1 m.2.1.2).cps.toList:=fun z=>by
  rcases rN (k:=39) h.c h.d 42 z with (y | y) | y
  ·exact absurd y (by decide)
  ·omega
  ·exact absurd y (by decide)
 have e0:Jf m = qO m.1.1 m.1.2 ++ Str.ofString ":" ++ (qO m.2.1.1 m.2.1.2 ++ Str.ofString "*" ++ Str.ofString (toString m.2.2)):=by
  apply fP;unfold Jf;simp only [eJ,append_assoc]
 have p1:=qS Me (b:=qO m.2.1.1 m.2.1.2 ++ Str.ofString "*" ++ Str.ofString (toString m.2.2)) n1;have p2:=qS Ub (b:=Str.ofString (toString m.2.2)) n2;have p1':PySem.Txt.partition (Jf m) ":" = (qO m.1.1 m.1.2,(":":Str),qO m.2.1.1 m.2.1.2 ++ Str.ofString "*" ++ Str.ofString (toString m.2.2)):=by rw [e0]; exact p1
 have p2':PySem.Txt.partition (qO m.2.1.1 m.2.1.2 ++ Str.ofString "*" ++ Str.ofString (toString m.2.2)) "*" = (qO m.2.1.1 m.2.1.2,("*":Str),Str.ofString (toString m.2.2)):=p2;unfold nV;rw [p1',p2'];dsimp only;rw [Ch h.a h.b h.b1 h.g1,Ch h.c h.d h.d1 h.g2,xM h.e];dsimp only;rw [if_neg (by have:=h.e1; omega)]
def aHk (C:Addr):DW:=fun ds Q X=>∃ d,ds = [d]/\((∃ x,d = .str x)->Q (.dat .none))/\((∀ x,d ≠ .str x)->X C)
theorem Po (T:Txt K mg A):FnOk P w K mg base (eP P w) 1 A.a_qc1 A.d_qc1 ["text"] (fC K (aHk A.x_NoText)):=by
 refine gE T.F_qc1.F aAr (by walk_at "l") fun cdv Ar outer s H E hr=>?_;refine ⟨_,(aH (bK (kH (eL (bB (Gs (K:=K) rfl) rfl T.n_isinstance hV (aA (pv 0) (aA (qR rfl T.n_str yJ (show RelV (.ty "str") (.type "str") from rfl)) aD))))) (aH (cU T.x_NoText hr.hd bX rfl (aA bF aD))) aW)),_,(bP (jZ (jF (aB (xY (by decide) (aE 0))))) (cT (aQ bG bE) (by decide)) aZ),?_⟩;rintro ds Q X ⟨d,rfl,k1,k2⟩;cases d with
 | str x =>
  walk_at "d";exact k1 ⟨x,rfl⟩
 | _ =>
  walk_at "d";exact k2 (fun x e=>nomatch e)
def aHj:DW:=fun ds Q _=>∃ x:Str,ds = [.str x]/\x.length<=100000/\Q (.dat (.bool (nG x.cps.toList)))
theorem aDk (T:Txt K mg A):FnOk P w K mg base (eP P w) 1 A.a_qd1 A.d_qd1 ["text"] (fC K aHj):=by
 refine gE T.F_qd1.F aAq (by walk_at "l") fun cdv Ar outer s H E hr=>?_
 refine ⟨_,(aF (bK (PW.pt (gA (aT cP (bB fK rfl T.n_len boot_len (aA (pv 0) aD)) aP (aX _)) (fU (aT jP (bB fK rfl T.n_len boot_len (aA (pv 0) aD)) (fH rfl T.c_MOST_FIGURES.choose_spec (show RelV (.int 40) _ from ⟨_,rfl⟩)) (aX _))))) (aH (aV gG)) aW)
   (aF (bK (PW.pt (mY (aT cP (gB aEi (pv 0) aP (fun _ _=>rfl)) bF (aX _)) (kG (aT jP (bB fK rfl T.n_len boot_len (aA (pv 0) aD)) aP (aX _))))) (aH (aV gG)) aW)
   (aH (aV (bB (aLg (K:=K) rfl rfl) rfl T.n_all Dl.boot_all (aA (fA (cap:=[none]) (NC:=["sign"]) rfl (qE rfl) (Cw (pv 0)) (fun _ _ _ _=>(kI 0 ["sign"])) (fun _ _ _ _=>cC) (fun _ _ _ _=>(iK vD (pv 0) (fH rfl T.c_FIGURES.choose_spec (show RelV (.str "0123456789") _ from ⟨_,rfl⟩)) rfl))) aD)))))),_,(aJ (bP (fZ (aU (aB (aN cN (aB (bT mF (aC (aE 0) aG))) (aB aK)))) (aU (aB (aN eW (aB (bT mF (aC (aE 0) aG))) (aB aK))))) (bI (aB gN)) aZ)
   (aJ (bP (mS (aU (aB (aN cN (aB (aN aBt (aE 0) (aB aK))) (aB bG)))) (aU (aB (aN eW (aB (bT mF (aC (aE 0) aG))) (aB aK))))) (bI (aB gN)) aZ)
   (bI (aB (bT Os (aC (aB (eI (dW (IvS.e (Dw (aL 0))) (aI 0) cM (aN Om (aE 0) (aB bG)) (by decide) (by decide)))) aG)))))),?_⟩
 rintro ds Q X ⟨x,rfl,hx,k⟩;have hl:=cZ x;walk_at "s";refine ⟨hx,bU (fun c=>?_) (fun c=>?_)⟩
 ·have e:nG x.cps.toList = false:=by
   unfold nG;rw [decide_eq_false (show ¬ 1<=x.cps.toList.length by omega)]; rfl
  rw [e] at k;exact k
 refine ⟨hx,bU (fun c2=>?_) (fun c2=>?_)⟩
 ·have e:nG x.cps.toList = false:=by
   unfold nG;rw [decide_eq_false (show ¬ x.cps.toList.length<=40 by omega)];simp
  rw [e] at k;exact k
 obtain ⟨c0,r,hxr⟩:∃ c0 r,x.cps.toList = c0 :: r:=by
  cases h:x.cps.toList with
  | nil=>rw [h] at hl; simp at hl; omega
  | cons c0 r=>exact ⟨c0,r,rfl⟩
 walk_at "s";refine ⟨hx,c0,?_,?_⟩
 ·rw [hxr]; exact fS (j:=0) rfl
 have ez:((⟨#[c0]⟩:Str) = "0") ↔ c0 = 48:=by
  constructor
  ·intro h;have h2:=congrArg (fun z:Str=>z.cps.toList) h;have h3:("0":Str).cps.toList = [48]:=by decide +kernel
   rw [h3] at h2;injection h2
  ·rintro rfl;apply fP;decide +kernel
 rw [hxr] at hl k;have fin:¬ (c0 = 48/\1 < x.length)->dLC (aFl (Wm 0)) [none] (Dx 0) aFb (dOp Va (Hx 0) (dC (PyData.str (Str.ofString "0123456789")))) X
     [some (Sl.dat (PyData.str x))] (fun ds=>∃ ks,ds = List.map PyData.bool ks/\Q (Sl.dat (PyData.bool (ks.all id)))):=by
  intro hn
  refine cL sgD PyData.bool (fun c=>[oB c]) x.cps.toList (by rw [hxr]; omega) (fun Q h=>by
   walk_at "d"
   exact h) (fun c hc N acc hN=>?_) ?_
  ·unfold sgD;walk_at "d";rw [Qn];exact hN
  refine ⟨x.cps.toList.flatMap fun c=>[oB c],rfl,?_⟩;have e:nG (c0 :: r) = (x.cps.toList.flatMap fun c=>[oB c]).all id:=by
   rw [hxr,bH,List.all_map];unfold nG;rw [decide_eq_true (show 1<=(c0 :: r).length by simp),decide_eq_true (show (c0 :: r).length<=40 by omega)];have e2:(decide ((c0 :: r).head? = some 48) && decide (1 < (c0 :: r).length)) = false:=by
    rw [and_eq_false_iff];by_cases h:c0 = 48
    ·right; exact decide_eq_false fun z=>hn ⟨h,by omega⟩
    ·left; exact decide_eq_false fun z=>h (by injection z)
   rw [e2];rfl
  rw [e] at k;exact k
 refine bU (fun c3=>?_) (fun c3=>fin fun z=>c3 (ez.mpr z.1));refine ⟨hx,bU (fun c4=>?_) (fun c4=>fin fun z=>c4 (by omega))⟩;have e:nG (c0 :: r) = false:=by
  unfold nG;rw [decide_eq_true (show (c0 :: r).head? = some 48 by rw [ez.mp c3]; rfl),decide_eq_true (show 1 < (c0 :: r).length by omega)];simp
 rw [e] at k;exact k
def Yv (C:Addr):DW:=fun ds Q X=>∃ x:Str,ds = [.str x]/\x.length<=100000/\(∀ n,jK x.cps.toList = some n->Q (.dat (.int n)))/\(jK x.cps.toList = none->X C)
theorem xI (T:Txt K mg A):FnOk P w K mg base (eP P w) 2 A.a_qe1 A.d_qe1 ["text"] (fC K (Yv A.x_NoText)):=by
 refine gE T.F_qe1.F Mo (by walk_at "l") fun cdv Ar outer s H E hr=>?_
 refine ⟨_,(aF (cY 1 Mo (sC (aT cP (iC wT (pv 0) jB (jA aP)) bF (aX _)) (iC wT (pv 0) (jA aP) jB) (pv 0)))
   (aF (bK (PW.pt (gA (aT cP (pv 0) bF (aX _)) (fU (kH (eL (cG (aDk T) hr T.F_qd1 aO (aA (pv 1) aD))))))) (aH (cU T.x_NoText hr.hd bX rfl (aA bF aD))) aW)
   (aH (aV (dS pK rfl T.n_int yK (aA (pv 0) aD)))))),_,(rK (bD (Rc (aU (aB (aN cN (aB (xX (aE 0) pQ (jC (aB aK)))) (aB bG)))) (xX (aE 0) (jC (aB aK)) pQ) (aL 0)) (aI 1))
   (aJ (bP (fZ (aU (aB (aN cN (aE 0) (aB bG)))) (jZ (jF (aB (aM (aC (aE 1) aG)))))) (cT (aQ bG bE) (by decide)) aZ)
   (bI (aB (bT xA (aC (aE 0) aG)))))),?_⟩
 rintro ds Q X ⟨x,rfl,hx,k1,k2⟩;refine tJ (fun δ=>δ = [some (.dat (.str x)),some (.dat (.str (Bf x)))]) ?_ ?_
 ·walk_at "d";refine ⟨hx,bU (fun c=>⟨hx,?_⟩) (fun c=>?_)⟩
  ·unfold Bf;rw [if_pos ((lQ x).mp c)]
  ·unfold Bf;rw [if_neg fun z=>c ((lQ x).mpr z)]
 rintro δ rfl;refine cK ?_;walk_at "d";have hfl:=Qy x;refine bU (fun c=>?_) (fun c=>?_)
 ·refine k2 ?_;unfold jK;rw [decide_eq_true ((vT x).mp c)];rfl
 refine ⟨Bf x,rfl,by omega,?_⟩;walk_at "d";rw [Kl];refine bU (fun c2=>?_) (fun c2=>?_)
 ·refine k2 ?_;unfold jK;rw [c2];simp
 have hs:∃ n,jK x.cps.toList = some n:=by
  unfold jK;rw [if_pos]
  ·exact ⟨_,rfl⟩
  ·rw [decide_eq_false fun z=>c ((vT x).mpr z)];simpa using c2
 obtain ⟨n,hn⟩:=hs;obtain ⟨hl,hi⟩:=Vb hn;walk_at "d";exact ⟨by omega,n,hi,k1 n hn⟩
def aHb (C:Addr):DW:=fun ds Q X=>(∃ x:Str,ds = [.str x]/\x.length<=100000/\(∀ t b,kY x = some (t,b)->Q (.dat (.tuple [.int t,.int b])))/\(kY x = none->X C))\/(∃ d,ds = [d]/\(∀ x,d ≠ .str x)/\X C)
theorem Df (T:Txt K mg A):FnOk P w K mg base (eP P w) 3 A.a_qf1 A.d_qf1 ["text"] (fC K (aHb A.x_NoText)):=by
 refine gE T.F_qf1.F wW (fun ds Q E h=>?_) (fun cdv Ar outer s H E hr=>?_)
 ·rcases h with ⟨_,rfl,_⟩ | ⟨_,rfl,_⟩ <;> rfl
 refine ⟨_,(aF (eG (cG (Po T) hr T.F_qc1 bX (aA (pv 0) aD)))
   (aF (bK (aT nY bF (pv 0) rfl) (aH (aV (cA (aA (cG (xI T) hr T.F_qe1 bX (aA (pv 0) aD)) (aA aP aD))))) aW)
   (aF (cY 1 wW (fB F.plainAttrs_str F.slot_str_partition F.type_str_partition iL (pv 0) (aA bF aD)))
   (aF (cY 2 wW (cG (xI T) hr T.F_qe1 bX (aA (cR (K:=K) rfl (pv 1)) aD)))
   (aF (cY 3 wW (cG (xI T) hr T.F_qe1 bX (aA (cR (K:=K) rfl (pv 1)) aD)))
   (aF (bK (PW.pt (gA (aT lJ (pv 3) aP (aX _)) (fU (aT (Pt (K:=K) rfl hr.units) (cG (Gg T) hr T.F_qb aO (aA (pv 2) (aA (pv 3) aD))) (cA (aA (pv 2) (aA (pv 3) aD))) (aX _))))) (aH (cU T.x_NoText hr.hd bX rfl (aA bF aD))) aW)
   (aH (aV (cA (aA (pv 2) (aA (pv 3) aD))))))))))),_,(aJ (mC (aB (hG (aC (aE 0) aG))))
   (aJ (bP (aU (aB (aN uT (aB bG) (aE 0)))) (bI (aB (cI (aQ (hG (aC (aE 0) aG)) (aQ aK bE)) (by decide)))) aZ)
   (aJ (bD (oG (aE 0) (aB bG)) (aI 1))
   (aJ (bD (hG (aC (aB (aS 0 (aL 1))) aG)) (aI 2))
   (aJ (bD (hG (aC (aB (aS 2 (aL 1))) aG)) (aI 3))
   (aJ (bP (fZ (aU (aB (aN eW (aE 3) (aB aK)))) (aU (aB (aN iT (aB (aM (aC (aE 2) (aC (aE 3) aG)))) (aB (cI (aQ (aL 2) (aQ (aL 3) bE)) (by decide))))))) (cT (aQ bG bE) (by decide)) aZ)
   (bI (aB (cI (aQ (aL 2) (aQ (aL 3) bE)) (by decide)))))))))),?_⟩
 rintro ds Q X (⟨x,rfl,hx,k1,k2⟩ | ⟨d,rfl,hd,k⟩)
 ·walk_at "s";refine ⟨.str x,rfl,fun _=>?_,fun z=>absurd rfl (z x)⟩;walk_at "s";refine bU (fun c=>?_) (fun c=>?_)
  ·have e:=rD c;refine ⟨x,rfl,hx,fun n hn=>?_,fun hn=>k2 (by rw [e,hn]; rfl)⟩;walk_at "d";exact k1 n 1 (by rw [e,hn]; rfl)
  have hc:PySem.Txt.contains x "/" = true:=by simpa using c
  obtain ⟨l1,_,l3⟩:=sE x "/";walk_at "s";refine ⟨hx,by rw [gT]; rfl,?_⟩;walk_at "s";refine ⟨_,rfl,by omega,fun t ht=>?_,fun hn=>k2 (Lg hn)⟩;walk_at "s";refine ⟨_,rfl,by omega,fun b hb=>?_,fun hn=>k2 (Lf hc hn)⟩;have e:=uJ hc ht hb;have hbs:=Jr hb;walk_at "s";refine bU (fun c2=>k2 (by rw [e,if_pos (.inl c2)])) (fun c2=>?_);walk_at "d";refine ⟨t,b,rfl,fM (n:=10 ^ 40) (by omega) (by decide +kernel),fun z=>absurd z (by omega),fun _=>?_⟩;walk_at "d";refine ⟨Int × Int,eT2 aKd aKd (by decide) (by decide),((divInt t b).num,((divInt t b).den:Int)),(t,b),rfl,rfl,fun v hv=>?_⟩;have hv2:v = true ↔ Int.gcd t b = 1:=by
   rw [hv,Prod.mk.injEq,Vk (by omega)]
  walk_at "d";cases v with
  | true =>
   rw [if_neg (by simp)];walk_at "d";exact k1 t b (by rw [e,if_neg (by rintro (z | z); omega; exact z (hv2.mp rfl))])
  | false =>
   rw [if_pos rfl];exact k2 (by rw [e,if_pos (.inr fun z=>nomatch hv2.mpr z)])
 ·walk_at "s";exact ⟨d,rfl,fun ⟨x,e⟩=>absurd e (hd x),fun _=>k⟩
def gP (ms:List Mk) (p:Rat):Nat:=(ms.flatMap fun m=>if m.1 < p then [m] else []).length
def Zp:DW:=fun ds Q _=>∃ (ms:List Mk) (p:Rat),ds = [.list (ms.map dP),fr p]/\(∀ m∈ms,Ok m.1)/\Ok p/\ms.length<=1000/\Q (.dat (.int (gP ms p:Int)))
theorem aJf (T:Txt K mg A):FnOk P w K mg base (eP P w) 2 A.a_qn A.d_qn ["marks","place"] (fC K Zp):=by
 refine gE T.F_qn.F aIc (by walk_at "l") fun cdv Ar outer s H E hr=>?_;refine ⟨_,(aH (aV (bB (gH (K:=K) rfl) rfl T.n_len boot_len (aA (fA (cap:=[none,some 1]) (NC:=["mark","place"]) rfl ⟨rfl,rfl,by decide +kernel,by decide +kernel,⟨⟨_,rfl,rfl,rfl,rfl,rfl⟩,trivial⟩,(forall_mem_cons.2 ⟨rfl,(fun _ h=>nomatch h)⟩),rfl⟩ (fV (K:=K) rfl (pv 0)) (fun _ _ _ _=>(kI 0 ["mark","place"])) (fun _ _ _ _=>(Fy (eL (cG (sI T) hr T.F_qg aO (aA (cR (K:=K) rfl (pv 0)) (aA (pv 1) aD)))))) (fun _ _ _ _=>(pv 0))) aD)))),_,(bI (aB (bT cO (aC (aB (eI (dW (cW (bA 0)) (aI 0) (jF (aB (aM (aC (aB (aS 0 (aL 0))) (aC (aE 1) aG))))) (aL 0) (by decide) (by decide)))) aG)))),?_⟩;rintro ds Q X ⟨ms,p,rfl,hm,hp,hl,k⟩;walk_at "d";refine cL dP dP (fun m:Mk=>if m.1 < p then [m] else []) ms hl (fun Q h=>h) (fun m h N acc hN=>?_) ?_
 ·walk_at "d";refine ⟨m.1,p,rfl,hm m h,hp,?_⟩;walk_at "d";by_cases c:m.1 < p
  ·rw [if_pos c];rw [if_pos c] at hN;exact hN
  ·rw [if_neg c];rw [if_neg c] at hN;simpa using hN
 ·walk_at "d";exact k
def Up (ms:List Mk):Prop:=ms.Pairwise fun a b=>a.1 < b.1
theorem yF (a b:List Mk) (p:Rat):gP (a ++ b) p = gP a p + gP b p:=by
 unfold gP;rw [List.flatMap_append,length_append]
theorem Wp {a:List Mk} {p:Rat} (h:∀ m∈a,m.1 < p):gP a p = a.length:=by
 induction a with
 | nil=>rfl
 | cons m a ih =>
  have e:gP (m :: a) p = gP [m] p + gP a p:=yF [m] a p;have e1:gP [m] p = 1:=by unfold gP; simp [h m mem_cons_self]
  rw [e,e1,ih fun x hx=>h x (mem_cons_of_mem _ hx),length_cons];omega
theorem Sg {a:List Mk} {p:Rat} (h:∀ m∈a,¬ m.1 < p):gP a p = 0:=by
 induction a with
 | nil=>rfl
 | cons m a ih =>
  have e:gP (m :: a) p = gP [m] p + gP a p:=yF [m] a p;have e1:gP [m] p = 0:=by unfold gP; simp [h m mem_cons_self]
  rw [e,e1,ih fun x hx=>h x (mem_cons_of_mem _ hx)]
theorem yV (p:Rat):∀ {ms:List Mk},Up ms->∃ a b,ms = a ++ b/\(∀ m∈a,m.1 < p)/\(∀ m∈b,¬ m.1 < p)
 | [],_=>⟨[],[],rfl,(fun _ h=>nomatch h),fun _ h=>nomatch h⟩
 | m :: ms,h=>by
  have h1:=pairwise_cons.mp h;by_cases c:m.1 < p
  ·obtain ⟨a,b,e,h2,h3⟩:=yV p h1.2;refine ⟨m :: a,b,by rw [e]; rfl,fun x hx=>?_,h3⟩;rcases mem_cons.mp hx with rfl | hx
   ·exact c
   ·exact h2 x hx
  ·refine ⟨[],m :: ms,rfl,(fun _ h=>nomatch h),fun x hx=>?_⟩;rcases mem_cons.mp hx with rfl | hx
   ·exact c
   ·have:=h1.1 x hx;grind
theorem Xe:∀ {a b:List Mk},Up a->Up b->a.Perm b->a = b
 | [],b,_,_,h=>by rw [List.nil_perm.mp h]
 | x :: a,[],_,_,h=>absurd h.length_eq (by simp)
 | x :: a,y :: b,ha,hb,h=>by
  have h1:=pairwise_cons.mp ha;have h2:=pairwise_cons.mp hb;have e:x = y:=by
   have m1:x∈y :: b:=h.mem_iff.mp mem_cons_self;have m2:y∈x :: a:=h.mem_iff.mpr mem_cons_self;rcases mem_cons.mp m1 with z | z
   ·exact z
   ·rcases mem_cons.mp m2 with z2 | z2
    ·exact z2.symm
    ·have l1:=h2.1 x z;have l2:=h1.1 y z2;grind
  subst e;rw [Xe h1.2 h2.2 (List.perm_cons x |>.mp h)]
theorem yW {ms:List Mk} (h:Up ms):(ms.map (·.1)).Nodup:=by
 unfold Up at h;rw [List.nodup_iff_pairwise_ne,List.pairwise_map];exact h.imp fun {a b} l e=>by rw [e] at l; exact absurd l Rat.lt_irrefl
def La (C:Addr):DW:=fun ds Q X=>∃ ms:List Mk,ds = [.list (ms.map dP)]/\(∀ m∈ms,Ok m.1)/\(ms = []->X C)/\(60 < ms.length->X C)/\(¬ (ms.map (·.1)).Nodup->X C) /\
 (ms ≠ []->ms.length<=60->(ms.map (·.1)).Nodup->∀ res:List Mk,res.Perm ms->Up res->Q (.own (res.map dP)))
theorem aJe (T:Txt K mg A):FnOk P w K mg base (eP P w) 3 A.a_qo A.d_qo ["some"] (fC K (La A.x_NoMarks)):=by
 refine gE T.F_qo.F Fj (by walk_at "l") fun cdv Ar outer s H E hr=>?_
 refine ⟨_,(aF (bK (aT cP (bB (gH (K:=K) rfl) rfl T.n_len boot_len (aA (pv 0) aD)) aP (aX _)) (aH (cU T.x_NoMarks hr.hd bX rfl (aA bF aD))) aW)
   (aF (bK (aT jP (bB (gH (K:=K) rfl) rfl T.n_len boot_len (aA (pv 0) aD)) (fH rfl T.c_MOST_MARKS.choose_spec (show RelV (.int 60) _ from ⟨_,rfl⟩)) (aX _)) (aH (cU T.x_NoMarks hr.hd bX rfl (aA bF aD))) aW)
   (aF (cY 1 Fj (dN aD))
   (aF (dU PassesOwn.leaving rfl (fV (K:=K) rfl (pv 0)) (mG 2 Fj)
    (aF (cY 3 Fj (cG (aJf T) hr T.F_qn aO (aA (pv 1) (aA (cR (K:=K) rfl (pv 2)) aD))))
   (aF (bK (PW.pt (mY (aT lJ (pv 3) (bB (gH (K:=K) rfl) rfl T.n_len boot_len (aA (pv 1) aD)) (aX _)) (kG (aT (eqK (K:=K) rfl hr.units) (cR (K:=K) rfl (gB (lN (K:=K) rfl) (pv 1) (pv 3) (fun _ _=>rfl))) (cR (K:=K) rfl (pv 2)) (aX _))))) (aH (cU T.x_NoMarks hr.hd bX rfl (aA bF aD))) aW)
   (aH (eG (fB F.plainAttrs_list F.slot_list_insert F.type_list_insert vH (pv 1) (aA (pv 3) (aA (pv 2) aD))))))))
   (aH (aV (pv 1))))))),_,(aJ (bP (aU (aB (aN cN (aB (bT cO (aC (aE 0) aG))) (aB aK)))) (cT (aQ bG bE) (by decide)) aZ)
   (aJ (bP (aU (aB (aN eW (aB (bT cO (aC (aE 0) aG))) (aB aK)))) (cT (aQ bG bE) (by decide)) aZ)
   (aJ (bZ 1 (dO bE (by decide)))
   (aJ (eC (gZ (aL 0)) (aI 2)
    (aJ (bD (aM (aC (aE 1) (aC (aB (aS 0 (aL 2))) aG))) (aI 3))
   (aJ (bP (mS (aU (aB (aN eW (aE 3) (aB (bT cO (aC (aE 1) aG)))))) (aU (aB (aN oX (aB (aS 0 (bO (bA 1) (aE 3)))) (aB (aS 0 (aL 2))))))) (cT (aQ bG bE) (by decide)) aZ)
   (Lu 1 (aE 3) (aL 2)))))
   (eA 1))))),?_⟩
 rintro ds Q X ⟨ms,rfl,ho,k0,k1,k2,k⟩;walk_at "s";refine bU (fun c=>k0 (List.eq_nil_of_length_eq_zero (by omega))) (fun c=>?_);walk_at "s";refine bU (fun c1=>k1 (by omega)) (fun c1=>?_);walk_at "s";refine cK (dE dP ms (fun Q h=>h) (fun i δ=>∃ (res:List Mk) (r1 r2:Option Sl),δ = [some (.dat (.list (ms.map dP))),some (.own (res.map dP)),r1,r2]/\Up res/\res.Perm (ms.take i)) ⟨[],_,_,rfl,Pairwise.nil,by simp⟩ ?_ ?_)
 ·rintro i m δ hi ⟨res,r1,r2,rfl,hu,hp⟩;have hil:i < ms.length:=(List.getElem?_eq_some_iff.mp hi).1;have hrl:res.length = i:=by rw [hp.length_eq,length_take]; omega
  have hsub:∀ x∈res,x∈ms:=fun x hx=>mem_of_mem_take (hp.mem_iff.mp hx);obtain ⟨a,b,rfl,ha,hb⟩:=yV m.1 hu;have hc:gP (a ++ b) m.1 = a.length:=by rw [yF,Wp ha,Sg hb]; rfl
  walk_at "s";refine ⟨_,m.1,rfl,fun x hx=>ho x (hsub x hx),ho m (mem_of_getElem? hi),by omega,?_⟩;rw [hc];have tk:ms.take (i + 1) = ms.take i ++ [m]:=by rw [take_add_one,hi]; rfl
  have ins:(∀ x∈b,m.1 < x.1)->∃ (res:List Mk) (r1 r2:Option Sl),[some (Sl.dat (.list (ms.map dP))),some (.own (((a ++ b).map dP).take a.length ++ dP m :: ((a ++ b).map dP).drop a.length)),some (.dat (dP m)),some (.dat (.int (a.length:Int)))] = [some (.dat (.list (ms.map dP))),some (.own (res.map dP)),r1,r2]/\Up res/\res.Perm (ms.take (i + 1)):=fun hb2=>by
   refine ⟨a ++ m :: b,some (.dat (dP m)),some (.dat (.int (a.length:Int))),?_,?_,?_⟩
   ·rw [map_append,map_append,List.take_left' (length_map _),List.drop_left' (length_map _)];rfl
   ·have h1:=pairwise_append.mp hu;refine pairwise_append.mpr ⟨h1.1,pairwise_cons.mpr ⟨hb2,h1.2.1⟩,fun x hx y hy=>?_⟩;rcases mem_cons.mp hy with rfl | hy
    ·exact ha x hx
    ·exact h1.2.2 x hx y hy
   ·rw [tk];refine List.perm_middle.trans ?_;exact (hp.cons m).trans (List.perm_append_singleton m _).symm
  walk_at "d";have fin:(∀ x∈b,m.1 < x.1)->(0<=(a.length:Int)/\(a.length:Int)<=((a ++ b).length:Int)/\(a ++ b).length < 1000/\∃ (res:List Mk) (r1 r2:Option Sl),[some (Sl.dat (.list (ms.map dP))),some (.own (((a ++ b).map dP).take (a.length:Int).toNat ++ dP m :: ((a ++ b).map dP).drop (a.length:Int).toNat)),some (.dat (dP m)),some (.dat (.int (a.length:Int)))] = [some (.dat (.list (ms.map dP))),some (.own (res.map dP)),r1,r2]/\Up res/\res.Perm (ms.take (i + 1))):=fun hb2 =>
   ⟨by omega,by rw [length_append]; omega,by omega,by rw [toNat_natCast]; exact ins hb2⟩
  refine cK ?_;walk_at "d";rcases b with _ | ⟨y,b⟩
  ·rw [if_neg (by simp)];walk_at "d";exact fin fun _ h=>nomatch h
  rw [if_pos (by rw [length_append,length_cons]; omega)];have hy:nI ((a ++ y :: b).map dP) (a.length:Int) = some (dP y):=by
   refine fS ?_;rw [map_append,map_cons,getElem?_append_right (by rw [length_map]; exact le_refl _),length_map,sub_self];rfl
  refine ⟨_,hy,?_⟩;walk_at "d";refine ⟨Rat,eRat,y.1,m.1,rfl,rfl,fun e he=>?_⟩;cases e with
  | true =>
   walk_at "d";have e1:=he.mp rfl;refine k2 fun nd=>?_;have hym:y∈ms.take i:=hp.mem_iff.mp (mem_append_right _ mem_cons_self);have nd2:((ms.take (i + 1)).map (·.1)).Nodup:=nd.sublist ((List.take_sublist _ _).map _);rw [tk,map_append,List.nodup_append] at nd2;exact nd2.2.2 y.1 (mem_map.mpr ⟨y,hym,rfl⟩) m.1 (by simp) e1
  | false =>
   have ne:y.1 ≠ m.1:=fun z=>by have:=he.mpr z; cases this
   walk_at "d";refine fin fun x hx=>?_;have h1:=(pairwise_append.mp hu).2.1;have h2:=pairwise_cons.mp h1;have h3:=hb y mem_cons_self;rcases mem_cons.mp hx with rfl | hx
   ·grind
   ·have:=h2.1 x hx;grind
 ·rintro δ ⟨res,r1,r2,rfl,hu,hp⟩;walk_at "d";rw [take_of_length_le (le_refl _)] at hp;refine k (fun z=>c (by rw [z]; rfl)) (by omega) ?_ res hp hu;exact (hp.map (·.1)).nodup_iff.mp (yW hu)
def Kz:DW:=fun ds Q _=>∃ t b:Int,ds = [.tuple [.int t,.int b]]/\t.natAbs < 10 ^ 50/\b.natAbs < 10 ^ 50/\Q (.dat (.str (qO t b)))
theorem xH (T:Txt K mg A):FnOk P w K mg base (eP P w) 1 A.a_qx1 A.d_qx1 ["x"] (fC K Kz):=by
 refine gE T.F_qx1.F aAd (by walk_at "l") fun cdv Ar outer s H E hr=>?_
 refine ⟨_,(aF (bK (aT cP (cR (K:=K) rfl (pv 0)) aP (aX _)) (aH (aV (dS eK rfl T.n_str Dl.boot_str (aA (cR (K:=K) rfl (pv 0)) aD)))) aW)
   (aH (aV (aY cQ (aY cQ (dS eK rfl T.n_str Dl.boot_str (aA (cR (K:=K) rfl (pv 0)) aD)) bF) (dS eK rfl T.n_str Dl.boot_str (aA (cR (K:=K) rfl (pv 0)) aD)))))),_,(aJ (bP (aU (aB (aN cN (aB (aS 1 (aL 0))) (aB aK)))) (bI (aB (bT lG (aC (aB (aS 0 (aL 0))) aG)))) aZ)
   (bI (aB (aN eZ (aB (aN eZ (aB (bT lG (aC (aB (aS 0 (aL 0))) aG))) (aB bG))) (aB (bT lG (aC (aB (aS 1 (aL 0))) aG))))))),?_⟩
 rintro ds Q X ⟨t,b,rfl,ht,hb,k⟩;have l1:=lY ht;have l2:=lY hb;have sl:=gT;unfold qO at k;walk_at "s";refine bU (fun c=>⟨Gm ht,?_⟩) (fun c=>⟨Gm ht,by omega,Gm hb,by rw [Str.length_append]; omega,?_⟩)
 ·rw [if_pos c] at k; exact k
 ·rw [if_neg c] at k; exact k
def Yy:DW:=fun ds Q _=>∃ m:Sx,ds = [mD m]/\Sm7 m/\Q (.dat (.str (Jf m)))
theorem aCs (T:Txt K mg A):FnOk P w K mg base (eP P w) 2 A.a_qy1 A.d_qy1 ["mark"] (fC K Yy):=by
 refine gE T.F_qy1.F aAc (by walk_at "l") fun cdv Ar outer s H E hr=>?_;refine ⟨_,(aH (aV (aY cQ (aY cQ (aY cQ (aY cQ (cG (xH T) hr T.F_qx1 aO (aA (cR (K:=K) rfl (pv 0)) aD)) bF) (cG (xH T) hr T.F_qx1 aO (aA (cR (K:=K) rfl (pv 0)) aD))) bF) (dS eK rfl T.n_str Dl.boot_str (aA (cR (K:=K) rfl (pv 0)) aD))))),_,(bI (aB (aN eZ (aB (aN eZ (aB (aN eZ (aB (aN eZ (aB (aM (aC (aB (aS 0 (aL 0))) aG))) (aB bG))) (aB (aM (aC (aB (aS 1 (aL 0))) aG))))) (aB bG))) (aB (bT lG (aC (aB (aS 2 (aL 0))) aG)))))),?_⟩;rintro ds Q X ⟨⟨⟨a,b⟩,⟨c,d⟩,e⟩,rfl,⟨h1,h2,h3,h4,h5⟩,k⟩;have l1:=qN h1 h2;have l2:=qN h3 h4;have l3:=lY h5;have c1:=pI;have c2:=rL;unfold mD;unfold Jf at k;dsimp only at h1 h2 h3 h4 h5 l1 l2 l3 k ⊢;walk_at "d";refine ⟨a,b,rfl,h1,h2,?_⟩;walk_at "d";refine ⟨by omega,c,d,rfl,h3,h4,?_⟩;walk_at "d";exact ⟨by rw [Str.length_append]; omega,by rw [Str.length_append,Str.length_append]; omega,Gm h5,by rw [Str.length_append,Str.length_append,Str.length_append]; omega,k⟩
theorem Ck {α:Type} (f:α->Nat) (n:Nat):∀ xs:List α,(∀ x∈xs,f x<=n)->(xs.map f).sum<=xs.length * n
 | [],_=>by simp
 | x :: xs,h=>by
  have h1:=h x (by simp);have h2:=Ck f n xs fun y hy=>h y (by simp [hy]);rw [map_cons,sum_cons,length_cons,add_mul];omega
def aHf (C:Addr):DW:=fun ds Q X=>(∃ x:Str,ds = [.str x]/\x.length<=100000/\(∀ m,nV x = some m->Q (.dat (mD m)))/\(nV x = none->X C))\/(∃ d,ds = [d]/\(∀ x,d ≠ .str x)/\X C)
theorem aDg (T:Txt K mg A):FnOk P w K mg base (eP P w) 4 A.a_qg1 A.d_qg1 ["text"] (fC K (aHf A.x_NoText)):=by
 refine gE T.F_qg1.F oV (fun ds Q E h=>?_) (fun cdv Ar outer s H E hr=>?_)
 ·rcases h with ⟨_,rfl,_⟩ | ⟨_,rfl,_⟩ <;> rfl
 refine ⟨_,(aF (eG (cG (Po T) hr T.F_qc1 bX (aA (pv 0) aD)))
   (aF (cY 1 oV (fB F.plainAttrs_str F.slot_str_partition F.type_str_partition iL (pv 0) (aA bF aD)))
   (aF (cY 2 oV (fB F.plainAttrs_str F.slot_str_partition F.type_str_partition iL (cR (K:=K) rfl (pv 1)) (aA bF aD)))
   (aF (cY 3 oV (cG (Df T) hr T.F_qf1 bX (aA (cR (K:=K) rfl (pv 1)) aD)))
   (aF (cY 4 oV (cG (Df T) hr T.F_qf1 bX (aA (cR (K:=K) rfl (pv 2)) aD)))
   (aF (cY 5 oV (cG (xI T) hr T.F_qe1 bX (aA (cR (K:=K) rfl (pv 2)) aD)))
   (aF (bK (aT lJ (pv 5) aP (aX _)) (aH (cU T.x_NoText hr.hd bX rfl (aA bF aD))) aW)
   (aH (aV (cA (aA (pv 3) (aA (pv 4) (aA (pv 5) aD))))))))))))),_,(aJ (mC (aB (hG (aC (aE 0) aG))))
   (aJ (bD (oG (aE 0) (aB bG)) (aI 1))
   (aJ (bD (oG (aB (aS 2 (aL 1))) (aB bG)) (aI 2))
   (aJ (bD (hG (aC (aB (aS 0 (aL 1))) aG)) (aI 3))
   (aJ (bD (hG (aC (aB (aS 0 (aL 2))) aG)) (aI 4))
   (aJ (bD (hG (aC (aB (aS 2 (aL 2))) aG)) (aI 5))
   (aJ (bP (aU (aB (aN eW (aE 5) (aB aK)))) (cT (aQ bG bE) (by decide)) aZ)
   (bI (aB (cI (aQ (aL 3) (aQ (aL 4) (aQ (aL 5) bE))) (by decide))))))))))),?_⟩
 rintro ds Q X (⟨x,rfl,hx,k1,k2⟩ | ⟨d,rfl,hd,k⟩)
 ·walk_at "s";refine ⟨.str x,rfl,fun _=>?_,fun z=>absurd rfl (z x)⟩;obtain ⟨l1,_,l3⟩:=sE x ":";obtain ⟨l4,_,l6⟩:=sE (PySem.Txt.partition x ":").2.2 "*";unfold nV at k1 k2;walk_at "s";refine ⟨hx,by rw [pI]; rfl,?_⟩;walk_at "s";refine ⟨by omega,by rw [rL]; rfl,?_⟩;walk_at "s";refine .inl ⟨_,rfl,by omega,fun a b hv=>?_,fun hn=>k2 ?_⟩
  ·rw [hv] at k1 k2;dsimp only at k1 k2;walk_at "s";refine .inl ⟨_,rfl,by omega,fun c d hv2=>?_,fun hn=>k2 ?_⟩
   ·rw [hv2] at k1 k2;dsimp only at k1 k2;walk_at "s";refine ⟨_,rfl,by omega,fun n hn=>?_,fun hn=>k2 ?_⟩
    ·rw [hn] at k1 k2;dsimp only at k1 k2;walk_at "s";refine bU (fun c3=>?_) (fun c3=>?_)
     ·exact k2 (if_pos c3)
     ·walk_at "d";exact k1 ((a,b),(c,d),n) (if_neg c3)
    ·rw [hn]
   ·rw [hn]
  ·rw [hn]
 ·walk_at "s";exact ⟨d,rfl,fun ⟨x,e⟩=>absurd e (hd x),fun _=>k⟩
def cntL:List (Str × Int × Int):=[("marks",3,62),("drop",2,2),("names",1,1),("show",2,2),("bend",4,4),("rise",3,3),("steps",4,4),("judge",4,63)]
def Bb (ws:List Str):Prop:=∃ w0 r lo hi,ws = w0 :: r/\cntL.lookup w0 = some (lo,hi)/\lo<=(ws.length:Int)/\(ws.length:Int)<=hi
theorem zF (x:Str):∀ {tb:Td} {cl:List (Str × Int × Int)},Paired (fun (p:Str × V × PyData) (q:Str × Int × Int)=>p.1 = q.1/\p.2.2 = .tuple [.int q.2.1,.int q.2.2]) tb cl->(cl.lookup x = none->tb.lookup x = none)/\∀ lo hi,cl.lookup x = some (lo,hi)->∃ v,tb.lookup x = some (v,.tuple [.int lo,.int hi])
 | _,_,.nil=>⟨fun _=>rfl,fun _ _ z=>by simp at z⟩
 | (px,pv,pd) :: _,(qx,ql,qh) :: _,.cons ⟨e1,e2⟩ t=>by
  have ih:=zF x t;dsimp only at e1 e2;subst e1 e2;by_cases hx:x = px
  ·subst hx;simp only [lookup_cons,beq_self_eq_true];refine ⟨(fun z=>by cases z),fun lo hi z=>?_⟩;cases z;exact ⟨pv,rfl⟩
  ·simp only [lookup_cons,beq_eq_false_iff_ne.mpr hx];exact ih
theorem Tv (A:Adr) (x:Str):(cntL.lookup x = none->(gS A).lookup x = none)/\∀ lo hi,cntL.lookup x = some (lo,hi)->∃ v,(gS A).lookup x = some (v,.tuple [.int lo,.int hi]) :=
 zF x (.cons ⟨rfl,rfl⟩ (.cons ⟨rfl,rfl⟩ (.cons ⟨rfl,rfl⟩ (.cons ⟨rfl,rfl⟩ (.cons ⟨rfl,rfl⟩ (.cons ⟨rfl,rfl⟩ (.cons ⟨rfl,rfl⟩ (.cons ⟨rfl,rfl⟩ .nil))))))))
theorem Mc (x y:Str):Txt.split x y ≠ []:=by
 unfold PySem.Txt.split;split
 ·simp
 ·split
  ·simp
  ·rw [StrLaws.partsBetween_eq];obtain ⟨p,r,e⟩:=StrLaws.partsFrom_ne x y.length 0 (Builtin.Str.occurrences x y 0 x.length (x.length + 1));rw [e]; simp
def Yu (C:Addr):DW:=fun ds Q X=>(∃ (x:Str) (ws:List Str),ds = [.str x]/\x.length<=90000/\Txt.split x (Str.ofString " ") = ws/\(Bb ws->Q (.own (ws.map .str)))/\(¬ Bb ws->X C))\/(∃ d,ds = [d]/\(∀ x,d ≠ .str x)/\X C)
theorem Pl (T:Txt K mg A) (CT_COUNTS:tR w K A.g_COUNTS (gS A)):FnOk P w K mg base (eP P w) 1 A.a_qj1 A.d_qj1 ["row"] (fC K (Yu A.x_NoRow)):=by
 refine gE T.F_qj1.F Cr (fun ds Q E h=>?_) (fun cdv Ar outer s H E hr=>?_)
 ·rcases h with ⟨_,_,rfl,_⟩ | ⟨_,rfl,_⟩ <;> rfl
 refine ⟨_,(aF (bK (kH (eL (bB (Gs (K:=K) rfl) rfl T.n_isinstance hV (aA (pv 0) (aA (qR rfl T.n_str yJ (show RelV (.ty "str") (.type "str") from rfl)) aD))))) (aH (cU T.x_NoRow hr.hd bX rfl (aA bF aD))) aW)
   (aF (cY 1 Cr (fB F.plainAttrs_str F.slot_str_split F.type_str_split sM (pv 0) (aA bF aD)))
   (aF (bK (aT (Ab (K:=K) rfl rfl CT_COUNTS) (kP (K:=K) rfl (pv 1)) (fH rfl T.c_COUNTS (show RelV (.ref _) (.ref _) from rfl)) rfl) (aH (cU T.x_NoRow hr.hd bX rfl (aA bF aD))) aW)
   (aF (cY 2 Cr (gB (aEh (K:=K) rfl rfl CT_COUNTS) (fH rfl T.c_COUNTS (show RelV (.ref _) (.ref _) from rfl)) (kP (K:=K) rfl (pv 1)) (fun _ _=>rfl)))
   (aF (bK (PW.pt (gA (aT lJ (bB (gH (K:=K) rfl) rfl T.n_len boot_len (aA (pv 1) aD)) (cR (K:=K) rfl (pv 2)) (aX _)) (fU (aT jP (bB (gH (K:=K) rfl) rfl T.n_len boot_len (aA (pv 1) aD)) (cR (K:=K) rfl (pv 2)) (aX _))))) (aH (cU T.x_NoRow hr.hd bX rfl (aA bF aD))) aW)
   (aH (aV (pv 1)))))))),_,(aJ (bP (jZ (jF (aB (xY (by decide) (aE 0))))) (cT (aQ bG bE) (by decide)) aZ)
   (aJ (bZ 1 (sG (aE 0) (aB bG)))
   (aJ (bP (aU (aB (Bm (aB (bO (bA 1) (aB aK)))))) (cT (aQ bG bE) (by decide)) aZ)
   (aJ (bD (Ra CT_COUNTS (aB (bO (bA 1) (aB aK)))) (aI 2))
   (aJ (bP (fZ (aU (aB (aN eW (aB (bT cO (aC (aE 1) aG))) (aB (aS 0 (aL 2)))))) (aU (aB (aN eW (aB (bT cO (aC (aE 1) aG))) (aB (aS 1 (aL 2))))))) (cT (aQ bG bE) (by decide)) aZ)
   (eA 1)))))),?_⟩
 rintro ds Q X (⟨x,ws,rfl,hx,hws,k1,k2⟩ | ⟨d,rfl,hd,k⟩)
 ·walk_at "s";refine bU (fun c=>absurd c (by decide)) (fun _=>?_);walk_at "s";refine ⟨hx,by rw [fL]; rfl,?_⟩;rw [hws];obtain ⟨w0,r,rfl⟩:∃ w0 r,ws = w0 :: r:=by
   cases ws with
   | nil=>exact absurd hws (Mc x _)
   | cons w0 r=>exact ⟨w0,r,rfl⟩
  have a0:nI ((w0 :: r).map PyData.str) 0 = some (.str w0):=fS (j:=0) rfl;obtain ⟨t1,t2⟩:=Tv A w0;walk_at "s";refine ⟨_,a0,?_⟩;walk_at "d";cases hc:cntL.lookup w0 with
  | none =>
   rw [t1 hc];refine bU (fun _=>?_) (fun c=>absurd rfl c);exact k2 fun ⟨w1,r1,lo,hi,e,h1,_⟩=>by
    injection e with e1 e2
    rw [<- e1,hc] at h1;cases h1
  | some p =>
   obtain ⟨lo,hi⟩:=p;obtain ⟨v,hv⟩:=t2 lo hi hc;rw [hv];refine bU (fun c=>absurd c (by simp)) (fun _=>?_);walk_at "s";refine ⟨_,a0,?_⟩;walk_at "d";refine ⟨_,hv,?_⟩;walk_at "s";refine bU (fun c=>?_) (fun c=>bU (fun c2=>?_) (fun c2=>?_))
   ·exact k2 fun ⟨w1,r1,lo1,hi1,e,h1,h2,h3⟩=>by
     injection e with e1 e2
     rw [<- e1,hc] at h1;cases h1;rw [length_cons] at h2;omega
   ·exact k2 fun ⟨w1,r1,lo1,hi1,e,h1,h2,h3⟩=>by
     injection e with e1 e2
     rw [<- e1,hc] at h1;cases h1;rw [length_cons] at h3;omega
   ·walk_at "d";exact k1 ⟨w0,r,lo,hi,rfl,hc,by rw [length_cons]; omega,by rw [length_cons]; omega⟩
 ·cases d with
  | str x=>exact absurd rfl (hd x)
  | _ =>
   walk_at "s";exact k
def pT (x:Str):Bool:=decide (1<=x.length) && decide (x.length<=8) && x.cps.toList.all fun c=>decide (97<=c) && decide (c<=122)
theorem Kb:("abcdefghijklmnopqrstuvwxyz":Str).cps.toList = (range 26).map (· + 97):=by decide +kernel
theorem aEp (c:Nat):PySem.Txt.contains "abcdefghijklmnopqrstuvwxyz" ⟨#[c]⟩ = (decide (97<=c) && decide (c<=122)):=by
 rw [hU rfl,Kb];rw [Bool.eq_iff_iff];simp only [decide_eq_true_eq,and_eq_true,mem_map,mem_range];constructor
 ·rintro ⟨a,h1,rfl⟩; omega
 ·rintro ⟨h1,h2⟩; exact ⟨c - 97,by omega,by omega⟩
def aHd (C:Addr):DW:=fun ds Q X=>∃ x:Str,ds = [.str x]/\x.length<=100000/\(pT x = true->Q (.dat .none))/\(pT x = false->X C)
theorem aDb (T:Txt K mg A):FnOk P w K mg base (eP P w) 1 A.a_qk1 A.d_qk1 ["word"] (fC K (aHd A.x_NoName)):=by
 refine gE T.F_qk1.F aAm (by walk_at "l") fun cdv Ar outer s H E hr=>?_;refine ⟨_,(aH (bK (PW.pt (gA (aT cP (bB fK rfl T.n_len boot_len (aA (pv 0) aD)) aP (aX _)) (gA (aT jP (bB fK rfl T.n_len boot_len (aA (pv 0) aD)) (fH rfl T.c_MOST_LETTERS.choose_spec (show RelV (.int 8) _ from ⟨_,rfl⟩)) (aX _)) (fU (kH (eL (bB (aLg (K:=K) rfl rfl) rfl T.n_all Dl.boot_all (aA (fA (cap:=[none]) (NC:=["sign"]) rfl (qE rfl) (Cw (pv 0)) (fun _ _ _ _=>(kI 0 ["sign"])) (fun _ _ _ _=>cC) (fun _ _ _ _=>(iK vD (pv 0) (fH rfl T.c_LETTERS.choose_spec (show RelV (.str "abcdefghijklmnopqrstuvwxyz") _ from ⟨_,rfl⟩)) rfl))) aD)))))))) (aH (cU T.x_NoName hr.hd bX rfl (aA bF aD))) aW)),_,(bP (fZ (aU (aB (aN cN (aB (bT mF (aC (aE 0) aG))) (aB aK)))) (fZ (aU (aB (aN eW (aB (bT mF (aC (aE 0) aG))) (aB aK)))) (jZ (jF (aB (bT Os (aC (aB (eI (dW (IvS.e (Dw (aL 0))) (aI 0) cM (aN Om (aE 0) (aB bG)) (by decide) (by decide)))) aG))))))) (cT (aQ bG bE) (by decide)) aZ),?_⟩;rintro ds Q X ⟨x,rfl,hx,k1,k2⟩;have hl:=cZ x;walk_at "d";refine ⟨hx,bU (fun c=>?_) (fun c=>⟨hx,bU (fun c2=>?_) (fun c2=>?_)⟩)⟩
 ·refine k2 ?_;unfold pT;rw [decide_eq_false (show ¬ 1<=x.length by omega)]; rfl
 ·refine k2 ?_;unfold pT;rw [decide_eq_false (show ¬ x.length<=8 by omega)];simp
 refine cL sgD PyData.bool (fun c=>[decide (97<=c) && decide (c<=122)]) x.cps.toList (by omega) (fun Q h=>by
  walk_at "d"
  exact h) (fun c hc N acc hN=>?_) ?_
 ·unfold sgD;walk_at "d";rw [aEp];exact hN
 refine ⟨x.cps.toList.flatMap fun c=>[decide (97<=c) && decide (c<=122)],rfl,?_⟩;have e:pT x = (x.cps.toList.flatMap fun c=>[decide (97<=c) && decide (c<=122)]).all id:=by
  rw [bH,List.all_map];unfold pT;rw [decide_eq_true (show 1<=x.length by omega),decide_eq_true (show x.length<=8 by omega)];rfl
 rw [<- e];walk_at "d";cases hn:pT x with
 | true=>exact bU (fun c=>absurd c (by decide)) (fun _=>k1 hn)
 | false=>exact bU (fun _=>k2 hn) (fun c=>absurd rfl c)
def iX (q:Rat):Str:=qO q.num (q.den:Int)
theorem Vl {i:Int} (h:i.natAbs < 10 ^ 90):i.natAbs.log2 < 1920:=by
 by_cases h0:i.natAbs = 0
 ·rw [h0]; decide
 ·exact (log2_lt h0).mpr (lt_of_lt_of_le h (by decide +kernel))
theorem Iw {n:Int} (h:n.natAbs < 10 ^ 90):(Str.ofString (toString n)).length<=91:=by
 obtain ⟨cs,d,e⟩:=jQ (k:=89) h;have l2:=d.l2;rw [<- cZ,e];split
 ·rw [length_cons]; omega
 ·omega
theorem dg9 {q:Rat} (h:Dg 89 q):q.num.natAbs < 10 ^ 90/\((q.den:Nat):Int).natAbs < 10 ^ 90:=by
 have h1:=h.n;have h2:=h.d;exact ⟨lt_of_le_of_lt h1 (by decide +kernel),by rw [natAbs_natCast]; exact lt_of_le_of_lt h2 (by decide +kernel)⟩
theorem nW {q:Rat} (h:Dg 89 q):(iX q).length<=183:=by
 obtain ⟨h1,h2⟩:=dg9 h;have l1:=Iw h1;have l2:=Iw h2;have sl:=gT;unfold iX qO;split
 ·omega
 ·rw [Str.length_append,Str.length_append]; omega
theorem Zy {q:Rat} (h:Dg 89 q):∀ c∈(iX q).cps.toList,Gi c\/c = 47:=rN (k:=89) (dg9 h).1 (dg9 h).2
theorem Cn {q:Rat} (h:Dg 89 q) {c:Nat} (hc:c = 32\/c = 124):c ∉ (iX q).cps.toList:=fun z=>by
 rcases Zy h c z with (y | y) | y <;> omega
def Co (qs:List Rat):Str:=Txt.join (Str.ofString " ") (qs.map iX)
theorem vI {y:List Nat} {c:Nat}:∀ {ws:List (List Nat)},c∈qA y ws->c∈y\/∃ w∈ws,c∈w
 | [],h=>by simp [qA] at h
 | [w],h=>.inr ⟨w,by simp,h⟩
 | w :: z :: r,h=>by
  rw [iE] at h;rcases mem_append.mp h with h | h
  ·rcases mem_append.mp h with h | h
   ·exact .inr ⟨w,by simp,h⟩
   ·exact .inl h
  ·rcases vI h with h | ⟨u,hu,h⟩
   ·exact .inl h
   ·exact .inr ⟨u,mem_cons_of_mem _ hu,h⟩
theorem Uh {qs:List Rat} (h:∀ q∈qs,Dg 89 q):124 ∉ (Co qs).cps.toList:=fun z=>by
 unfold Co at z;rw [gC,gX] at z;rcases vI z with y | ⟨u,hu,y⟩
 ·exact absurd y (by decide)
 ·obtain ⟨v,hv,rfl⟩:=mem_map.mp hu;obtain ⟨q,hq,rfl⟩:=mem_map.mp hv;exact Cn (h q hq) (.inr rfl) y
theorem xR (y:Str) {ws:List Str} {n:Nat} (h:∀ w∈ws,w.length<=n):(Txt.join y ws).length<=ws.length * (n + y.length):=by
 unfold Txt.join;rw [size_glued];have:=Ck (fun z:Str=>z.length) n ws h;have h2:(ws.length - 1) * y.length<=ws.length * y.length:=mul_le_mul_right _ (by omega);rw [Nat.mul_add];omega
theorem qM {qs:List Rat} (h:∀ q∈qs,Dg 89 q):(Co qs).length<=qs.length * 184:=by
 have:=xR (Str.ofString " ") (ws:=qs.map iX) (n:=183) fun w hw=>by
  obtain ⟨q,hq,rfl⟩:=mem_map.mp hw;exact nW (h q hq)
 rw [fL,length_map] at this;exact this
theorem We {ws:List Str} {y:Str} {n:Nat} (h:∀ w∈ws,w.length<=n) (hb:ws.length * (n + y.length)<=100000):(ws.map (·.length)).sum + ws.length * y.length<=100000:=by
 have:=Ck (fun z:Str=>z.length) n ws h;rw [Nat.mul_add] at hb;omega
def Mh (rows:List (List Rat)):Str:=Txt.join (Str.ofString " | ") (rows.map Co)
theorem yL:(Str.ofString " | ").length = 3:=by decide +kernel
def Za:DW:=fun ds Q _=>∃ q:Rat,ds = [fr q]/\Dg 89 q/\Q (.dat (.str (iX q)))
theorem jD (T:Txt K mg A):FnOk P w K mg base (eP P w) 1 A.a_qh1 A.d_qh1 ["x"] (fC K Za):=by
 refine gE T.F_qh1.F aAp (by walk_at "l") fun cdv Ar outer s H E hr=>?_
 refine ⟨_,(aF (bK (aT cP (cR (K:=K) rfl (pv 0)) aP (aX _)) (aH (aV (dS eK rfl T.n_str Dl.boot_str (aA (cR (K:=K) rfl (pv 0)) aD)))) aW)
   (aH (aV (aY cQ (aY cQ (dS eK rfl T.n_str Dl.boot_str (aA (cR (K:=K) rfl (pv 0)) aD)) bF) (dS eK rfl T.n_str Dl.boot_str (aA (cR (K:=K) rfl (pv 0)) aD)))))),_,(aJ (bP (aU (aB (aN cN (aB (aS 1 (aL 0))) (aB aK)))) (bI (aB (bT lG (aC (aB (aS 0 (aL 0))) aG)))) aZ)
   (bI (aB (aN eZ (aB (aN eZ (aB (bT lG (aC (aB (aS 0 (aL 0))) aG))) (aB bG))) (aB (bT lG (aC (aB (aS 1 (aL 0))) aG))))))),?_⟩
 rintro ds Q X ⟨q,rfl,hq,k⟩;obtain ⟨h1,h2⟩:=dg9 hq;have l1:=Iw h1;have l2:=Iw h2;have sl:=gT;unfold iX qO at k;walk_at "s";refine bU (fun c=>⟨Vl h1,?_⟩) (fun c=>⟨Vl h1,by omega,Vl h2,by rw [Str.length_append]; omega,?_⟩)
 ·rw [if_pos c] at k; exact k
 ·rw [if_neg c] at k; exact k
def Yz:DW:=fun ds Q _=>∃ qs:List Rat,ds = [.list (qs.map fr)]/\qs.length<=100/\(∀ q∈qs,Dg 89 q)/\Q (.dat (.str (Co qs)))
theorem aDd (T:Txt K mg A):FnOk P w K mg base (eP P w) 2 A.a_qi1 A.d_qi1 ["some"] (fC K Yz):=by
 refine gE T.F_qi1.F aAo (by walk_at "l") fun cdv Ar outer s H E hr=>?_;refine ⟨_,(aH (aV (fB F.plainAttrs_str F.slot_str_join F.type_str_join (lM (K:=K) rfl) bF (aA (fA (cap:=[none]) (NC:=["x"]) rfl (qE rfl) (fV (K:=K) rfl (pv 0)) (fun _ _ _ _=>(kI 0 ["x"])) (fun _ _ _ _=>cC) (fun _ _ _ _=>(cG (jD T) hr T.F_qh1 aO (aA (pv 0) aD)))) aD)))),_,(bI (aB (oH (aB bG) (mP (dW (cW (bA 0)) (aI 0) cM (aM (aC (aE 0) aG)) (by decide) (by decide)))))),?_⟩;rintro ds Q X ⟨qs,rfl,hl,hq,k⟩;walk_at "d"
 refine cL fr PyData.str (fun q=>[iX q]) qs (by omega) (fun Q h=>by
   walk_at "d"
   exact h) (fun q hm N acc hN=>?_) ?_
 ·walk_at "d";refine ⟨q,rfl,hq q hm,?_⟩;walk_at "d";exact hN
 ·rw [bH];refine ⟨qs.map iX,rfl,We (n:=183) (fun w hw=>?_) (by rw [length_map,fL]; omega),k⟩;obtain ⟨q,hq2,rfl⟩:=mem_map.mp hw;exact nW (hq q hq2)
def lsD (rows:List (List Rat)):List PyData:=rows.map fun r=>PyData.list (r.map fr)
def Tj:DW:=fun ds Q _=>∃ rows:List (List Rat),ds = [.list (lsD rows)]/\rows.length<=4/\(∀ r∈rows,r.length<=100/\∀ q∈r,Dg 89 q)/\Q (.dat (.str (Mh rows)))
theorem aCz (T:Txt K mg A):FnOk P w K mg base (eP P w) 3 A.a_ql1 A.d_ql1 ["parts"] (fC K Tj):=by
 refine gE T.F_ql1.F aAk (by walk_at "l") fun cdv Ar outer s H E hr=>?_;refine ⟨_,(aH (aV (fB F.plainAttrs_str F.slot_str_join F.type_str_join (lM (K:=K) rfl) bF (aA (fA (cap:=[none]) (NC:=["some"]) rfl (qE rfl) (fV (K:=K) rfl (pv 0)) (fun _ _ _ _=>(kI 0 ["some"])) (fun _ _ _ _=>cC) (fun _ _ _ _=>(cG (aDd T) hr T.F_qi1 aO (aA (pv 0) aD)))) aD)))),_,(bI (aB (oH (aB bG) (mP (dW (cW (bA 0)) (aI 0) cM (aM (aC (aE 0) aG)) (by decide) (by decide)))))),?_⟩;rintro ds Q X ⟨rows,rfl,hl,hq,k⟩;walk_at "d"
 refine cL (fun r:List Rat=>PyData.list (r.map fr)) PyData.str (fun r=>[Co r]) rows (by omega) (fun Q h=>by
   walk_at "d"
   exact h) (fun r hm N acc hN=>?_) ?_
 ·walk_at "d";refine ⟨r,rfl,(hq r hm).1,(hq r hm).2,?_⟩;walk_at "d";exact hN
 ·rw [bH];refine ⟨rows.map Co,rfl,We (n:=18400) (fun w hw=>?_) (by rw [length_map,yL]; omega),k⟩;obtain ⟨r,hr2,rfl⟩:=mem_map.mp hw;have:=qM (hq r hr2).2;have:=(hq r hr2).1;omega
theorem Xd {q:Rat} (h:Ro q):kY (iX q) = some (q.num,(q.den:Int)):=by
 have d:=Ro.dg h;have h1:=d.n;have h2:=d.d;refine Ch (lt_of_le_of_lt h1 (by decide +kernel)) (by rw [natAbs_natCast]; exact lt_of_le_of_lt h2 (by decide +kernel)) (kS q) ?_;exact q.reduced
theorem Ro.dg9 {q:Rat} (h:Ro q):Dg 89 q:=(Ro.dg h).mono (by decide)
def Zn:DW:=fun ds Q _=>∃ (kd:Str) (ms:List Mk) (row:List Rat),ds = [.str kd,.list (ms.map dP),.list ((row.map iX).map .str)]/\kd∈dJ/\MkT ms/\row.length = ms.length/\(∀ q∈row,Ro q)/\Q (.dat (.str (iX (dI kd ms row))))
theorem aCv (T:Txt K mg A):FnOk P w K mg base (eP P w) 7 A.a_qn1 A.d_qn1 ["kind","marks","words"] (fC K Zn):=by
 refine gE T.F_qn1.F aAi (by walk_at "l") fun cdv Ar outer s H E hr=>?_
 refine ⟨_,(aF (bK (aT nZ (bB (gH (K:=K) rfl) rfl T.n_len boot_len (aA (pv 2) aD)) (bB (gH (K:=K) rfl) rfl T.n_len boot_len (aA (pv 1) aD)) (aX _)) (aH (cU T.x_NoRow hr.hd bX rfl (aA bF aD))) aW)
   (aH (aV (cG (jD T) hr T.F_qh1 aO (aA (cG (Xn T) hr T.F_qs aO (aA (pv 0) (aA (pv 1) (aA (fA (cap:=[none]) (NC:=["word"]) rfl (qE rfl) (fV (K:=K) rfl (pv 2)) (fun _ _ _ _=>(kI 0 ["word"])) (fun _ _ _ _=>cC) (fun _ _ _ _=>(cG (Df T) hr T.F_qf1 aO (aA (pv 0) aD)))) aD)))) aD))))),_,(aJ (bP (aU (aB (aN pO (aB (bT cO (aC (aE 2) aG))) (aB (bT cO (aC (aE 1) aG)))))) (cT (aQ bG bE) (by decide)) aZ)
   (bI (aB (aM (aC (aB (aM (aC (aE 0) (aC (aE 1) (aC (aB (eI (dW (cW (bA 2)) (aI 0) cM (aM (aC (aE 0) aG)) (by decide) (by decide)))) aG))))) aG))))),?_⟩
 rintro ds Q X ⟨kd,ms,row,rfl,hk,M,hl,hr,k⟩;have n10:=M.n10;have n1:=M.n1;walk_at "s";refine bU (fun c=>absurd (by omega) c) (fun _=>?_)
 refine cL PyData.str fr (fun x:Str=>[((kY x).map fun p=>divInt p.1 p.2).getD 0]) (row.map iX) (by rw [length_map]; omega) (fun Q h=>by
   walk_at "d"
   exact h) (fun x hx N acc hN=>?_) ?_
 ·obtain ⟨q,hq,rfl⟩:=mem_map.mp hx;have hv:=Xd (hr q hq);have hlen:=nW (Ro.dg9 (hr q hq));walk_at "d";refine .inl ⟨_,rfl,by omega,fun t b hv2=>?_,fun hn=>by rw [hv] at hn; cases hn⟩;rw [hv] at hv2 hN;cases hv2;walk_at "d";have e:divInt q.num (q.den:Int) = q:=num_divInt_den q;simp only [Option.map_some,Option.getD_some,e,map_cons,map_nil] at hN;exact hN
 ·rw [bH];have e:(row.map iX).map (fun x:Str=>((kY x).map fun p=>divInt p.1 p.2).getD 0) = row:=by
   rw [map_map];refine (map_congr_left (g:=id) fun q hq=>?_).trans (List.map_id _);show ((kY (iX q)).map fun p=>divInt p.1 p.2).getD 0 = q;rw [Xd (hr q hq)];exact num_divInt_den q
  rw [e];refine ⟨_,ms,row,NN,10 ^ 7,4,29,7,1,rfl,M.ms hr,(fun e=>by rw [e] at n1; simp at n1),hl,(fun k2 e=>by cases e; exact sV hk),(fun k2 e hk2=>?_),fun z=>absurd hk (z kd rfl)⟩;cases e;walk_at "d";refine ⟨_,rfl,(M.dg hr kd).mono (by decide),?_⟩;walk_at "d";exact k
theorem p89 {q:Rat} (h:Cm NN (10 ^ 9) q):Dg 89 q:=(h.dg iW lX (le_refl _)).mono (by decide)
def Zb:DW:=fun ds Q _=>∃ (kd:Str) (ms:List Mk),ds = [.str kd,.list (ms.map dP)]/\kd∈dJ/\MkT ms/\(∀ m∈ms,Ok m.1)/\∀ row ps,RiseOk kd ms row ps->Q (.dat (.str (Mh [[dI kd ms row],row,ps])))
theorem aCx (T:Txt K mg A):FnOk P w K mg base (eP P w) 8 A.a_qm1 A.d_qm1 ["kind","marks"] (fC K Zb):=by
 have G_qy:=aNk (aIz (P:=P) (w:=w) (base:=base) T);refine gE T.F_qm1.F Mm (by walk_at "l") fun cdv Ar outer s H E hr=>?_
 refine ⟨_,(aF (cY 2 Mm (cG G_qy hr T.F_qy aO (aA (pv 0) (aA (pv 1) aD))))
   (aH (aV (cG (aCz T) hr T.F_ql1 aO (aA (dN (aA (dN (aA (cG (Xn T) hr T.F_qs aO (aA (pv 0) (aA (pv 1) (aA (cR (K:=K) rfl (pv 2)) aD)))) aD)) (aA (cR (K:=K) rfl (pv 2)) (aA (cR (K:=K) rfl (pv 2)) aD)))) aD))))),_,(aJ (nR (aC (aE 0) (aC (aE 1) aG)) (aI 2))
   (bI (aB (aM (aC (aB (eI (dO (aQ (eI (dO (aQ (aM (aC (aE 0) (aC (aE 1) (aC (aB (aS 0 (aL 2))) aG)))) bE) (by decide))) (aQ (aS 0 (aL 2)) (aQ (aS 1 (aL 2)) bE))) (by decide)))) aG))))),?_⟩
 rintro ds Q X ⟨kd,ms,rfl,hk,M,hp,kq⟩;have n10:=M.n10;have n1:=M.n1;walk_at "s";refine ⟨_,ms,LL,rfl,(fun k2 e=>by cases e; exact sV hk),n1,by omega,by decide +kernel,by decide +kernel,fun m h=>(M.hc m h).mono (dvd_refl _) (by decide +kernel),fun m h=>⟨(M.hw m h).1,Int.le_trans (M.hw m h).2 (by decide +kernel)⟩,hp,(fun k2 e hk2 row ps F=>?_),fun z=>absurd hk (z kd rfl)⟩;cases e;have R:=Ft hk (fun m h=>(M.hw m h).1) F;have Z:=Fr hk M F;have kk:=kq row ps F;have rl:=R.len;have pl:=R.plen;dsimp only;refine ⟨_,ms,row,NN,10 ^ 7,4,29,7,1,rfl,M.ms Z.r,(fun e=>by rw [e] at n1; simp at n1),rl,(fun k2 e=>by cases e; exact sV hk),(fun k2 e hk2=>?_),fun z=>absurd hk (z kd rfl)⟩;cases e;walk_at "d";refine ⟨[[dI kd ms row],row,ps],rfl,by simp,fun r hr=>?_,?_⟩
 ·simp only [mem_cons,not_mem_nil,or_false] at hr;rcases hr with rfl | rfl | rfl
  ·exact ⟨by simp,fun q hq=>by rw [mem_singleton.mp hq]; exact (M.dg Z.r kd).mono (by decide)⟩
  ·exact ⟨by omega,fun q hq=>Ro.dg9 (Z.r q hq)⟩
  ·exact ⟨by omega,fun q hq=>p89 (Z.p q hq)⟩
 ·walk_at "d";exact kk
theorem lW {ws:List Str} {j:Nat} {x:Str} (h:ws[j]? = some x):nI (ws.map PyData.str) (j:Int) = some (.str x):=fS (by rw [getElem?_map,h]; rfl)
def aHm:DW:=fun ds Q _=>∃ (nm kd:Str) (ms:List Mk) (ws:List Str),ds = [.list (ws.map .str),.list (ms.map dP)]/\kd∈dJ/\MkT ms /\
 ((ws = [Str.ofString "rise", nm, kd] /\ (∀ m ∈ ms, Ok m.1) /\ ∀ row ps, RiseOk kd ms row ps -> Q (.dat (.str (Mh [[dI kd ms row], row, ps])))) \/
  (∃ row:List Rat,ws = Str.ofString "judge" :: nm :: kd :: row.map iX/\row.length = ms.length/\(∀ q∈row,Ro q)/\Q (.dat (.str (iX (dI kd ms row))))))
theorem aCu (T:Txt K mg A):FnOk P w K mg base (eP P w) 9 A.a_qo1 A.d_qo1 ["words","marks"] (fC K aHm):=by
 refine gE T.F_qo1.F Ml (by walk_at "l") fun cdv Ar outer s H E hr=>?_
 refine ⟨_,(aF (cY 2 Ml (kP (K:=K) rfl (pv 0)))
   (aF (eG (cG (Pj T) hr T.F_qq aO (aA (pv 2) aD)))
   (aF (bK (aT cP (kP (K:=K) rfl (pv 0)) bF (aX _)) (aH kQ) aW)
   (aF (bK (aT cP (kP (K:=K) rfl (pv 0)) bF (aX _)) (aH (aV (cG (aCx T) hr T.F_qm1 aO (aA (pv 2) (aA (pv 1) aD))))) aW)
   (aF (bK (aT cP (kP (K:=K) rfl (pv 0)) bF (aX _)) (aH kQ) aW)
   (aH (aV (cG (aCv T) hr T.F_qn1 aO (aA (pv 2) (aA (pv 1) (aA (iC (Uc (K:=K) rfl) (pv 0) (jA aP) jB) aD))))))))))),_,(aJ (bD (bO (bA 0) (aB aK)) (aI 2))
   (aJ (mC (aB (aM (aC (aE 2) aG))))
   (aJ (bP (aU (aB (aN cN (aB (bO (bA 0) (aB aK))) (aB bG)))) rJ aZ)
   (aJ (bP (aU (aB (aN cN (aB (bO (bA 0) (aB aK))) (aB bG)))) (bI (aB (aM (aC (aE 2) (aC (aE 1) aG))))) aZ)
   (aJ (bP (aU (aB (aN cN (aB (bO (bA 0) (aB aK))) (aB bG)))) rJ aZ)
   (bI (aB (aM (aC (aE 2) (aC (aE 1) (aC (aB (eI (Gb (bA 0) (jC (aB aK)) pQ))) aG))))))))))),?_⟩
 rintro ds Q X ⟨nm,kd,ms,ws,rfl,hk,M,hc⟩;rcases hc with ⟨rfl,hpl,kq⟩ | ⟨row,rfl,hl,hro,kq⟩
 ·obtain ⟨ws,hws⟩:∃ ws,[Str.ofString "rise",nm,kd] = ws:=⟨_,rfl⟩;have a0:=lW (ws:=ws) (j:=0) (x:=Str.ofString "rise") (by rw [<- hws]; rfl);have a2:=lW (ws:=ws) (j:=2) (x:=kd) (by rw [<- hws]; rfl);rw [hws];clear hws;walk_at "s";refine ⟨_,a2,?_⟩;walk_at "s";refine ⟨_,rfl,(fun k2 e=>by cases e; exact sV hk),fun _=>?_,fun z=>absurd hk (z kd rfl)⟩;walk_at "s";refine ⟨_,a0,?_⟩;walk_at "d";refine bU (fun c=>absurd c (by decide +kernel)) (fun _=>?_);walk_at "s";refine ⟨_,a0,?_⟩;walk_at "d";refine ⟨kd,ms,rfl,hk,M,hpl,fun row ps F=>?_⟩;walk_at "d";exact kq row ps F
 ·obtain ⟨ws,hws⟩:∃ ws,Str.ofString "judge" :: nm :: kd :: row.map iX = ws:=⟨_,rfl⟩;have a0:=lW (ws:=ws) (j:=0) (x:=Str.ofString "judge") (by rw [<- hws]; rfl);have a2:=lW (ws:=ws) (j:=2) (x:=kd) (by rw [<- hws]; rfl);have e3:oM (ws.map PyData.str) (some 3) none = (row.map iX).map .str:=by
   rw [show (3:Int) = ((3:Nat):Int) from rfl,yE,<- hws]; rfl
  rw [hws];clear hws;walk_at "s";refine ⟨_,a2,?_⟩;walk_at "s";refine ⟨_,rfl,(fun k2 e=>by cases e; exact sV hk),fun _=>?_,fun z=>absurd hk (z kd rfl)⟩;walk_at "s";refine ⟨_,a0,?_⟩;walk_at "d";refine bU (fun c=>absurd c (by decide +kernel)) (fun _=>?_);walk_at "s";refine ⟨_,a0,?_⟩;walk_at "d";refine bU (fun c=>absurd c (by decide +kernel)) (fun _=>?_);walk_at "s";refine ⟨_,a0,?_⟩;walk_at "d";refine bU (fun c=>absurd c (by decide +kernel)) (fun _=>?_);rw [e3];refine ⟨kd,ms,row,rfl,hk,M,hl,hro,?_⟩;walk_at "d";exact kq
theorem aDc (T:Txt K mg A):FnOk P w K mg base (eP P w) 1 A.a_qi2 A.d_qi2 ["self"] (Cl A.c_Desk "kept") :=
 aDq T.F_qi2 aAn rfl T.cl_Desk T.nA_Desk fun cdv Ar outer s H E hr=>aH (aCf (pv 0) Pd rfl)
def Lb (C:Addr):DWK:=fun kv ds Q X=>∃ x:Str,ds = [.str x]/\(∀ d,kv.lookup x = some d->Q (.dat d))/\(kv.lookup x = none->X C)
theorem aCy (T:Txt K mg A):FnOk P w K mg base (eP P w) 1 A.a_ql2 A.d_ql2 ["self","name"] (Mf K A.c_Desk "kept" (Lb A.x_NoName)):=by
 refine okR T.F_ql2 aAj (fun kv ds Q E h=>?_) (fun cdv Ar outer s H E hr=>?_)
 ·obtain ⟨_,rfl,_⟩:=h; rfl
 refine ⟨_,(aF (bK (aCd (Jp (hu1 hr.units) (pv 1) (Cy (pv 0) rfl))) (aH (cU T.x_NoName hr.hd bX rfl (aA bF aD))) aW)
   (aH (aV (Ut (hu1 hr.units) (Cy (pv 0) rfl) (pv 1) (fun _ _=>rfl))))),_,(aJ (bP (Ix 0 T.cl_Desk T.nA_Desk (aE 1)) (cT (aQ bG bE) (by decide)) aZ)
   (bI (aB (Wr 0 T.cl_Desk T.nA_Desk (aE 1))))),?_⟩
 rintro kv ds Q X ⟨x,rfl,k1,k2⟩;walk_at "s";refine ⟨kv,rfl,?_⟩;cases e:kv.lookup x with
 | none=>exact bU (fun _=>k2 e) (fun c=>absurd rfl c)
 | some d =>
  refine bU (fun c=>absurd c (by simp)) (fun _=>?_);walk_at "d";exact ⟨kv,rfl,d,e,k1 d e⟩
def m7 (m:Mk):Sx:=((m.1.num,(m.1.den:Int)),(m.2.1.num,(m.2.1.den:Int)),m.2.2)
def lE (m:Mk):Str:=Jf (m7 m)
def aJt:DM:=fun ds R=>∃ (nm:Str) (ms:List Mk),ds = [.str nm,.list ((ms.map lE).map .str)]/\nm.length<=100000/\pT nm = true/\ms ≠ []/\ms.length<=60/\(∀ m∈ms,Lw7 (m7 m))/\(ms.map (·.1)).Nodup/\∀ res:List Mk,res.Perm ms->Up res->R nm (res.map dP)
theorem Px:∀ ms:List Mk,Ah (ms.map dP) = true
 | []=>rfl
 | m :: r=>by rw [map_cons]; show (ndD (dP m) && Ah (r.map dP)) = true; rw [Px r]; rfl
theorem aDa (T:Txt K mg A):FnOk P w K mg base (eP P w) 5 A.a_qk2 A.d_qk2 ["self","name","words"] (zP K A.c_Desk "kept" aJt):=by
 refine okM T.F_qk2 aAl (fun ds R h=>?_) (fun cdv Ar outer s H E hr=>?_)
 ·obtain ⟨_,_,rfl,_⟩:=h; rfl
 refine ⟨_,(aF (eG (cG (aDb T) hr T.F_qk1 aO (aA (pv 1) aD)))
   (aF (Uq (hu1 hr.units) (Cy (pv 0) rfl) (pv 1) (cG (aJe T) hr T.F_qo aO (aA (fA (cap:=[none]) (NC:=["word"]) rfl (qE rfl) (fV (K:=K) rfl (pv 2)) (fun _ _ _ _=>(kI 0 ["word"])) (fun _ _ _ _=>cC) (fun _ _ _ _=>(cG (aDg T) hr T.F_qg1 aO (aA (pv 0) aD)))) aD)) rfl)
   (aH (aV bF)))),_,fun p_ dx_ d_=>(Pu (mC (aB (aM (aC (aE 1) aG))))
   (Ve 1 T.cl_Desk T.nA_Desk (dH (aC (aB (eI (dW (cW (bA 2)) (aI 0) cM (aM (aC (aE 0) aG)) (by decide) (by decide)))) aG)))),?_⟩
 rintro p ds R ⟨nm,ms,rfl,hnl,hnm,hne,h60,hlw,hnd,k⟩;walk_at "d";refine ⟨nm,rfl,hnl,fun _=>?_,fun z=>by rw [hnm] at z; cases z⟩;walk_at "d";refine ⟨nm,rfl,?_⟩;have e7:∀ m∈ms,nV (lE m) = some (m7 m):=fun m hm=>Ua (hlw m hm)
 refine cL PyData.str mD (fun x:Str=>[(nV x).getD ((0,1),(0,1),1)]) (ms.map lE) (by rw [length_map]; omega) (fun Q h=>by
   walk_at "d"
   exact h) (fun x hx N acc hN=>?_) ?_
 ·obtain ⟨m,hm,rfl⟩:=mem_map.mp hx;have hv:=e7 m hm;have hlen:=(wU (hlw m hm).sm).2;walk_at "d";refine .inl ⟨_,rfl,(show (Jf (m7 m)).length<=100000 by omega),fun m2 hv2=>?_,fun hn=>by rw [hv] at hn; cases hn⟩;rw [hv] at hv2 hN;cases hv2;walk_at "d";exact ⟨rfl,hN⟩
 ·rw [bH];have e:((ms.map lE).map fun x:Str=>(nV x).getD ((0,1),(0,1),1)).map mD = ms.map dP:=by
   rw [map_map,map_map];refine map_congr_left fun m hm=>?_;show mD ((nV (lE m)).getD ((0,1),(0,1),1)) = dP m;rw [e7 m hm]; rfl
  rw [e];refine ⟨ms,rfl,fun m hm=>?_,fun z=>absurd z hne,fun z=>absurd h60 (by omega),fun z=>absurd hnd z,fun _ _ _ res hp hu=>?_⟩
  ·have l:=hlw m hm;exact ⟨fM (n:=10 ^ 40) (le_of_lt l.a) (by decide +kernel),fM (n:=10 ^ 40) (le_of_lt l.b) (by decide +kernel)⟩
  ·walk_at "d";exact ⟨oA _,oA _,Px _,k res hp hu⟩
theorem uP (zs:List Str):dF (zs.map PyData.str) = true:=by
 induction zs with
 | nil=>rfl
 | cons m r ih=>rw [map_cons]; show (mR (PyData.str m) && dF (r.map PyData.str)) = true; rw [ih]; rfl
def aNd:DM:=fun ds R=>∃ (x nm:Str) (ms:List Mk),ds = [.str x]/\x.length<=90000/\Txt.split x (Str.ofString " ") = Str.ofString "marks" :: nm :: ms.map lE/\aJt [.str nm,.list ((ms.map lE).map .str)] R/\1<=ms.length/\ms.length<=60
theorem xK (T:Txt K mg A) (CT_COUNTS:tR w K A.g_COUNTS (gS A)):FnOk P w K mg base (eP P w) 10 A.a_qj2 A.d_qj2 ["self","row"] (zP K A.c_Desk "kept" aNd):=by
 have G_qj1:=Pl (P:=P) (w:=w) (base:=base) T CT_COUNTS;have G_qk2:=aDa (P:=P) (w:=w) (base:=base) T;refine okM T.F_qj2 rQ (fun ds R h=>?_) (fun cdv Ar outer s H E hr=>?_)
 ·obtain ⟨_,_,_,rfl,_⟩:=h; rfl
 refine ⟨_,(aF (cY 2 rQ (cG G_qj1 hr T.F_qj1 aO (aA (pv 1) aD)))
   (aF (bK (aT cP (kP (K:=K) rfl (pv 2)) bF (aX _)) (aH kQ) aW)
   (aF (bK (aT cP (kP (K:=K) rfl (pv 2)) bF (aX _)) (aH (aV (mH (pv 0) T.cl_Desk T.M_qk2 G_qk2 (hr.mono (by decide)) T.b_qk2 .nil aO (aA (kP (K:=K) rfl (pv 2)) (aA (iC (Uc (K:=K) rfl) (pv 2) (jA aP) jB) aD))))) aW)
   (aF kQ
   (aF kQ
   (aF kQ
   (aH kQ))))))),_,fun p_ dx_ d_=>(Pu (bZ 2 (dH (aC (aE 1) aG)))
   (aDu (aU (aB (aN cN (aB (bO (bA 2) (aB aK))) (aB bG))))
   (aDt (aU (aB (aN cN (aB (bO (bA 2) (aB aK))) (aB bG)))) (Vf (by decide) (aC (aB (bO (bA 2) (aB aK))) (aC (aB (eI (Gb (bA 2) (jC (aB aK)) pQ))) aG)))))),?_⟩
 rintro p ds R ⟨x,nm,ms,rfl,hx,hsp,hlay,m1,m60⟩;obtain ⟨ws,hws⟩:∃ ws,Str.ofString "marks" :: nm :: ms.map lE = ws:=⟨_,rfl⟩;have a0:=lW (ws:=ws) (j:=0) (x:=Str.ofString "marks") (by rw [<- hws]; rfl);have a1:=lW (ws:=ws) (j:=1) (x:=nm) (by rw [<- hws]; rfl);have e2:oM (ws.map PyData.str) (some 2) none = (ms.map lE).map .str:=by
  rw [show (2:Int) = ((2:Nat):Int) from rfl,yE,<- hws]; rfl
 have gd:Bb ws:=⟨Str.ofString "marks",nm :: ms.map lE,3,62,hws.symm,by decide +kernel,by rw [<- hws]; simp; omega,by rw [<- hws]; simp; omega⟩;rw [hws] at hsp;clear hws;walk_at "d";refine .inl ⟨x,ws,rfl,hx,hsp,fun _=>?_,fun z=>absurd gd z⟩;walk_at "d";refine ⟨uP ws,?_⟩;refine ⟨_,a0,?_⟩;walk_at "d";refine bU (fun c=>absurd c (by decide +kernel)) (fun _=>?_);refine ⟨_,a0,?_⟩;walk_at "d";refine ⟨_,a1,?_⟩;rw [e2];exact hlay
def Th:DWK:=fun kv ds Q _=>∃ (x w0 nm:Str) (ws:List Str) (d:PyData),ds = [.str x]/\x.length<=90000/\Txt.split x (Str.ofString " ") = ws/\Bb ws/\ws[0]? = some w0/\ws[1]? = some nm/\w0 ≠ "names"/\w0 ≠ "marks"/\w0 ≠ "drop"/\w0 ≠ "show"/\kv.lookup nm = some d/\aHm [.list (ws.map .str),d] (vQ fun v=>Q (.dat v)) fun _=>False
theorem xJ (T:Txt K mg A) (CT_COUNTS:tR w K A.g_COUNTS (gS A)):FnOk P w K mg base (eP P w) 10 A.a_qj2 A.d_qj2 ["self","row"] (Mf K A.c_Desk "kept" Th):=by
 have G_qj1:=Pl (P:=P) (w:=w) (base:=base) T CT_COUNTS;have G_ql2:=aCy (P:=P) (w:=w) (base:=base) T;refine okR T.F_qj2 rQ (fun kv ds Q E h=>?_) (fun cdv Ar outer s H E hr=>?_)
 ·obtain ⟨_,_,_,_,_,rfl,_⟩:=h; rfl
 refine ⟨_,(aF (cY 2 rQ (cG G_qj1 hr T.F_qj1 aO (aA (pv 1) aD)))
   (aF (bK (aT cP (kP (K:=K) rfl (pv 2)) bF (aX _)) (aH kQ) aW)
   (aF (bK (aT cP (kP (K:=K) rfl (pv 2)) bF (aX _)) (aH kQ) aW)
   (aF (cY 3 rQ (mH (pv 0) T.cl_Desk T.M_ql2 G_ql2 (hr.mono (by decide)) T.b_ql2 .nil aO (aA (kP (K:=K) rfl (pv 2)) aD)))
   (aF (bK (aT cP (kP (K:=K) rfl (pv 2)) bF (aX _)) (aF kQ
   (aH kQ)) aW)
   (aF (bK (aT cP (kP (K:=K) rfl (pv 2)) bF (aX _)) (aH kQ) aW)
   (aH (aV (cG (aCu T) hr T.F_qo1 aO (aA (pv 2) (aA (pv 3) aD))))))))))),_,(aJ (bZ 2 (dH (aC (aE 1) aG)))
   (aJ (bP (aU (aB (aN cN (aB (bO (bA 2) (aB aK))) (aB bG)))) rJ aZ)
   (aJ (bP (aU (aB (aN cN (aB (bO (bA 2) (aB aK))) (aB bG)))) rJ aZ)
   (aJ (mT 2 (Lz 0 (by decide) (aC (aB (bO (bA 2) (aB aK))) aG) (aI 3)))
   (aJ (bP (aU (aB (aN cN (aB (bO (bA 2) (aB aK))) (aB bG)))) (aJ rJ
   rJ) aZ)
   (aJ (bP (aU (aB (aN cN (aB (bO (bA 2) (aB aK))) (aB bG)))) rJ aZ)
   (bI (aB (aM (aC (aE 2) (aC (aE 3) aG))))))))))),?_⟩
 rintro kv ds Q X ⟨x,w0,nm,ws,d,rfl,hx,hsp,gd,h0,h1,n1,n2,n3,n4,hd,ha⟩;have a0:=lW (j:=0) h0;have a1:=lW (j:=1) h1;walk_at "s";refine .inl ⟨x,ws,rfl,hx,hsp,fun _=>?_,fun z=>absurd gd z⟩;walk_at "d";refine ⟨uP ws,?_⟩;walk_at "s";refine ⟨_,a0,?_⟩;walk_at "d";refine bU (fun c=>absurd c n1) (fun _=>?_);walk_at "s";refine ⟨_,a0,?_⟩;walk_at "d";refine bU (fun c=>absurd c n2) (fun _=>?_);walk_at "s";refine ⟨kv,rfl,_,a1,nm,rfl,fun d2 hd2=>?_,fun z=>by rw [hd] at z; cases z⟩;rw [hd] at hd2;cases hd2;walk_at "d";walk_at "s";refine ⟨_,a0,?_⟩;walk_at "d";refine bU (fun c=>absurd c n3) (fun _=>?_);walk_at "s";refine ⟨_,a0,?_⟩;walk_at "d";refine bU (fun c=>absurd c n4) (fun _=>?_);exact ha
open PySem.NumText (AllDigits digitsVal)
theorem Ud (x:Str):PySem.Txt.slice x (some 0) none = x:=by
 apply fP;have hl:=cZ x;have e:=slice_closes_from (x:=x) (i:=0) ⟨by decide,by omega⟩;rw [eq_of_beq e];have e2:((x.cps.toList.length:Int) - 0).toNat = (x.cps.toList.drop 0).length:=by rw [length_drop]; omega
 rw [e2];show take _ (x.cps.toList.drop (toNat 0)) = _;exact take_length
theorem aEo {n:Int} (h:n.natAbs < 10 ^ 90):PySem.intText? (Str.ofString (toString n)) = some n:=by
 obtain ⟨cs,d,e⟩:=jQ (k:=89) h;have l1:=d.l1;have l2:=d.l2;have ne:cs ≠ []:=fun z=>by rw [z] at l1; simp at l1
 have hv:=d.vl;by_cases hn:n < 0
 ·rw [if_pos hn] at e;have hl0:=Iw h;rw [PySem.intText_neg e d.al ne (by omega),hv]
  congr 1; omega
 ·rw [if_neg hn] at e;have:=PySem.intText_digits (x:=Str.ofString (toString n)) (by rw [e]; exact d.al) (by rw [e]; exact ne) (by rw [<- cZ,e]; omega);rw [this,e,hv]
  congr 1; omega
def aHi:DW:=fun ds Q _=>∃ n:Int,ds = [.str (Str.ofString (toString n))]/\n.natAbs < 10 ^ 90/\Q (.dat (.int n))
theorem lL (T:Txt K mg A):FnOk P w K mg base (eP P w) 1 A.a_qu1 A.d_qu1 ["word"] (fC K aHi):=by
 refine gE T.F_qu1.F Cq (by walk_at "l") fun cdv Ar outer s H E hr=>?_
 refine ⟨_,(aF (cY 1 Cq (iC wT (pv 0) (jA (dS Ks rfl T.n_int yK (aA (iK cP (iC wT (pv 0) jB (jA aP)) bF (aX _)) aD))) jB))
   (aF (bK (PW.pt (gA (aT cP (pv 1) bF (aX _)) (fU (aT jP (bB fK rfl T.n_len boot_len (aA (pv 1) aD)) aP (aX _))))) (aH (aV jJ)) aW)
   (aF (dU PassesOwn.leaving rfl (Cw (pv 1)) (mG 2 Cq)
    (aH (bK (aT nY (pv 2) bF rfl) (aH (aV jJ)) aW)))
   (aF (bK (aT nZ (dS eK rfl T.n_str Dl.boot_str (aA (dS pK rfl T.n_int yK (aA (pv 0) aD)) aD)) (pv 0) (aX _)) (aH (aV jJ)) aW)
   (aH (aV (dS pK rfl T.n_int yK (aA (pv 0) aD)))))))),_,(aJ (bD (xX (aE 0) (jC (aB (bT aCa (aC (aB (aN cN (aB (xX (aE 0) pQ (jC (aB aK)))) (aB bG))) aG)))) pQ) (aI 1))
   (aJ (bP (fZ (aU (aB (aN cN (aE 1) (aB bG)))) (aU (aB (aN eW (aB (bT mF (aC (aE 1) aG))) (aB aK))))) (bI (aB jM)) aZ)
   (aJ (eC (Dw (aL 1)) (aI 2)
    (bP (aU (aB (aN uT (aE 2) (aB bG)))) (bI (aB jM)) aZ))
   (aJ (bP (aU (aB (aN pO (aB (bT lG (aC (aB (bT xA (aC (aE 0) aG))) aG))) (aE 0)))) (bI (aB jM)) aZ)
   (bI (aB (bT xA (aC (aE 0) aG)))))))),?_⟩
 rintro ds Q X ⟨n,rfl,hn,k⟩;obtain ⟨cs,d,e⟩:=jQ (k:=89) hn;have hi:=aEo hn;have hl:=Iw hn;have lg:=Vl hn;have l1:=d.l1;have l2:=d.l2;have fm:=lQ (Str.ofString (toString n));obtain ⟨x,hx⟩:∃ x,Str.ofString (toString n) = x:=⟨_,rfl⟩;rw [hx] at e hi hl fm ⊢;have h45:cs.head? ≠ some 45:=fun z=>by
  cases cs with
  | nil=>simp at z
  | cons a r =>
   have:=d.al a (by simp);have:a = 45:=by simpa using z
   omega
 have fig:(PySem.Txt.slice x (some (if decide (PySem.Txt.slice x none (some 1) = Str.ofString "-") = true then 1 else 0)) none).cps.toList = cs:=by
  by_cases h0:n < 0
  ·rw [if_pos h0] at e;rw [if_pos (decide_eq_true (fm.mpr (by rw [e]; rfl))),Fi,e]; rfl
  ·rw [if_neg h0] at e;rw [if_neg (fun z=>h45 (by have:=fm.mp (of_decide_eq_true z); rwa [e] at this)),Ud,e]
 have lx:(x.length:Int)<=100000:=by omega
 walk_at "s";refine ⟨by omega,by omega,?_⟩;simp only [decide_eq_true_eq] at fig;obtain ⟨y,hy⟩:∃ y,PySem.Txt.slice x (some (if PySem.Txt.slice x none (some 1) = Str.ofString "-" then 1 else 0)) none = y:=⟨_,rfl⟩;rw [hy] at fig ⊢;have hly:=cZ y;rw [fig] at hly;walk_at "s";refine bU (fun c=>?_) (fun _=>⟨by omega,bU (fun c=>absurd c (by omega)) (fun _=>?_)⟩)
 ·rw [c] at hly;have:(Str.ofString "").length = 0:=by decide +kernel
  omega
 walk_at "s"
 refine cK (dE sgD y.cps.toList (fun Q h=>by
   walk_at "d"
   exact h) (fun i δ=>∃ s3:Option Sl,δ = [some (.dat (.str x)),some (.dat (.str y)),s3]) ⟨none,rfl⟩ ?_ ?_)
 ·rintro i c δ hc ⟨s3,rfl⟩;unfold sgD;have hd:=d.al c (by rw [<- fig]; exact mem_of_getElem? hc);walk_at "d";rw [Qn,isDig_iff.mpr hd];refine bU (fun z=>absurd z (by decide)) (fun _=>?_);exact ⟨_,rfl⟩
 ·rintro δ ⟨s3,rfl⟩;walk_at "s";refine ⟨by omega,n,hi,lg,?_⟩;rw [hx];refine bU (fun z=>absurd rfl z) (fun _=>?_);walk_at "d";exact ⟨by omega,n,hi,k⟩
theorem aNb {n:Int} (h:n.natAbs < 10 ^ 90):47 ∉ (Str.ofString (toString n)).cps.toList:=fun z=>by
 rcases oY (k:=89) h 47 z with y | y
 ·exact absurd y (by decide)
 ·omega
theorem Re:Str.ofString "" = Str.empty:=by decide +kernel
def Zh:DW:=fun ds Q _=>∃ q:Rat,ds = [.str (iX q)]/\Dg 89 q/\Q (.dat (fr q))
theorem aCt (T:Txt K mg A):FnOk P w K mg base (eP P w) 2 A.a_qv1 A.d_qv1 ["word"] (fC K Zh):=by
 refine gE T.F_qv1.F oS (by walk_at "l") fun cdv Ar outer s H E hr=>?_
 refine ⟨_,(aF (Cu (fB F.plainAttrs_str F.slot_str_partition F.type_str_partition iL (pv 0) (aA bF aD)) (nB (K:=K) (n:=3) rfl rfl (bQ (mG 1 oS) (bQ (mG 2 oS) (bQ (mG 3 oS) eV)))))
   (aF (cY 4 oS (cG (lL T) hr T.F_qu1 aO (aA (pv 1) aD)))
   (aF (bK (PW.pt (gA (aT cP (pv 2) bF (aX _)) (fU (aT Cz (pv 4) jJ (aX _))))) (aF (bK (aT Cz (pv 4) jJ (aX _)) (aH (aV jJ)) aW)
   (aH (aV (cA (aA (pv 4) (aA aP aD)))))) aW)
   (aF (cY 5 oS (cG (lL T) hr T.F_qu1 aO (aA (pv 3) aD)))
   (aF (bK (PW.pt (gA (aT Cz (pv 5) jJ (aX _)) (gA (aT lJ (pv 5) aP (aX _)) (fU (aT (Pt (K:=K) rfl hr.units) (cG (iH T) hr T.F_qq1 aO (aA (pv 4) (aA (pv 5) aD))) (cA (aA (pv 4) (aA (pv 5) aD))) (aX _)))))) (aH (aV jJ)) aW)
   (aH (aV (cA (aA (pv 4) (aA (pv 5) aD)))))))))),_,(aJ (bD (oG (aE 0) (aB bG)) (fX (bW (aI 1) (bW (aI 2) (bW (aI 3) fY)))))
   (aJ (bD (aM (aC (aE 1) aG)) (aI 4))
   (aJ (bP (fZ (aU (aB (aN cN (aE 2) (aB bG)))) (aU (aB (aN Cs (aE 4) (aB jM))))) (aJ (bP (aU (aB (aN Cs (aE 4) (aB jM)))) (bI (aB jM)) aZ)
   (bI (aB (cI (aQ (aL 4) (aQ aK bE)) (by decide))))) aZ)
   (aJ (bD (aM (aC (aE 3) aG)) (aI 5))
   (aJ (bP (fZ (aU (aB (aN Cs (aE 5) (aB jM)))) (fZ (aU (aB (aN eW (aE 5) (aB aK)))) (aU (aB (aN iT (aB (aM (aC (aE 4) (aC (aE 5) aG)))) (aB (cI (aQ (aL 4) (aQ (aL 5) bE)) (by decide)))))))) (bI (aB jM)) aZ)
   (bI (aB (cI (aQ (aL 4) (aQ (aL 5) bE)) (by decide))))))))),?_⟩
 rintro ds Q X ⟨q,rfl,hq,k⟩;obtain ⟨h1,h2⟩:=dg9 hq;have n1:=aNb h1;have hlen:=nW hq;have dp:=kS q;have hfr:fr q = .tuple [.int q.num,.int (q.den:Int)]:=rfl;rw [hfr] at k;by_cases hd:(q.den:Int) = 1
 ·have ex:iX q = Str.ofString (toString q.num):=by unfold iX qO; rw [if_pos hd]
  have hp:PySem.Txt.partition (iX q) "/" = (Str.ofString (toString q.num),Str.empty,Str.empty):=by
   rw [ex];exact sD (by rw [hU rM]; exact decide_eq_false n1)
  walk_at "s";refine ⟨by omega,by rw [gT]; rfl,?_⟩;rw [hp];walk_at "s";refine ⟨_,rfl,h1,?_⟩;walk_at "s";rw [Re];refine bU (fun _=>?_) (fun c=>absurd rfl c);walk_at "d";walk_at "s";rw [hd] at k;exact k
 ·have ex:iX q = Str.ofString (toString q.num) ++ Str.ofString "/" ++ Str.ofString (toString (q.den:Int)):=by unfold iX qO; rw [if_neg hd]
  have hp:PySem.Txt.partition (iX q) "/" = (Str.ofString (toString q.num),Str.ofString "/",Str.ofString (toString (q.den:Int))):=by
   rw [ex];exact qS zN n1
  walk_at "s";refine ⟨by omega,by rw [gT]; rfl,?_⟩;rw [hp];walk_at "s";refine ⟨_,rfl,h1,?_⟩;walk_at "s";refine bU (fun c=>absurd c (by decide +kernel)) (fun _=>?_);walk_at "s";refine ⟨_,rfl,h2,?_⟩;walk_at "s";refine bU (fun c=>absurd c (by omega)) (fun _=>?_);refine ⟨_,_,rfl,dp,kA (n:=90) (by omega) (by decide),?_⟩;rw [show divInt q.num (q.den:Int) = q from num_divInt_den q];walk_at "d";refine ⟨Rat,eRat,q,q,rfl,rfl,fun v hv=>?_⟩;rw [hv.mpr rfl];walk_at "d";exact k
def Ze:DW:=fun ds Q _=>∃ rows:List (List Rat),ds = [.str (Mh rows)]/\rows ≠ []/\rows.length<=4/\(∀ r∈rows,r ≠ []/\r.length<=100/\∀ q∈r,Dg 89 q)/\Q (.own (lsD rows))
theorem Dc (T:Txt K mg A):FnOk P w K mg base (eP P w) 3 A.a_qw1 A.d_qw1 ["answer"] (fC K Ze):=by
 refine gE T.F_qw1.F aAe (by walk_at "l") fun cdv Ar outer s H E hr=>?_
 refine ⟨_,(aF (bK (kH (eL (bB (Gs (K:=K) rfl) rfl T.n_isinstance hV (aA (pv 0) (aA (qR rfl T.n_str yJ (show RelV (.ty "str") (.type "str") from rfl)) aD))))) (aH (aV (dN (aA (dN (aA jJ aD)) aD)))) aW)
   (aH (aV (fA (cap:=[none]) (NC:=["part"]) rfl (qE rfl) (fV (K:=K) rfl (fB F.plainAttrs_str F.slot_str_split F.type_str_split sM (pv 0) (aA bF aD))) (fun _ _ _ _=>(kI 0 ["part"])) (fun _ _ _ _=>cC) (fun _ _ _ _=>(fA (cap:=[none]) (NC:=["word"]) rfl (qE rfl) (fV (K:=K) rfl (fB F.plainAttrs_str F.slot_str_split F.type_str_split sM (pv 0) (aA bF aD))) (fun _ _ _ _=>(kI 0 ["word"])) (fun _ _ _ _=>cC) (fun _ _ _ _=>(cG (aCt T) hr T.F_qv1 aO (aA (pv 0) aD))))))))),_,(aJ (bP (jZ (jF (aB (xY (by decide) (aE 0))))) (kB (dO (aQ (eI (dO (aQ jM bE) (by decide))) bE) (by decide))) aZ)
   (kB (dW (cW (mP (sG (aE 0) (aB bG)))) (aI 0) cM (eI (dW (cW (mP (sG (aE 0) (aB bG)))) (aI 0) cM (aM (aC (aE 0) aG)) (by decide) (by decide))) (by decide) (by decide)))),?_⟩
 rintro ds Q X ⟨rows,rfl,hne,hl,hr2,k⟩;have hlenL:∀ r∈rows,(Co r).length<=18400:=fun r hr=>by
  have:=qM (hr2 r hr).2.2;have:=(hr2 r hr).2.1;omega
 have hlen:(Mh rows).length<=90000:=by
  have:=xR (Str.ofString " | ") (ws:=rows.map Co) (n:=18400) fun w hw=>by
   obtain ⟨r,hr,rfl⟩:=mem_map.mp hw;exact hlenL r hr
  rw [yL,length_map] at this;unfold Mh;omega
 have hs1:Txt.split (Mh rows) (Str.ofString " | ") = rows.map Co:=mW Zw (by rw [Cb]; decide) (by simpa using hne) fun w hw=>by
  obtain ⟨r,hr,rfl⟩:=mem_map.mp hw;exact Uh (hr2 r hr).2.2
 have hs2:∀ r∈rows,Txt.split (Co r) (Str.ofString " ") = r.map iX:=fun r hr=>mW zO (by rw [gX]; decide) (by simpa using (hr2 r hr).1) fun w hw=>by
  obtain ⟨q,hq,rfl⟩:=mem_map.mp hw;exact Cn ((hr2 r hr).2.2 q hq) (.inl rfl)
 walk_at "s";refine bU (fun c=>absurd c (by decide)) (fun _=>?_)
 refine cL (fun r:List Rat=>PyData.str (Co r)) (fun r:List Rat=>PyData.list (r.map fr)) (fun r=>[r]) rows (by omega) (fun Q h=>by
   walk_at "d"
   refine ⟨hlen,by rw [yL]; rfl,?_⟩
   rw [hs1,map_map]
   exact h) (fun r hr N acc hN=>?_) ?_
 ·walk_at "d"
  refine cL (fun q:Rat=>PyData.str (iX q)) fr (fun q=>[q]) r (by have:=(hr2 r hr).2.1; omega) (fun Q h=>by
    walk_at "d"
    refine ⟨by have:=hlenL r hr; omega,by rw [fL]; rfl,?_⟩
    rw [hs2 r hr,map_map]
    exact h) (fun q hq N2 acc2 hN2=>?_) ?_
  ·walk_at "d";refine ⟨q,rfl,(hr2 r hr).2.2 q hq,?_⟩;walk_at "d";exact hN2
  ·rw [bH,List.map_id'];exact hN
 ·rw [bH,List.map_id'];exact k
structure MkR (most:Nat) (ms:List Mk):Prop where
 n1:1<=ms.length
 nm:ms.length<=most
 hc:∀ m∈ms,Cm LL (10 ^ 6) m.2.1
 hw:∀ m∈ms,1<=m.2.2/\m.2.2<=4
 up:Up ms
 pl:∀ m∈ms,m.1.num.natAbs<=1000/\m.1.den<=2
theorem MkR.t {most:Nat} {ms:List Mk} (M:MkR most ms) (h:most<=10):MkT ms:=⟨M.n1,le_trans M.nm h,M.hc,M.hw⟩
theorem En:0 < LL:=by decide +kernel
theorem MkR.lw {most:Nat} {ms:List Mk} (M:MkR most ms):∀ m∈ms,Lw7 (m7 m):=fun m hm=>by
 have h1:=(M.hc m hm).dg En (show LL<=10 ^ 13 by decide +kernel) (le_refl (10 ^ 6));have h2:=M.hw m hm;have h3:=M.pl m hm;have e20:(10:Nat) ^ (6 + 13 + 1) < 10 ^ 40:=by decide +kernel
 have e4:(1000:Nat) < 10 ^ 40:=by decide +kernel
 have n1:=h1.n;have n2:=h1.d;refine ⟨?_,?_,?_,?_,?_,kS _,kS _,h2.1,m.1.reduced,m.2.1.reduced⟩
 ·show m.1.num.natAbs < 10 ^ 40; omega
 ·show ((m.1.den:Nat):Int).natAbs < 10 ^ 40; rw [natAbs_natCast]; omega
 ·show m.2.1.num.natAbs < 10 ^ 40; omega
 ·show ((m.2.1.den:Nat):Int).natAbs < 10 ^ 40; rw [natAbs_natCast]; omega
 ·show m.2.2.natAbs < 10 ^ 40; omega
theorem aEz {s t b:Int} (hb:0 < b) (h:s < t):divInt s b < divInt t b:=by
 rw [Br,Br,div_def,div_def];exact mul_lt_mul_of_pos_right (intCast_lt_intCast.mpr h) (inv_pos.mpr (intCast_pos.mpr hb))
theorem Km {t b:Int} (hb:1<=b) (hb2:b<=2) (ht:t.natAbs<=500):(divInt t b).num.natAbs<=1000/\(divInt t b).den<=2:=by
 have d2:b.toNat ∣ 2:=by
  have:b.toNat = 1\/b.toNat = 2:=by omega
  rcases this with e | e <;> rw [e] <;> decide
 have c:=Cm.div (t:=t) (b:=b.toNat) (L:=2) (B:=500) (by omega) d2 (le_trans ht (le_mul_of_pos_right _ (by omega)));rw [show ((b.toNat:Nat):Int) = b by omega] at c;have d:=c.den (by decide);have n:=c.num;refine ⟨?_,d⟩;have:500 * (divInt t b).den<=500 * 2:=mul_le_mul_left _ d;omega
theorem aLd {t b:Int} (hb:1<=b) (hb2:b<=30) (ht:t.natAbs<=10 ^ 6):Cm LL (10 ^ 6) (divInt t b):=by
 have c:=Cm.div (t:=t) (b:=b.toNat) (L:=LL) (B:=10 ^ 6) (by omega) (aGj (by omega) (by omega)) (le_trans ht (le_mul_of_pos_right _ (by omega)));rw [show ((b.toNat:Nat):Int) = b by omega] at c;exact c
def aGx:DW:=fun ds Q _=>∃ (ns:List Int) (st most:Nat),ds = [.list (ns.map .int),.int (st:Int),.int (most:Int)]/\(∀ v∈ns,Builtin.Int.intBits v<=1048576)/\ns.length<=100/\3<=st/\st<=10/\1<=most/\most<=10/\∀ ms:List Mk,MkR most ms->Q (.own (ms.map dP))
theorem aDj (T:Txt K mg A):FnOk P w K mg base (eP P w) 2 A.a_qd2 A.d_qd2 ["script","start","most"] (fC K aGx):=by
 refine gE T.F_qd2.F kD (by walk_at "l") fun cdv Ar outer s H E hr=>?_
 refine ⟨_,(aF (cY 3 kD (dN aD))
   (aF (cY 4 kD (aY lI (aY eN (cG (lK T) hr T.F_qp1 aO (aA (pv 0) (aA aP aD))) aP) aP))
   (aF (dU PassesOwn.leaving rfl (Jo rfl T.n_range (aA (pv 1) (aA (bB (wA rfl) rfl T.n_max Sk (aA (aY eR (pv 1) aP) (aA (bB (pJ rfl) rfl T.n_min Eg (aA (bB (gH (K:=K) rfl) rfl T.n_len boot_len (aA (pv 0) aD)) (aA (aY eR (pv 1) (aY bV aP (pv 2))) aD))) aD))) (aA aP aD)))) (mG 5 kD)
    (aF (cY 6 kD (cG (lK T) hr T.F_qp1 aO (aA (pv 0) (aA (pv 5) aD))))
   (aF (cY 7 kD (cG (lK T) hr T.F_qp1 aO (aA (pv 0) (aA (aY eR (pv 5) aP) aD))))
   (aF (cY 4 kD (aY eR (aY eR (pv 4) aP) (aY eN (pv 7) aP)))
   (aF (cY 8 kD (cG (iH T) hr T.F_qq1 aO (aA (aY lI (aY eN (pv 6) aP) aP) (aA (aY eR aP (aY eN (aY dY (pv 6) aP) aP)) aD))))
   (aF (bK (aT cP (aY eN (cG (lK T) hr T.F_qp1 aO (aA (pv 0) (aA aP aD))) aP) aP (aX _)) (aH (cY 8 kD (cG (iH T) hr T.F_qq1 aO (aA (aY lI (aY eN (aY bV (pv 6) aP) (aY eR (aY bV aP (aY Ph aP aP)) aP)) (aY Ph aP aP)) (aA (aY eR aP (aY eN (aY dY (pv 7) aP) aP)) aD))))) aW)
   (aH (eG (fB F.plainAttrs_list F.slot_list_append F.type_list_append gW (pv 3) (aA (cA (aA (cG (iH T) hr T.F_qq1 aO (aA (pv 4) (aA (aY eR aP (aY eN (aY dY (cG (lK T) hr T.F_qp1 aO (aA (pv 0) (aA aP aD))) aP) aP)) aD))) (aA (pv 8) (aA (aY eR aP (aY eN (aY dY (pv 7) aP) aP)) aD)))) aD))))))))))
   (aH (aV (pv 3)))))),_,(aJ (bZ 3 (dO bE (by decide)))
   (aJ (bD (aN eO (aB (fE (k:=21) (by decide) (aB (aM (aC (aE 0) (aC (aB aK) aG)))) aK)) (aB aK)) (aI 4))
   (aJ (eC (Vw (aC (aE 1) (aC (aB (bT Oq (aC (aB (aN eO (aE 1) (aB aK))) (aC (aB (bT Ct (aC (aB (bT cO (aC (aE 0) aG))) (aC (aB (aN eO (aE 1) (aB (aN dM (aB aK) (aE 2))))) aG)))) aG)))) (aC (aB aK) aG)))) (aI 5)
    (aJ (bD (aM (aC (aE 0) (aC (aE 5) aG))) (aI 6))
   (aJ (bD (aM (aC (aE 0) (aC (aB (aN eO (aE 5) (aB aK))) aG))) (aI 7))
   (aJ (bD (aN eO (aB (aN eO (aE 4) (aB aK))) (aB (fE (k:=3) (by decide) (aE 7) aK))) (aI 4))
   (aJ (bD (aM (aC (aB (aN eO (aB (fE (k:=13) (by decide) (aE 6) aK)) (aB aK))) (aC (aB (aN eO (aB aK) (aB (fE (k:=3) (by decide) (aB (lT (k:=13) (Bx (by decide +kernel)) (aE 6) aK)) aK)))) aG))) (aI 8))
   (rK (bP (aU (aB (aN cN (aB (fE (k:=3) (by decide) (aB (aM (aC (aE 0) (aC (aB aK) aG)))) aK)) (aB aK)))) (bD (aM (aC (aB (aN eO (aB (fE (k:=2000001) (by decide) (aB (aN dM (aE 6) (aB aK))) (Wg (v:=2000001) (aN eO (aB (aN dM (aB aK) (aB (aN dM (aB aK) (aB aK))))) (aB aK)) (fun ex δ Q h=>⟨aLc (by decide +kernel),dQ (Ir (by decide +kernel)) (Ir (by decide +kernel)),Eq.mpr (congrArg (fun z=>Q (.int z)) (by decide +kernel:(((2 * (10 ^ toNat 6)) + 1):Int) = 2000001)) h⟩)))) (aB (Wg (v:=1000000) (aN dM (aB aK) (aB aK)) (fun ex δ Q h=>⟨aLc (by decide +kernel),Eq.mpr (congrArg (fun z=>Q (.int z)) (by decide +kernel:((10 ^ toNat 6):Int) = 1000000)) h⟩))))) (aC (aB (aN eO (aB aK) (aB (fE (k:=30) (by decide) (aB (lT (k:=12) (Bx (by decide +kernel)) (aE 7) aK)) aK)))) aG))) (aI 8)) aZ)
   (oR 3 (cI (aQ (aM (aC (aE 4) (aC (aB (aN eO (aB aK) (aB (fE (k:=2) (by decide) (aB (lT (k:=21) (Bx (by decide +kernel)) (aB (aM (aC (aE 0) (aC (aB aK) aG)))) aK)) aK)))) aG))) (aQ (aL 8) (aQ (aN eO (aB aK) (aB (fE (k:=4) (by decide) (aB (lT (k:=3) (Bx (by decide +kernel)) (aE 7) aK)) aK))) bE))) (by decide)))))))))
   (eA 3)))),?_⟩
 rintro ds Q X ⟨ns,st,most,rfl,hbits,hlen,st3,st10,mo1,mo10,k⟩;obtain ⟨c1,hc1⟩:∃ c1:Int,iJ ns 1 = c1:=⟨_,rfl⟩;obtain ⟨c2,hc2⟩:∃ c2:Int,iJ ns 2 = c2:=⟨_,rfl⟩;have h2m:(2:Int) * (most:Int) = ((2 * most:Nat):Int):=by omega
 obtain ⟨tm,htm⟩:∃ tm:Int,(2:Int) * (most:Int) = tm:=⟨_,rfl⟩;have tm1:2<=tm:=by omega
 have tm2:tm = 2 * (most:Int):=by omega
 walk_at "s";walk_at "s";refine ⟨ns,1,rfl,by decide,by decide,?_⟩;walk_at "d";rw [hc1];obtain ⟨p0,hp0,p0a⟩:∃ p0:Int,c1 % 21 - 10 = p0/\p0.natAbs<=10:=⟨_,rfl,by omega⟩;rw [hp0];obtain ⟨hi,hhi,hi1,hi2⟩:∃ hi:Int,(if (if (st:Int) + tm < (ns.length:Int) then (st:Int) + tm else (ns.length:Int)) > (st:Int) + 2 then (if (st:Int) + tm < (ns.length:Int) then (st:Int) + tm else (ns.length:Int)) else (st:Int) + 2) = hi/\(st:Int) + 2<=hi/\hi<=(st:Int) + tm:=⟨_,rfl,by (repeat' split) <;> omega,by (repeat' split) <;> omega⟩;obtain ⟨n,hn,n1,n2⟩:∃ n:Nat,Builtin.Range.rangeSize (st:Int) hi 2 = (n:Int)/\1<=n/\n<=most:=by
  unfold Builtin.Range.rangeSize;refine ⟨((hi - (st:Int) - 1) / 2 + 1).toNat,?_,by omega,by omega⟩;rw [if_pos (by decide),if_pos (by omega)];omega
 refine cK (qX (lo:=(st:Int)) (st:=2) (n:=n) (fun Q h=>by
   walk_at "d"
   refine ⟨dQ (Ir (by decide +kernel)) (fM (n:=100) (by omega) (by decide +kernel)),?_⟩
   rw [htm,hhi]
   exact ⟨n,⟨by decide,by decide,Jj ⟨by omega,by omega⟩ ⟨by omega,by omega⟩ (by decide)⟩,hn,h⟩)
  (fun i δ=>∃ (ms:List Mk) (p:Int) (s5 s6 s7 s8:Option Sl),δ = [some (.dat (.list (ns.map .int))),some (.dat (.int (st:Int))),some (.dat (.int (most:Int))),some (.own (ms.map dP)),some (.dat (.int p)),s5,s6,s7,s8]/\ms.length = i/\p.natAbs<=10 + 3 * i/\(∀ m∈ms,Cm LL (10 ^ 6) m.2.1)/\(∀ m∈ms,1<=m.2.2/\m.2.2<=4)/\Up ms/\(∀ m∈ms,m.1.num.natAbs<=1000/\m.1.den<=2)/\∀ m∈ms,∃ s:Int,s<=p/\m.1 = divInt s (1 + c1 / 21 % 2))
  ⟨[],p0,none,none,none,none,rfl,rfl,by omega,(fun m h=>nomatch h),(fun m h=>nomatch h),.nil,(fun m h=>nomatch h),fun m h=>nomatch h⟩ ?_ ?_)
 ·rintro i δ hi3 ⟨ms,p,s5,s6,s7,s8,rfl,hml,hp,i1,i2,i3,i4,i5⟩;obtain ⟨kk,hkk,kk0,kk1⟩:∃ kk:Int,(st:Int) + (i:Int) * 2 = kk/\0<=kk/\kk<=100:=⟨_,rfl,by omega,by omega⟩;rw [hkk];clear hkk;walk_at "s";refine ⟨ns,kk,rfl,by omega,by omega,?_⟩;have bc:=Bw hbits (k:=kk) (by omega) (by omega);obtain ⟨ce,hce⟩:∃ ce:Int,iJ ns kk = ce:=⟨_,rfl⟩;rw [hce] at bc ⊢;walk_at "s";refine ⟨ns,kk + 1,rfl,by omega,by omega,?_⟩;obtain ⟨ot,hot⟩:∃ ot:Int,iJ ns (kk + 1) = ot:=⟨_,rfl⟩;rw [hot];walk_at "s";obtain ⟨pp,hpp,pp1,pp2⟩:∃ pp:Int,p + 1 + ot % 3 = pp/\p < pp/\pp.natAbs<=10 + 3 * (i + 1):=⟨_,rfl,by omega,by omega⟩;rw [hpp];walk_at "s";refine ⟨_,_,rfl,by omega,fM (n:=30) (by omega) (by decide +kernel),?_⟩;walk_at "d";refine tJ (fun δ=>∃ h:Rat,δ = [some (.dat (.list (ns.map .int))),some (.dat (.int (st:Int))),some (.dat (.int (most:Int))),some (.own (ms.map dP)),some (.dat (.int pp)),some (.dat (.int kk)),some (.dat (.int ce)),some (.dat (.int ot)),some (.dat (fr h))]/\Cm LL (10 ^ 6) h) ?_ ?_
  ·walk_at "d";refine ⟨ns,2,rfl,by decide,by decide,?_⟩;walk_at "d";rw [hc2];refine bU (fun _=>?_) (fun _=>?_)
   ·refine ⟨Ai (le_trans bc.bits (by decide)) (Ir (by decide +kernel)),_,_,rfl,by omega,fM (n:=30) (by omega) (by decide +kernel),?_⟩;walk_at "d";refine ⟨_,rfl,aLd (by omega) (by omega) ?_⟩;generalize ce * 48271 = z;omega
   ·exact ⟨_,rfl,aLd (by omega) (by omega) (by omega)⟩
  ·rintro δ ⟨h,rfl,hh⟩;obtain ⟨bt,hbt,bt1,bt2⟩:∃ bt:Int,1 + c1 / 21 % 2 = bt/\1<=bt/\bt<=2:=⟨_,rfl,by omega,by omega⟩;obtain ⟨wt,hwt,wt1,wt2⟩:∃ wt:Int,1 + ot / 3 % 4 = wt/\1<=wt/\wt<=4:=⟨_,rfl,by omega,by omega⟩;rw [hbt] at i5 ⊢;walk_at "d";refine ⟨ns,1,rfl,by decide,by decide,?_⟩;rw [hc1];walk_at "d";rw [hbt];refine ⟨_,_,rfl,bt1,fM (n:=30) (by omega) (by decide +kernel),?_⟩;walk_at "d";rw [hwt];refine ⟨by rw [hml]; omega,ms ++ [(divInt pp bt,h,wt)],pp,_,_,_,_,by rw [map_append]; rfl,by rw [length_append,hml]; rfl,pp2,fun m hm=>?_,fun m hm=>?_,?_,fun m hm=>?_,fun m hm=>?_⟩
   ·rcases mem_append.mp hm with z | z
    ·exact i1 m z
    ·rw [mem_singleton.mp z]; exact hh
   ·rcases mem_append.mp hm with z | z
    ·exact i2 m z
    ·rw [mem_singleton.mp z]; exact ⟨wt1,wt2⟩
   ·refine pairwise_append.mpr ⟨i3,pairwise_singleton _ _,fun a ha b hb=>?_⟩;obtain ⟨s,hs,e⟩:=i5 a ha;rw [mem_singleton.mp hb];show a.1 < divInt pp bt;rw [e];exact aEz (by omega) (by omega)
   ·rcases mem_append.mp hm with z | z
    ·exact i4 m z
    ·rw [mem_singleton.mp z]; exact Km bt1 bt2 (by omega)
   ·rcases mem_append.mp hm with z | z
    ·obtain ⟨s,hs,e⟩:=i5 m z;exact ⟨s,by omega,e⟩
    ·rw [mem_singleton.mp z]; exact ⟨pp,by omega,rfl⟩
 ·rintro δ ⟨ms,p,s5,s6,s7,s8,rfl,hml,hp,i1,i2,i3,i4,i5⟩;walk_at "d";exact k ms ⟨by omega,by omega,i1,i2,i3,i4⟩
def Zi:DW:=fun ds Q _=>∃ (a b:Rat) (Da Db:Nat),ds = [fr a,fr b]/\Dg Da a/\Dg Db b/\Da + Db<=2300/\Q (.dat (fr (a + b)))
theorem xG (T:Txt K mg A):FnOk P w K mg base (eP P w) 2 A.a_qz1 A.d_qz1 ["one","other"] (fC K Zi):=by
 refine gE T.F_qz1.F aAb (by walk_at "l") fun cdv Ar outer s H E hr=>?_;refine ⟨_,(aH (aV (cG (iH T) hr T.F_qq1 aO (aA (aY eR (aY bV (cR (K:=K) rfl (pv 0)) (cR (K:=K) rfl (pv 1))) (aY bV (cR (K:=K) rfl (pv 1)) (cR (K:=K) rfl (pv 0)))) (aA (aY bV (cR (K:=K) rfl (pv 0)) (cR (K:=K) rfl (pv 1))) aD))))),_,(bI (aB (aM (aC (aB (aN eO (aB (aN dM (aB (aS 0 (aL 0))) (aB (aS 1 (aL 1))))) (aB (aN dM (aB (aS 0 (aL 1))) (aB (aS 1 (aL 0))))))) (aC (aB (aN dM (aB (aS 1 (aL 0))) (aB (aS 1 (aL 1))))) aG))))),?_⟩;rintro ds Q X ⟨a,b,Da,Db,rfl,da,db,hD,k⟩;have oa:Ok a:=eE da (by omega);have ob:Ok b:=eE db (by omega);walk_at "d";have p3:((a.den:Int) * (b.den:Int)).natAbs<=10 ^ (Da + Db):=by
  rw [natAbs_mul,pow_add];exact mul_le_mul (by have:=da.d; omega) (by have:=db.d; omega)
 refine ⟨dQ oa.n ob.d,dQ ob.n oa.d,dQ oa.d ob.d,_,_,rfl,Int.mul_pos (kS a) (kS b),kA p3 (by omega),?_⟩;rw [Ma];walk_at "d";exact k
def Tp:DW:=fun ds Q _=>∃ (qs:List Rat) (b:Nat),ds = [.list (qs.map fr)]/\qs.length<=60/\b<=60/\(∀ q∈qs,Cm NN (10 ^ b) q)/\Q (.dat (fr (tot qs)))
theorem aDo (T:Txt K mg A):FnOk P w K mg base (eP P w) 3 A.a_qa2 A.d_qa2 ["some"] (fC K Tp):=by
 refine gE T.F_qa2.F wX (by walk_at "l") fun cdv Ar outer s H E hr=>?_
 refine ⟨_,(aF (cY 1 wX (cA (aA aP (aA aP aD))))
   (aF (dU PassesOwn.leaving rfl (fV (K:=K) rfl (pv 0)) (mG 2 wX)
    (aH (cY 1 wX (cG (xG T) hr T.F_qz1 aO (aA (pv 1) (aA (pv 2) aD))))))
   (aH (aV (pv 1))))),_,(aJ (bD (cI (aQ aK (aQ aK bE)) (by decide)) (aI 1))
   (aJ (eC (gZ (aL 0)) (aI 2)
    (bD (aM (aC (aE 1) (aC (aE 2) aG))) (aI 1)))
   (eA 1))),?_⟩
 rintro ds Q X ⟨qs,b,rfl,h60,hb,hq,k⟩;have tdg:∀ i,Dg (b + 2 + 29 + 1) (tot (qs.take i)):=fun i=>by
  have h:=Cm.tot (qs:=qs.take i) (L:=NN) (B:=10 ^ b) fun q h=>hq q (mem_of_mem_take h);exact h.dg (l:=29) (b:=b + 2) iW lX (iP (by rw [length_take]; omega) (le_refl _))
 walk_at "s"
 refine cK (dE fr qs (fun Q h=>by
   walk_at "d"
   exact h) (fun i δ=>∃ o:Option Sl,δ = [some (.dat (.list (qs.map fr))),some (.dat (fr (tot (qs.take i)))),o]) ⟨none,rfl⟩ ?_ ?_)
 ·rintro i q δ hi ⟨o,rfl⟩;walk_at "d";refine ⟨_,q,_,b + 29 + 1,rfl,tdg i,(hq q (mem_of_getElem? hi)).dg (l:=29) (b:=b) iW lX (le_refl _),by omega,?_⟩;rw [<- lA,<- eQ hi];walk_at "d";exact ⟨_,rfl⟩
 ·rintro δ ⟨o,rfl⟩;rw [take_length];walk_at "d";exact k
def Ld:DW:=fun ds Q _=>∃ (ms:List Mk) (row:List Rat),ds = [.list (ms.map dP),.list (row.map fr)]/\MkT ms/\row.length = ms.length/\(∀ q∈row,Ro q)/\Q (.own ((bN ms row).map fr))
theorem aDm (T:Txt K mg A):FnOk P w K mg base (eP P w) 3 A.a_qb2 A.d_qb2 ["some","row"] (fC K Ld):=by
 refine gE T.F_qb2.F aAs (by walk_at "l") fun cdv Ar outer s H E hr=>?_;refine ⟨_,(aH (aV (fA (cap:=[none,none]) (NC:=["mark","x"]) rfl (qE rfl) (jI (K:=K) rfl rfl T.n_zip (aA (pv 0) (aA (pv 1) aD))) (fun _ _ _ _=>(nB (K:=K) (n:=2) rfl rfl (bQ (kI 0 ["mark","x"]) (bQ (kI 1 ["mark","x"]) eV)))) (fun _ _ _ _=>cC) (fun _ _ _ _=>(cG (xG T) hr T.F_qz1 aO (aA (cR (K:=K) rfl (pv 0)) (aA (cA (aA (pP kZ (cR (K:=K) rfl (pv 1))) (aA (cR (K:=K) rfl (pv 1)) aD))) aD))))))),_,(kB (dW (lO (bA 0) (bA 1)) (fX (bW (aI 0) (bW (aI 1) fY))) cM (aM (aC (aB (aS 1 (aL 0))) (aC (aB (cI (aQ (lS (aB (aS 0 (aL 1)))) (aQ (aS 1 (aL 1)) bE)) (by decide))) aG))) (by decide) (by decide))),?_⟩;rintro ds Q X ⟨ms,row,rfl,M,hl,hr2,k⟩;have n10:=M.n10;walk_at "d"
 refine cL (fun p:Mk × Rat=>PyData.tuple [dP p.1,fr p.2]) fr (fun p=>[p.1.2.1 - p.2]) (ms.zip row) (by rw [length_zip]; omega) (fun Q h=>by
   walk_at "d"
   rw [eY]; exact h) (fun p hp N acc hN=>?_) ?_
 ·obtain ⟨m,x⟩:=p;obtain ⟨h1,h2⟩:=of_mem_zip hp;unfold dP;walk_at "d";refine ⟨m.2.1,-x,37,37,rfl,(((M.hc m h1).mono Sy (by decide)).dg iW lX (le_refl (10 ^ 7))).mono (by decide),(Ro.dg (hr2 x h2)).neg,by decide,?_⟩;rw [<- sub_eq_add_neg];walk_at "d";exact hN
 ·rw [bH];have e:(ms.zip row).map (fun p:Mk × Rat=>p.1.2.1 - p.2) = bN ms row:=by
   unfold bN;rw [List.zip_eq_zipWith,map_zipWith]
  rw [e];exact k
def Tq:DW:=fun ds Q _=>∃ row:List Rat,ds = [.list (row.map fr)]/\1<=row.length/\row.length<=60/\(∀ q∈row,Ok q)/\(∀ i,i + 1 < row.length->row.getD i 0<=row.getD (i + 1) 0)/\Q (.dat (.bool true))
theorem aDi (T:Txt K mg A):FnOk P w K mg base (eP P w) 2 A.a_qe2 A.d_qe2 ["row"] (fC K Tq):=by
 refine gE T.F_qe2.F Mn (by walk_at "l") fun cdv Ar outer s H E hr=>?_
 refine ⟨_,(aF (dU PassesOwn.leaving rfl (uZ rfl T.n_range (aA aP (aA (bB (gH (K:=K) rfl) rfl T.n_len boot_len (aA (pv 0) aD)) aD))) (mG 1 Mn)
    (aH (bK (eL (cG (sH T) hr T.F_qr1 aO (aA (gB (lN (K:=K) rfl) (pv 0) (pv 1) (fun _ _=>rfl)) (aA (gB (lN (K:=K) rfl) (pv 0) (aY lI (pv 1) aP) (fun _ _=>rfl)) aD)))) (aH (aV gG)) aW)))
   (aH (aV gG))),_,(aJ (eC (Gu (aC (aB aK) (aC (aB (bT cO (aC (aE 0) aG))) aG))) (aI 1)
    (bP (jF (aB (aM (aC (aB (bO (bA 0) (aE 1))) (aC (aB (bO (bA 0) (aB (aN eO (aE 1) (aB aK))))) aG))))) (bI (aB gN)) aZ))
   (bI (aB gN))),?_⟩
 rintro ds Q X ⟨row,rfl,h1,h60,ho,hup,k⟩;have mem:∀ {j:Nat},j < row.length->row.getD j 0∈row:=fun {j} h=>by
  have e:row.getD j 0 = row[j]:=by simp [getD,h]
  rw [e]; exact getElem_mem h
 have atr:∀ {kk:Int} {j:Nat},kk = (j:Int)->j < row.length->nI (row.map fr) kk = some (fr (row.getD j 0)):=fun {kk j} e h=>by
  rw [pM (xs:=row) fr (by omega) (by omega),e,toNat_natCast];simp [getD,h]
 refine cK (qX (lo:=1) (st:=1) (n:=row.length - 1) (fun Q h=>by
   walk_at "d"
   have e:((row.length:Int) - 1).toNat = row.length - 1:=by omega
   rw [e]
   exact ⟨by omega,h⟩) (fun i δ=>∃ o:Option Sl,δ = [some (.dat (.list (row.map fr))),o]) ⟨none,rfl⟩ ?_ ?_)
 ·rintro i δ hi ⟨o,rfl⟩;obtain ⟨kk,hk⟩:∃ kk:Int,1 + (i:Int) * 1 = kk:=⟨_,rfl⟩;rw [hk];walk_at "d";refine ⟨_,atr (j:=i + 1) (by omega) (by omega),_,atr (j:=i) (by omega) (by omega),_,_,rfl,ho _ (mem (by omega)),ho _ (mem (by omega)),?_⟩;walk_at "d";refine bU (fun c=>absurd c (not_lt.mpr (hup i (by omega)))) (fun _=>?_);exact ⟨_,rfl⟩
 ·rintro δ ⟨o,rfl⟩;walk_at "d";exact k
def Zl:DW:=fun ds Q _=>∃ row ps:List Rat,ds = [.list (row.map fr),.list (ps.map fr)]/\row.length<=60/\ps.length = row.length/\(∀ q∈ps,Cm NN (10 ^ 9) q)/\HoldR row ps/\Q (.dat (.bool true))
theorem aDh (T:Txt K mg A):FnOk P w K mg base (eP P w) 3 A.a_qf2 A.d_qf2 ["row","pulls"] (fC K Zl):=by
 refine gE T.F_qf2.F wV (by walk_at "l") fun cdv Ar outer s H E hr=>?_
 refine ⟨_,(aF (cY 2 wV (cA (aA aP (aA aP aD))))
   (aF (dU PassesOwn.leaving rfl (vA rfl T.n_range (aA (bB (gH (K:=K) rfl) rfl T.n_len boot_len (aA (pv 0) aD)) aD)) (mG 3 wV)
    (aF (cY 2 wV (cG (xG T) hr T.F_qz1 aO (aA (pv 2) (aA (gB (lN (K:=K) rfl) (pv 1) (pv 3) (fun _ _=>rfl)) aD))))
   (aF (bK (aT lJ (cR (K:=K) rfl (pv 2)) aP (aX _)) (aH (aV gG)) aW)
   (aH (bK (PW.pt (mY (aT jP (cR (K:=K) rfl (pv 2)) aP (aX _)) (kG (PW.pt (gA (aT cP (pv 3) (aY lI (bB (gH (K:=K) rfl) rfl T.n_len boot_len (aA (pv 0) aD)) aP) (aX _)) (fU (aT (Pt (K:=K) rfl hr.units) (gB (lN (K:=K) rfl) (pv 0) (aY eR (pv 3) aP) (fun _ _=>rfl)) (gB (lN (K:=K) rfl) (pv 0) (pv 3) (fun _ _=>rfl)) (aX _)))))))) (aH (aV gG)) aW)))))
   (aH (aV gG)))),_,(aJ (bD (cI (aQ aK (aQ aK bE)) (by decide)) (aI 2))
   (aJ (eC (Gv (aC (aB (bT cO (aC (aE 0) aG))) aG)) (aI 3)
    (aJ (bD (aM (aC (aE 2) (aC (aB (bO (bA 1) (aE 3))) aG))) (aI 2))
   (aJ (bP (aU (aB (aN eW (aB (aS 0 (aL 2))) (aB aK)))) (bI (aB gN)) aZ)
   (bP (mS (aU (aB (aN eW (aB (aS 0 (aL 2))) (aB aK)))) (fZ (aU (aB (aN cN (aE 3) (aB (aN eO (aB (bT cO (aC (aE 0) aG))) (aB aK)))))) (aU (aB (aN iT (aB (bO (bA 0) (aB (aN eO (aE 3) (aB aK))))) (aB (bO (bA 0) (aE 3)))))))) (bI (aB gN)) aZ))))
   (bI (aB gN)))),?_⟩
 rintro ds Q X ⟨row,ps,rfl,h60,pl,hp,hH,k⟩;have tdg:∀ i,Dg 41 (tot (ps.take i)):=fun i=>by
  have h:=Cm.tot (qs:=ps.take i) (L:=NN) (B:=10 ^ 9) fun q h=>hp q (mem_of_mem_take h);exact (h.dg iW lX (iP (by rw [length_take]; omega) (le_refl _))).mono (by decide)
 have atr:∀ {xs:List Rat} {kk:Int} {j:Nat},kk = (j:Int)->j < xs.length->nI (xs.map fr) kk = some (fr (xs.getD j 0)):=fun {xs kk j} e h=>by
  rw [pM (xs:=xs) fr (by omega) (by omega),e,toNat_natCast];simp [getD,h]
 walk_at "s"
 refine cK (qX (lo:=0) (st:=1) (n:=row.length) (fun Q h=>by
   walk_at "d"
   refine ⟨by omega,?_⟩
   rw [toNat_natCast]; exact h) (fun i δ=>∃ o:Option Sl,δ = [some (.dat (.list (row.map fr))),some (.dat (.list (ps.map fr))),some (.dat (fr (tot (ps.take i)))),o]) ⟨none,rfl⟩ ?_ ?_)
 ·rintro i δ hi ⟨o,rfl⟩;obtain ⟨kk,hk⟩:∃ kk:Int,(0:Int) + (i:Int) * 1 = kk:=⟨_,rfl⟩;have hk':kk = (i:Int):=by omega
  rw [hk];have hpi:ps[i]? = some (ps.getD i 0):=by rw [getElem?_eq_getElem (by omega)]; simp [getD,show i < ps.length by omega]
  walk_at "s";refine ⟨_,atr hk' (by omega),_,ps.getD i 0,41,39,rfl,tdg i,((hp _ (mem_of_getElem? hpi)).dg iW lX (le_refl _)).mono (by decide),by decide,?_⟩;rw [<- lA,<- eQ hpi];have hn:=hH.nn i hi;have hz:=hH.zr i hi;obtain ⟨t,ht⟩:∃ t,tot (ps.take (i + 1)) = t:=⟨_,rfl⟩;rw [ht] at hn hz ⊢;walk_at "s";refine bU (fun c=>absurd c (by have:=num_nonneg.mpr hn; omega)) (fun _=>?_);walk_at "d";have fin:∃ o:Option Sl,[some (Sl.dat (PyData.list (row.map fr))),some (Sl.dat (PyData.list (ps.map fr))),some (Sl.dat (fr t)),some (Sl.dat (PyData.int kk))] = [some (.dat (.list (row.map fr))),some (.dat (.list (ps.map fr))),some (.dat (fr t)),o]:=⟨_,rfl⟩;refine bU (fun c=>?_) (fun _=>fin);have tp:0 < t:=by
   refine not_le.mp fun z=>?_;have:=le_antisymm z hn;rw [this] at c;exact absurd c (by decide)
  obtain ⟨z1,z2⟩:=hz tp;refine bU (fun c2=>absurd c2 (by omega)) (fun _=>?_);refine ⟨_,atr (j:=i + 1) (by omega) z1,_,atr hk' hi,Rat,eRat,_,_,rfl,rfl,fun b hb=>?_⟩;rw [hb.mpr z2];walk_at "d";exact fin
 ·rintro δ ⟨o,rfl⟩;walk_at "d";exact k
theorem rE {α β γ:Type} (f:α->PyData) (g:β->PyData) (h:γ->PyData):∀ (xs:List α) (ys:List β) (zs:List γ),triD (xs.map f) (ys.map g) (zs.map h) = (xs.zip (ys.zip zs)).map fun p=>PyData.tuple [f p.1,g p.2.1,h p.2.2]
 | [],_,_=>by simp [Dl.triD]
 | x :: xs,[],_=>by simp [Dl.triD]
 | x :: xs,y :: ys,[]=>by simp [Dl.triD]
 | x :: xs,y :: ys,z :: zs=>by
  have:=rE f g h xs ys zs;simp [Dl.triD,this]
theorem vZ {n:Nat} (h:0 < n):(0:Rat) < (n:Rat):=by exact_mod_cast h
theorem Ae (x p:Rat):0 < x.num * p.num ↔ 0 < x * p:=by
 have d1:=vZ (pos_of_ne_zero x.den_nz);have d2:=vZ (pos_of_ne_zero p.den_nz);have d:=mul_pos d1 d2;have e:((x.num * p.num:Int):Rat) = x * p * ((x.den:Rat) * (p.den:Rat)):=by
  rw [intCast_mul,Fm.num_eq x,Fm.num_eq p]; grind
 rw [<- intCast_pos,e];constructor
 ·intro h;refine not_le.mp fun z=>?_;have:=mul_nonneg (show 0<=-(x * p) by grind) (show 0<=(x.den:Rat) * (p.den:Rat) by grind);grind
 ·intro h;exact mul_pos h d
theorem El (q:Rat):PyData.tuple [.int (if q.num < 0 then -q.num else q.num),.int (q.den:Int)] = fr (bL q):=by
 have e:(if q.num < 0 then -q.num else q.num) = ((q.num.natAbs:Nat):Int):=by split <;> omega
 rw [e]; rfl
theorem Vy (w:Int) (p:Rat):w * (p.den:Int) < (if p.num < 0 then -p.num else p.num) ↔ (w:Rat) < bL p:=by
 have e:(if p.num < 0 then -p.num else p.num) = (bL p).num:=by
  show _ = ((p.num.natAbs:Nat):Int);split <;> omega
 rw [e,Rat.lt_iff];show w * (p.den:Int) < (bL p).num ↔ w * (p.den:Int) < (bL p).num * ((1:Nat):Int);rw [show ((1:Nat):Int) = 1 from rfl,mul_one]
theorem Jx {xs:List Rat} {x:Rat} (h0:0<=x):fW (xs ++ [x]) = if fW xs < x then x else fW xs:=by
 have nn:=mI xs;refine (mJ (by split; exact h0; exact nn) ?_ fun q hq=>?_).symm
 ·split
  ·exact .inr (by simp)
  ·rcases @iD xs with h | h
   ·exact .inl h
   ·exact .inr (mem_append_left _ h)
 ·rcases mem_append.mp hq with h | h
  ·have:=kK q h;split
   ·grind
   ·exact this
  ·rw [mem_singleton.mp h];split
   ·exact Rat.le_refl
   ·exact not_lt.mp ‹_›
theorem Ku {xs:List Rat} (h:∀ x∈xs,x = 0):fW (xs.map bL) = 0:=by
 rcases @iD (xs.map bL) with e | e
 ·exact e
 ·obtain ⟨x,hx,e2⟩:=mem_map.mp e;rw [<- e2,h x hx,dL Rat.le_refl]
theorem wG:∀ {ps:List Rat},(∀ p∈ps,p = 0)->tot (ps.map bL) = 0
 | [],_=>rfl
 | q :: ps,h=>by
  rw [map_cons,tot,wG fun p hp=>h p (mem_cons_of_mem _ hp),h q mem_cons_self,dL Rat.le_refl,add_zero]
theorem aGw (v:Int) (x:Rat):divInt (v * x.num) (x.den:Int) = (v:Rat) * x:=by
 have px:=kS x;have hx:=sK x;refine (Fm.eq_divInt (by omega) ?_).symm;rw [intCast_mul,<- hx];show (v:Rat) * x * (x.den:Rat) = (v:Rat) * (x * (x.den:Rat));grind
def Zm:DW:=fun ds Q _=>∃ (kd:Str) (ms:List Mk) (row ps:List Rat),ds = [.str kd,.list (ms.map dP),.list ((bN ms row).map fr),.list (ps.map fr)]/\kd∈dJ/\MkT ms/\row.length = ms.length/\ps.length = ms.length/\(∀ q∈row,Ro q)/\(∀ q∈ps,Cm NN (10 ^ 9) q)/\Cd kd ms row ps/\Q (.dat (.bool true))
theorem aDl (T:Txt K mg A):FnOk P w K mg base (eP P w) 4 A.a_qc2 A.d_qc2 ["kind","some","misses","pulls"] (fC K Zm):=by
 refine gE T.F_qc2.F sc_qc2 (by walk_at "l") fun cdv Ar outer s H E hr=>?_
 refine ⟨_,(aF (bK (aT cP (pv 0) bF (aX _)) (aH (aV (iK (eqK (K:=K) rfl hr.units) (pv 3) (fA (cap:=[none,none]) (NC:=["mark","x"]) rfl (qE rfl) (jI (K:=K) rfl rfl T.n_zip (aA (pv 1) (aA (pv 2) aD))) (fun _ _ _ _=>(nB (K:=K) (n:=2) rfl rfl (bQ (kI 0 ["mark","x"]) (bQ (kI 1 ["mark","x"]) eV)))) (fun _ _ _ _=>cC) (fun _ _ _ _=>(cG (iH T) hr T.F_qq1 aO (aA (aY bV (cR (K:=K) rfl (pv 0)) (cR (K:=K) rfl (pv 1))) (aA (cR (K:=K) rfl (pv 1)) aD))))) (aX _)))) aW)
   (aF (iU (i:=4) (cap:=[none]) (NC:=["x"]) sc_qc2.nd rfl rfl rfl (qE rfl) (fV (K:=K) rfl (pv 2)) (fun _ _ _ _=>(kI 0 ["x"])) (fun _ _ _ _=>cC) (fun _ _ _ _=>(cA (aA (bB gK rfl T.n_abs kM (aA (cR (K:=K) rfl (pv 0)) aD)) (aA (cR (K:=K) rfl (pv 0)) aD)))))
   (aF (bK (aT cP (pv 0) bF (aX _)) (aF (dU PassesOwn.leaving rfl (xD (K:=K) rfl rfl T.n_zip (aA (pv 1) (aA (pv 2) (aA (pv 3) aD)))) (nB (K:=K) (n:=3) rfl rfl (bQ (mG 5 sc_qc2) (bQ (mG 6 sc_qc2) (bQ (mG 7 sc_qc2) eV))))
    (aF (bK (aT jP (bB gK rfl T.n_abs kM (aA (cR (K:=K) rfl (pv 7)) aD)) (aY bV (cR (K:=K) rfl (pv 5)) (cR (K:=K) rfl (pv 7))) (aX _)) (aH (aV gG)) aW)
   (aH (bK (PW.pt (gA (PW.pt (mY (aT jP (cR (K:=K) rfl (pv 6)) aP (aX _)) (kG (aT (Pt (K:=K) rfl hr.units) (pv 7) (cA (aA (cR (K:=K) rfl (pv 5)) (aA aP aD))) (aX _))))) (fU (PW.pt (mY (aT lJ (cR (K:=K) rfl (pv 6)) aP (aX _)) (kG (aT (Pt (K:=K) rfl hr.units) (pv 7) (cA (aA (pP kZ (cR (K:=K) rfl (pv 5))) (aA aP aD))) (aX _)))))))) (aH (aV gG)) aW))))
   (aH (aV gG))) aW)
   (aF (cY 8 sc_qc2 (kP (K:=K) rfl (pv 4)))
   (aF (dU PassesOwn.leaving rfl (fV (K:=K) rfl (pv 4)) (mG 9 sc_qc2)
    (aH (bK (eL (cG (sH T) hr T.F_qr1 aO (aA (pv 8) (aA (pv 9) aD)))) (aH (cY 8 sc_qc2 (pv 9))) aW)))
   (aF (dU PassesOwn.leaving rfl (xD (K:=K) rfl rfl T.n_zip (aA (pv 2) (aA (pv 4) (aA (pv 3) aD)))) (nB (K:=K) (n:=3) rfl rfl (bQ (mG 6 sc_qc2) (bQ (mG 10 sc_qc2) (bQ (mG 7 sc_qc2) eV))))
    (aH (bK (PW.pt (mY (aT nZ (cR (K:=K) rfl (pv 7)) aP (aX _)) (kG (PW.pt (gA (aT (Pt (K:=K) rfl hr.units) (pv 10) (pv 8) (aX _)) (fU (aT aIv (aY bV (cR (K:=K) rfl (pv 7)) (cR (K:=K) rfl (pv 6))) aP (aX _)))))))) (aH (aV gG)) aW)))
   (aF (cY 11 sc_qc2 (cG (aDo T) hr T.F_qa2 aO (aA (fA (cap:=[none]) (NC:=["x"]) rfl (qE rfl) (fV (K:=K) rfl (pv 3)) (fun _ _ _ _=>(kI 0 ["x"])) (fun _ _ _ _=>cC) (fun _ _ _ _=>(cA (aA (bB gK rfl T.n_abs kM (aA (cR (K:=K) rfl (pv 0)) aD)) (aA (cR (K:=K) rfl (pv 0)) aD))))) aD)))
   (aH (aV (aIu (iK (eqK (K:=K) rfl hr.units) (pv 11) (cA (aA aP (aA aP aD))) (aX _)) (Pb (aCj (iK (eqK (K:=K) rfl hr.units) (pv 11) (cA (aA aP (aA aP aD))) (aX _)) (Pb (iK (eqK (K:=K) rfl hr.units) (pv 8) (cA (aA aP (aA aP aD))) (aX _))))))))))))))),_,(aJ (bP (aU (aB (aN cN (aE 0) (aB bG)))) (bI (aB (aN oX (aE 3) (aB (eI (dW (lO (bA 1) (bA 2)) (fX (bW (aI 0) (bW (aI 1) fY))) cM (aM (aC (aB (aN dM (aB (aS 2 (aL 0))) (aB (aS 0 (aL 1))))) (aC (aB (aS 1 (aL 1))) aG))) (by decide) (by decide))))))) aZ)
   (aJ (bZ 4 (dW (cW (bA 2)) (aI 0) cM (cI (aQ (bT kF (aC (aB (aS 0 (aL 0))) aG)) (aQ (aS 1 (aL 0)) bE)) (by decide)) (by decide) (by decide)))
   (aJ (bP (aU (aB (aN cN (aE 0) (aB bG)))) (aJ (eC (xS (aL 1) (aL 2) (aL 3)) (fX (bW (aI 5) (bW (aI 6) (bW (aI 7) fY))))
    (aJ (bP (aU (aB (aN eW (aB (bT kF (aC (aB (aS 0 (aL 7))) aG))) (aB (aN dM (aB (aS 2 (aL 5))) (aB (aS 1 (aL 7)))))))) (bI (aB gN)) aZ)
   (bP (fZ (mS (aU (aB (aN eW (aB (aS 0 (aL 6))) (aB aK)))) (aU (aB (aN iT (aE 7) (aB (cI (aQ (aS 2 (aL 5)) (aQ aK bE)) (by decide))))))) (mS (aU (aB (aN eW (aB (aS 0 (aL 6))) (aB aK)))) (aU (aB (aN iT (aE 7) (aB (cI (aQ (lS (aB (aS 2 (aL 5)))) (aQ aK bE)) (by decide)))))))) (bI (aB gN)) aZ)))
   (bI (aB gN))) aZ)
   (aJ (bD (bO (bA 4) (aB aK)) (aI 8))
   (aJ (mT 4 (eC (gZ (aL 4)) (aI 9)
    (bP (jF (aB (aM (aC (aE 8) (aC (aE 9) aG))))) (bD (aL 9) (aI 8)) aZ)))
   (aJ (eC (xS (aL 2) (aL 4) (aL 3)) (fX (bW (aI 6) (bW (aI 10) (bW (aI 7) fY))))
    (bP (mS (aU (aB (aN pO (aB (aS 0 (aL 7))) (aB aK)))) (fZ (aU (aB (aN iT (aE 10) (aE 8)))) (aU (aB (aN eW (aB (aN dM (aB (aS 0 (aL 7))) (aB (aS 0 (aL 6))))) (aB aK)))))) (bI (aB gN)) aZ))
   (aJ (bD (aM (aC (aB (eI (dW (cW (bA 3)) (aI 0) cM (cI (aQ (bT kF (aC (aB (aS 0 (aL 0))) aG)) (aQ (aS 1 (aL 0)) bE)) (by decide)) (by decide) (by decide)))) aG)) (aI 11))
   (bI (aB (aKc (aB (aN oX (aE 11) (aB (cI (aQ aK (aQ aK bE)) (by decide))))) (aEt (aB (aN oX (aE 11) (aB (cI (aQ aK (aQ aK bE)) (by decide))))) (aN oX (aE 8) (aB (cI (aQ aK (aQ aK bE)) (by decide))))))))))))))),?_⟩
 rintro ds Q X ⟨kd,ms,row,ps,rfl,hk,M,hl,hpl,hro,hps,hF,k⟩;have n10:=M.n10;have n1:=M.n1;have ml:(bN ms row).length = ms.length:=by unfold bN; rw [length_zipWith]; omega
 have mcm:∀ x∈bN ms row,Cm NN (10 ^ 7 + 10 ^ 7) x:=(M.ms hro).miss;have mok:∀ x∈bN ms row,Ok x:=fun x hx=>eE ((mcm x hx).dg (l:=29) (b:=8) iW lX (by decide)) (by decide);have pok:∀ p∈ps,Ok p:=fun p hp=>eE ((hps p hp).dg iW lX (le_refl _)) (by decide);have hk3:kd = "far"\/kd = "sum"\/kd = "square":=by simpa [dJ] using hk
 unfold Cd at hF;have wm:bY ms row = zipWith (fun (m:Mk) x=>(m.2.2:Rat) * x) ms (bN ms row):=rfl;obtain ⟨xs,hxs⟩:∃ xs,bN ms row = xs:=⟨_,rfl⟩;rw [hxs] at ml mcm mok wm ⊢;walk_at "s";rcases hk3 with rfl | rfl | rfl
 ·rw [hxs,if_pos rfl] at hF;refine bU (fun c=>absurd c (by decide +kernel)) (fun _=>?_)
  refine cK (cL fr fr (fun x=>[bL x]) xs (by omega) (fun Q h=>by
    walk_at "d"
    exact h) (fun x hx N acc hN=>?_) ?_)
  ·walk_at "d";rw [El];exact hN
  rw [bH];obtain ⟨x0,xr,hx0⟩:∃ x0 xr,xs = x0 :: xr:=by
   cases xs with
   | nil=>simp at ml; omega
   | cons a r=>exact ⟨a,r,rfl⟩
  have nn:∀ s∈xs.map bL,0<=s:=fun s hs=>by
   obtain ⟨x,_,rfl⟩:=mem_map.mp hs;exact num_nonneg.mp (show (0:Int)<=((x.num.natAbs:Nat):Int) by omega)
  obtain ⟨ss,hss⟩:∃ ss,xs.map bL = ss:=⟨_,rfl⟩;have sl:ss.length = ms.length:=by rw [<- hss,length_map,ml]
  have sok:∀ s∈ss,Ok s:=fun s hs=>by
   rw [<- hss] at hs;obtain ⟨x,hx,rfl⟩:=mem_map.mp hs;exact eE (((mcm x hx).abs).dg (l:=29) (b:=8) iW lX (by decide)) (by decide)
  have s0:ss = bL x0 :: xr.map bL:=by rw [<- hss,hx0]; rfl
  rw [hss] at nn ⊢;walk_at "s";refine bU (fun c=>absurd c (by decide +kernel)) (fun _=>?_);walk_at "s";refine ⟨_,(show nI (ss.map fr) 0 = some (fr (bL x0)) by rw [s0]; exact fS (j:=0) rfl),?_⟩;have m1:fW [bL x0] = bL x0:=(mJ (nn _ (by rw [s0]; simp)) (.inr (by simp)) fun y hy=>by rw [mem_singleton.mp hy]; exact Rat.le_refl).symm
  refine cK (dE fr ss (fun Q h=>by
    walk_at "d"
    exact h) (fun i δ=>∃ (o:Option Sl) (mo:Rat),δ = [some (.dat (.str "far")),some (.dat (.list (ms.map dP))),some (.dat (.list (xs.map fr))),some (.dat (.list (ps.map fr))),some (.dat (.list (ss.map fr))),none,none,none,some (.dat (fr mo)),o,none,none]/\mo∈ss/\mo = if i = 0 then bL x0 else fW (ss.take i)) ⟨none,bL x0,rfl,by rw [s0]; simp,rfl⟩ ?_ ?_)
  ·rintro i s δ hi ⟨o,mo,rfl,hmm,hmo⟩;have hs:=mem_of_getElem? hi;have e:fW (ss.take (i + 1)) = if mo < s then s else mo:=by
    rw [eQ hi,Jx (nn s hs)];by_cases i0:i = 0
    ·subst i0;rw [if_pos rfl] at hmo;have:s = bL x0:=by rw [s0] at hi; simpa using hi.symm
     rw [this,hmo];have:fW (ss.take 0) = 0:=rfl;rw [this,if_neg Rat.lt_irrefl];have:=nn (bL x0) (by rw [s0]; simp);split <;> grind
    ·rw [if_neg i0] at hmo;rw [hmo]
   walk_at "d";refine ⟨_,_,rfl,sok mo hmm,sok s hs,?_⟩;walk_at "d";refine bU (fun c=>?_) (fun c=>?_)
   ·rw [if_pos c] at e;exact ⟨_,s,rfl,hs,e.symm⟩
   ·rw [if_neg c] at e;exact ⟨_,mo,rfl,hmm,e.symm⟩
  rintro δ ⟨o,mo,rfl,hmm,hmo⟩;rw [if_neg (by omega),take_length] at hmo;unfold Ik at hF;rw [hss] at hF;dsimp only
  refine cK (dE (fun z:Rat × Rat × Rat=>PyData.tuple [fr z.1,fr z.2.1,fr z.2.2]) (xs.zip (ss.zip ps)) (fun Q h=>by
    walk_at "d"
    rw [rE]; exact h) (fun i δ=>∃ o1 o2 o3 o4:Option Sl,δ = [some (.dat (.str "far")),some (.dat (.list (ms.map dP))),some (.dat (.list (xs.map fr))),some (.dat (.list (ps.map fr))),some (.dat (.list (ss.map fr))),none,o1,o2,some (.dat (fr mo)),o3,o4,none]) ⟨_,_,_,_,rfl⟩ ?_ ?_)
  ·rintro i ⟨x,s,p⟩ δ hi ⟨o1,o2,o3,o4,rfl⟩;obtain ⟨hi1,hi2⟩:=getElem?_zip_eq_some.mp hi;obtain ⟨hi3,hi4⟩:=getElem?_zip_eq_some.mp hi2;have hs:s = bL x:=by
    rw [<- hss,getElem?_map,hi1] at hi3;exact (Option.some.inj hi3).symm
   have hxm:=mem_of_getElem? hi1;have hpm:=mem_of_getElem? hi4;have ox:=mok x hxm;have op:=pok p hpm;walk_at "d";refine bU (fun c=>?_) (fun _=>⟨_,_,_,_,rfl⟩);have pne:p ≠ 0:=fun z=>c (by rw [z]; rfl);rcases hF with ⟨h1,_⟩ | ⟨_,h2,_⟩
   ·exact absurd (h1 p hpm) pne
   have hz:(x,p)∈xs.zip ps:=mem_of_getElem? (i:=i) (getElem?_zip_eq_some.mpr ⟨hi1,hi4⟩);obtain ⟨f1,f2⟩:=h2 _ hz pne;refine ⟨Rat,eRat,s,mo,rfl,rfl,fun b hb=>?_⟩;rw [hb.mpr (by rw [hs,hmo]; exact f1)];walk_at "d";refine ⟨dQ op.n ox.n,?_⟩;have f3:=(Ae x p).mpr f2;rw [Int.mul_comm] at f3;refine bU (fun c2=>absurd c2 (by generalize p.num * x.num = z at *; omega)) (fun _=>?_);exact ⟨_,_,_,_,rfl⟩
  ·rintro δ ⟨o1,o2,o3,o4,rfl⟩;dsimp only;walk_at "s"
   refine cL fr fr (fun x=>[bL x]) ps (by omega) (fun Q h=>by
     walk_at "d"
     exact h) (fun x hx N acc hN=>?_) ?_
   ·walk_at "d";rw [El];exact hN
   rw [bH];refine ⟨ps.map bL,9,rfl,by rw [length_map]; omega,by decide,fun q hq=>?_,?_⟩
   ·obtain ⟨p,hp,rfl⟩:=mem_map.mp hq;exact (hps p hp).abs
   walk_at "d";refine ⟨Rat,eRat,tot (ps.map bL),1,rfl,rfl,fun b hb=>?_⟩;cases b with
   | true=>exact aEl k
   | false =>
    refine Ql ?_;rcases hF with ⟨h1,h2⟩ | ⟨_,_,h3⟩
    ·refine ⟨Rat,eRat,tot (ps.map bL),0,rfl,rfl,fun b2 hb2=>?_⟩;rw [hb2.mpr (wG h1)];refine aEl ⟨Rat,eRat,mo,0,rfl,rfl,fun b3 hb3=>?_⟩;rw [hb3.mpr (by rw [hmo,<- hss]; exact Ku h2)];exact k
    ·exact absurd (hb.mpr h3) (by decide)
 ·rw [hxs,if_neg (by decide),if_pos rfl] at hF;refine bU (fun c=>absurd c (by decide +kernel)) (fun _=>?_)
  refine cK (cL fr fr (fun x=>[bL x]) xs (by omega) (fun Q h=>by
    walk_at "d"
    exact h) (fun x hx N acc hN=>?_) ?_)
  ·walk_at "d";rw [El];exact hN
  rw [bH];walk_at "s"
  refine cK (dE (fun z:Mk × Rat × Rat=>PyData.tuple [PyData.tuple [fr z.1.1,fr z.1.2.1,.int z.1.2.2],fr z.2.1,fr z.2.2]) (ms.zip (xs.zip ps)) (fun Q h=>by
    walk_at "d"
    rw [rE]; exact h) (fun i δ=>∃ o1 o2 o3:Option Sl,δ = [some (.dat (.str "sum")),some (.dat (.list (ms.map dP))),some (.dat (.list (xs.map fr))),some (.dat (.list (ps.map fr))),some (.own ((xs.map bL).map fr)),o1,o2,o3,none,none,none,none]) ⟨_,_,_,rfl⟩ ?_ ?_)
  ·rintro i ⟨m,x,p⟩ δ hi ⟨o1,o2,o3,rfl⟩;obtain ⟨hi1,hi2⟩:=getElem?_zip_eq_some.mp hi;obtain ⟨hi3,hi4⟩:=getElem?_zip_eq_some.mp hi2;have hm:=M.hw m (mem_of_getElem? hi1);have ox:=mok x (mem_of_getElem? hi3);have op:=pok p (mem_of_getElem? hi4);obtain ⟨f1,f2,f3⟩:=hF _ (mem_of_getElem? hi);dsimp only at f1 f2 f3;walk_at "s";refine ⟨dQ (fM (n:=4) (by omega) (by decide +kernel)) op.d,?_⟩;refine bU (fun c=>absurd ((Vy m.2.2 p).mp c) (not_lt.mpr f1)) (fun _=>?_);walk_at "d"
   have last:∀ {R:Prop},R->(if x.num < 0 then aJk (fr p) (PyData.tuple [PyData.int (-m.2.2),PyData.int 1]) (fun y=>match y with
      | PyData.bool b=>if b = true then Q (Sl.dat (PyData.bool false)) else R
      | _=>False) else R):=fun {R} hR=>bU (fun c=>by
     have e:=f3 (not_le.mp fun z=>by have:=num_nonneg.mpr z; omega)
     refine ⟨Rat,eRat,p,((-m.2.2:Int):Rat),rfl,rfl,fun b hb=>?_⟩
     rw [hb.mpr (by rw [e,intCast_neg])]
     exact Ql hR) (fun _=>hR)
   refine bU (fun c=>?_) (fun _=>last ⟨_,_,_,rfl⟩)
   have e:=f2 (not_le.mp fun z=>by
    have h9:0<=(-x).num:=num_nonneg.mpr (by grind)
    have:(-x).num = -x.num:=rfl
    omega)
   refine ⟨Rat,eRat,p,((m.2.2:Int):Rat),rfl,rfl,fun b hb=>?_⟩;rw [hb.mpr e];refine Ql (last ⟨_,_,_,rfl⟩)
  ·rintro δ ⟨o1,o2,o3,rfl⟩;walk_at "d";exact k
 ·rw [if_neg (by decide),if_neg (by decide),wm] at hF;walk_at "d"
  refine cL (fun p:Mk × Rat=>PyData.tuple [dP p.1,fr p.2]) fr (fun p=>[(p.1.2.2:Rat) * p.2]) (ms.zip xs) (by rw [length_zip]; omega) (fun Q h=>by
    walk_at "d"
    rw [eY]; exact h) (fun p hp N acc hN=>?_) ?_
  ·obtain ⟨m,x⟩:=p;obtain ⟨h1,h2⟩:=of_mem_zip hp;have ox:=mok x h2;have hw:=M.hw m h1;unfold dP;walk_at "d";refine ⟨dQ (fM (n:=4) (by omega) (by decide +kernel)) ox.n,_,_,rfl,kS x,ox.d,?_⟩;rw [aGw];walk_at "d";exact hN
  ·rw [bH];have e:(ms.zip xs).map (fun p:Mk × Rat=>(p.1.2.2:Rat) * p.2) = ps:=by
    rw [hF,List.zip_eq_zipWith,map_zipWith]
   rw [e];refine ⟨List Rat,tG eRat (by decide),ps,ps,rfl,rfl,fun b hb=>?_⟩;rw [hb.mpr rfl];exact k
theorem Bd {α:Type} {a:α}:∀ {xs:List α},a∈xs->∃ j:Nat,xs[j]? = some a/\∀ m:Nat,m < j->xs[m]? ≠ some a
 | [],h=>by cases h
 | x :: xs,h=>by
  by_cases e:x = a
  ·exact ⟨0,by simp [e],fun m hm=>absurd hm (by omega)⟩
  ·obtain ⟨j,h1,h2⟩:=Bd (xs:=xs) ((mem_cons.mp h).resolve_left fun z=>e z.symm);refine ⟨j + 1,by simpa using h1,fun m hm=>?_⟩;cases m with
   | zero=>simpa using e
   | succ m=>simpa using h2 m (by omega)
theorem Bn {α:Type} {a:α}:∀ {xs:List α} {j:Nat},xs[j]? = some a->(a :: xs.eraseIdx j).Perm xs
 | [],_,h=>by simp at h
 | x :: xs,0,h=>by
  have:x = a:=by simpa using h
  rw [this];exact .refl _
 | x :: xs,j + 1,h=>by
  have ih:=Bn (xs:=xs) (j:=j) (by simpa using h);rw [eraseIdx_cons_succ];exact (Perm.swap x a _).trans (ih.cons x)
theorem Ew {r:List Rat} (h:r.Pairwise (·<=·)):∀ i,i + 1 < r.length->r.getD i 0<=r.getD (i + 1) 0:=fun i hi=>by
 have:=List.pairwise_iff_getElem.mp h i (i + 1) (by omega) hi (by omega);simpa [getD,show i < r.length by omega,hi] using this
def Lc:DW:=fun ds Q _=>∃ hs:List Rat,ds = [.list (hs.map fr)]/\hs.length<=60/\(∀ q∈hs,Ok q)/\∀ r:List Rat,r.Perm hs->r.Pairwise (·<=·)->Q (.own (r.map fr))
theorem aDf (T:Txt K mg A):FnOk P w K mg base (eP P w) 2 A.a_qg2 A.d_qg2 ["heights"] (fC K Lc):=by
 refine gE T.F_qg2.F oU (by walk_at "l") fun cdv Ar outer s H E hr=>?_
 refine ⟨_,(aF (cY 1 oU (dN aD))
   (aF (cY 2 oU (dS (aJs (K:=K) rfl) rfl T.n_list Wt (aA (pv 0) aD)))
   (aF (lH PassesOwn.leaving (aT (Pt (K:=K) rfl hr.units) (pv 2) (dN aD) (aX _)) (aF (cY 3 oU (kP (K:=K) rfl (pv 2)))
   (aF (dU PassesOwn.leaving rfl (fV (K:=K) rfl (pv 2)) (mG 4 oU)
    (aH (bK (eL (cG (sH T) hr T.F_qr1 aO (aA (pv 4) (aA (pv 3) aD)))) (aH (cY 3 oU (pv 4))) aW)))
   (aF (eG (fB F.plainAttrs_list F.slot_list_append F.type_list_append gW (pv 1) (aA (pv 3) aD)))
   (aH (eG (fB F.plainAttrs_list F.slot_list_remove F.type_list_remove (Dm (K:=K) rfl hr.units) (pv 2) (aA (pv 3) aD))))))))
   (aH (aV (pv 1)))))),_,(aJ (bZ 1 (dO bE (by decide)))
   (aJ (bZ 2 (Ux (bA 0)))
   (aJ (lB (aU (aB (aN iT (aE 2) (aB (eI (dO bE (by decide))))))) (aJ (bD (bO (bA 2) (aB aK)) (aI 3))
   (aJ (Ty (cW (bA 2)) (aI 4) (jF (aB (aM (aC (aE 4) (aC (aE 3) aG))))) (aL 4) (aI 3))
   (aJ (oR 1 (aL 3))
   (Jd 2 (aE 3))))))
   (eA 1)))),?_⟩
 rintro ds Q X ⟨hs,rfl,h60,ho,k⟩;walk_at "s";walk_at "s";refine cK ⟨fun m δ=>∃ (fd lf:List Rat) (b x:Option PyData),δ = [some (.dat (.list (hs.map fr))),some (.own (fd.map fr)),some (.own (lf.map fr)),b.map Sl.dat,x.map Sl.dat]/\lf.length = m/\(fd ++ lf).Perm hs/\fd.Pairwise (·<=·)/\∀ a∈fd,∀ c∈lf,a<=c,⟨hs.length,[],hs,none,none,rfl,rfl,.refl _,.nil,fun a h=>nomatch h⟩,?_⟩;rintro m δ ⟨fd,lf,b,x,rfl,hm,hp,hup,hle⟩;have hlen:fd.length + lf.length = hs.length:=by have:=hp.length_eq; rw [length_append] at this; exact this
 have lfo:∀ q∈lf,Ok q:=fun q hq=>ho q (hp.mem_iff.mp (mem_append_right _ hq));walk_at "d";refine ⟨List Rat,tG eRat (by decide),lf,[],rfl,rfl,fun e he=>?_⟩;cases e with
 | true =>
  have e0:=he.mp rfl;subst e0;rw [append_nil] at hp;walk_at "d";exact k fd hp hup
 | false =>
  obtain ⟨a,lr,rfl⟩:∃ a lr,lf = a :: lr:=by
   cases lf with
   | nil=>exact absurd (he.mpr rfl) (by decide)
   | cons a lr=>exact ⟨a,lr,rfl⟩
  walk_at "s";refine ⟨_,(show nI ((a :: lr).map fr) 0 = some (fr a) from fS (j:=0) rfl),?_⟩;obtain ⟨lf,jO⟩:∃ lf,a :: lr = lf:=⟨_,rfl⟩;have am:a∈lf:=by rw [<- jO]; simp
  rw [jO] at hm hp hle lfo hlen ⊢
  refine cK (dE fr lf (fun Q h=>by
    walk_at "d"
    exact h) (fun i δ=>∃ (bs:Rat) (x:Option PyData),δ = [some (.dat (.list (hs.map fr))),some (.own (fd.map fr)),some (.own (lf.map fr)),some (.dat (fr bs)),x.map Sl.dat]/\bs∈lf/\∀ y∈lf.take i,bs<=y) ⟨a,x,rfl,am,fun y hy=>by simp at hy⟩ ?_ ?_)
  ·rintro i y δ hi ⟨bs,x,rfl,hbm,hb⟩;have hy:=mem_of_getElem? hi;walk_at "d";refine ⟨_,_,rfl,lfo y hy,lfo bs hbm,?_⟩;walk_at "d";refine bU (fun c=>?_) (fun c=>?_)
   ·refine ⟨y,some _,rfl,hy,fun z hz=>?_⟩;rw [eQ hi] at hz;rcases mem_append.mp hz with z1 | z1
    ·have:=hb z z1; grind
    ·rw [mem_singleton.mp z1]; exact Rat.le_refl
   ·refine ⟨bs,some _,rfl,hbm,fun z hz=>?_⟩;rw [eQ hi] at hz;rcases mem_append.mp hz with z1 | z1
    ·exact hb z z1
    ·rw [mem_singleton.mp z1]; exact not_lt.mp c
  ·rintro δ ⟨bs,x,rfl,hbm,hb⟩;rw [take_length] at hb;obtain ⟨j,hj,hno⟩:=Bd hbm;have ep:=Bn hj;have el:=ep.length_eq;rw [length_cons] at el;dsimp only;walk_at "s";refine ⟨by omega,Rat,eRat,bs,lf,j,rfl,rfl,hj,hno,?_⟩;refine ⟨(lf.eraseIdx j).length,by omega,fd ++ [bs],lf.eraseIdx j,some _,x,by rw [map_append]; rfl,rfl,?_,?_,fun u hu c hc=>?_⟩
   ·rw [append_assoc];exact (Perm.append_left fd ep).trans hp
   ·refine pairwise_append.mpr ⟨hup,pairwise_singleton _ _,fun u hu v hv=>?_⟩;rw [mem_singleton.mp hv];exact hle u hu bs hbm
   ·have hc2:c∈lf:=ep.mem_iff.mp (mem_cons_of_mem _ hc);rcases mem_append.mp hu with z1 | z1
    ·exact hle u z1 c hc2
    ·rw [mem_singleton.mp z1]; exact hb c hc2
def Ts:DW:=fun ds Q _=>∃ (c:Int) (ms:List Mk),ds = [.int c,.list (ms.map dP)]/\Bg 1048577 c/\MkT ms/\∀ row:List Rat,row.length = ms.length->(∀ i,i + 1 < row.length->row.getD i 0<=row.getD (i + 1) 0)->(∀ q∈row,Ro q)->Q (.own (row.map fr))
theorem aDe (T:Txt K mg A):FnOk P w K mg base (eP P w) 3 A.a_qh2 A.d_qh2 ["cell","some"] (fC K Ts):=by
 refine gE T.F_qh2.F sc_qh2 (by walk_at "l") fun cdv Ar outer s H E hr=>?_
 refine ⟨_,(aF (rY (i:=2) sc_qh2.nd rfl (Or.inr rfl) (aY eN (aY bV (pv 0) aP) aP))
   (aF (bK (aT cP (aY eN (pv 2) aP) aP (aX _)) (aH (aV (cG (aDf T) hr T.F_qg2 aO (aA (fA (cap:=[none,some 1,some 2]) (NC:=["k","some","number"]) rfl ⟨rfl,rfl,by decide +kernel,by decide +kernel,⟨⟨_,rfl,rfl,rfl,rfl,rfl⟩,⟨⟨_,rfl,rfl,rfl,rfl,rfl⟩,trivial⟩⟩,(forall_mem_cons.2 ⟨rfl,(forall_mem_cons.2 ⟨rfl,(fun _ h=>nomatch h)⟩)⟩),rfl⟩ (vA rfl T.n_range (aA (bB (gH (K:=K) rfl) rfl T.n_len boot_len (aA (pv 1) aD)) aD)) (fun _ _ _ _=>(kI 0 ["k","some","number"])) (fun _ _ _ _=>cC) (fun _ _ _ _=>(cR (K:=K) rfl (gB (lN (K:=K) rfl) (pv 1) (aY eN (aY dY (pv 2) (aY eR (pv 0) aP)) (bB (gH (K:=K) rfl) rfl T.n_len boot_len (aA (pv 1) aD))) (fun _ _=>rfl))))) aD)))) aW)
   (aF (cY 3 sc_qh2 (cG (iH T) hr T.F_qq1 aO (aA (aY lI (aY eN (aY dY (pv 2) aP) aP) aP) (aA aP aD))))
   (aF (cY 4 sc_qh2 (dN aD))
   (aF (dU PassesOwn.leaving rfl (fV (K:=K) rfl (pv 1)) (mG 5 sc_qh2)
    (aF (rY (i:=2) sc_qh2.nd rfl (Or.inr rfl) (aY eN (aY bV (pv 2) aP) aP))
   (aF (bK (aT jP (aY eN (pv 2) aP) aP (aX _)) (aH (cY 3 sc_qh2 (cG (xG T) hr T.F_qz1 aO (aA (pv 3) (aA (cG (iH T) hr T.F_qq1 aO (aA (aY eN (aY dY (pv 2) aP) aP) (aA (aY eR aP (aY eN (aY dY (pv 2) aP) aP)) aD))) aD))))) aW)
   (aH (eG (fB F.plainAttrs_list F.slot_list_append F.type_list_append gW (pv 4) (aA (pv 3) aD)))))))
   (aH (aV (pv 4)))))))),_,(aJ (bD (fE (k:=2147483647) (by decide) (aB (aN dM (aE 0) (aB aK))) aK) (aI 2))
   (aJ (bP (aU (aB (aN cN (aB (fE (k:=2) (by decide) (aE 2) aK)) (aB aK)))) (kB (dH (aC (aB (eI (dW (IvS.e (Gv (aC (aB (bT cO (aC (aE 1) aG))) aG))) (aI 0) cM (aS 1 (bO (bA 1) (aB (aN dM (aB (aN dM (aE 2) (aB (aN eO (aE 0) (aB aK))))) (aB (bT cO (aC (aE 1) aG))))))) (by decide) (by decide)))) aG))) aZ)
   (aJ (bD (aM (aC (aB (aN eO (aB (fE (k:=41) (by decide) (aB (lT (k:=2) (Bx (by decide +kernel)) (aE 2) aK)) aK)) (aB aK))) (aC (aB aK) aG))) (aI 3))
   (aJ (bZ 4 (dO bE (by decide)))
   (aJ (eC (gZ (aL 1)) (aI 5)
    (aJ (bD (fE (k:=2147483647) (by decide) (aB (aN dM (aE 2) (aB aK))) aK) (aI 2))
   (rK (bP (aU (aB (aN eW (aB (fE (k:=3) (by decide) (aE 2) aK)) (aB aK)))) (bD (aM (aC (aE 3) (aC (aB (aM (aC (aB (fE (k:=9) (by decide) (aB (lT (k:=3) (Bx (by decide +kernel)) (aE 2) aK)) aK)) (aC (aB (aN eO (aB aK) (aB (fE (k:=3) (by decide) (aB (lT (k:=27) (Bx (by decide +kernel)) (aE 2) aK)) aK)))) aG)))) aG))) (aI 3)) aZ)
   (oR 4 (aL 3)))))
   (eA 4)))))),?_⟩
 rintro ds Q X ⟨c,ms,rfl,hb,M,kq⟩;have n10:=M.n10;have n1:=M.n1;walk_at "s";refine ⟨Ai (le_trans hb.bits (by decide)) (Ir (by decide +kernel)),?_⟩;obtain ⟨n,hn,n0,n2⟩:∃ n:Int,c * 48271 % 2147483647 = n/\0<=n/\n < 2147483647:=⟨_,rfl,by generalize c * 48271 = z; omega,by generalize c * 48271 = z; omega⟩;rw [hn];clear hn;have lp:(0:Int) < (ms.length:Int):=by omega
 have gm:∀ v:Int,ms.getD (v % (ms.length:Int)).toNat ((0,0,0):Mk)∈ms:=fun v=>by
  have h0:=emod_nonneg v (show (ms.length:Int) ≠ 0 by omega);have h1:=emod_lt_of_pos v lp;have hlt:(v % (ms.length:Int)).toNat < ms.length:=by omega
  have e:ms.getD (v % (ms.length:Int)).toNat ((0,0,0):Mk) = ms[(v % (ms.length:Int)).toNat]:=by simp [getD,hlt]
  rw [e]; exact getElem_mem hlt
 walk_at "s";refine bU (fun _=>?_) (fun _=>?_)
 ·refine cL (fun f:Nat=>PyData.int (0 + (f:Int) * 1)) fr (fun f:Nat=>[(ms.getD (n / ((f:Int) + 2) % (ms.length:Int)).toNat ((0,0,0):Mk)).2.1]) (range ms.length) (by rw [length_range]; omega) (fun Q h=>by
    walk_at "d"
    rw [toNat_natCast]
    exact ⟨⟨by omega,by omega⟩,h⟩) (fun f hf N acc hN=>?_) ?_
  ·have hf2:=mem_range.mp hf;have e0:(0:Int) + (f:Int) * 1 = (f:Int):=by omega
   obtain ⟨v,hv⟩:∃ v:Int,n / ((f:Int) + 2) = v:=⟨_,rfl⟩;have h0:=emod_nonneg v (show (ms.length:Int) ≠ 0 by omega);have h1:=emod_lt_of_pos v lp;rw [e0];walk_at "d";refine ⟨⟨by omega,fM (n:=100) (by omega) (by decide +kernel)⟩,?_⟩;rw [hv] at hN ⊢;refine ⟨lp,dP (ms.getD (v % (ms.length:Int)).toNat ((0,0,0):Mk)),?_,?_⟩
   ·rw [pM (xs:=ms) dP h0 h1];simp [getD,show (v % (ms.length:Int)).toNat < ms.length by omega]
   ·unfold dP;walk_at "d";exact hN
  ·rw [bH];refine ⟨_,rfl,by rw [length_map,length_range]; omega,fun q hq=>?_,fun r hp hup=>?_⟩
   ·obtain ⟨f,hf,rfl⟩:=mem_map.mp hq;exact eE ((M.hc _ (gm _)).dg (l:=13) (b:=6) En (by decide +kernel) (le_refl _)) (by decide)
   ·walk_at "d";refine ⟨dZ _,kq r (by rw [hp.length_eq,length_map,length_range]) (Ew hup) fun q hq=>?_⟩;obtain ⟨f,hf,rfl⟩:=mem_map.mp (hp.mem_iff.mp hq);exact (M.hc _ (gm _)).mono Sy (by decide)
 ·walk_at "s";refine ⟨_,_,rfl,by decide,Ir (by decide +kernel),?_⟩;have c0:Cm 6 (10 + 8 * 0) (divInt (n / 2 % 41 - 20) 2):=Cm.div (t:=n / 2 % 41 - 20) (b:=2) (L:=6) (B:=10) (by decide) (by decide) (by omega);obtain ⟨h0,hh0⟩:∃ h0,divInt (n / 2 % 41 - 20) 2 = h0:=⟨_,rfl⟩;rw [hh0] at c0 ⊢;walk_at "d";walk_at "s";have d5:∀ {q:Rat} {i:Nat},i<=10->Cm 6 (10 + 8 * i) q->Dg 4 q:=fun {q i} hi h=>(h.dg (l:=1) (b:=2) (by decide) (by decide) (by omega)).mono (by decide)
  refine cK (dE dP ms (fun Q h=>by
    walk_at "d"
    exact h)
   (fun i δ=>∃ (n':Int) (row:List Rat) (h:Rat) (s5:Option Sl),δ = [some (.dat (.int c)),some (.dat (.list (ms.map dP))),some (.dat (.int n')),some (.dat (fr h)),some (.own (row.map fr)),s5]/\0<=n'/\n' < 2147483647/\row.length = i/\Cm 6 (10 + 8 * i) h/\(∀ q∈row,Ro q/\q<=h)/\row.Pairwise (·<=·))
   ⟨n,[],h0,none,rfl,n0,n2,rfl,c0,(fun q hq=>nomatch hq),.nil⟩ ?_ ?_)
  ·rintro i m δ him ⟨n',row,h,s5,rfl,m0,m1,rl,ch,hrow,hup⟩;have il:i < ms.length:=(List.getElem?_eq_some_iff.mp him).1;walk_at "s";refine ⟨dQ (fM (n:=10 ^ 10) (by omega) (by decide +kernel)) (Ir (by decide +kernel)),?_⟩;obtain ⟨nn,hnn⟩:∃ nn:Int,n' * 16807 % 2147483647 = nn:=⟨_,rfl⟩;have q0:0<=nn:=by omega
   have q1:nn < 2147483647:=by omega
   rw [hnn];refine tJ (fun δ=>∃ h':Rat,δ = [some (.dat (.int c)),some (.dat (.list (ms.map dP))),some (.dat (.int nn)),some (.dat (fr h')),some (.own (row.map fr)),some (.dat (dP m))]/\Cm 6 (10 + 8 * (i + 1)) h'/\h<=h') ?_ ?_
   ·walk_at "d";refine bU (fun _=>?_) (fun _=>⟨h,rfl,ch.mono (dvd_refl _) (by omega),Rat.le_refl⟩);obtain ⟨bt,hbt,bt1,bt2⟩:∃ bt:Nat,1 + nn / 27 % 3 = (bt:Int)/\1<=bt/\bt<=3:=⟨(1 + nn / 27 % 3).toNat,by omega,by omega,by omega⟩;obtain ⟨tp,htp,tp1,tp2⟩:∃ tp:Int,nn / 3 % 9 = tp/\0<=tp/\tp<=8:=⟨_,rfl,by omega,by omega⟩;rw [hbt,htp];refine ⟨_,_,rfl,by omega,fM (n:=30) (by omega) (by decide +kernel),?_⟩;have bd:bt ∣ 6:=by
     have:bt = 1\/bt = 2\/bt = 3:=by omega
     rcases this with e | e | e <;> rw [e] <;> decide
    have cs:Cm 6 8 (divInt tp (bt:Int)):=Cm.div (t:=tp) (b:=bt) (L:=6) (B:=8) (by omega) bd (le_trans (show tp.natAbs<=8 by omega) (le_mul_of_pos_right _ (by omega)));have sn:0<=divInt tp (bt:Int):=by
     rw [Br,div_def];exact mul_nonneg (intCast_nonneg.mpr tp1) (Rat.le_of_lt (inv_pos.mpr (intCast_pos.mpr (by omega))))
    obtain ⟨st,hst⟩:∃ st,divInt tp (bt:Int) = st:=⟨_,rfl⟩;rw [hst] at cs sn ⊢;walk_at "d";refine ⟨h,st,4,4,rfl,d5 (by omega) ch,(cs.dg (l:=1) (b:=2) (by decide) (by decide) (by decide)).mono (by decide),by decide,?_⟩;walk_at "d";exact ⟨h + st,rfl,(ch.add cs).mono (dvd_refl _) (by omega),by grind⟩
   ·rintro δ ⟨h',rfl,ch',hle⟩;walk_at "d";refine ⟨by rw [rl]; omega,nn,row ++ [h'],h',_,by rw [map_append]; rfl,q0,q1,by rw [length_append,rl]; rfl,ch',fun q hq=>?_,?_⟩
    ·rcases mem_append.mp hq with z | z
     ·exact ⟨(hrow q z).1,by have:=(hrow q z).2; grind⟩
     ·rw [mem_singleton.mp z];exact ⟨ch'.mono (by decide +kernel) (by omega),Rat.le_refl⟩
    ·refine pairwise_append.mpr ⟨hup,pairwise_singleton _ _,fun u hu v hv=>?_⟩;rw [mem_singleton.mp hv];have:=(hrow u hu).2;grind
  ·rintro δ ⟨n',row,h,s5,rfl,m0,m1,rl,ch,hrow,hup⟩;walk_at "d";exact kq row rl (Ew hup) fun q hq=>(hrow q hq).1
def aMv:Option Rat->PyData
 | none=>.none
 | some q=>fr q
def eOR:Enc (Option Rat) where
 d:=aMv
 dep:=eRat.dep
 small:=eRat.small
 lay:=fun p=>by
  cases p with
  | none=>rfl
  | some m=>exact eRat.lay m
 depth:=fun p=>by
  cases p with
  | none=>exact zero_le _
  | some m=>exact eRat.depth m
 eqv:=fun p q=>by
  cases p with
  | none =>
   cases q with
   | none=>exact ⟨fun _=>rfl,fun _=>rfl⟩
   | some m=>exact ⟨fun h=>(by cases h),fun h=>(by cases h)⟩
  | some m =>
   cases q with
   | none=>exact ⟨fun h=>(by cases h),fun h=>(by cases h)⟩
   | some m'=>exact (eRat.eqv m m').trans ⟨fun h=>congrArg some h,fun h=>by injection h⟩
theorem aDs {qs:List Rat} {Q:PyData->Prop} (h:Q (.bool false)):aJn .none (.list (qs.map fr)) Q:=⟨Option Rat,eOR,none,qs.map some,rfl,by rw [map_map]; rfl,fun b hb=>by
 cases b with
 | false=>exact h
 | true =>
  obtain ⟨q,_,e⟩:=mem_map.mp (hb.mp rfl)
  cases e⟩
theorem Ci {a b ab:Str} {ws:List Str} (e:ab.cps.toList = a.cps.toList ++ [32] ++ (b.cps.toList ++ [32])) (h:ws ≠ []):ab ++ Txt.join (Str.ofString " ") ws = Txt.join (Str.ofString " ") (a :: b :: ws):=by
 apply fP;cases ws with
 | nil=>exact absurd rfl h
 | cons w r =>
  rw [eJ,gC,gC,gX,e];simp only [map_cons,iE,append_assoc]
theorem Lj {a b ab c:Str} {ws:List Str} (e:ab.cps.toList = a.cps.toList ++ [32] ++ (b.cps.toList ++ [32])) (h:ws ≠ []):ab ++ c ++ Str.ofString " " ++ Txt.join (Str.ofString " ") ws = Txt.join (Str.ofString " ") (a :: b :: c :: ws):=by
 rw [<- Ci e (by simp)];apply fP;cases ws with
 | nil=>exact absurd rfl h
 | cons w r =>
  rw [eJ,eJ,eJ,eJ,gC,gC,gX];simp only [map_cons,iE,append_assoc]
theorem Ll (x:Str):Txt.join (Str.ofString " ") [x] = x:=by
 apply fP;rw [gC]; rfl
theorem Uf (q:Rat):Mh [[q]] = iX q:=by
 apply fP;unfold Mh Co;rw [gC];show (Txt.join (Str.ofString " ") [iX q]).cps.toList = _;rw [Ll]
theorem Ay {kd:Str} (h:kd∈dJ):32 ∉ kd.cps.toList/\kd.length<=6:=by
 have h3:kd = "far"\/kd = "sum"\/kd = "square":=by simpa [dJ] using h
 rcases h3 with rfl | rfl | rfl <;> exact ⟨by decide +kernel,by decide +kernel⟩
theorem Ug {m:Mk} (h:Lw7 (m7 m)):32 ∉ (lE m).cps.toList:=fun z=>by
 rcases Zz h.sm 32 z with (y | y) | y | y | y <;> omega
theorem Vj:(Str.ofString "marks a ").cps.toList = (Str.ofString "marks").cps.toList ++ [32] ++ ((Str.ofString "a").cps.toList ++ [32]):=by decide +kernel
theorem Vs:(Str.ofString "judge a ").cps.toList = (Str.ofString "judge").cps.toList ++ [32] ++ ((Str.ofString "a").cps.toList ++ [32]):=by decide +kernel
theorem rB {ws:List Str} (hne:ws ≠ []) (h:∀ w∈ws,32 ∉ w.cps.toList):Txt.split (Txt.join (Str.ofString " ") ws) (Str.ofString " ") = ws:=mW zO (by rw [gX]; decide) hne h
theorem Qb {ms:List Mk} (hne:ms ≠ []) (h:∀ m∈ms,Lw7 (m7 m)):Txt.split (Str.ofString "marks a " ++ Txt.join (Str.ofString " ") (ms.map lE)) (Str.ofString " ") = Str.ofString "marks" :: Str.ofString "a" :: ms.map lE:=by
 rw [Ci Vj (by simpa using hne)];refine rB (by simp) fun w hw=>?_;simp only [mem_cons] at hw;rcases hw with rfl | rfl | hw
 ·decide +kernel
 ·decide +kernel
 ·obtain ⟨m,hm,rfl⟩:=mem_map.mp hw;exact Ug (h m hm)
theorem Qj {kd:Str} {qs:List Rat} (hk:kd∈dJ) (hne:qs ≠ []) (h:∀ q∈qs,Dg 89 q):Txt.split (Str.ofString "judge a " ++ kd ++ Str.ofString " " ++ Txt.join (Str.ofString " ") (qs.map iX)) (Str.ofString " ") = Str.ofString "judge" :: Str.ofString "a" :: kd :: qs.map iX:=by
 rw [Lj Vs (by simpa using hne)];refine rB (by simp) fun w hw=>?_;simp only [mem_cons] at hw;rcases hw with rfl | rfl | rfl | hw
 ·decide +kernel
 ·decide +kernel
 ·exact (Ay hk).1
 ·obtain ⟨q,hq,rfl⟩:=mem_map.mp hw;exact Cn (h q hq) (.inl rfl)
theorem Ke {kd:Str} {qs:List Rat} (hk:kd∈dJ) (hl:qs.length<=60) (h:∀ q∈qs,Dg 89 q):(Str.ofString "judge a " ++ kd ++ Str.ofString " " ++ Txt.join (Str.ofString " ") (qs.map iX)).length<=90000:=by
 have h1:=qM h;have h2:=(Ay hk).2;have h3:(Str.ofString "judge a ").length = 8:=by decide +kernel
 have h4:=fL;unfold Co at h1;rw [Str.length_append,Str.length_append,Str.length_append];omega
theorem Jy {ms:List Mk} (hl:ms.length<=60) (h:∀ m∈ms,Lw7 (m7 m)):(Txt.join (Str.ofString " ") (ms.map lE)).length<=60000:=by
 have:=xR (Str.ofString " ") (ws:=ms.map lE) (n:=259) fun w hw=>by
  obtain ⟨m,hm,rfl⟩:=mem_map.mp hw;exact (wU (h m hm).sm).2
 rw [fL,length_map] at this;omega
theorem Dv {kd:Str} {qs:List Rat} (h1:1<=qs.length) (h:qs.length<=60):Bb (Str.ofString "judge" :: Str.ofString "a" :: kd :: qs.map iX) :=
 ⟨_,_,4,63,rfl,by decide +kernel,by simp; omega,by simp; omega⟩
theorem aBv:(Str.ofString "rise a ").cps.toList = (Str.ofString "rise").cps.toList ++ [32] ++ ((Str.ofString "a").cps.toList ++ [32]):=by decide +kernel
theorem Uk {kd:Str} (hk:kd∈dJ):Txt.split (Str.ofString "rise a " ++ kd) (Str.ofString " ") = [Str.ofString "rise",Str.ofString "a",kd]:=by
 have e:=Ci (a:=Str.ofString "rise") (b:=Str.ofString "a") (ws:=[kd]) aBv (by simp);rw [Ll] at e;rw [e];refine rB (by simp) fun w hw=>?_;simp only [mem_cons,not_mem_nil,or_false] at hw;rcases hw with rfl | rfl | rfl
 ·decide +kernel
 ·decide +kernel
 ·exact (Ay hk).1
theorem Mr {kd:Str} {ms:List Mk} {Q:Sl->Prop} {X:DX} (hk:kd∈dJ) (M:MkT ms) (hp:∀ m∈ms,Ok m.1) (kq:∀ row ps,RiseOk kd ms row ps->Q (.dat (.str (Mh [[dI kd ms row],row,ps])))) :
  Th [(Str.ofString "a",.list (ms.map dP))] [.str (Str.ofString "rise a " ++ kd)] Q X:=by
 have hl:(Str.ofString "rise a " ++ kd).length<=90000:=by
  have h2:=(Ay hk).2;have h3:(Str.ofString "rise a ").length = 7:=by decide +kernel
  rw [Str.length_append];omega
 exact ⟨_,Str.ofString "rise",Str.ofString "a",_,.list (ms.map dP),rfl,hl,Uk hk,⟨_,_,3,3,rfl,by decide +kernel,by simp,by simp⟩,rfl,rfl,by decide +kernel,by decide +kernel,by decide +kernel,by decide +kernel,by rw [lookup_cons,beq_self_eq_true],Str.ofString "a",kd,ms,_,rfl,hk,M,.inl ⟨rfl,hp,fun row ps F=>⟨rfl,kq row ps F⟩⟩⟩
theorem Jh {kd:Str} {ms:List Mk} {row:List Rat} {Q:Sl->Prop} {X:DX} (hk:kd∈dJ) (M:MkT ms) (hl:row.length = ms.length) (hr:∀ q∈row,Ro q) (kq:Q (.dat (.str (iX (dI kd ms row))))) :
  Th [(Str.ofString "a",.list (ms.map dP))] [.str (Str.ofString "judge a " ++ kd ++ Str.ofString " " ++ Txt.join (Str.ofString " ") (row.map iX))] Q X:=by
 have n10:=M.n10;have n1:=M.n1;have h9:∀ q∈row,Dg 89 q:=fun q hq=>Ro.dg9 (hr q hq);exact ⟨_,Str.ofString "judge",Str.ofString "a",_,.list (ms.map dP),rfl,Ke hk (by omega) h9,Qj hk (fun e=>by rw [e] at hl; simp at hl; omega) h9,Dv (by omega) (by omega),rfl,rfl,by decide +kernel,by decide +kernel,by decide +kernel,by decide +kernel,by rw [lookup_cons,beq_self_eq_true],Str.ofString "a",kd,ms,_,rfl,hk,M,.inr ⟨row,rfl,hl,hr,rfl,kq⟩⟩
theorem MkR.pok {most:Nat} {ms:List Mk} (M:MkR most ms):∀ m∈ms,Ok m.1:=fun m hm=>⟨fM (n:=1000) (M.pl m hm).1 (by decide +kernel),fM (n:=2) (by have:=(M.pl m hm).2; omega) (by decide +kernel)⟩
theorem Se {α:Type} (xs:List α) {i:Int} {n:Nat} (h:i = (n:Int)):oM xs (some i) none = xs.drop n:=by rw [h]; exact yE xs n
theorem aFo {α:Type} (xs:List α) {i:Int} {n:Nat} (h:i = (n:Int)):oM xs none (some i) = xs.take n:=by rw [h]; exact Wo xs n
theorem Cm.d20 {a:Rat} (h:Cm LL (10 ^ 6) a):Dg 20 a:=Fm.Cm.dg h En (show LL<=10 ^ 13 by decide +kernel) (le_refl (10 ^ 6))
theorem aCw (T:Txt K mg A) (CT_COUNTS:tR w K A.g_COUNTS (gS A)):FnOk P w K mg base (eP P w) 11 A.a_qm2 A.d_qm2 ["script"] (Fh K):=by
 have G_qi2:=aDc (P:=P) (w:=w) (base:=base) T;have G_Desk_sayM:=xK (P:=P) (w:=w) (base:=base) T CT_COUNTS;have G_qj2:=xJ (P:=P) (w:=w) (base:=base) T CT_COUNTS;refine aDz (gE T.F_qm2.F jH (fun ds Q E h=>?_) (fun cdv Ar outer s H E hr=>?_))
 ·obtain ⟨a,rfl,_⟩:=h; rfl
 refine ⟨_,(aF (cY 1 jH (gB (lN (K:=K) rfl) (dN (aA bF (aA bF (aA bF aD)))) (aY eN (cG (lK T) hr T.F_qp1 aO (aA (pv 0) (aA aP aD))) aP) (fun _ _=>rfl)))
   (aF (cY 2 jH (cG (aDj T) hr T.F_qd2 aO (aA (pv 0) (aA aP (aA aP aD)))))
   (aF (cY 3 jH (aY eN (aY dY (cG (lK T) hr T.F_qp1 aO (aA (pv 0) (aA aP aD))) aP) (bB (gH (K:=K) rfl) rfl T.n_len boot_len (aA (pv 2) aD))))
   (aF (cY 4 jH (Pc T.mk_Desk G_qi2 (hr.mono (by decide)) rfl T.m_Desk T.b_qi2 .nil aO))
   (aF (bK (aT nZ (mH (pv 4) T.cl_Desk T.M_qj2 G_Desk_sayM (hr.mono (by decide)) T.b_qj2 .nil aO (aA (aY cQ bF (fB F.plainAttrs_str F.slot_str_join F.type_str_join (lM (K:=K) rfl) bF (aA (fA (cap:=[none]) (NC:=["mark"]) rfl (qE rfl) (fV (K:=K) rfl (aY aCp (iC (Uc (K:=K) rfl) (pv 2) (jA (pv 3)) jB) (iC (Uc (K:=K) rfl) (pv 2) jB (jA (pv 3))))) (fun _ _ _ _=>(kI 0 ["mark"])) (fun _ _ _ _=>cC) (fun _ _ _ _=>(cG (aCs T) hr T.F_qy1 aO (aA (pv 0) aD)))) aD))) aD)) bF (aX _)) (aH (aV gG)) aW)
   (aF (cY 5 jH (cG (Dc T) hr T.F_qw1 aO (aA (mH (pv 4) T.cl_Desk T.M_qj2 G_qj2 (hr.mono (by decide)) T.b_qj2 .nil aO (aA (aY cQ bF (pv 1)) aD)) aD)))
   (aF (bK (PW.pt (gA (aT nZ (bB (gH (K:=K) rfl) rfl T.n_len boot_len (aA (pv 5) aD)) aP (aX _)) (gA (aT nZ (bB (gH (K:=K) rfl) rfl T.n_len boot_len (aA (kP (K:=K) rfl (pv 5)) aD)) aP (aX _)) (gA (aT nZ (bB (gH (K:=K) rfl) rfl T.n_len boot_len (aA (kP (K:=K) rfl (pv 5)) aD)) (bB (gH (K:=K) rfl) rfl T.n_len boot_len (aA (pv 2) aD)) (aX _)) (fU (aT nZ (bB (gH (K:=K) rfl) rfl T.n_len boot_len (aA (kP (K:=K) rfl (pv 5)) aD)) (bB (gH (K:=K) rfl) rfl T.n_len boot_len (aA (pv 2) aD)) (aX _))))))) (aH (aV gG)) aW)
   (aF (bK (PW.pt (gA (aT (inK (K:=K) rfl hr.units) jJ (aY (Si (K:=K) rfl) (aY (Si (K:=K) rfl) (kP (K:=K) rfl (pv 5)) (kP (K:=K) rfl (pv 5))) (kP (K:=K) rfl (pv 5))) rfl) (gA (kH (eL (cG (aDi T) hr T.F_qe2 aO (aA (kP (K:=K) rfl (pv 5)) aD)))) (fU (kH (eL (cG (aDh T) hr T.F_qf2 aO (aA (kP (K:=K) rfl (pv 5)) (aA (kP (K:=K) rfl (pv 5)) aD))))))))) (aH (aV gG)) aW)
   (aF (bK (aT (Pt (K:=K) rfl hr.units) (kP (K:=K) rfl (pv 5)) (dN (aA (cG (Pi T) hr T.F_qt1 aO (aA (pv 1) (aA (pv 2) (aA (kP (K:=K) rfl (pv 5)) aD)))) aD)) (aX _)) (aH (aV gG)) aW)
   (aF (bK (kH (eL (cG (aDl T) hr T.F_qc2 aO (aA (pv 1) (aA (pv 2) (aA (cG (aDm T) hr T.F_qb2 aO (aA (pv 2) (aA (kP (K:=K) rfl (pv 5)) aD))) (aA (kP (K:=K) rfl (pv 5)) aD))))))) (aH (aV gG)) aW)
   (aF (cY 6 jH (aY cQ (aY cQ bF (pv 1)) bF))
   (aF (bK (aT (Pt (K:=K) rfl hr.units) (cG (Dc T) hr T.F_qw1 aO (aA (mH (pv 4) T.cl_Desk T.M_qj2 G_qj2 (hr.mono (by decide)) T.b_qj2 .nil aO (aA (aY cQ (pv 6) (fB F.plainAttrs_str F.slot_str_join F.type_str_join (lM (K:=K) rfl) bF (aA (fA (cap:=[none]) (NC:=["x"]) rfl (qE rfl) (fV (K:=K) rfl (kP (K:=K) rfl (pv 5))) (fun _ _ _ _=>(kI 0 ["x"])) (fun _ _ _ _=>cC) (fun _ _ _ _=>(cG (xH T) hr T.F_qx1 aO (aA (pv 0) aD)))) aD))) aD)) aD)) (dN (aA (kP (K:=K) rfl (pv 5)) aD)) (aX _)) (aH (aV gG)) aW)
   (aF (dU PassesOwn.leaving rfl (uZ rfl T.n_range (aA aP (aA (bB (wA rfl) rfl T.n_max Sk (aA aP (aA (bB (pJ rfl) rfl T.n_min Eg (aA (bB (gH (K:=K) rfl) rfl T.n_len boot_len (aA (pv 0) aD)) (aA aP aD))) aD))) aD))) (mG 7 jH)
    (aF (cY 8 jH (cG (aDe T) hr T.F_qh2 aO (aA (cG (lK T) hr T.F_qp1 aO (aA (pv 0) (aA (pv 7) aD))) (aA (pv 2) aD))))
   (aF (cY 9 jH (cG (Dc T) hr T.F_qw1 aO (aA (mH (pv 4) T.cl_Desk T.M_qj2 G_qj2 (hr.mono (by decide)) T.b_qj2 .nil aO (aA (aY cQ (pv 6) (fB F.plainAttrs_str F.slot_str_join F.type_str_join (lM (K:=K) rfl) bF (aA (fA (cap:=[none]) (NC:=["x"]) rfl (qE rfl) (fV (K:=K) rfl (pv 8)) (fun _ _ _ _=>(kI 0 ["x"])) (fun _ _ _ _=>cC) (fun _ _ _ _=>(cG (xH T) hr T.F_qx1 aO (aA (pv 0) aD)))) aD))) aD)) aD)))
   (aH (bK (PW.pt (gA (aT (Pt (K:=K) rfl hr.units) (pv 9) (dN (aA (dN (aA (cG (Pi T) hr T.F_qt1 aO (aA (pv 1) (aA (pv 2) (aA (pv 8) aD)))) aD)) aD)) (aX _)) (fU (eL (cG (sH T) hr T.F_qr1 aO (aA (kP (K:=K) rfl (kP (K:=K) rfl (pv 9))) (aA (kP (K:=K) rfl (kP (K:=K) rfl (pv 5))) aD))))))) (aH (aV gG)) aW)))))
   (aH (aV gG))))))))))))))),_,(aJ (bD (bO (mP (dO (aQ bG (aQ bG (aQ bG bE))) (by decide))) (aB (fE (k:=3) (by decide) (aB (aM (aC (aE 0) (aC (aB aK) aG)))) aK))) (aI 1))
   (aJ (bZ 2 (dH (aC (aE 0) (aC (aB aK) (aC (aB aK) aG)))))
   (aJ (bD (aN dM (aB (lT (k:=3) (Bx (by decide +kernel)) (aB (aM (aC (aE 0) (aC (aB aK) aG)))) aK)) (aB (bT cO (aC (aE 2) aG)))) (aI 3))
   (Ly 4 (by decide) (aB (aN eZ (aB bG) (aB (oH (aB bG) (mP (dW (cW (mP (aCl (Gj (Gb (bA 2) (jC (aE 3)) pQ)) (Gj (Gb (bA 2) pQ (jC (aE 3))))))) (aI 0) cM (aM (aC (aE 0) aG)) (by decide) (by decide)))))))
   (aJ (mT 2 (nR (aC (aB (sZ 4 (by decide) (aC (aB (aN eZ (aB bG) (aE 1))) aG))) aG) (aI 5)))
   (aJ (bP (fZ (aU (aB (aN pO (aB (bT cO (aC (aE 5) aG))) (aB aK)))) (fZ (aU (aB (aN pO (aB (bT cO (aC (aB (bO (bA 5) (aB aK))) aG))) (aB aK)))) (fZ (aU (aB (aN pO (aB (bT cO (aC (aB (bO (bA 5) (aB aK))) aG))) (aB (bT cO (aC (aE 2) aG)))))) (aU (aB (aN pO (aB (bT cO (aC (aB (bO (bA 5) (aB aK))) aG))) (aB (bT cO (aC (aE 2) aG))))))))) (bI (aB gN)) aZ)
   (aJ (bP (fZ (aU (aB (aN aBu (aB jM) (aB (eI (Gc (aB (eI (Gc (aB (bO (bA 5) (aB aK))) (aB (bO (bA 5) (aB aK)))))) (aB (bO (bA 5) (aB aK))))))))) (fZ (jZ (jF (aB (aM (aC (aB (bO (bA 5) (aB aK))) aG))))) (jZ (jF (aB (aM (aC (aB (bO (bA 5) (aB aK))) (aC (aB (bO (bA 5) (aB aK))) aG)))))))) (bI (aB gN)) aZ)
   (aJ (bP (aU (aB (aN iT (aB (bO (bA 5) (aB aK))) (aB (eI (dO (aQ (aM (aC (aE 1) (aC (aE 2) (aC (aB (bO (bA 5) (aB aK))) aG)))) bE) (by decide))))))) (bI (aB gN)) aZ)
   (aJ (bP (jZ (jF (aB (aM (aC (aE 1) (aC (aE 2) (aC (aB (eI (dH (aC (aE 2) (aC (aB (bO (bA 5) (aB aK))) aG))))) (aC (aB (bO (bA 5) (aB aK))) aG)))))))) (bI (aB gN)) aZ)
   (aJ (bD (aN eZ (aB (aN eZ (aB bG) (aE 1))) (aB bG)) (aI 6))
   (aJ (bP (aU (aB (aN iT (Bz (aC (aB (sZ 4 (by decide) (aC (aB (aN eZ (aE 6) (aB (oH (aB bG) (mP (dW (cW (Qe (bO (bA 5) (aB aK)))) (aI 0) cM (aM (aC (aE 0) aG)) (by decide) (by decide))))))) aG))) aG)) (aB (eI (dO (aQ (bO (bA 5) (aB aK)) bE) (by decide))))))) (bI (aB gN)) aZ)
   (aJ (eC (Gu (aC (aB aK) (aC (aB (bT Oq (aC (aB aK) (aC (aB (bT Ct (aC (aB (bT cO (aC (aE 0) aG))) (aC (aB aK) aG)))) aG)))) aG))) (aI 7)
    (aJ (bZ 8 (dH (aC (aB (aM (aC (aE 0) (aC (aE 7) aG)))) (aC (aE 2) aG))))
   (aJ (mT 8 (nR (aC (aB (sZ 4 (by decide) (aC (aB (aN eZ (aE 6) (aB (oH (aB bG) (mP (dW (cW (bA 8)) (aI 0) cM (aM (aC (aE 0) aG)) (by decide) (by decide))))))) aG))) aG) (aI 9)))
   (bP (fZ (aU (aB (aN iT (aE 9) (aB (eI (dO (aQ (eI (dO (aQ (aM (aC (aE 1) (aC (aE 2) (aC (aE 8) aG)))) bE) (by decide))) bE) (by decide))))))) (jF (aB (aM (aC (aB (bO (Qe (bO (bA 9) (aB aK))) (aB aK))) (aC (aB (bO (Qe (bO (bA 5) (aB aK))) (aB aK))) aG)))))) (bI (aB gN)) aZ))))
   (bI (aB gN)))))))))))))),?_⟩
 rintro ds Q X ⟨ns,rfl,hlen,hbits,k⟩;walk_at "s";refine ⟨ns,0,rfl,by decide,by decide,?_⟩;walk_at "d";obtain ⟨kd,hkd,ak⟩:∃ kd:Str,kd∈dJ/\nI [PyData.str (Str.ofString "far"),PyData.str (Str.ofString "sum"),PyData.str (Str.ofString "square")] (iJ ns 0 % 3) = some (.str kd):=by
  have h3:iJ ns 0 % 3 = 0\/iJ ns 0 % 3 = 1\/iJ ns 0 % 3 = 2:=by omega
  rcases h3 with e | e | e <;> rw [e]
  ·exact ⟨"far",by simp [dJ],rfl⟩
  ·exact ⟨"sum",by simp [dJ],rfl⟩
  ·exact ⟨"square",by simp [dJ],rfl⟩
 refine ⟨_,ak,?_⟩;clear ak;walk_at "s";refine ⟨ns,3,10,rfl,hbits,by omega,by decide,by decide,by decide,by decide,fun ms MR=>?_⟩;have M:=MR.t (by decide);have M1:=MR.n1;have M10:=MR.nm;have pok:=MR.pok;have hlw:=MR.lw;have hw1:∀ m∈ms,1<=m.2.2:=fun m h=>(M.hw m h).1;have mne:ms ≠ []:=fun e=>by rw [e] at M1; simp at M1
 walk_at "d";refine ⟨oA _,?_⟩;walk_at "s";refine ⟨ns,2,rfl,by decide,by decide,?_⟩;walk_at "d";refine ⟨by omega,?_⟩;obtain ⟨at_,hat,hat2⟩:∃ at_:Nat,iJ ns 2 / 3 % (ms.length:Int) = (at_:Int)/\at_ < ms.length:=by
  have h0:=emod_nonneg (iJ ns 2 / 3) (show (ms.length:Int) ≠ 0 by omega);have h1:=emod_lt_of_pos (iJ ns 2 / 3) (show (0:Int) < (ms.length:Int) by omega);exact ⟨(iJ ns 2 / 3 % (ms.length:Int)).toNat,by omega,by omega⟩
 rw [hat];clear hat;walk_at "d";refine ⟨by decide,?_⟩;obtain ⟨rt,hrt⟩:∃ rt:List Mk,ms.drop at_ ++ ms.take at_ = rt:=⟨_,rfl⟩;have rp:rt.Perm ms:=by
  rw [<- hrt];exact List.perm_append_comm.trans (by rw [take_append_drop])
 have rl:rt.length = ms.length:=rp.length_eq;have rlw:∀ m∈rt,Lw7 (m7 m):=fun m hm=>hlw m (rp.mem_iff.mp hm);have rne:rt ≠ []:=fun e=>by rw [e] at rl; simp at rl; omega
 refine cL dP PyData.str (fun m=>[lE m]) rt (by omega) (fun Q h=>by
   walk_at "d"
   rw [Bu,Bu,Se ms rfl,aFo ms rfl,<- map_append,hrt]
   exact ⟨by rw [length_map,length_map,length_drop,length_take]; omega,h⟩) (fun m hm N acc hN=>?_) ?_
 ·walk_at "d";refine ⟨m7 m,rfl,(rlw m hm).sm,?_⟩;walk_at "d";exact hN
 rw [bH];have ml:=Jy (by omega) rlw;refine ⟨rt.map lE,rfl,We (n:=259) (fun w hw=>?_) (by rw [length_map,fL]; omega),?_,?_⟩
 ·obtain ⟨m,hm,rfl⟩:=mem_map.mp hw;exact (wU (rlw m hm).sm).2
 ·have:(Str.ofString "marks a ").length = 8:=by decide +kernel
  omega
 refine ⟨_,Str.ofString "a",rt,rfl,?_,Qb rne rlw,⟨_,rt,rfl,by decide +kernel,by decide +kernel,rne,by omega,rlw,(rp.map (·.1)).nodup_iff.mpr (yW MR.up),fun res hp hu=>?_⟩,by omega,by omega⟩
 ·have:(Str.ofString "marks a ").length = 8:=by decide +kernel
  rw [Str.length_append];omega
 obtain rfl:res = ms:=Xe hu MR.up (hp.trans rp);clear rp rl rlw rne hrt ml hp hu rt hat2;have hmis:∀ m∈res,Dg 20 m.2.1/\1<=m.2.2/\m.2.2.natAbs<=10 ^ 1:=fun m h=>⟨Cm.d20 (M.hc m h),(M.hw m h).1,by have:=M.hw m h; omega⟩;have kdl:=(Ay hkd).2;have ril:(Str.ofString "rise a ").length = 7:=by decide +kernel
 have jul:(Str.ofString "judge a ").length = 8:=by decide +kernel
 have bll:=fL;walk_at "s";refine ⟨_,rfl,by omega,Mr hkd M pok fun row ps F=>?_⟩;have R:=Ft hkd hw1 F;have Z:=Fr hkd M F;have r1:=R.len;have p1:=R.plen;have r4:=Z.r;have rne:row ≠ []:=fun e=>by rw [e] at r1; simp at r1; omega
 have pne:ps ≠ []:=fun e=>by rw [e] at p1; simp at p1; omega
 obtain ⟨mq,hmq⟩:∃ mq,dI kd res row = mq:=⟨_,rfl⟩;have dq:Dg 79 mq:=by rw [<- hmq]; exact M.dg r4 kd
 have oq:Ok mq:=eE dq (by decide);rw [hmq];walk_at "d";refine ⟨[[mq],row,ps],rfl,by simp,by simp,fun r hr=>?_,?_⟩
 ·simp only [mem_cons,not_mem_nil,or_false] at hr;rcases hr with rfl | rfl | rfl
  ·exact ⟨by simp,by simp,fun q hq=>by rw [mem_singleton.mp hq]; exact dq.mono (by decide)⟩
  ·exact ⟨rne,by omega,fun q hq=>Ro.dg9 (r4 q hq)⟩
  ·exact ⟨pne,by omega,fun q hq=>p89 (Z.p q hq)⟩
 have eD:lsD [[mq],row,ps] = [PyData.list [fr mq],PyData.list (row.map fr),PyData.list (ps.map fr)]:=rfl;rw [eD];walk_at "d";walk_at "s";refine bU (fun c=>absurd rfl c) (fun _=>⟨_,rfl,?_⟩);dsimp only;refine bU (fun c=>absurd rfl c) (fun _=>⟨_,rfl,?_⟩);dsimp only;refine bU (fun c=>absurd (show ((row.map fr).length:Int) = (res.length:Int) by rw [length_map,r1]) c) (fun _=>⟨_,rfl,?_⟩);dsimp only;refine bU (fun c=>absurd (show ((ps.map fr).length:Int) = (res.length:Int) by rw [length_map,p1]) c) (fun _=>?_);walk_at "s";refine ⟨_,rfl,_,rfl,_,_,rfl,rfl,rfl,dZ _,?_,_,rfl,_,_,rfl,rfl,dZ (mq :: row),dZ _,?_,?_⟩
 ·rw [length_map]; simp; omega
 ·rw [length_append,length_map,length_map]; simp; omega
 have e3:([fr mq] ++ row.map fr) ++ ps.map fr = (mq :: row ++ ps).map fr:=by rw [map_append]; rfl
 rw [e3];refine aDs (qs:=mq :: row ++ ps) ?_;have r4d:∀ q∈row,Dg 37 q:=fun q hq=>Ro.dg (r4 q hq);have wr:∀ {q:Rat} {Q:Sl->Prop} {X:DX},Ro q->Q (.dat (.str (iX q)))->Kz [fr q] Q X:=fun {q Q X} hq hQ=>by
  have d:=Ro.dg hq;exact ⟨q.num,(q.den:Int),rfl,lt_of_le_of_lt d.n (by decide +kernel),by rw [natAbs_natCast]; exact lt_of_le_of_lt d.d (by decide +kernel),hQ⟩
 walk_at "d";refine ⟨_,rfl,row,rfl,by omega,by omega,fun q hq=>eE (r4d q hq) (by decide),R.hold.up,?_⟩;walk_at "d";refine ⟨_,rfl,_,rfl,row,ps,rfl,by omega,by omega,Z.p,R.hold,?_⟩;walk_at "s";refine ⟨_,rfl,_,rfl,kd,res,row,20,37,1,rfl,hkd,r1,by omega,hmis,r4d,by omega,?_⟩;walk_at "d";refine ⟨List Rat,tG eRat (by decide),[mq],[dI kd res row],rfl,rfl,fun b hb=>?_⟩;rw [hb.mpr (by rw [hmq])];walk_at "s";refine ⟨_,rfl,res,row,rfl,M,r1,r4,?_⟩;walk_at "d";refine ⟨dZ _,_,rfl,kd,res,row,ps,rfl,hkd,M,r1,p1,r4,Z.p,R.fair,?_⟩;walk_at "s";refine ⟨by omega,by rw [Str.length_append]; omega,?_⟩;obtain ⟨jt,hjt⟩:∃ jt,Str.ofString "judge a " ++ kd ++ Str.ofString " " = jt:=⟨_,rfl⟩;have jtl:jt.length<=20:=by rw [<- hjt,Str.length_append,Str.length_append]; omega
 have judged:∀ {r:List Rat} {Q:Sl->Prop} {X:DX},r.length = res.length->(∀ q∈r,Ro q)->(Q (.dat (.str (Mh [[dI kd res r]]))))->Th [(Str.ofString "a",.list (res.map dP))] [.str (jt ++ Txt.join (Str.ofString " ") (r.map iX))] Q X:=fun {r Q X} hr hq hQ=>by
  rw [<- hjt];exact Jh hkd M hr hq (by rw [<- Uf]; exact hQ)
 have fit:∀ {r:List Rat},r.length = res.length->(∀ q∈r,Ro q)->((r.map iX).map (·.length)).sum + (r.map iX).length * (Str.ofString " ").length<=100000/\jt.length + (Txt.join (Str.ofString " ") (r.map iX)).length<=100000:=fun {r} hr hq=>by
  refine ⟨We (n:=183) (fun w hw=>?_) (by rw [length_map,fL]; omega),?_⟩
  ·obtain ⟨q,hq2,rfl⟩:=mem_map.mp hw;exact nW (Ro.dg9 (hq q hq2))
  ·have:=qM (qs:=r) fun q h=>Ro.dg9 (hq q h);unfold Co at this;omega
 rw [hjt];clear hjt;walk_at "s";refine ⟨_,rfl,?_⟩
 refine cL fr PyData.str (fun q=>[iX q]) row (by omega) (fun Q h=>by
   walk_at "d"
   exact ⟨_,rfl,h⟩) (fun q hq N acc hN=>?_) ?_
 ·walk_at "d";refine wr (r4 q hq) ?_;walk_at "d";exact hN
 rw [bH];obtain ⟨f1,f2⟩:=fit r1 r4;refine ⟨row.map iX,rfl,f1,f2,judged r1 r4 ?_⟩;rw [hmq];walk_at "d";refine ⟨[[mq]],rfl,by simp,by simp,fun r hr=>?_,?_⟩
 ·rw [mem_singleton.mp hr];exact ⟨by simp,by simp,fun q hq=>by rw [mem_singleton.mp hq]; exact dq.mono (by decide)⟩
 walk_at "d";refine ⟨_,rfl,List (List Rat),tG (tG eRat (by decide)) (by decide),[[mq]],[[mq]],rfl,rfl,fun b hb=>?_⟩;rw [hb.mpr rfl];walk_at "d";obtain ⟨hi,hhi,h17,h35⟩:∃ hi:Int,(if (if 43 < (ns.length:Int) then 43 else (ns.length:Int)) > 25 then (if 43 < (ns.length:Int) then 43 else (ns.length:Int)) else 25) = hi/\25<=hi/\hi<=43:=⟨_,rfl,by (repeat' split) <;> omega,by (repeat' split) <;> omega⟩
 refine cK (qX (lo:=23) (st:=1) (n:=(hi - 23).toNat) (fun Q h=>by
   walk_at "d"
   rw [hhi]
   exact ⟨by omega,h⟩)
  (fun i δ=>∃ t1 t2 t3:Option PyData,δ = [some (.dat (.list (ns.map .int))),some (.dat (.str kd)),some (.dat (.list (res.map dP))),some (.dat (.int (at_:Int))),some (.mon (dskP A.c_Desk (Str.ofString "kept") [(Str.ofString "a",.list (res.map dP))])),some (.dat (.list [PyData.list [fr mq],PyData.list (row.map fr),PyData.list (ps.map fr)])),some (.dat (.str jt)),t1.map Sl.dat,t2.map Sl.dat,t3.map Sl.dat])
  ⟨none,none,none,rfl⟩ ?_ ?_)
 ·rintro i δ hi2 ⟨t1,t2,t3,rfl⟩;obtain ⟨jj,hjj,jj0,jj1⟩:∃ jj:Int,23 + (i:Int) * 1 = jj/\0<=jj/\jj<=100:=⟨_,rfl,by omega,by omega⟩;rw [hjj];clear hjj;walk_at "s";refine ⟨ns,jj,rfl,by omega,by omega,?_⟩;walk_at "d";refine ⟨_,res,rfl,Bw hbits (by omega) (by omega),M,fun r rl hF hq=>?_⟩;walk_at "d";refine ⟨dZ _,?_⟩;obtain ⟨mo,hmo⟩:∃ mo,dI kd res r = mo:=⟨_,rfl⟩;have dmo:Dg 79 mo:=by rw [<- hmo]; exact M.dg hq kd
  walk_at "s";refine ⟨_,rfl,?_⟩
  refine cL fr PyData.str (fun q=>[iX q]) r (by omega) (fun Q h=>by
    walk_at "d"
    exact h) (fun q hq2 N acc hN=>?_) ?_
  ·walk_at "d";refine wr (hq q hq2) ?_;walk_at "d";exact hN
  rw [bH];obtain ⟨f1,f2⟩:=fit rl hq;refine ⟨r.map iX,rfl,f1,f2,judged rl hq ?_⟩;rw [hmo];walk_at "d";refine ⟨[[mo]],rfl,by simp,by simp,fun r hr=>?_,?_⟩
  ·rw [mem_singleton.mp hr];exact ⟨by simp,by simp,fun q hq=>by rw [mem_singleton.mp hq]; exact dmo.mono (by decide)⟩
  have eM:lsD [[mo]] = [PyData.list [fr mo]]:=rfl;rw [eM];walk_at "d";refine ⟨kd,res,r,20,37,1,rfl,hkd,rl,by omega,hmis,fun q h=>Ro.dg (hq q h),by omega,?_⟩;walk_at "d";refine ⟨List (List Rat),tG (tG eRat (by decide)) (by decide),[[mo]],[[dI kd res r]],rfl,rfl,fun b hb=>?_⟩;rw [hb.mpr (by rw [hmo])];walk_at "d";refine ⟨_,rfl,_,rfl,_,rfl,_,rfl,mo,mq,rfl,eE dmo (by decide),oq,?_⟩;have hle:=(R.least hkd (fun m h=>by have:=hw1 m h; omega) rl hF).1;rw [hmq,hmo] at hle;walk_at "d";refine bU (fun c=>absurd c (not_lt.mpr hle)) (fun _=>?_);exact ⟨some _,some _,some _,rfl⟩
 ·rintro δ ⟨t1,t2,t3,rfl⟩;walk_at "d";exact k
@[elab_as_elim] theorem el1 {P:List Value->Prop}:∀ us:List Value,us.length = 1->(∀ a0:Value,P [a0])->P us
 | [],h,_=>by cases h
 | [a0],_,h=>h a0
 | _ :: _ :: _,h,_=>by simp at h
@[elab_as_elim] theorem el2 {P:List Value->Prop}:∀ us:List Value,us.length = 2->(∀ a0 a1:Value,P [a0,a1])->P us
 | [],h,_=>by cases h
 | [_],h,_=>by cases h
 | [a0,a1],_,h=>h a0 a1
 | _ :: _ :: _ :: _,h,_=>by simp at h
@[elab_as_elim] theorem el3 {P:List Value->Prop}:∀ us:List Value,us.length = 3->(∀ a0 a1 a2:Value,P [a0,a1,a2])->P us
 | [],h,_=>by cases h
 | [_],h,_=>by cases h
 | [_,_],h,_=>by cases h
 | [a0,a1,a2],_,h=>h a0 a1 a2
 | _ :: _ :: _ :: _ :: _,h,_=>by simp at h
@[elab_as_elim] theorem el4 {P:List Value->Prop}:∀ us:List Value,us.length = 4->(∀ a0 a1 a2 a3:Value,P [a0,a1,a2,a3])->P us
 | [],h,_=>by cases h
 | [_],h,_=>by cases h
 | [_,_],h,_=>by cases h
 | [_,_,_],h,_=>by cases h
 | [a0,a1,a2,a3],_,h=>h a0 a1 a2 a3
 | _ :: _ :: _ :: _ :: _ :: _,h,_=>by simp at h
local macro_rules | `(tactic| walk_at "b") => `(tactic| (intro _ _ _ _ _ _ us hl; first | exact el1 us hl fun _ => rfl | exact el2 us hl fun _ _ => rfl | exact el3 us hl fun _ _ _ => rfl | exact el4 us hl fun _ _ _ _ => rfl))
theorem all_mk {l:W.OpenLaw} {w:World} {K:W.Frag} {h:Heap} {mg:Str->Option Value} {fa f_qa f_qb f_qc f_qd f_qe f_qf f_qg f_qh f_qi f_qj f_qk f_ql f_qm f_qn f_qo f_qp f_qq f_qr f_qs f_qt f_qu f_qv f_qw f_qx f_qy f_qz f_qa1 f_qb1 f_qc1 f_qd1 f_qe1 f_qf1 f_qg1 f_qh1 f_qi1 f_qj1 f_qk1 f_ql1 f_qm1 f_qn1 f_qo1 f_qp1 f_qq1 f_qr1 f_qs1 f_qt1 f_qu1 f_qv1 f_qw1 f_qx1 f_qy1 f_qz1 f_qa2 f_qb2 f_qc2 f_qd2 f_qe2 f_qf2 f_qg2 f_qh2 f_qi2 f_qj2 f_qk2 f_ql2 f_qm2 x_MissError x_NoNumber x_NoMarks x_NoKind x_NoBend x_NoAnswer x_NoText x_NoName x_NoRow g_KINDS g_NOUGHT c_Desk g_COUNTS g_COUNTS_0 g_COUNTS_1 g_COUNTS_2 g_COUNTS_3 g_COUNTS_4 g_COUNTS_5 g_COUNTS_6 g_COUNTS_7:Addr} (X:K.In h) (G:h.Ns mainGlobals mg) (hfa:mg "law" = some (.ref fa))
  {d0 d1 d2 d3 d4 d5 d6 d7 d8 d9 d10 d11 d12 d13 d14 d15 d16 d17 d18 d19 d20 d21 d22 d23 d24 d25 d26 d27 d28 d29 d30 d31 d32 d33 d34 d35 d36 d37 d38 d39 d40 d41 d42 d43 d44 d45 d46 d47 d48 d49 d50 d51 d52 d53 d54 d55 d56 d57 d58 d59 d60 d61 d62 d63 d64:FuncData}
  (oa_Desk:W.nsIn K mainGlobals "Desk" = some (some (.ref c_Desk))) (pg_Desk:W.plainGet K c_Desk Str.empty = true) (hd_Desk:W.hasDictIn K c_Desk = true) (po_Desk:W.plainOver K c_Desk = true) (sa_Desk:W.findIn K (.ref c_Desk) "__setattr__" = some (some (.builtin "object.__setattr__"))) (mk_Desk:W.makesIn K c_Desk = true) (kc_Desk:W.keepIn K (.ref c_Desk) = true) (na_Desk:W.findIn K (.ref c_Desk) "kept" = some none)
  (Fs:Fg K "common_divisor" aBs f_qa d0/\Fg K "fraction" aBr f_qb d1/\Fg K "plus" aBq f_qc d2/\Fg K "minus" aBp f_qd d3/\Fg K "product" aBo f_qe d4/\Fg K "quotient" aBn f_qf d5/\Fg K "is_less" aBm f_qg d6/\Fg K "size_of" aBl f_qh d7/\Fg K "total_of" aBk f_qi d8/\Fg K "greatest_of" aBj f_qj d9/\Fg K "least_of" aBi f_qk d10/\Fg K "height_at" aBh f_ql d11/\Fg K "row_of" aBg f_qm d12/\Fg K "count_ahead" aBf f_qn d13/\Fg K "marks_of" aBe f_qo d14/\Fg K "misses_of" aBd f_qp d15/\Fg K "check_kind" aBc f_qq d16/\Fg K "weighed_misses" aBb f_qr d17/\Fg K "measured" aBa f_qs d18/\Fg K "least_level" aAz f_qt d19/\Fg K "middle_of" aAy f_qu d20/\Fg K "in_order" aAx f_qv d21/\Fg K "level_sum" aAw f_qw d22/\Fg K "early_pulls" aAv f_qx d23/\Fg K "rise_least" aAu f_qy d24/\Fg K "pooled" aAt f_qz d25/\Fg K "rise_far" Oi f_qa1 d26/\Fg K "peaks_of" Og f_qb1 d27/\Fg K "check_text" Oe f_qc1 d28/\Fg K "is_figures" Oc f_qd1 d29/\Fg K "read_whole" Oa f_qe1 d30/\Fg K "read_fraction" Ny f_qf1 d31/\Fg K "read_mark" Nw f_qg1 d32/\Fg K "show_fraction" Nu f_qh1 d33/\Fg K "show_fractions" Nr f_qi1 d34/\Fg K "words_of" Np f_qj1 d35/\Fg K "check_name" Nm f_qk1 d36/\Fg K "parted" Nk f_ql1 d37/\Fg K "rise_answer" Ni f_qm1 d38/\Fg K "judge_answer" Ng f_qn1 d39/\Fg K "asked" Nf f_qo1 d40/\Fg K "_law_cell" Nd f_qp1 d41/\Fg K "_law_lowest" Nc f_qq1 d42/\Fg K "_law_less" Nb f_qr1 d43/\Fg K "_law_joined" Na f_qs1 d44/\Fg K "_law_missed" Mz f_qt1 d45/\Fg K "_law_number" Mx f_qu1 d46/\Fg K "_law_read" Mw f_qv1 d47/\Fg K "_law_lists" Mv f_qw1 d48/\Fg K "_law_written" Mu f_qx1 d49/\Fg K "_law_word" Mt f_qy1 d50/\Fg K "_law_plus" Ms f_qz1 d51/\Fg K "_law_total" Oh f_qa2 d52/\Fg K "_law_misses" Of f_qb2 d53/\Fg K "_law_fair" Od f_qc2 d54/\Fg K "_law_some" Ob f_qd2 d55/\Fg K "_law_rises" Nz f_qe2 d56/\Fg K "_law_held" Nx f_qf2 d57/\Fg K "_law_sorted" Nv f_qg2 d58/\Fg K "_law_other" Nt f_qh2 d59/\Fg K "law" Nh f_qm2 d64)
  (a60:W.findIn K (.ref c_Desk) "__init__" = some (some (.ref f_qi2))) (i60:W.isFn K (.ref f_qi2) = true)
  (F60:Fun K "__init__" "Desk.__init__" Nq f_qi2 d60)
  (a61:W.findIn K (.ref c_Desk) "say" = some (some (.ref f_qj2))) (i61:W.isFn K (.ref f_qj2) = true)
  (F61:Fun K "say" "Desk.say" Nn f_qj2 d61)
  (a62:W.findIn K (.ref c_Desk) "lay" = some (some (.ref f_qk2))) (i62:W.isFn K (.ref f_qk2) = true)
  (F62:Fun K "lay" "Desk.lay" Nl f_qk2 d62)
  (a63:W.findIn K (.ref c_Desk) "marks_by" = some (some (.ref f_ql2))) (i63:W.isFn K (.ref f_ql2) = true)
  (F63:Fun K "marks_by" "Desk.marks_by" Nj f_ql2 d63)
  (ax_MissError:W.nsIn K mainGlobals "MissError" = some (some (.ref x_MissError))) (xx_MissError:W.excIn K x_MissError [.type "ValueError",.type "Exception",.type "BaseException",.type "object"] "ValueError.__new__" = true)
  (ax_NoNumber:W.nsIn K mainGlobals "NoNumber" = some (some (.ref x_NoNumber))) (xx_NoNumber:W.excIn K x_NoNumber [.type "ValueError",.type "Exception",.type "BaseException",.type "object"] "ValueError.__new__" = true)
  (ax_NoMarks:W.nsIn K mainGlobals "NoMarks" = some (some (.ref x_NoMarks))) (xx_NoMarks:W.excIn K x_NoMarks [.type "ValueError",.type "Exception",.type "BaseException",.type "object"] "ValueError.__new__" = true)
  (ax_NoKind:W.nsIn K mainGlobals "NoKind" = some (some (.ref x_NoKind))) (xx_NoKind:W.excIn K x_NoKind [.type "ValueError",.type "Exception",.type "BaseException",.type "object"] "ValueError.__new__" = true)
  (ax_NoBend:W.nsIn K mainGlobals "NoBend" = some (some (.ref x_NoBend))) (xx_NoBend:W.excIn K x_NoBend [.type "ValueError",.type "Exception",.type "BaseException",.type "object"] "ValueError.__new__" = true)
  (ax_NoAnswer:W.nsIn K mainGlobals "NoAnswer" = some (some (.ref x_NoAnswer))) (xx_NoAnswer:W.excIn K x_NoAnswer [.type "ValueError",.type "Exception",.type "BaseException",.type "object"] "ValueError.__new__" = true)
  (ax_NoText:W.nsIn K mainGlobals "NoText" = some (some (.ref x_NoText))) (xx_NoText:W.excIn K x_NoText [.type "ValueError",.type "Exception",.type "BaseException",.type "object"] "ValueError.__new__" = true)
  (ax_NoName:W.nsIn K mainGlobals "NoName" = some (some (.ref x_NoName))) (xx_NoName:W.excIn K x_NoName [.type "ValueError",.type "Exception",.type "BaseException",.type "object"] "ValueError.__new__" = true)
  (ax_NoRow:W.nsIn K mainGlobals "NoRow" = some (some (.ref x_NoRow))) (xx_NoRow:W.excIn K x_NoRow [.type "ValueError",.type "Exception",.type "BaseException",.type "object"] "ValueError.__new__" = true)
  (z_abs:W.nsIn K mainGlobals "abs" = some none)
  (z_all:W.nsIn K mainGlobals "all" = some none)
  (z_enumerate:W.nsIn K mainGlobals "enumerate" = some none)
  (z_int:W.nsIn K mainGlobals "int" = some none)
  (z_isinstance:W.nsIn K mainGlobals "isinstance" = some none)
  (z_len:W.nsIn K mainGlobals "len" = some none)
  (z_list:W.nsIn K mainGlobals "list" = some none)
  (z_max:W.nsIn K mainGlobals "max" = some none)
  (z_min:W.nsIn K mainGlobals "min" = some none)
  (z_range:W.nsIn K mainGlobals "range" = some none)
  (z_reversed:W.nsIn K mainGlobals "reversed" = some none)
  (z_sorted:W.nsIn K mainGlobals "sorted" = some none)
  (z_str:W.nsIn K mainGlobals "str" = some none)
  (z_sum:W.nsIn K mainGlobals "sum" = some none)
  (z_zip:W.nsIn K mainGlobals "zip" = some none)
  {tk0_COUNTS tk1_COUNTS tk2_COUNTS tk3_COUNTS tk4_COUNTS tk5_COUNTS tk6_COUNTS tk7_COUNTS:Tok} {h0_COUNTS h1_COUNTS h2_COUNTS h3_COUNTS h4_COUNTS h5_COUNTS h6_COUNTS h7_COUNTS:Int} {n_COUNTS:Nat} (zc_COUNTS:W.nsIn K mainGlobals "COUNTS" = some (some (.ref g_COUNTS))) (lk_COUNTS:K.lookup g_COUNTS = some ⟨.type "dict",none,.dict #[⟨h0_COUNTS,.str "marks" tk0_COUNTS,.ref g_COUNTS_0⟩,⟨h1_COUNTS,.str "drop" tk1_COUNTS,.ref g_COUNTS_1⟩,⟨h2_COUNTS,.str "names" tk2_COUNTS,.ref g_COUNTS_2⟩,⟨h3_COUNTS,.str "show" tk3_COUNTS,.ref g_COUNTS_3⟩,⟨h4_COUNTS,.str "bend" tk4_COUNTS,.ref g_COUNTS_4⟩,⟨h5_COUNTS,.str "rise" tk5_COUNTS,.ref g_COUNTS_5⟩,⟨h6_COUNTS,.str "steps" tk6_COUNTS,.ref g_COUNTS_6⟩,⟨h7_COUNTS,.str "judge" tk7_COUNTS,.ref g_COUNTS_7⟩] n_COUNTS,#[]⟩)
  {tq0_0_COUNTS tq0_1_COUNTS:Tok} {od0_COUNTS:Option Addr} {nn0_COUNTS:Nat} {sl0_COUNTS:Array (Option Value)} (lt0_COUNTS:K.lookup g_COUNTS_0 = some ⟨.type "tuple",od0_COUNTS,.seq #[(.int 3 tq0_0_COUNTS),(.int 62 tq0_1_COUNTS)] nn0_COUNTS,sl0_COUNTS⟩)
  {tq1_0_COUNTS tq1_1_COUNTS:Tok} {od1_COUNTS:Option Addr} {nn1_COUNTS:Nat} {sl1_COUNTS:Array (Option Value)} (lt1_COUNTS:K.lookup g_COUNTS_1 = some ⟨.type "tuple",od1_COUNTS,.seq #[(.int 2 tq1_0_COUNTS),(.int 2 tq1_1_COUNTS)] nn1_COUNTS,sl1_COUNTS⟩)
  {tq2_0_COUNTS tq2_1_COUNTS:Tok} {od2_COUNTS:Option Addr} {nn2_COUNTS:Nat} {sl2_COUNTS:Array (Option Value)} (lt2_COUNTS:K.lookup g_COUNTS_2 = some ⟨.type "tuple",od2_COUNTS,.seq #[(.int 1 tq2_0_COUNTS),(.int 1 tq2_1_COUNTS)] nn2_COUNTS,sl2_COUNTS⟩)
  {tq3_0_COUNTS tq3_1_COUNTS:Tok} {od3_COUNTS:Option Addr} {nn3_COUNTS:Nat} {sl3_COUNTS:Array (Option Value)} (lt3_COUNTS:K.lookup g_COUNTS_3 = some ⟨.type "tuple",od3_COUNTS,.seq #[(.int 2 tq3_0_COUNTS),(.int 2 tq3_1_COUNTS)] nn3_COUNTS,sl3_COUNTS⟩)
  {tq4_0_COUNTS tq4_1_COUNTS:Tok} {od4_COUNTS:Option Addr} {nn4_COUNTS:Nat} {sl4_COUNTS:Array (Option Value)} (lt4_COUNTS:K.lookup g_COUNTS_4 = some ⟨.type "tuple",od4_COUNTS,.seq #[(.int 4 tq4_0_COUNTS),(.int 4 tq4_1_COUNTS)] nn4_COUNTS,sl4_COUNTS⟩)
  {tq5_0_COUNTS tq5_1_COUNTS:Tok} {od5_COUNTS:Option Addr} {nn5_COUNTS:Nat} {sl5_COUNTS:Array (Option Value)} (lt5_COUNTS:K.lookup g_COUNTS_5 = some ⟨.type "tuple",od5_COUNTS,.seq #[(.int 3 tq5_0_COUNTS),(.int 3 tq5_1_COUNTS)] nn5_COUNTS,sl5_COUNTS⟩)
  {tq6_0_COUNTS tq6_1_COUNTS:Tok} {od6_COUNTS:Option Addr} {nn6_COUNTS:Nat} {sl6_COUNTS:Array (Option Value)} (lt6_COUNTS:K.lookup g_COUNTS_6 = some ⟨.type "tuple",od6_COUNTS,.seq #[(.int 4 tq6_0_COUNTS),(.int 4 tq6_1_COUNTS)] nn6_COUNTS,sl6_COUNTS⟩)
  {tq7_0_COUNTS tq7_1_COUNTS:Tok} {od7_COUNTS:Option Addr} {nn7_COUNTS:Nat} {sl7_COUNTS:Array (Option Value)} (lt7_COUNTS:K.lookup g_COUNTS_7 = some ⟨.type "tuple",od7_COUNTS,.seq #[(.int 4 tq7_0_COUNTS),(.int 63 tq7_1_COUNTS)] nn7_COUNTS,sl7_COUNTS⟩)
  (kl_COUNTS:W.KeysLit w.params [⟨h0_COUNTS,.str "marks" tk0_COUNTS,.ref g_COUNTS_0⟩,⟨h1_COUNTS,.str "drop" tk1_COUNTS,.ref g_COUNTS_1⟩,⟨h2_COUNTS,.str "names" tk2_COUNTS,.ref g_COUNTS_2⟩,⟨h3_COUNTS,.str "show" tk3_COUNTS,.ref g_COUNTS_3⟩,⟨h4_COUNTS,.str "bend" tk4_COUNTS,.ref g_COUNTS_4⟩,⟨h5_COUNTS,.str "rise" tk5_COUNTS,.ref g_COUNTS_5⟩,⟨h6_COUNTS,.str "steps" tk6_COUNTS,.ref g_COUNTS_6⟩,⟨h7_COUNTS,.str "judge" tk7_COUNTS,.ref g_COUNTS_7⟩]) (nz_COUNTS:(g_COUNTS == sysModules) = false)
  {tk_FIGURES:Tok} (zc_FIGURES:W.nsIn K mainGlobals "FIGURES" = some (some (.str "0123456789" tk_FIGURES)))
  {tk0_KINDS tk1_KINDS tk2_KINDS:Tok} {od_KINDS:Option Addr} {n_KINDS:Nat} {sl_KINDS:Array (Option Value)} (zc_KINDS:W.nsIn K mainGlobals "KINDS" = some (some (.ref g_KINDS)))
  (lk_KINDS:K.lookup g_KINDS = some ⟨.type "tuple",od_KINDS,.seq #[(.str "far" tk0_KINDS),(.str "sum" tk1_KINDS),(.str "square" tk2_KINDS)] n_KINDS,sl_KINDS⟩)
  {tk_LETTERS:Tok} (zc_LETTERS:W.nsIn K mainGlobals "LETTERS" = some (some (.str "abcdefghijklmnopqrstuvwxyz" tk_LETTERS)))
  {tk_MOST_BEND:Tok} (zc_MOST_BEND:W.nsIn K mainGlobals "MOST_BEND" = some (some (.int 3 tk_MOST_BEND)))
  {tk_MOST_FIGURES:Tok} (zc_MOST_FIGURES:W.nsIn K mainGlobals "MOST_FIGURES" = some (some (.int 40 tk_MOST_FIGURES)))
  {tk_MOST_LETTERS:Tok} (zc_MOST_LETTERS:W.nsIn K mainGlobals "MOST_LETTERS" = some (some (.int 8 tk_MOST_LETTERS)))
  {tk_MOST_MARKS:Tok} (zc_MOST_MARKS:W.nsIn K mainGlobals "MOST_MARKS" = some (some (.int 60 tk_MOST_MARKS)))
  {tk_MOST_NUMBERS:Tok} (zc_MOST_NUMBERS:W.nsIn K mainGlobals "MOST_NUMBERS" = some (some (.int 4 tk_MOST_NUMBERS)))
  {tk_MOST_STEPS:Tok} (zc_MOST_STEPS:W.nsIn K mainGlobals "MOST_STEPS" = some (some (.int 59 tk_MOST_STEPS)))
  {tk0_NOUGHT tk1_NOUGHT:Tok} {od_NOUGHT:Option Addr} {n_NOUGHT:Nat} {sl_NOUGHT:Array (Option Value)} (zc_NOUGHT:W.nsIn K mainGlobals "NOUGHT" = some (some (.ref g_NOUGHT)))
  (lk_NOUGHT:K.lookup g_NOUGHT = some ⟨.type "tuple",od_NOUGHT,.seq #[(.int 0 tk0_NOUGHT),(.int 1 tk1_NOUGHT)] n_NOUGHT,sl_NOUGHT⟩)
  : ∃ fd:FuncData,(∀ (s:Shared) (v:Value),BindsTo s fd ⟨[v],[]⟩ [("script",v)])/\∀ base:Heap,K.In base->base.Ns mainGlobals mg->FnOk l.prog w K mg base (eP l.prog w) 11 fa fd ["script"] (Fh K):=by
 obtain ⟨F0,F1,F2,F3,F4,F5,F6,F7,F8,F9,F10,F11,F12,F13,F14,F15,F16,F17,F18,F19,F20,F21,F22,F23,F24,F25,F26,F27,F28,F29,F30,F31,F32,F33,F34,F35,F36,F37,F38,F39,F40,F41,F42,F43,F44,F45,F46,F47,F48,F49,F50,F51,F52,F53,F54,F55,F56,F57,F58,F59,F64⟩:=Fs;have e:=hfa.symm.trans (W.mg_of X G F64.a);cases e;obtain ⟨_,_,_,_,_,_,_,_,_,rfl,_,_⟩:=F64.F.ex;have T:Txt K mg ⟨f_qa,_,f_qb,_,f_qc,_,f_qd,_,f_qe,_,f_qf,_,f_qg,_,f_qh,_,f_qi,_,f_qj,_,f_qk,_,f_ql,_,f_qm,_,f_qn,_,f_qo,_,f_qp,_,f_qq,_,f_qr,_,f_qs,_,f_qt,_,f_qu,_,f_qv,_,f_qw,_,f_qx,_,f_qy,_,f_qz,_,f_qa1,_,f_qb1,_,f_qc1,_,f_qd1,_,f_qe1,_,f_qf1,_,f_qg1,_,f_qh1,_,f_qi1,_,f_qj1,_,f_qk1,_,f_ql1,_,f_qm1,_,f_qn1,_,f_qo1,_,f_qp1,_,f_qq1,_,f_qr1,_,f_qs1,_,f_qt1,_,f_qu1,_,f_qv1,_,f_qw1,_,f_qx1,_,f_qy1,_,f_qz1,_,f_qa2,_,f_qb2,_,f_qc2,_,f_qd2,_,f_qe2,_,f_qf2,_,f_qg2,_,f_qh2,_,f_qi2,_,f_qj2,_,f_qk2,_,f_ql2,_,fa,_,x_MissError,x_NoNumber,x_NoMarks,x_NoKind,x_NoBend,x_NoAnswer,x_NoText,x_NoName,x_NoRow,g_KINDS,g_NOUGHT,c_Desk,g_COUNTS,g_COUNTS_0,g_COUNTS_1,g_COUNTS_2,g_COUNTS_3,g_COUNTS_4,g_COUNTS_5,g_COUNTS_6,g_COUNTS_7⟩:=⟨F0.fd X G (by walk_at "b"),F1.fd X G (by walk_at "b"),F2.fd X G (by walk_at "b"),F3.fd X G (by walk_at "b"),F4.fd X G (by walk_at "b"),F5.fd X G (by walk_at "b"),F6.fd X G (by walk_at "b"),F7.fd X G (by walk_at "b"),F8.fd X G (by walk_at "b"),F9.fd X G (by walk_at "b"),F10.fd X G (by walk_at "b"),F11.fd X G (by walk_at "b"),F12.fd X G (by walk_at "b"),F13.fd X G (by walk_at "b"),F14.fd X G (by walk_at "b"),F15.fd X G (by walk_at "b"),F16.fd X G (by walk_at "b"),F17.fd X G (by walk_at "b"),F18.fd X G (by walk_at "b"),F19.fd X G (by walk_at "b"),F20.fd X G (by walk_at "b"),F21.fd X G (by walk_at "b"),F22.fd X G (by walk_at "b"),F23.fd X G (by walk_at "b"),F24.fd X G (by walk_at "b"),F25.fd X G (by walk_at "b"),F26.fd X G (by walk_at "b"),F27.fd X G (by walk_at "b"),F28.fd X G (by walk_at "b"),F29.fd X G (by walk_at "b"),F30.fd X G (by walk_at "b"),F31.fd X G (by walk_at "b"),F32.fd X G (by walk_at "b"),F33.fd X G (by walk_at "b"),F34.fd X G (by walk_at "b"),F35.fd X G (by walk_at "b"),F36.fd X G (by walk_at "b"),F37.fd X G (by walk_at "b"),F38.fd X G (by walk_at "b"),F39.fd X G (by walk_at "b"),F40.fd X G (by walk_at "b"),F41.fd X G (by walk_at "b"),F42.fd X G (by walk_at "b"),F43.fd X G (by walk_at "b"),F44.fd X G (by walk_at "b"),F45.fd X G (by walk_at "b"),F46.fd X G (by walk_at "b"),F47.fd X G (by walk_at "b"),F48.fd X G (by walk_at "b"),F49.fd X G (by walk_at "b"),F50.fd X G (by walk_at "b"),F51.fd X G (by walk_at "b"),F52.fd X G (by walk_at "b"),F53.fd X G (by walk_at "b"),F54.fd X G (by walk_at "b"),F55.fd X G (by walk_at "b"),F56.fd X G (by walk_at "b"),F57.fd X G (by walk_at "b"),F58.fd X G (by walk_at "b"),F59.fd X G (by walk_at "b"),F60,⟨a60,i60,F60.kp⟩,F60.binds (by walk_at "b"),F61,⟨a61,i61,F61.kp⟩,F61.binds (by walk_at "b"),F62,⟨a62,i62,F62.kp⟩,F62.binds (by walk_at "b"),F63,⟨a63,i63,F63.kp⟩,F63.binds (by walk_at "b"),F64.fd X G (by walk_at "b"),⟨xx_MissError,W.mg_of X G ax_MissError⟩,⟨xx_NoNumber,W.mg_of X G ax_NoNumber⟩,⟨xx_NoMarks,W.mg_of X G ax_NoMarks⟩,⟨xx_NoKind,W.mg_of X G ax_NoKind⟩,⟨xx_NoBend,W.mg_of X G ax_NoBend⟩,⟨xx_NoAnswer,W.mg_of X G ax_NoAnswer⟩,⟨xx_NoText,W.mg_of X G ax_NoText⟩,⟨xx_NoName,W.mg_of X G ax_NoName⟩,⟨xx_NoRow,W.mg_of X G ax_NoRow⟩,W.mg_none_of X G z_abs,W.mg_none_of X G z_all,W.mg_none_of X G z_enumerate,W.mg_none_of X G z_int,W.mg_none_of X G z_isinstance,W.mg_none_of X G z_len,W.mg_none_of X G z_list,W.mg_none_of X G z_max,W.mg_none_of X G z_min,W.mg_none_of X G z_range,W.mg_none_of X G z_reversed,W.mg_none_of X G z_sorted,W.mg_none_of X G z_str,W.mg_none_of X G z_sum,W.mg_none_of X G z_zip,W.mg_of X G oa_Desk,⟨pg_Desk,hd_Desk,po_Desk,sa_Desk⟩,⟨mk_Desk,a60,i60,kc_Desk⟩,na_Desk,W.mg_of X G zc_COUNTS,⟨_,W.mg_of X G zc_FIGURES⟩,W.mg_of X G zc_KINDS,tX (xs:=[(.str "far"),(.str "sum"),(.str "square")]) lk_KINDS (le_of_lt (bR (show 3<=1000 by decide))) (.cons ⟨_,rfl⟩ (.cons ⟨_,rfl⟩ (.cons ⟨_,rfl⟩ .nil))) fun _=>.cons (.str "far") (.cons (.str "sum") (.cons (.str "square") .nil)),⟨_,W.mg_of X G zc_LETTERS⟩,⟨_,W.mg_of X G zc_MOST_BEND⟩,⟨_,W.mg_of X G zc_MOST_FIGURES⟩,⟨_,W.mg_of X G zc_MOST_LETTERS⟩,⟨_,W.mg_of X G zc_MOST_MARKS⟩,⟨_,W.mg_of X G zc_MOST_NUMBERS⟩,⟨_,W.mg_of X G zc_MOST_STEPS⟩,W.mg_of X G zc_NOUGHT,tX (xs:=[(.int 0),(.int 1)]) lk_NOUGHT (le_of_lt (bR (show 2<=1000 by decide))) (.cons ⟨_,rfl⟩ (.cons ⟨_,rfl⟩ .nil)) fun _=>.cons (.int 0) (.cons (.int 1) .nil)⟩;exact ⟨_,fun s v=>.of_eq rfl,fun base _ _=>aCw T ⟨nz_COUNTS,_,_,lk_COUNTS,kl_COUNTS,.cons ⟨⟨_,rfl⟩,rfl⟩ (.cons ⟨⟨_,rfl⟩,rfl⟩ (.cons ⟨⟨_,rfl⟩,rfl⟩ (.cons ⟨⟨_,rfl⟩,rfl⟩ (.cons ⟨⟨_,rfl⟩,rfl⟩ (.cons ⟨⟨_,rfl⟩,rfl⟩ (.cons ⟨⟨_,rfl⟩,rfl⟩ (.cons ⟨⟨_,rfl⟩,rfl⟩ (.nil)))))))),(forall_mem_cons.2 ⟨tX (xs:=[(.int 3),(.int 62)]) lt0_COUNTS (le_of_lt (bR (show 2<=1000 by decide))) (.cons ⟨_,rfl⟩ (.cons ⟨_,rfl⟩ (.nil))) fun _=>.cons (.int 3) (.cons (.int 62) (.nil)),(forall_mem_cons.2 ⟨tX (xs:=[(.int 2),(.int 2)]) lt1_COUNTS (le_of_lt (bR (show 2<=1000 by decide))) (.cons ⟨_,rfl⟩ (.cons ⟨_,rfl⟩ (.nil))) fun _=>.cons (.int 2) (.cons (.int 2) (.nil)),(forall_mem_cons.2 ⟨tX (xs:=[(.int 1),(.int 1)]) lt2_COUNTS (le_of_lt (bR (show 2<=1000 by decide))) (.cons ⟨_,rfl⟩ (.cons ⟨_,rfl⟩ (.nil))) fun _=>.cons (.int 1) (.cons (.int 1) (.nil)),(forall_mem_cons.2 ⟨tX (xs:=[(.int 2),(.int 2)]) lt3_COUNTS (le_of_lt (bR (show 2<=1000 by decide))) (.cons ⟨_,rfl⟩ (.cons ⟨_,rfl⟩ (.nil))) fun _=>.cons (.int 2) (.cons (.int 2) (.nil)),(forall_mem_cons.2 ⟨tX (xs:=[(.int 4),(.int 4)]) lt4_COUNTS (le_of_lt (bR (show 2<=1000 by decide))) (.cons ⟨_,rfl⟩ (.cons ⟨_,rfl⟩ (.nil))) fun _=>.cons (.int 4) (.cons (.int 4) (.nil)),(forall_mem_cons.2 ⟨tX (xs:=[(.int 3),(.int 3)]) lt5_COUNTS (le_of_lt (bR (show 2<=1000 by decide))) (.cons ⟨_,rfl⟩ (.cons ⟨_,rfl⟩ (.nil))) fun _=>.cons (.int 3) (.cons (.int 3) (.nil)),(forall_mem_cons.2 ⟨tX (xs:=[(.int 4),(.int 4)]) lt6_COUNTS (le_of_lt (bR (show 2<=1000 by decide))) (.cons ⟨_,rfl⟩ (.cons ⟨_,rfl⟩ (.nil))) fun _=>.cons (.int 4) (.cons (.int 4) (.nil)),(forall_mem_cons.2 ⟨tX (xs:=[(.int 4),(.int 63)]) lt7_COUNTS (le_of_lt (bR (show 2<=1000 by decide))) (.cons ⟨_,rfl⟩ (.cons ⟨_,rfl⟩ (.nil))) fun _=>.cons (.int 4) (.cons (.int 63) (.nil)),(fun _ h=>nomatch h)⟩)⟩)⟩)⟩)⟩)⟩)⟩)⟩)⟩⟩
end My
namespace PySem.W.Fast
def tw16216054554742591129:=()
def tw8026320194664623887:=()
def tw13134915904745164638:=()
def tw16613815255335167645:=()
def tw7623950095669038827:=()
def tw14208008668846309322:=()
def tw16975977088369128005:=()
def tw5033342176393478929:=()
def tw3183810069971909790:=()
def tw1900134709930060105:=()
def tw4187667805963756563:=()
def tw16629510494548665922:=()
def tw16801839604866896807:=()
def tw6374614106716331954:=()
def tw12227718243058993853:=()
def tw1478809782098089677:=()
def tw7613359028139207085:=()
def tw17258189950626194686:=()
def tw15924984305656992479:=()
def tw2833032085435790233:=()
def tw11050800729426171066:=()
def tw5603594453116128727:=()
def tw10365991437842915509:=()
def tw2614397058168878013:=()
def tw17318203837391818978:=()
def tw5394662789116946797:=()
def tw3768734886937713073:=()
def tw12605598567234783691:=()
def tw13050276448959143568:=()
def tw6772440747615868490:=()
def tw14288031530840815082:=()
def tw15719042542960220947:=()
def tw15816675540695645496:=()
def tw8440267764970001253:=()
def tw10193851793822169113:=()
def tw18047770232571810844:=()
def tw13976408278662612224:=()
def tw5437802096845706445:=()
def tw16437539401172958759:=()
def tw9302223426746581449:=()
def tw10094774006817387135:=()
def tw7560991945468575677:=()
def tw18276808150872187368:=()
def tw15795637606409229019:=()
def tw18424347590022852202:=()
def tw15514390236486306388:=()
def tw14830386382808796795:=()
def tw9935905298706883842:=()
def tw10375762600613118278:=()
def tw12699141403303415212:=()
def tw3667878891644557942:=()
def tw15327239830285046678:=()
def tw11868344029409914058:=()
def tw1038965778276980793:=()
def tw4010998105331219220:=()
def tw2645435801748718039:=()
def tw13075446315281702392:=()
def tw17919678591594431596:=()
def tw3002000488047634929:=()
def tw14810379932383667155:=()
def tw8350666273645272445:=()
def tw4211499594223467521:=()
def tw10199501999571386510:=()
def tw3862417226965049562:=()
def tw1730230261549795047:=()
def tw4496630682438623906:=()
def tw432364823675325357:=()
def tw11778944923560712931:=()
def tw3914284442975334736:=()
def tw16202588369486502646:=()
def tw11987524302901292623:=()
def tw15500542965102517306:=()
def tw14351095593070693425:=()
def tw9274251585980210378:=()
def tw6644783350596575983:=()
def tw17234365208278533681:=()
def tw272071692422850088:=()
def tw8861988735406171243:=()
def tw18099421714414615359:=()
def tw1102079428516444488:=()
def tw8547521313099607283:=()
def tw11188950031996755260:=()
def tw15985984439662769199:=()
def tw5279331129772086380:=()
def tw3597825169913658683:=()
def tw13537701108406021978:=()
def tw5187046068595278436:=()
def tw12503435833047883935:=()
def tw13884119773488927700:=()
def tw7904366460550034596:=()
def tw16545368665656369197:=()
def tw11316941259763675252:=()
def tw14220081479736686357:=()
def tw9314652283697825606:=()
def tw13608356440670416416:=()
def tw5281284962798725512:=()
def tw11586916800485313340:=()
def tw11779084446478689918:=()
def tw575871421160121165:=()
def tw9896410449383217695:=()
def tw16245818298020508047:=()
def tw16687873604694012183:=()
def tw6291721624296781539:=()
def tw6369430334950971235:=()
def tw9477992724555204385:=()
def tw691703484243510906:=()
def tw15551638866688939312:=()
def tw2660820906076813271:=()
def tw11135282050059962975:=()
def tw10112835619339678933:=()
def tw14417224236447858942:=()
def tw526151472463946897:=()
def tw5575950747384500369:=()
def tw8873627925324343259:=()
def tw16927043821764810733:=()
def tw10798398021294190040:=()
def tw1829954016061136966:=()
def tw3777780688807975065:=()
def tw15574057034459184817:=()
def tw8174425618166160748:=()
def tw1126889027553244297:=()
def tw845583571868835533:=()
def tw4313359692248224815:=()
def tw3112469925968718617:=()
def tw3268555640989131860:=()
def tw1140219163139629009:=()
def tw2538038809967836114:=()
def tw1117564920890531657:=()
def tw13203883573179444238:=()
def tw7487369484883896894:=()
def tw11704229428451520493:=()
def tw16322810693480382573:=()
def tw13144128066871945451:=()
def tw14865867276021083268:=()
def tw9046025328734268285:=()
def tw247710938895504103:=()
def tw14444890504803443571:=()
def tw7414492657033613908:=()
def tw8111411195426312819:=()
def tw17542547457490955327:=()
def tw3604579405584726320:=()
def tw11583549293829446495:=()
def tw16623701645395351293:=()
def tw14164193517923127762:=()
def tw5413596542203291058:=()
def tw175078792139398740:=()
def tw6969739655712874444:=()
def tw16573436849317974186:=()
def tw3339846846969600630:=()
def tw1535329899719039502:=()
def tw18415375225628848124:=()
def tw8276414602531261533:=()
def tw3777462189482083857:=()
def tw3262170030168834178:=()
def tw980545986691840479:=()
def tw13840914186075391656:=()
def tw4150905767562675861:=()
def tw15338059936926998280:=()
def tw2684737695703884227:=()
def tw17467926882317830338:=()
def tw2489421198394113942:=()
def tw3049550854978338817:=()
def tw10956161772860845833:=()
def tw2122110670146862862:=()
def tw17203327384183812238:=()
def tw5405918562769961544:=()
def tw9775995265360200206:=()
def tw1613126715587338164:=()
def tw7275405148534803031:=()
def tw16867242095132912645:=()
def tw4255761018404363170:=()
def tw10935027185768324335:=()
def tw14407636962101533141:=()
def tw14647996676685814084:=()
def tw15937312505809689360:=()
def tw10411687124960599462:=()
def tw5496918959846146699:=()
def tw1293465037021009859:=()
def tw10156763920434538754:=()
def tw10234601383311656297:=()
def tw6021832262004484699:=()
def tw11454099014834681594:=()
def tw14481251912839542420:=()
def tw8679441313746961123:=()
def tw4356828971988144634:=()
def tw3198045074355532561:=()
def tw310596499538099999:=()
def tw13343438676235071843:=()
def tw17221466074709225960:=()
def tw18154697594526628270:=()
def tw9354803782146031652:=()
def tw10361963712871899853:=()
def tw2016051147653769303:=()
def tw4928504431810366106:=()
def tw5158726638673588918:=()
def tw14565637473286899082:=()
def tw2506875434639585812:=()
def tw12633882121068682959:=()
def tw209416155134486261:=()
def tw17453169318727840896:=()
end PySem.W.Fast
end
open PySem PySem.W PyProof.Rows
set_option maxRecDepth 100000 in
set_option maxHeartbeats 0 in
theorem PySem.Challenge.cw_leastmiss_k82_whole_rising_rows_by_text_holds : PySem.Challenge.rw_leastmiss_k82_whole_rising_rows_by_text.Holds := by
  w_on; o_law; k_head; (case hw => w_witness2)
  k_fill
  refine Lx.walkB (l := PySem.Challenge.rw_leastmiss_k82_whole_rising_rows_by_text) (k := 11) rfl rfl ⟨rfl, by decide, by decide⟩ (fun w h Y => PySem.W.kIn_of Y) ?F
  case F =>
    intro w mg fa h KX G hmg
    refine' My.all_mk KX G hmg ?oa_Desk ?pg_Desk ?hd_Desk ?po_Desk ?sa_Desk ?mk_Desk ?kc_Desk ?na_Desk ?Fs ?a60 ?i60 ?F60 ?a61 ?i61 ?F61 ?a62 ?i62 ?F62 ?a63 ?i63 ?F63 ?ax_MissError ?xx_MissError ?ax_NoNumber ?xx_NoNumber ?ax_NoMarks ?xx_NoMarks ?ax_NoKind ?xx_NoKind ?ax_NoBend ?xx_NoBend ?ax_NoAnswer ?xx_NoAnswer ?ax_NoText ?xx_NoText ?ax_NoName ?xx_NoName ?ax_NoRow ?xx_NoRow ?z_abs ?z_all ?z_enumerate ?z_int ?z_isinstance ?z_len ?z_list ?z_max ?z_min ?z_range ?z_reversed ?z_sorted ?z_str ?z_sum ?z_zip ?zc_COUNTS ?lk_COUNTS ?lt0_COUNTS ?lt1_COUNTS ?lt2_COUNTS ?lt3_COUNTS ?lt4_COUNTS ?lt5_COUNTS ?lt6_COUNTS ?lt7_COUNTS ?kl_COUNTS ?nz_COUNTS ?zc_FIGURES ?zc_KINDS ?lk_KINDS ?zc_LETTERS ?zc_MOST_BEND ?zc_MOST_FIGURES ?zc_MOST_LETTERS ?zc_MOST_MARKS ?zc_MOST_NUMBERS ?zc_MOST_STEPS ?zc_NOUGHT ?lk_NOUGHT
    (case oa_Desk => k_is)
    (case pg_Desk => k_is)
    (case hd_Desk => k_is)
    (case po_Desk => k_is)
    (case sa_Desk => k_is)
    (case mk_Desk => k_is)
    (case kc_Desk => k_is)
    (case na_Desk => k_is)
    (case Fs => (repeat' (apply And.intro)) <;> (refine' My.fg_mk ?xa ?xl ?xc ?xk; (case xa => k_is); (case xl => k_is); (case xc => k_is); (case xk => k_is)))
    (case a60 => k_is)
    (case i60 => k_is)
    (case F60 => refine' L2.fun_mk ?l ?c ?k; (case l => k_is); (case c => k_is); (case k => k_is))
    (case a61 => k_is)
    (case i61 => k_is)
    (case F61 => refine' L2.fun_mk ?l ?c ?k; (case l => k_is); (case c => k_is); (case k => k_is))
    (case a62 => k_is)
    (case i62 => k_is)
    (case F62 => refine' L2.fun_mk ?l ?c ?k; (case l => k_is); (case c => k_is); (case k => k_is))
    (case a63 => k_is)
    (case i63 => k_is)
    (case F63 => refine' L2.fun_mk ?l ?c ?k; (case l => k_is); (case c => k_is); (case k => k_is))
    (case ax_MissError => k_is)
    (case xx_MissError => k_exc)
    (case ax_NoNumber => k_is)
    (case xx_NoNumber => k_exc)
    (case ax_NoMarks => k_is)
    (case xx_NoMarks => k_exc)
    (case ax_NoKind => k_is)
    (case xx_NoKind => k_exc)
    (case ax_NoBend => k_is)
    (case xx_NoBend => k_exc)
    (case ax_NoAnswer => k_is)
    (case xx_NoAnswer => k_exc)
    (case ax_NoText => k_is)
    (case xx_NoText => k_exc)
    (case ax_NoName => k_is)
    (case xx_NoName => k_exc)
    (case ax_NoRow => k_is)
    (case xx_NoRow => k_exc)
    (case z_abs => k_is)
    (case z_all => k_is)
    (case z_enumerate => k_is)
    (case z_int => k_is)
    (case z_isinstance => k_is)
    (case z_len => k_is)
    (case z_list => k_is)
    (case z_max => k_is)
    (case z_min => k_is)
    (case z_range => k_is)
    (case z_reversed => k_is)
    (case z_sorted => k_is)
    (case z_str => k_is)
    (case z_sum => k_is)
    (case z_zip => k_is)
    (case zc_COUNTS => k_is)
    (case lk_COUNTS => k_is)
    (case lt0_COUNTS => k_is)
    (case lt1_COUNTS => k_is)
    (case lt2_COUNTS => k_is)
    (case lt3_COUNTS => k_is)
    (case lt4_COUNTS => k_is)
    (case lt5_COUNTS => k_is)
    (case lt6_COUNTS => k_is)
    (case lt7_COUNTS => k_is)
    (case kl_COUNTS => exact ⟨⟨_, _, rfl, rfl⟩, ⟨⟨_, _, rfl, rfl⟩, ⟨⟨_, _, rfl, rfl⟩, ⟨⟨_, _, rfl, rfl⟩, ⟨⟨_, _, rfl, rfl⟩, ⟨⟨_, _, rfl, rfl⟩, ⟨⟨_, _, rfl, rfl⟩, ⟨⟨_, _, rfl, rfl⟩, trivial⟩⟩⟩⟩⟩⟩⟩⟩)
    (case nz_COUNTS => rfl)
    (case zc_FIGURES => k_is)
    (case zc_KINDS => k_is)
    (case lk_KINDS => k_is)
    (case zc_LETTERS => k_is)
    (case zc_MOST_BEND => k_is)
    (case zc_MOST_FIGURES => k_is)
    (case zc_MOST_LETTERS => k_is)
    (case zc_MOST_MARKS => k_is)
    (case zc_MOST_NUMBERS => k_is)
    (case zc_MOST_STEPS => k_is)
    (case zc_NOUGHT => k_is)
    (case lk_NOUGHT => k_is)
