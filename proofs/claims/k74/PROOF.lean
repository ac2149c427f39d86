import PyProof.Rows.All
import KE.LcSums
import KE.KIntText
import KE.KSortAsk
import KE.KRevIter
import KE.RegKTryMore
import KE.IntBitsLaws
import KE.RegKIsAll
import PySem.Challenge.RW_leastmiss_k74_desk_answers
set_option Elab.async false
set_option linter.all false
set_option maxRecDepth 100000
set_option autoImplicit true
set_option maxHeartbeats 0
set_option compiler.extract_closed false
noncomputable section
open List (range getD length Pairwise take drop foldl pairwise_lt_range)
open PySem.Heap (SameBut IsList IsSliceOf)
open Int (toNat)
open Option renaming some->γ,isSome_iff_exists->kz,map_eq_some_iff->rj,getD_none->wq,getD_some->wz,map_some->x9,isSome_map->yw
open _root_ renaming List->ε,Nat->ν,absurd->ς,Int->τ,Option->υ,if_neg->χ,Rat->ψ,if_pos->Α,False->Ε,decide_eq_false->Τ,beq_eq_false_iff_ne->bb,congrArg->bt,decide_eq_true->cj,or_false->ft,beq_self_eq_true->gf,decide_eq_true_eq->ir,beq_iff_eq->iy,if_true->jz,decide_eq_false_iff_not->kr,of_decide_eq_true->lq,if_false->sj,True->yk,and_true->y3,not_or->AC
open PySem.Str renaming ofString->ζ,length_append->ω,cps_append->fy
open PySem renaming PyData->η,Value->ξ,Addr->ο,wpAny_bind->π,Shared->Ζ,Str->Ξ,wpAny->Φ,wpAny_pure->Ψ,wpAny_mono->ed,Heap->ei,World->gb,mem_of_lookup->gg,wpAny_field->gu,wpAny_truthy_bool->hF,wpAny_nextOf_list_item->hX,call_meets->ic,wpAny_seqItems->ih,wpAny_passesOwn->il,wpAny_getItem_str_slice->i7,wpAny_setField_rec->jc,wpAny_execs_nil->jf,wpAny_pyIter_list->jl,wpAny_loadPart_at->jm,wpAny_getItem_list_slice->j8,wpAny_onRaise->j9,wpAny_Call_Name_kw->kh,typeIs_str->kj,wpAny_nextOf_list_end->ma,wpAny_pyIter_zip->mh,post_val_or_str->m1,codeAny_mono->m9,tupleKind_room_in1->n6,wpAny_letGo->pj,wpAny_standAt->p4,evalPart_none->p5,wpAny_comprehension_free->p8,wpAny_execs_cons->qh,wpAny_callSpecial?_slot->qo,wpAny_pyNext_range_end->q0,wpAny_pyIter_rangeiter->rb,wpAny_isTrue_Compare1->r4,codeAny_call_builtin->sr,wpAny_pyIter_revIter->tj,boot_len->tp,Tok->ui,wpAny_holding->um,wpAny_pyIter_range->uu,wpAny_assign_Name->vf,wpAny_Assign_Name->vj,wpAny_newObj_type->vk,seqIndex_neg->vp,wpAny_pyIter_enum->vz,wpAny_getItem_of->wu,wpAny_call_entry->w4,wpAny_Slice->xh,seqIndex_of->xi,wpAny_updateSeq->yb,wpAny_loadPart'->ye,wpAny_Name->yn,wpAny_rule->yo,wpAny_bindName->yp,wpAny_loadPart->yr,wpAny_call->yt,typeIs_int->yu,wpAny_notIn_of->yx,wpAny_newEntry->yy,wpAny_setField->yz,call_list_seq->zf,wpAny_attempt->zh,sizeLine_eq->AX,strKind_is->BN
open List renaming length_map->θ,getElem?_eq_some_iff->ρ,length_append->Γ,mem_cons_of_mem->Θ,getElem?_eq_getElem->Ι,mem_cons_self->Κ,getD_eq_getElem?_getD->Μ,mem_map->Ν,length_cons->Ρ,mem_singleton->Υ,mem_cons->Ω,size_toArray->ae,map_cons->ak,mem_of_getElem?->ao,length_range->ar,forall_mem_cons->ax,map_append->ay,length_take->aA,take_of_length_le->bg,getElem?_append_right->bo,length_drop->bx,mem_range->bA,length_replicate->cf,replicate->cg,not_mem_nil->cn,getElem_mem->cq,mem_append_right->cu,getElem?_map->cw,length_zipWith->df,length_pos_iff->di,getElem?_append_left->dq,lookup_cons->dr,getElem?_set_ne->dV,mem_append->eg,append_assoc->ek,mem_of_mem_take->eo,append_nil->eT,length_zip->eW,filterMap_cons->fh,length_singleton->fj,of_mem_zip->fm,map_congr_left->fu,filter_cons_of_pos->fv,pairwise_iff_getElem->fx,getElem?_set_self->gh,getElem_map->gm,flatten_cons->gn,filter_cons_of_neg->gy,length_eq_zero_iff->gz,length_set->ib,getElem_zipWith->iq,getElem?_take_of_lt->iz,replicate_succ->i6,map_map->jd,mem_append_left->je,mem_filterMap->jh,getElem_range->ji,zipWith->jo,length_reverse->jt,drop_eq_getElem_cons->ju,ext_getElem->jw,flatten_append->jx,mem_replicate->ke,nodup_cons->ki,length_nil->km,take_length->kx,take_sublist->k6,getElem_of_mem->ly,pairwise_map->l5,zipWith_cons_cons->l6,eraseIdx_eq_take_drop_succ->l8,nodup_iff_pairwise_ne->md,drop_zero->mf,take_append_drop->mi,pairwise_cons->mn,mem_or_eq_of_mem_set->mw,length_dropLast->mx,pairwise_append->m2,mem_of_mem_eraseIdx->m8,reverse_cons->nc,take_add_one->ni,sublist_flatten_of_mem->nq,find?_cons->n3,pairwise_singleton->oh,range_succ->ou,perm_append_singleton->ox,getElem?_eq_none_iff->oz,all_eq_true->oD,drop_eq_nil_of_le->ph,flatten_nil->px,length_filterMap_le->qc,getElem?_drop->qf,zip_cons_cons->qg,any_cons->qj,map_take->qm,drop_drop->qz,foldl_cons->ri,length_filter_le->r6,getElem?_reverse->r8,getElem?_toArray->r9,dropLast_eq_take->sf,getElem?_of_mem->t7,map_reverse->t8,getElem?_zipIdx->uc,drop_left->ue,map_eq_nil_iff->uh,nil_append->uw,filterMap_map->u3,find?_toArray->u4,map_singleton->u9,map_replicate->vb,length_zipIdx->vc,foldl_append->wa,flatMap_cons->wc,drop_sublist->wg,filter_cons->wt,zipIdx_cons->wR,nil_sublist->xa,perm_middle->xb,mem_reverse->xc,drop_length->xm,mem_flatMap->xq,cons_append->xr,zipIdx_nil->yc,forIn_cons->yd,take_left'->yf,drop_left'->yg,head?_cons->yj,mem_filter->yl,map_drop->y8,forIn_nil->y9,drop_take->za,take_left->zc,sum_cons->zj,foldl_nil->zr,map_nil->zw,all_map->AM,map_id->A9,map_set->BU,pairwise_lt_range->BV
open PySem.W renaming Frag->μ,mg_none_of->fe,mg_of->gw,kia_one->ia,looks_findIn->nz,hideAll_get->uj,plainGet_of->uo,callWith_K->vn,cellsFrom_some->wm,kitx_list->xg,methodCall_KW->xt,hideAll_none->ym,looks_subIn->zg,of_hideAll->zt,kitx_tuple->zu,kitx_dict->AZ,mapOf_K->B0
open Nat renaming le_trans->Β,le_refl->Η,mul_le_mul_right->Χ,mul_le_mul_left->af,lt_of_lt_of_le->ah,mul_le_mul->ai,le_of_lt->bu,lt_of_le_of_lt->eh,pow_le_pow_right->eH,mul_assoc->gc,pow_succ->gi,ne_of_lt->gq,zero_le->hB,mul_comm->ie,pos_of_ne_zero->ig,pow_add->ij,min_eq_left->iw,mul_pos->i4,dvd_refl->i8,dvd_mul_right->jk,add_le_add->jv,lt_irrefl->jy,one_mul->j0,gcd_pos_of_pos_left->j1,le_mul_of_pos_right->j2,not_lt_zero->l7,add_mul->mm,lt_trans->mr,sub_self->mv,gcd_dvd_left->ng,dvd_mul_left->nj,lt_or_gt_of_ne->og,div_le_self->pa,pow_pos->pf,dvd_trans->qk,le_add_right->qp,succ_le_succ->qq,add_sub_cancel_left->qv,mul_dvd_mul_left->qx,lt_succ_self->rf,le_mul_of_pos_left->ro,pow_le_pow_left->r0,mul_one->t9,add_sub_cancel->ua,pow_dvd_pow->ub,add_comm->uf,not_lt->ux,eq_zero_or_pos->uy,add_right_comm->u7,gcd_dvd_right->vx,sub_zero->vy,mul_left_comm->v9,mul_add->wb,lt_trichotomy->wh,ne_of_gt->wk,le_of_dvd->wx,succ_mul->yv,max_le->zb,log2_lt->zy,dvd_zero->AA,zero_add->AB,pow_zero->AH,pow_mul->AI,mul_succ->AL,le_of_eq->AY,two_mul->A6,le_zero->A7
open PySem.Txt renaming partition->Δ,contains->av,slice_le->gx,slice->hV
open PySem.Heap renaming get?_push_of_some->Λ,get?_push_size->aj,lt_size->bw,get?_update_other->k8,size_push->nt,get?_update_self->qi
open Rat renaming intCast_natCast->Ο,intCast_mul->aq,divInt->cD,mul_nonneg->ew,pow_succ->fb,le_refl->fk,intCast_le_intCast->fq,one_mul->gk,natCast_mul->hE,mul_lt_mul_of_pos_right->hJ,le_of_lt->iv,mul_inv_cancel->i9,mul_eq_zero->ja,mul_one->jq,num_divInt_den->js,pow_zero->kb,mul_assoc->kc,intCast_pos->ko,mul_pos->ku,not_lt->lj,add_zero->lu,mul_le_mul_of_nonneg_right->me,div_def->ml,intCast_neg->mu,div_mul_cancel->n8,zero_mul->oo,mul_zero->oq,divInt_eq_div->qa,intCast_eq_zero_iff->qw,num_nonneg->rp,sub_eq_add_neg->sy,num_eq_zero->tf,den_divInt->uz,inv_mul_cancel->u6,intCast_nonneg->va,le_trans->v8,mul_comm->we,intCast_add->xj,natCast_add->xk,le_antisymm->xo,intCast_sub->xp,num_divInt->y4,ext->As,zero_add->AG,not_le->AJ,neg_mul->A3,le_total->A4,inv_pos->A8
open Bool renaming false_ne_true->ag,and_eq_true->h9,eq_iff_iff->ip,and_self->jj,not_false->oi,and_true->qd,and_eq_false_iff->qy,not_eq_true'->rk,true_and->uq,eq_false_iff->vt,or_eq_true->xy
open PySem.PyData renaming tuple->au,int->bj,str->br,list->gv
open PySem.Value renaming ref->aw,int->nr
open PySem.Builtin.Int renaming intBits->az
open Option.some renaming inj->ba,injEq->BQ
open PySem.Builtin.Str renaming occurrences->bh
open Int renaming gcd->bq,natAbs_mul->ck,toNat_natCast->cy,natAbs_natCast->fi,fdiv_eq_ediv_of_nonneg->jb,natAbs_add_le->jg,mul_fdiv_cancel_left->jr,natCast_mul->kg,natCast_ediv->la,tdiv_eq_ediv_of_dvd->m4,sign_eq_one_of_pos->n7,mul_ne_zero->pd,natAbs_sub_le->pq,mul_ediv_cancel_left->p9,divExact_eq_tdiv->ql,gcd_natCast_natCast->qu,mul_one->sh,one_mul->sv,ofNat_dvd_left->sx,emod_nonneg->tq,emod_lt_of_pos->u5,le_of_lt->vq,lt_trans->vr,gcd_comm->vu,gcd_dvd_right->vw,gcd_dvd_left->wy,natAbs_neg->y6,le_trans->z0,zero_add->AK
open PyProof.Rows renaming callWith_type1->dj,assignInOrder_cons->ny,Subscript_->rg,subscriptTail_builtinR->rh,signs_ofString->ud,toString_length_le->vd,assignInOrder_nil->vh,tail_any->vo,callWith_builtin1->wo,boot_isinstance->yi,boot_range->yq,Call_->zo,floordiv_int->zz,boot_bool->AE,boot_list->AF,boot_abs->AN,boot_int->AO,boot_min->AQ,boot_max->AR,isTrue_and->BF,find_whole->BO
open False renaming elim->ee
open PySem.Builtin.Range renaming rangeSize->eu
open Array renaming getElem?_eq_some_iff->fo,toList_append->gj,getElem?_eq_getElem->oy,getElem?_toList->ry,mem_toList_iff->si,length_toList->uk,append_assoc->ur
open Decidable renaming not_not->gp
open PySem.F renaming plainAttrs_list->hU,slot_list_append->kl,typeOf_object_class->l9,slot_str_split->mj,slot_zip_next->my,args_str_split_2->oa,type_list_append->oj,entry_str_split->pk,plainAttrs_str->qr,excBase_ValueError->sk,slot_str_partition->tm,slot_list_insert->uR,slot_list_extend->u0,args_zip_next_1->vA,slot_list_index->v5,entry_zip_next->w8,slot_list_pop->xu,slot_int_rmul->xw,slot_dict_pop->xx,slot_str_join->yh
open Classical renaming byContradiction->ik,axiomOfChoice->ky,choose_spec->se
open PySem.PassesOwn renaming leaving->iu
open PySem.Calls renaming callWith_builtin->k9,evalArgs_plain->mq,Name_function_global->nv,spliced_cons->uv,spliced_nil->vm
open PySem.Paired renaming length->pz,snoc->A2
open PyProof renaming noPylong_of_log2->p6,noPylong_small->zA
open PySem.AutoListH renaming list_insert_list_int_val_1->rq,list___mul___list_int_3->ve
open PySem.StrLaws renaming partsBetween_eq->ug,sub_whole->wj,subAt_eq->xf,strSub_toList->AS,glued_eq_join->AU,partsFrom_ne->Bs,joinTotal->BS,found_one->BW,occ_tight->B1
open PySem.SeqAt renaming notIn_tuple_reads->xn
open List.cons renaming injEq->x8
open Subtype renaming ext_iff->ya
open PySem.IntMulOk renaming of_le->y2
open PySem.NumText renaming toDigits_digitsVal->ze
open PySem.AutoSeq1 renaming sub_tuple_tuple->zi,sub_tuple_list->zp,sub_list_tuple->zq,sub_list_list->AD,idx_int->BZ
open List.Perm renaming eq_of_pairwise->zk
open PyProof.Rows.IsTup renaming new->zm
open PySem.MeetsSeq renaming list_pop_last->zv
open PySem.Walks renaming range->AV
open PySem.IsRange renaming new->AW
open Prod renaming ext->A5
open PySem.EqMixed renaming eq_bool_str->By,eq_str_bool->BA,ne_bool_str->BB,ne_str_bool->BC,eq_int_str->BG,eq_str_int->BH,ne_int_str->BI,ne_str_int->BJ
open PySem.SeqAt.EqAt renaming int_str->BD,str_int->BE
open PySem.P renaming str_of_int->BK,add_list->BY
open PySem.W.Looks renaming ld->BL,here->B5
open PySem.Reads renaming unique->BM
open PySem.Heap.Ns1 renaming of_empty->BP
open PySem.IsL renaming update->BX
open PySem.Heap.DictOf renaming new->B2
open PySem.Value.ref renaming inj->B3
open Prod.mk renaming injEq->B4
open Sum.inl renaming inj->B6
open Sum.inr renaming inj->B7
theorem q_{p:Prop}(h:¬¬p):p:=Classical.byContradiction h
def qq3(q:Array Lean.Term)(s:String):Lean.Term:=
 let a:=((s.splitOn " ").foldl (λ(k:List (Array Lean.Term)) y=>match y,k with
  |"(",k=>#[]::k
  |")",a::b::k=>(b.push (Lean.Syntax.mkApp a[0]! (a.extract 1 a.size)))::k
  |y,a::k=>(a.push (if y=="?" then q[0]! else if y=="_" then q[1]! else if y=="%" then q[2]! else if y=="@" then q[3]! else ⟨Lean.mkIdent y.toName⟩))::k
  |_,k=>k) [#[]]).head!
 Lean.Syntax.mkApp a[0]! (a.extract 1 a.size)
def qq4(q:Array Lean.Term)(s:String):Lean.MacroM (Array (Lean.TSyntax `tactic)):=(s.splitOn "|").toArray.mapM λx=>do
 let w:=x.startsWith "!"
 let y:=qq3 q (if w then (x.drop 1).toString else x)
 let z<-if x.contains '?' then `(tactic|refine' $y) else `(tactic|exact $y)
 if w then `(tactic|with_reducible $z:tactic) else pure z
local macro_rules|`(‹$n:num›)=>`((by exact $n:num))
local macro_rules|`(tactic|exact $n:num)=>do
 let q:=#[<-`(?_),<-`(_),<-`(by decide),<-`(‹_›)]
 let s:="Nat.le_of_lt @|Nat.le_trans @ %|Nat.le_trans @ @|Nat.le_succ_of_le @|Nat.lt_of_le_of_lt @ @|Nat.lt_trans @ @|Nat.lt_of_le_of_lt @ %|Nat.le_sub_one_of_lt @|Nat.add_lt_of_lt_sub @|Nat.add_lt_of_lt_sub' @|Nat.le_trans ( Nat.le_of_eq @ ) ( Nat.le_trans @ % )|Nat.le_trans @ ( Nat.le_trans @ % )|Nat.lt_of_le_of_lt ( Nat.sub_le _ _ ) @|Nat.lt_of_le_of_ne ( Nat.le_of_lt_succ @ ) @|Int.natAbs_sub_le _ _|Iff.mpr Int.natAbs_pos @|Iff.mpr Int.natAbs_ne_zero @|Nat.lt_of_lt_of_le @ ( Nat.min_le_left _ _ )|Nat.lt_of_lt_of_le @ ( Nat.min_le_right _ _ )|Iff.mpr Int.ofNat_le @|Iff.mp Int.ofNat_le @|Int.ne_of_gt @|Nat.add_sub_of_le @|Eq.symm ( Nat.add_sub_of_le @ )|Iff.mp Nat.not_lt @|Iff.mpr Nat.not_lt @|Iff.mpr Nat.not_le @|Iff.mp Int.not_lt @|Iff.mpr Int.ofNat_ne_zero @|Int.natCast_nonneg _|Eq.symm ( Int.ofNat_natAbs_of_nonpos ( Int.le_of_lt @ ) )|Nat.sub_lt @ %|Eq.symm ( Int.toNat_of_nonneg @ )|Int.sub_nonneg_of_le @|Nat.ne_of_gt @|Nat.ne_of_lt @|Int.le_of_lt @|Nat.zero_lt_of_lt @|!Nat.lt_of_lt_of_eq @ @|!absurd @ ( Nat.not_lt_zero _ )|Rat.le_of_lt @|Rat.ne_of_gt @|Rat.ne_of_lt @|Rat.le_trans @ @|Rat.add_nonneg @ @|Rat.mul_comm _ _|Rat.mul_assoc _ _ _|Eq.symm ( Rat.mul_assoc _ _ _ )"
 let b<-qq4 q "Nat.sub_add_cancel ?|Eq.symm ( Nat.sub_add_cancel ? )|Nat.sub_lt_sub_right ? ?|Nat.lt_sub_of_add_lt ?|Nat.min_eq_left ?|Nat.add_sub_of_le ?"
 let c<-qq4 q "!Nat.le_trans ( Nat.min_le_left _ _ ) ?|!Nat.le_trans ( Nat.min_le_right _ _ ) ?|!Nat.le_trans ( Nat.sub_le _ _ ) ?"
 match n.getNat with|48=>`(tactic|(simp +arith only[*];done))|49=>`(tactic|(rw[Int.natAbs_neg];assumption))|51=>`(tactic|assumption)|50=>let a:=(<-qq4 q s).extract 0 40;`(tactic|first|assumption|(first $[|$a:tactic]*)|(rw[Int.natAbs_neg];assumption)|((with_reducible first $[|$b:tactic]*)<;>exact 50)|(first $[|($c:tactic;exact 50)]*)|(simp +arith only[*];done)|lia)|n=>do
  let x:=(s.splitOn "|")[n%100]!
  if 99<n then return<-`(tactic|first|$((<-qq4 q x)[0]!):tactic|lia)
  let y:=qq3 #[q[0]!,q[1]!,q[0]!,q[0]!] (x.dropWhile (·=='!')).toString
  let z<-`(tactic|(refine' $y<;>first|assumption|decide))
  let z<-if x.startsWith "!" then `(tactic|with_reducible $z:tactic) else pure z
  if n<40 then `(tactic|first|$z:tactic|lia) else `(tactic|first|$z:tactic|grind)
namespace L2
open PySem PySem.Spec PyProof.Rows
abbrev fB:=Sum τ Ξ
noncomputable def vZ:fB->ξ->Bool
 | .inl k,v=>Value.isInt k v
 | .inr x,v=>Value.isStrOf x v
def aTq(w:gb):fB->τ
 | .inl k=>hashInt k
 | .inr x=>hashStr w x
theorem dO:∀{k:fB}{v:ξ},vZ k v=true->(∃i t,k=Sum.inl i/\v=nr i t)\/(∃x t,k=Sum.inr x/\v=Value.str x t)
 | .inl i,v,h=>by
  obtain⟨t,e⟩:=Value.isInt_shape (k:=i) (v:=v) h;exact .inl ⟨i,t,rfl,e⟩
 | .inr x,v,h=>by
  obtain⟨t,e⟩:=Value.isStrOf_shape (x:=x) (v:=v) h;exact .inr ⟨x,t,rfl,e⟩
theorem Rg(i:τ)(t:ui):vZ (.inl i) (.int i t)=true:=by simp[vZ,Value.isInt]
theorem Rf(x:Ξ)(t:ui):vZ (.inr x) (.str x t)=true:=by simp[vZ,Value.isStrOf]
theorem aLd(a b:τ):decide ((Sum.inl a:fB)=Sum.inl b)=(a==b):=by
 by_cases e:a=b
 ·subst e;simp
 ·have h:¬(Sum.inl a:fB)=Sum.inl b:=λq=>e<|B6 q;rw[Τ h];exact(bb.mpr e).symm
theorem aLa(a b:Ξ):decide ((Sum.inr a:fB)=Sum.inr b)=decide (a=b):=by
 by_cases e:a=b
 ·subst e;simp
 ·have h:¬(Sum.inr a:fB)=Sum.inr b:=λq=>e<|B7 q;rw[Τ h,Τ e]
theorem aLc(a:τ)(b:Ξ):decide ((Sum.inl a:fB)=Sum.inr b)=false:=Τ λq=>nomatch q
theorem aLb(a:Ξ)(b:τ):decide ((Sum.inr a:fB)=Sum.inl b)=false:=Τ λq=>nomatch q
noncomputable def fG(prog:Program)(w:gb):PySem.KeyKind prog w fB where
 is:=vZ
 hash:=aTq w
 inj:=λv a b g f=>by
  rcases dO g with⟨i,t,rfl,rfl⟩|⟨x,t,rfl,rfl⟩
  ·rcases dO f with⟨j,u,rfl,e⟩|⟨y,u,rfl,e⟩
   ·injection e with c _;rw[c]
   ·exact nomatch e
  ·rcases dO f with⟨j,u,rfl,e⟩|⟨y,u,rfl,e⟩
   ·exact nomatch e
   ·injection e with c _;rw[c]
 byValue:=λk v h=>by
  rcases dO h with⟨i,t,rfl,rfl⟩|⟨x,t,rfl,rfl⟩ <;>rfl
 pyHash:=λd h=>by
  rcases dO d with⟨i,t,rfl,rfl⟩|⟨x,t,rfl,rfl⟩
  ·exact wpAny_pyHash_int h
  ·exact wpAny_pyHash_str h
 eqBool:=λl d h=>by
  rcases dO l with⟨i,t,rfl,rfl⟩|⟨x,t,rfl,rfl⟩
  ·rcases dO d with⟨j,u,rfl,rfl⟩|⟨y,u,rfl,rfl⟩
   ·rw[aLd]at h;exact wpAny_eqBool_int h
   ·rw[aLc]at h;exact BD i t y u _ _ _ _ h
  ·rcases dO d with⟨j,u,rfl,rfl⟩|⟨y,u,rfl,rfl⟩
   ·rw[aLb]at h;exact BE x t j u _ _ _ _ h
   ·rw[aLa]at h;exact wpAny_eqBool_str h
 «strs»:=λk x t v h=>by
  rcases dO h with⟨i,u,rfl,e⟩|⟨y,u,rfl,e⟩
  ·exact nomatch e
  ·injection e with c _
   subst c;cases v <;>rfl
theorem Gp(prog:Program)(w:gb)(i:τ)(t:ui):(fG prog w).is (.inl i) (.int i t)=true:=Rg i t
theorem Go(prog:Program)(w:gb)(x:Ξ)(t:ui):(fG prog w).is (.inr x) (.str x t)=true:=Rf x t
inductive V where
 |non|bl (b:Bool)|int (i:τ)|str (x:Ξ)|byt (b:Array UInt8)|flt (b:UInt64)|ref (a:ο)|ty (n:String)
 deriving DecidableEq
def RelV:V->ξ->Prop
 | .non,u=>u=Value.none
 | .bl b,u=>u=Value.bool b
 | .int i,u=>∃t,u=nr i t
 | .str x,u=>∃t,u=Value.str x t
 | .byt b,u=>∃t,u=Value.bytes b t
 | .flt b,u=>∃t,u=Value.float b t
 | .ref a,u=>u=aw a
 | .ty n,u=>u=Value.type n
abbrev Vals:ε V->ε ξ->Prop:=Paired RelV
theorem Vals.length(r:Vals a b):a.length=b.length:=pz r
theorem Vals.get:∀{a:ε V}{b:ε ξ}{i:ν}{x:V},Vals a b->a[i]? =γ x->∃u,b[i]? =γ u/\RelV x u
 |_,_,_,_,.nil,e=>by simp at e
 |_,_,0,_,.cons r _,e=>by simp at e;subst e;exact⟨_,rfl,r⟩
 |_,_,i+1,x,.cons _ t,e=>by
  obtain⟨u,c,d⟩:=Vals.get (i:=i) (x:=x) t (by simpa using e);exact⟨u,by simpa using c,d⟩
theorem Vals.set(r:RelV x u):∀{a:ε V}{b:ε ξ}(i:ν),Vals a b->Vals (a.set i x) (b.set i u)
 |_,_,_,.nil=>.nil
 |_,_,0,.cons _ t=>.cons r t
 |_,_,i+1,.cons q t=>.cons q<|Vals.set r i t
theorem Vals.append:∀{a b:ε V}{c d:ε ξ},Vals a c->Vals b d->Vals (a++b) (c++d)
 |_,_,_,_,.nil,s=>s
 |_,_,_,_,.cons r t,s=>.cons r<|Vals.append t s
theorem Vals.take:∀{a:ε V}{b:ε ξ}(n:ν),Vals a b->Vals (a.take n) (b.take n)
 |_,_,0,_=>.nil
 |_,_,_+1,.nil=>.nil
 |_,_,n+1,.cons r t=>.cons r<|Vals.take n t
theorem Vals.drop:∀{a:ε V}{b:ε ξ}(n:ν),Vals a b->Vals (a.drop n) (b.drop n)
 |_,_,0,r=>r
 |_,_,_+1,.nil=>.nil
 |_,_,n+1,.cons _ t=>Vals.drop n t
def RelO:υ V->υ ξ->Prop
 |some v,γ u=>RelV v u
 |none,none=>yk
 |_,_=>Ε
def KV{a:Type}:ε (a×V)->ε (a×ξ)->Prop:=Paired λ(p:a×V)(q:a×ξ)=>p.1=q.1/\RelV p.2 q.2
noncomputable def kV:fB->V
 | .inl i=>.int i
 | .inr x=>.str x
inductive HO where
  |lst (xs:ε V)
  |tup (xs:ε V)
  |dK (kvs:ε<|fB×V)|dT (kvs:ε<|ε fB×V)
  |set (S:τ->Bool) (n:ν)
  |ins (C dx:ο) (fs:ε<|Ξ×V)
  |own (x:ο)
  |xd (fs:ε<|Ξ×V)
  |met (f x:ο)
  |rng (lo hi:τ)
  |frz (o:Obj) (u:HO)
  |tbl (ps:Array ξ)
  |ext (φ:ei->Prop)
abbrev Hp:=ο->υ HO
noncomputable def dP(H:Hp)(a:ο)(o:HO):Hp:=λb=>if b=a then γ o else H b
theorem aZ:dP H a o a=γ o:=by unfold dP;rw[Α rfl]
theorem aV(h:b≠a):dP H a o b=H b:=by unfold dP;rw[χ h]
theorem aPy{H:Hp}(h:H a=γ o)(c:H b=γ u)(d:o≠u):a≠b:=by
 intro e;subst e;rw[h]at c;exact d<|ba c
theorem bL{H:Hp}(h:H a=γ o)(c:H b=none):a≠b:=by
 intro e;subst e;rw[h]at c;cases c
section
variable(P:Program)(w:gb)
def ObjOk(H:Hp)(h:ei)(a:ο):HO->Prop
 | .lst d=>d.length<=sizeLine/\∃(b:ε ξ)(n:ν),Vals d b/\h.get? a=γ {cls:=.type "list",data:=.seq b.toArray n}
 | .tup d=>d.length<=sizeLine/\∃b:ε ξ,Vals d b/\IsTup h a b.toArray
 | .dK c=>c.length<=sizeLine/\(a==sysModules)=false/\∃k,KV c k/\h.DictOf (fG P w) a k
 | .dT c=>c.length<=sizeLine/\(a == sysModules) = false/\∃ d:ε (ε fB × ο × ξ),
   Paired (λ(p:ε fB×V)(q:ε fB×ο×ξ)=>p.1=q.1/\H q.2.1=γ (.tup<|p.1.map kV)/\RelV p.2 q.2.2) c d/\
   ∃o l s,h.get? a=γ o/\o.ExactDict/\o.data= .dict l s/\l.toList=d.map (entryOfKey<|tupleKind<|fG P w)/\(d.map (·.1)).Nodup
 | .set S n=>h.SetOf (intKind P w) a S n
 | .ins C i g=>H i = γ (.own a)/\g.length<=1000/\i ≠ a/\h.get? a = γ (W.instObj C i) /\
   ∃e,h.Ns1 i e/\(∀f,RelO (g.lookup f)<|e f)/\Within e (g.map (·.1))
 | .own _=>∃o,h.get? a=γ o
 | .xd g=>∃e,h.Ns1 a e/\∀f,RelO (g.lookup f)<|e f
 | .rng y z=>∃t u v,h.get? a=γ {cls:=.type "range",data:=.fields #[.int y t,.int z u,.int 1 v]}
 | .frz o u=>h.get? a=γ o/\ObjOk H h a u
 | .tbl A=>h.get? a=γ {cls:=.none,data:=.fields A}
 | .met f x=>h.get? a=γ (W.methodObj (.ref f)<|.ref x)
 | .ext j=>j h/\(∃o,h.get? a=γ o)/\∀m r:ei,j m->(∀o,m.get? a=γ o->r.get? a=γ o)->j r
def HOk(H:Hp)(h:ei):Prop:=∀a o,H a=γ o->ObjOk P w H h a o
end
section
variable{P:Program}{w:gb}{H H':Hp}{h h':ei}{a:ο}{o:HO}
theorem ObjOk.lt(x:ObjOk P w H h a o):a<h.objs.size:=by
 cases o with
 |lst c=>obtain⟨_,_,_,_,e⟩:=x;exact bw e
 |tup c=>obtain⟨_,_,_,p⟩:=x;exact p.lt
 |dK b=>obtain⟨_,_,_,_,o,_,_,e,_⟩:=x;exact bw e
 |dT b=>obtain⟨_,_,_,_,o,_,_,e,_⟩:=x;exact bw e
 |set S n=>obtain⟨o,_,_,_,e,_⟩:=x;exact bw e
 |ins C g d=>obtain⟨_,_,_,e,_⟩:=x;exact bw e
 |own y=>obtain⟨_,e⟩:=x;exact bw e
 |xd d=>obtain⟨_,⟨_,_,_,e,_⟩,_⟩:=x;exact bw e
 |rng i j=>obtain⟨_,_,_,e⟩:=x;exact bw e
 |frz k u=>obtain⟨e,_⟩:=x;exact bw e
 |tbl l=>exact bw (show h.get? a=γ _ from x)
 |met f y=>exact bw (show h.get? a=γ _ from x)
 |ext m=>obtain⟨_,⟨_,e⟩,_⟩:=x;exact bw e
theorem Paired.mapP:∀{c:ε e}{d:ε g},Paired F c d->(∀a b,F a b->G a b)->Paired G c d
 |_,_,.nil,_=>.nil
 |_,_,.cons r t,f=>.cons (f _ _ r)<|Paired.mapP t f
theorem ObjOk.stay(x:ObjOk P w H h a o)(k:∀b u,(b=a\/H b=γ (.own a))->h.get? b=γ u->h'.get? b=γ u)
  (E:∀b,H b=γ (.own a)->H' b=γ (.own a)) (F:∀b m,H b=γ (.tup m)->H' b=γ (.tup m)):ObjOk P w H' h' a o:=by
 induction o with
 |lst m=>obtain⟨z,l,n,r,e⟩:=x;exact⟨z,l,n,r,k _ _ (.inl rfl) e⟩
 |tup m=>obtain⟨z,l,r,g,e,c⟩:=x;exact⟨z,l,r,g,k _ _ (.inl rfl) e,c⟩
 |dK s=>obtain⟨z,y,G,r,g,i,j,e,c⟩:=x;exact⟨z,y,G,r,g,i,j,k _ _ (.inl rfl) e,c⟩
 |dT s=>
  obtain⟨z,y,m,r,g,i,j,e,c⟩:=x;exact⟨z,y,m,Paired.mapP r λp q z=>⟨z.1,F _ _ z.2.1,z.2.2⟩,g,i,j,k _ _ (.inl rfl) e,c⟩
 |set S n=>obtain⟨g,i,j,t,e,c⟩:=x;exact⟨g,i,j,t,k _ _ (.inl rfl) e,c⟩
 |ins C M I=>
  obtain⟨d,z,J,e,A,⟨B,i,j,K,c⟩,r⟩:=x;exact⟨E _ d,z,J,k _ _ (.inl rfl) e,A,⟨B,i,j,k _ _ (.inr d) K,c⟩,r⟩
 |own y=>obtain⟨g,e⟩:=x;exact⟨g,k _ _ (.inl rfl) e⟩
 |xd I=>obtain⟨A,⟨B,i,j,e,c⟩,r⟩:=x;exact⟨A,⟨B,i,j,k _ _ (.inl rfl) e,c⟩,r⟩
 |rng N O=>obtain⟨t,u,v,e⟩:=x;exact⟨t,u,v,k _ _ (.inl rfl) e⟩
 |frz g u L=>obtain⟨e,q⟩:=x;exact⟨k _ _ (.inl rfl) e,L q⟩
 |tbl D=>
  have e:h.get? a=γ {cls:=.none,data:=.fields D}:=x;show h'.get? a=γ {cls:=.none,data:=.fields D};exact k a _ (.inl rfl) e
 |met f y=>
  have e:h.get? a=γ (W.methodObj (.ref f)<|.ref y):=x;show h'.get? a=γ (W.methodObj (.ref f)<|.ref y);exact k a _ (.inl rfl) e
 |ext R=>obtain⟨p,⟨o,e⟩,st⟩:=x;exact⟨st _ _ p λo q=>k _ _ (.inl rfl) q,⟨o,k _ _ (.inl rfl) e⟩,st⟩
theorem HOk.lt(x:HOk P w H h)(e:H a=γ o):a<h.objs.size:=(x a o e).lt
theorem HOk.fresh(x:HOk P w H h)(e:h.objs.size<=a):H a=none:=by
 cases q:H a with
 |none=>rfl
 |some u=>exact ς (ah (x.lt q) e)<|jy _
theorem HOk.kept(x:HOk P w H h)(k:∀b u,h.get? b=γ u->h'.get? b=γ u):HOk P w H h':=λa o e=>
 (x a o e).stay (λb u _ q=>k b u q) (λ_ q=>q) λ_ _ q=>q
theorem HOk.laid(x:HOk P w H h)(k:∀b u,h.get? b=γ u->h'.get? b=γ u)(i:h.objs.size<=a)(d:ObjOk P w (dP H a o) h' a o):HOk P w (dP H a o) h':=λb u e=>by
 have f:=x.fresh i;by_cases g:b=a
 ·subst g;rw[aZ]at e;cases e;exact d
 ·rw[aV g]at e;exact(x b u e).stay (λc v _ q=>k c v q) (λc q=>by rw[aV<|bL q f];exact q) λc j q=>by rw[aV<|bL q f];exact q
end
def Rd(H:Hp)(a:ο)(u:HO):Prop:=H a=γ u\/∃o,H a=γ (.frz o u)
theorem Rd.ok(r:Rd H a u)(x:HOk P w H h):ObjOk P w H h a u:=by
 rcases r with r|⟨o,r⟩
 ·exact x a u r
 ·obtain⟨_,q⟩:=x a _ r;exact q
def Mut:υ HO->Prop
 |some (.lst _)=>yk
 |some (.dK _)=>yk
 |some (.dT _)=>yk
 |some (.set _ _)=>yk
 |some (.ins _ _ _)=>yk
 |some (.ext _)=>yk
 |_=>Ε
section
variable{P:Program}{w:gb}{H:Hp}{h h':ei}{x e:ο}{o':HO}
theorem HOk.write(ok:HOk P w H h)(g:Mut<|H x)(o:e=x\/H e=γ (.own x))(k:∀b u,b≠e->h.get? b=γ u->h'.get? b=γ u)(m:∃u,h'.get? e=γ u)
  (n:ObjOk P w (dP H x o') h' x o'):HOk P w (dP H x o') h':=λb u q=>by
 have d:∀c y,H c=γ (.own y)->c≠x:=λc y r z=>by subst z;rw[r]at g;exact g
 have f:∀c i,H c=γ (.tup i)->c≠x:=λc i r z=>by subst z;rw[r]at g;exact g
 by_cases j:b=x
 ·subst j;rw[aZ]at q;cases q;exact n
 ·rw[aV j]at q;by_cases a:b=e
  ·have p:H b=γ (.own x):=by
    rcases o with z|z
    ·exact ς (a.trans z) j
    ·rw[a];exact z
   rw[q]at p;cases p;obtain⟨v,s⟩:=m;exact⟨v,by rw[a];exact s⟩
  ·refine(ok b u q).stay (λc v l r=>k c v ?_ r) (λc r=>by rw[aV<|d c b r];exact r) λc i r=>by rw[aV<|f c i r];exact r
   rcases l with rfl|l
   ·exact a
   ·rintro rfl;rcases o with z|z
    ·exact d c b l z
    ·rw[l]at z;cases z;exact j rfl
end
structure Un(fs ex:ε ο)(H H':Hp)(h h':ei):Prop where
 keep:∀b o,h.get? b=γ o->H b=none->b∉fs->b∉ex->h'.get? b=γ o
 slot:∀b o,h.get? b=γ o->H b=none->b∈fs->b∉ex->∃sl,h'.get? b=γ {o with slots:=sl}
 free:∀b o,h.get? b=γ o->H b=none->b∉ex->H' b=none
 there:∀b o,h.get? b=γ o->b∉ex->∃o',h'.get? b=γ o'
 tups:∀b xs,H b=γ (.tup xs)->H' b=γ (.tup xs)
 frzs:∀b o u,H b=γ (.frz o u)->H' b=γ (.frz o u)
 tbls:∀b ps,H b=γ (.tbl ps)->∃more,H' b=γ (.tbl<|ps++more)
section
variable{fs fs' ex ex':ε ο}{H H1 H2:Hp}{h h1 h2 h':ei}{a x e:ο}{o:HO}
theorem Un.any(u:Un fs ex H H1 h h1)(q:h.get? b=γ c)(n:H b=none)(d:b∉ex):∃g,h1.get? b=γ {c with slots:=g}:=by
 by_cases f:b∈fs
 ·exact u.slot b c q n f d
 ·exact⟨c.slots,u.keep b c q n f d⟩
theorem Un.trans(a:Un fs ex H H1 h h1)(b:Un fs ex H1 H2 h1 h2):Un fs ex H H2 h h2 where
 keep:=λc d q n i f=>b.keep c d (a.keep c d q n i f) (a.free c d q n f) i f
 slot:=λc d q n i f=>by
  obtain⟨t,g⟩:=a.slot c d q n i f;obtain⟨k,l⟩:=b.slot c _ g (a.free c d q n f) i f;exact⟨k,l⟩
 free:=λc d q n f=>by
  obtain⟨m,g⟩:=a.there c d q f;exact b.free c m g (a.free c d q n f) f
 there:=λc d q f=>by
  obtain⟨m,g⟩:=a.there c d q f;exact b.there c m g f
 tups:=λc j q=>b.tups c j<|a.tups c j q
 frzs:=λc d j q=>b.frzs c d j<|a.frzs c d j q
 tbls:=λc p q=>by
  obtain⟨r,g⟩:=a.tbls c p q;obtain⟨s,l⟩:=b.tbls c _ g;exact⟨r++s,by rw[l,ur]⟩
theorem Un.kept(k:∀b u,h.get? b=γ u->h'.get? b=γ u):Un fs ex H H h h':=
 ⟨λb c q _ _ _=>k b c q,λb c q _ _ _=>⟨c.slots,k b c q⟩,λ_ _ _ n _=>n,λb c q _=>⟨c,k b c q⟩,λ_ _ q=>q,λ_ _ _ q=>q,λ_ d q=>⟨#[],by rw[q];simp⟩⟩
theorem Un.refl:Un fs ex H H h h:=Un.kept λ_ _ q=>q
theorem Un.laid(k:∀b u,h.get? b=γ u->h'.get? b=γ u)(d:h.objs.size<=a)(c:H a=none):Un fs ex H (dP H a o) h h' where
 keep:=λb u q _ _ _=>k b u q
 slot:=λb u q _ _ _=>⟨u.slots,k b u q⟩
 free:=λb u q n _=>by rw[aV<|gq<|ah (bw q) d];exact n
 there:=λb u q _=>⟨u,k b u q⟩
 tups:=λb f q=>by rw[aV<|bL q c];exact q
 frzs:=λb u f q=>by rw[aV<|bL q c];exact q
 tbls:=λb g q=>⟨#[],by rw[aV<|bL q c,q];simp⟩
theorem Un.write(d:Mut<|H x)(l:e=x\/H e=γ (.own x))(k:∀b u,b≠e->h.get? b=γ u->h'.get? b=γ u)(f:∃u,h'.get? e=γ u):Un fs ex H (dP H x o) h h':=by
 have i:∀b,H b=none->b≠x:=λb n z=>by subst z;rw[n]at d;exact d
 have j:∀b,H b=none->b≠e:=λb n z=>by
  subst z;rcases l with r|r
  ·exact i b n r
  ·rw[n]at r;cases r
 have g:∀b u,H b=γ u->¬Mut (γ u)->b≠x:=λb u q nm z=>by subst z;rw[q]at d;exact nm d
 refine⟨λb u q n _ _=>k b u (j b n) q,λb u q n _ _=>⟨u.slots,k b u (j b n) q⟩,λb u q n _=>by rw[aV (i b n)];exact n,λb u q _=>?_,
  λb m q=>by rw[aV (g b _ q λz=>z)];exact q,λb u m q=>by rw[aV (g b _ q λz=>z)];exact q,λb p q=>⟨#[],by rw[aV (g b _ q λz=>z),q];simp⟩⟩
 by_cases c:b=e
 ·subst c;exact f
 ·exact⟨u,k b u c q⟩
end
noncomputable def trk(h:ei)(H:Hp):ε ο:=(range h.objs.size).filter λa=>(H a).isSome
def Cc(h:ei)(H:Hp):ei:=W.hideAll h<|trk h H
theorem Rm(h:ei)(H:Hp):(Cc h H).objs.size=h.objs.size:=W.hideAll_size _ _
theorem Xz(e:h.get? b=γ o)(n:H b=none):(Cc h H).get? b=γ o:=
 uj _ e λa=>by
  have q:(H b).isSome=true:=(yl.mp a).2;rw[n]at q;simp at q
theorem aDp(e:(Cc h H).get? b=γ o):h.get? b=γ o/\H b=none:=by
 have a:h.get? b=γ o:=zt (trk h H) e;refine⟨a,?_⟩;cases q:H b with
 |none=>rfl
 |some x=>
  have c:b∈trk h H:=yl.mpr ⟨bA.mpr<|bw a,by simp[q]⟩;have z:(Cc h H).get? b=none:=ym (trk h H) c;rw[z]at e;cases e
noncomputable def aFx(g h:ei)(L:ο):ε (ο×Obj):=(range h.objs.size).filterMap λa=>if a=L\/(g.get? a).isSome=true then none else(h.get? a).map λo=>(a,o)
noncomputable def rest(g h:ei)(L d:ο):ε (ο×Obj):=(aFx g h L).filter λp=>decide (p.1≠d)
structure Mod(K:μ)(mg:Ξ->υ ξ)(base:ei):Prop where
 kin:K.In base
 glob:base.Ns mainGlobals mg
 blt:∃mb,base.Ns builtinsNs mb/\∀x:Ξ,x≠"__name__"->mb x=bootBuiltins x
 nolimit:base.NoLimit
structure Cx where
 prog:Program
 w:gb
 K:μ
 mg:Ξ->υ ξ
 base:ei
 A:Around
 N:ε Ξ
 s₀:Ζ
 H₀:Hp
 env:Env
 outer:ε Env
 stack:ε Env
 ex:ε ο
 fn:Ξ->Bool
 calm:Bool
 pn:ε<|ο×Obj
 xe:ξ->Ζ->Prop
noncomputable def nF(l:ε Env):ε ο:=l.filterMap (·.frame)
abbrev Cx.fs(X:Cx):ε ο:=nF X.outer
def Vis(a:Scope)(x:Ξ):Prop:=a.names.lookup x=γ .local\/a.names.lookup x=γ .cell\/a.names.lookup x=γ .free
def Loc(a:Scope)(x:Ξ):Prop:=a.names.lookup x=γ .local\/a.names.lookup x=γ .cell
def aRz(a:Env)(h:ei)(m:Ξ->υ ξ)(x:Ξ)(u:ξ):Prop:=
 (a.kindOf x=γ .local/\m x=γ u)\/((a.kindOf x=γ .cell\/a.kindOf x=γ .free)/\∃c,a.cells.lookup x=γ c/\h.IsCell c (γ u))
structure Cx.Ok(X:Cx):Prop where
 mod:Mod X.K X.mg X.base
 kind:X.env.scope.kind= .function
 glob:X.env.globals=mainGlobals
 blt:X.env.builtins=builtinsNs
 above:X.s₀.heap.objs.size<=X.env.locals
 inj:∀x y c,X.env.cells.lookup x=γ c->X.env.cells.lookup y=γ c->x=y
 has:∀x,(X.env.kindOf x=γ .cell\/X.env.kindOf x=γ .free)->∃c,X.env.cells.lookup x=γ c
 cab:∀x c,X.fn x=true->X.env.cells.lookup x=γ c->X.s₀.heap.objs.size<=c
 hd:X.calm=true->X.A.handled=none
 frames:X.A.frames=γ X.stack
 stk:X.stack=X.outer\/(X.stack=X.env::X.outer/\X.env.frame=γ X.env.locals)
 exf:∀b∈X.ex,b≠X.env.locals/\∀x c,X.env.cells.lookup x=γ c->c≠b
 bs:∀b o,X.base.get? b=γ o->X.s₀.heap.get? b=γ o/\X.H₀ b=none
 bsz:X.base.objs.size<=X.s₀.heap.objs.size
 noex:∀b o,X.base.get? b=γ o->b∉X.ex
 exfs:∀b∈X.ex,b∉X.fs
 funs:X.s₀.heap.FunFrames X.base X.outer
 frf:∀b∈X.fs,X.H₀ b=none
structure Inv(X:Cx)(pins:ε<|ο×Obj)(σ:ε<|υ V)(H:Hp)(s:Ζ):Prop where
 ok:X.Ok
 os:s.os=X.s₀.os
 bare:AllBare s.gens
 base:Un X.fs X.ex X.H₀ H X.s₀.heap s.heap
 loc:∃m,s.heap.Ns X.env.locals m/\∀(i:ν)(x:Ξ)(v:V),X.N[i]? =γ x->σ[i]? =γ (γ v)->Vis X.env.scope x->∃u,RelV v u/\aRz X.env s.heap m x u
 cell:∀x c,X.env.cells.lookup x=γ c->∃v,s.heap.IsCell c v
 free:H X.env.locals=none
 freeC:∀x c,X.env.cells.lookup x=γ c->H c=none
 pin:∀p∈X.pn++pins,s.heap.get? p.1=γ p.2/\H p.1=none/\p.1≠X.env.locals/\p.1∉X.fs/\∀v,p.2.data≠ .cell v
 hok:HOk X.prog X.w H s.heap
 len:σ.length=X.N.length
section
variable{X:Cx}{pins:ε (ο×Obj)}{σ:ε (υ V)}{H H':Hp}{s:Ζ}{h':ei}
theorem Cx.Ok.nofr(ok:X.Ok)(e:X.base.get? b=γ o):b∉X.fs:=λa=>by
 have:=(ok.funs.mem a).1;rw[e]at this;cases this
theorem Inv.bs(I:Inv X pins σ H s):∀b o,X.base.get? b=γ o->s.heap.get? b=γ o/\H b=none:=λb o e=>
 ⟨I.base.keep b o (I.ok.bs b o e).1 (I.ok.bs b o e).2 (I.ok.nofr e)<|I.ok.noex b o e,I.base.free b o (I.ok.bs b o e).1 (I.ok.bs b o e).2<|I.ok.noex b o e⟩
theorem Inv.bk(I:Inv X pins σ H s):∀b o,X.base.get? b=γ o->s.heap.get? b=γ o:=λb o e=>(I.bs b o e).1
theorem Inv.mod(I:Inv X pins σ H s):Mod X.K X.mg X.base:=I.ok.mod
theorem Inv.kIn(I:Inv X pins σ H s):X.K.In s.heap:=I.ok.mod.kin.keeps I.bk
theorem Inv.lt(I:Inv X pins σ H s):X.env.locals<s.heap.objs.size:=let⟨_,a,_⟩:=I.loc;a.lt
theorem Inv.sz(I:Inv X pins σ H s):X.s₀.heap.objs.size<=s.heap.objs.size:=Β I.ok.above<|bu I.lt
theorem Inv.nofs(I:Inv X pins σ H s)(h:s.heap.objs.size<=a):a∉X.fs:=λb=>by
 obtain⟨_,o,c,_⟩:=I.ok.funs.mem b;exact ς (ah (bw c)<|Β I.sz h)<|jy _
theorem Inv.cne(I:Inv X pins σ H s):∀x c,X.env.cells.lookup x=γ c->c≠X.env.locals:=λx c e z=>by
 obtain⟨v,o,d,f⟩:=I.cell x c e;obtain⟨m,⟨g,h,i,a,b,_⟩,_⟩:=I.loc;rw[z,a]at d;cases d;rw[b]at f;cases f
theorem Inv.funs(I:Inv X pins σ H s):s.heap.FunFrames X.base X.outer:=by
 have a:∀(l:ε Env),(∀b∈nF l,b∈X.fs)->X.s₀.heap.FunFrames X.base l->s.heap.FunFrames X.base l:=by
  intro l
  induction l with
  |nil=>intro _ _;trivial
  |cons h r i=>
   intro g j;obtain⟨k,⟨L,o,c,m,n,p⟩,q⟩:=j;have d:L∈X.fs:=g L (by unfold nF;rw[fh,c];exact Κ);obtain⟨t,e⟩:=I.base.slot L o n (I.ok.frf L d) d λz=>I.ok.exfs L z d;exact⟨k,⟨L,_,c,m,e,p⟩,i (λb f=>g b (by unfold nF;rw[fh,c];exact Θ _ f)) q⟩
 exact a X.outer (λ_ f=>f) I.ok.funs
theorem Inv.stack(I:Inv X pins σ H s):s.heap.FunFrames X.base X.stack:=by
 rcases I.ok.stk with e|⟨e,a⟩
 ·rw[e];exact I.funs
 ·rw[e];obtain⟨m,b,_⟩:=I.loc;refine .cons (by rw[I.ok.kind];decide) a b ?_ I.funs;exact Heap.get?_none_of_le<|Β I.ok.bsz I.ok.above
theorem Inv.stkSub(I:Inv X pins σ H s):∀b∈nF X.stack,b∈X.env.locals::X.fs:=λb a=>by
 rcases I.ok.stk with e|⟨e,c⟩
 ·rw[e]at a;exact Θ _ a
 ·rw[e]at a;unfold nF at a;rw[fh,c]at a;exact a
theorem Inv.stkFree(I:Inv X pins σ H s):∀b∈nF X.stack,H b=none:=λb a=>by
 rcases Ω.mp (I.stkSub b a)with e|a
 ·rw[e];exact I.free
 ·obtain⟨_,o,c,_⟩:=I.ok.funs.mem a;exact I.base.free b o c (I.ok.frf b a) λz=>I.ok.exfs b z a
theorem Inv.step{ch:ε ο}(I:Inv X pins σ H s)
  (f:∀b∈ch,(b∈X.ex\/X.s₀.heap.objs.size<=b)/\b≠X.env.locals/\(∀x c,X.env.cells.lookup x=γ c->c≠b)/\∀p∈X.pn++pins,p.1≠b)
  (keep:∀b o,b≠X.env.locals->b∉X.fs->b∉ch->s.heap.get? b=γ o->H b=none->h'.get? b=γ o)
  (slot:∀b o,b≠X.env.locals->b∈X.fs->b∉ch->s.heap.get? b=γ o->H b=none->∃J,h'.get? b=γ {o with slots:=J}) (free:∀b o,b∉ch->s.heap.get? b=γ o->H b=none->H' b=none)
  (there:∀b o,b∉ch->s.heap.get? b=γ o->∃A,h'.get? b=γ A)
  (B:∀b t,H b=γ (.tup t)->H' b=γ (.tup t)) (C:∀b o u,H b=γ (.frz o u)->H' b=γ (.frz o u)) (D:∀b G,H b=γ (.tbl G)->∃more,H' b=γ (.tbl<|G++more))
  (T:∀m,s.heap.Ns X.env.locals m->h'.Ns X.env.locals m) (K:HOk X.prog X.w H' h') (U:AllBare g'):
  Inv X pins σ H' {s with heap:=h',gens:=g',drawn:=d',toks:=S}:=by
 have E:∀b o,X.s₀.heap.get? b=γ o->b≠X.env.locals:=λb o e=>gq<|ah (bw e) I.ok.above;have h:∀b o,X.s₀.heap.get? b=γ o->b∉X.ex->b∉ch:=λb o e a w=>by
  rcases(f b w).1 with z|z
  ·exact a z
  ·exact ς (ah (bw e) z)<|jy _
 have cellK:∀x c,X.env.cells.lookup x=γ c->∀v,s.heap.IsCell c v->h'.IsCell c v:=λx c e v ⟨o,y,L⟩=>by
  have g:c∉ch:=λz=>(f c z).2.2.1 x c e rfl;by_cases N:c∈X.fs
  ·obtain⟨J,q⟩:=slot c o (I.cne x c e) N g y<|I.freeC x c e;exact⟨_,q,L⟩
  ·exact⟨o,keep c o (I.cne x c e) N g y<|I.freeC x c e,L⟩
 refine⟨I.ok,I.os,U,⟨λb o e n w a=>?_,λb o e n w a=>?_,λb o e n a=>?_,λb o e a=>?_,λb t e=>B b t<|I.base.tups b t e,λb o t e=>C b o t<|I.base.frzs b o t e,λb G e=>?_⟩,?_,λx c e=>?_,?_,λx c e=>?_,λp O=>?_,K,I.len⟩
 ·exact keep b o (E b o e) w (h b o e a) (I.base.keep b o e n w a)<|I.base.free b o e n a
 ·obtain⟨J,j⟩:=I.base.slot b o e n w a;obtain⟨M,F⟩:=slot b _ (E b o e) w (h b o e a) j<|I.base.free b o e n a;exact⟨M,F⟩
 ·obtain⟨A,j⟩:=I.base.there b o e a;exact free b A (h b o e a) j<|I.base.free b o e n a
 ·obtain⟨A,j⟩:=I.base.there b o e a;exact there b A (h b o e a) j
 ·obtain⟨W,j⟩:=I.base.tbls b G e;obtain⟨Y,F⟩:=D b _ j;exact⟨W++Y,by rw[F,ur]⟩
 ·obtain⟨m,Z,hl⟩:=I.loc;refine⟨m,T m Z,λi x v j F e3=>?_⟩;obtain⟨u,r,l⟩:=hl i x v j F e3;refine⟨u,r,?_⟩;rcases l with l|⟨k,c,e,z⟩
  ·exact .inl l
  ·exact .inr ⟨k,c,e,cellK x c e _ z⟩
 ·obtain⟨v,z⟩:=I.cell x c e;exact⟨v,cellK x c e v z⟩
 ·obtain⟨m,⟨o,_,_,y,_⟩,_⟩:=I.loc;exact free _ o (λz=>(f _ z).2.1 rfl) y I.free
 ·obtain⟨v,o,y,L⟩:=I.cell x c e;exact free c o (λz=>(f c z).2.2.1 x c e rfl) y<|I.freeC x c e
 ·refine q_ λwv=>?_;obtain⟨e,n,P,R,d⟩:=I.pin p O;apply wv;have g:p.1∉ch:=λz=>(f p.1 z).2.2.2 p O rfl;exact⟨keep p.1 p.2 P R g e n,free p.1 p.2 g e n,P,R,d⟩
theorem Inv.un(I:Inv X pins σ H s)(u:Un X.fs [] H H' s.heap h')(c:HOk X.prog X.w H' h'):Inv X pins σ H' {s with heap:=h',toks:=t'}:=by
 obtain⟨m,⟨o,l,p,h,r⟩,_⟩:=id I.loc;obtain⟨q,i⟩:=u.any h I.free (by simp)
 exact I.step (g':=s.gens) (d':=s.drawn) (ch:=[]) (λ_ z=>nomatch z) (λb o _ d _ e n=>u.keep b o e n d (by simp)) (λb o _ d _ e n=>u.slot b o e n d (by simp)) (λb o _ e n=>u.free b o e n (by simp)) (λb o _ e=>u.there b o e (by simp)) u.tups u.frzs u.tbls (λt j=>by
  obtain⟨v,f,g,a,k⟩:=j
  rw[h]at a;cases a
  exact⟨_,f,g,i,k⟩) c I.bare
theorem Inv.call(I:Inv X pins σ H s)(u:Un (nF X.stack) ch H H' s.heap h')(g:HOk X.prog X.w H' h')(l:AllBare g')
  (d:∀b∈ch,(b∈X.ex\/X.s₀.heap.objs.size<=b)/\b≠X.env.locals/\(∀x c,X.env.cells.lookup x=γ c->c≠b)/\∀p∈X.pn++pins,p.1≠b):
  Inv X pins σ H' {s with heap:=h',gens:=g',drawn:=d',toks:=t'}:=by
 obtain⟨m,⟨o,w,y,k,r⟩,_⟩:=id I.loc;obtain⟨A,h⟩:=u.any k I.free λz=>(d _ z).2.1 rfl
 exact I.step (ch:=ch) d (λb o h q a e n=>u.keep b o e n (λz=>(Ω.mp (I.stkSub b z)).elim h q) a) (λb o _ _ a e n=>u.any e n a) (λb o a e n=>u.free b o e n a) (λb o a e=>u.there b o e a) u.tups u.frzs u.tbls (λB t=>by
  obtain⟨C,i,j,f,v⟩:=t
  rw[k]at f;cases f
  exact⟨_,i,j,h,v⟩) g l
theorem Inv.turned(I:Inv X pins σ H s)(k:∀b o,b≠it->s.heap.get? b=γ o->h'.get? b=γ o)(g:H it=none)(f:it≠X.env.locals)
  (h:it∈X.ex\/X.s₀.heap.objs.size<=it) (i:∀x c,X.env.cells.lookup x=γ c->c≠it) (j:∀p∈X.pn++pins,p.1≠it):Inv X pins σ H {s with heap:=h',toks:=t'}:=by
 have d:∀b u,H b=γ u->b≠it:=λb u e z=>by rw[z,g]at e;cases e
 refine I.step (g':=s.gens) (d':=s.drawn) (ch:=[it]) (λb l=>?_) (λb o _ _ a e _=>k b o (λz=>a<|by simp[z]) e) (λb o _ _ a e _=>⟨o.slots,k b o (λz=>a<|by simp[z]) e⟩) (λ_ _ _ _ n=>n)
  (λb o a e=>⟨o,k b o (λz=>a<|by simp[z]) e⟩) (λ_ _ e=>e) (λ_ _ _ e=>e) (λb B e=>⟨#[],by rw[e];simp⟩) (λm t=>?_) (λb u e=>?_) I.bare
 ·have e:b=it:=by simpa using l
  subst e;exact⟨h,f,i,j⟩
 ·obtain⟨o,w,y,A,r⟩:=t;exact⟨o,w,y,k _ o (Ne.symm f) A,r⟩
 ·refine(I.hok b u e).stay (λc v a q=>k c v ?_ q) (λ_ q=>q) λ_ _ q=>q;rcases a with z|z
  ·rw[z];exact d b u e
  ·exact d c _ z
theorem Inv.tok(I:Inv X pins σ H s)(t:ν):Inv X pins σ H {s with toks:=t}:=I.un (h':=s.heap) (t':=t) Un.refl I.hok
theorem Inv.kept(I:Inv X pins σ H s)(k:∀b u,s.heap.get? b=γ u->h'.get? b=γ u):Inv X pins σ H {s with heap:=h',toks:=t'}:=I.un (Un.kept k)<|I.hok.kept k
theorem Inv.laid(I:Inv X pins σ H s)(k:∀b u,s.heap.get? b=γ u->h'.get? b=γ u)(c:s.heap.objs.size<=a)(d:ObjOk X.prog X.w (dP H a o) h' a o):
  Inv X pins σ (dP H a o) {s with heap:=h',toks:=t'}:=I.un (Un.laid k c<|I.hok.fresh c)<|I.hok.laid k c d
theorem Inv.write(I:Inv X pins σ H s)(d:Mut<|H x)(f:e=x\/H e=γ (.own x))(k:∀b u,b≠e->s.heap.get? b=γ u->h'.get? b=γ u)(a:∃u,h'.get? e=γ u)
  (c:ObjOk X.prog X.w (dP H x o) h' x o):Inv X pins σ (dP H x o) {s with heap:=h',toks:=g}:=I.un (Un.write d f k a)<|I.hok.write d f k a c
theorem Inv.pins_of(I:Inv X pins σ H s)(h:∀p∈a,s.heap.get? p.1=γ p.2/\H p.1=none/\p.1≠X.env.locals/\p.1∉X.fs/\∀v,p.2.data≠ .cell v):Inv X a σ H s:=
 ⟨I.ok,I.os,I.bare,I.base,I.loc,I.cell,I.free,I.freeC,λp b=>(eg.mp b).elim (λz=>I.pin p<|je _ z)<|h p,I.hok,I.len⟩
theorem vR{N:ε Ξ}(c:N.Nodup){i j:ν}(a:N[i]? =γ x)(b:N[j]? =γ x):i=j:=by
 obtain⟨f,d⟩:=ρ.mp a;obtain⟨g,e⟩:=ρ.mp b;exact(List.getElem_inj c).mp<|d.trans e.symm
theorem yO(I:Inv X pins σ H s)(hN:X.N.Nodup)(K:X.N[i]? =γ x)(t:Loc X.env.scope x)(r:RelV v u)
  (h:∀W,Inv X pins (σ.set i<|some v) H W->(∃a,SameBut a s.heap W.heap/\(a=X.env.locals\/X.env.cells.lookup x=γ a))->Q () W) (hf:X.fn x=true\/X.env.scope.names.lookup x=γ .local:=by first|exact .inl rfl|exact .inr rfl|assumption):Φ M A (storeName X.env x u) Q E s:=by
 obtain⟨m,Y,hl⟩:=id I.loc;have L:(X.env.scope.kind== .class||(X.env.scope.kind== .module && X.env.locals !=X.env.globals))=false:=by rw[I.ok.kind];rfl
 have B:i<σ.length:=by rw[I.len];exact(ρ.mp K).1
 have D:=I.cne;have tracked:∀{a:ο}{h':ei},(∃o,s.heap.get? a=γ o/\H a=none)->SameBut a s.heap h'->HOk X.prog X.w H h':=λ{a h'} ha f b ob e=>by
  obtain⟨_,_,hfree⟩:=ha;refine(I.hok b ob e).stay (λc S l q=>(f.2 c ?_).trans q) (λ_ q=>q) λ_ _ q=>q;rintro rfl;rcases l with rfl|l
  ·rw[hfree]at e;cases e
  ·rw[hfree]at l;cases l
 rcases t with C|C
 ·refine wpAny_storeName_local C Y (λh' Z f=>?_) L;obtain⟨oL,_,_,a0,_⟩:=id Y;refine h _ ⟨I.ok,I.os,I.bare,⟨λb o e n F t=>?_,λb o e n F t=>?_,I.base.free,λb o e t=>?_,I.base.tups,I.base.frzs,I.base.tbls⟩,⟨_,Z,λj y v' g w e3=>?_⟩,λy c e=>?_,I.free,I.freeC,λp hp=>?_,tracked ⟨oL,a0,I.free⟩ f,by simpa using I.len⟩ ⟨_,f,.inl rfl⟩
  ·exact(f.2 b<|gq<|ah (bw e) I.ok.above).trans<|I.base.keep b o e n F t
  ·obtain⟨sl,g⟩:=I.base.slot b o e n F t;exact⟨sl,(f.2 b<|gq<|ah (bw e) I.ok.above).trans g⟩
  ·obtain⟨o',g⟩:=I.base.there b o e t;exact⟨o',(f.2 b<|gq<|ah (bw e) I.ok.above).trans g⟩
  ·by_cases G:j=i
   ·subst G;rw[K]at g;cases g;rw[gh B]at w;cases w;exact⟨u,r,.inl ⟨C,by simp⟩⟩
   ·rw[dV<|Ne.symm G]at w;obtain⟨u',r',q⟩:=hl j y v' g w e3;refine⟨u',r',?_⟩;rcases q with⟨k,e⟩|⟨k,c,e,z⟩
    ·refine .inl ⟨k,?_⟩;have:y≠x:=λe=>G<|vR hN g<|e▸K;simp[this,e]
    ·exact .inr ⟨k,c,e,z.sameBut f<|D y c e⟩
  ·obtain⟨S,z⟩:=I.cell y c e;exact⟨S,z.sameBut f<|D y c e⟩
  ·refine q_ λwv=>?_;obtain⟨e,n,T,nf,d⟩:=I.pin p hp;apply wv;exact⟨(f.2 p.1 T).trans e,n,T,nf,d⟩
 ·have J:X.fn x=true:=by
   rcases hf with z|z
   ·exact z
   ·rw[z]at C;cases C
  obtain⟨c,l⟩:=I.ok.has x<|.inl C;obtain⟨S,z⟩:=I.cell x c l;refine wpAny_storeName_cell I.ok.kind C l z λh' N f=>?_;obtain⟨oc,O,P⟩:=id z;refine h {s with heap:=h'} ⟨I.ok,I.os,I.bare,⟨λb o e n F t=>?_,λb o e n F t=>?_,I.base.free,λb o e t=>?_,I.base.tups,I.base.frzs,I.base.tbls⟩,⟨m,Y.sameBut f<|Ne.symm<|D x c l,λj y v' g w e3=>?_⟩,λy U e=>?_,I.free,I.freeC,λp hp=>?_,tracked ⟨oc,O,I.freeC x c l⟩ f,by simpa using I.len⟩ ⟨c,f,.inr l⟩
  ·exact(f.2 b<|gq<|ah (bw e)<|I.ok.cab x c J l).trans<|I.base.keep b o e n F t
  ·obtain⟨sl,g⟩:=I.base.slot b o e n F t;exact⟨sl,(f.2 b<|gq<|ah (bw e)<|I.ok.cab x c J l).trans g⟩
  ·obtain⟨o',g⟩:=I.base.there b o e t;exact⟨o',(f.2 b<|gq<|ah (bw e)<|I.ok.cab x c J l).trans g⟩
  ·by_cases G:j=i
   ·subst G;rw[K]at g;cases g;rw[gh B]at w;cases w;exact⟨u,r,.inr ⟨.inl C,c,l,N⟩⟩
   ·rw[dV<|Ne.symm G]at w;obtain⟨u',r',q⟩:=hl j y v' g w e3;refine⟨u',r',?_⟩;rcases q with q|⟨k,U,e,z'⟩
    ·exact .inl q
    ·refine .inr ⟨k,U,e,z'.sameBut f ?_⟩;rintro rfl;exact G<|vR hN g<|I.ok.inj _ _ _ e l▸K
  ·by_cases R:U=c
   ·subst R;exact⟨_,N⟩
   ·obtain⟨w2,z2⟩:=I.cell y U e;exact⟨w2,z2.sameBut f R⟩
  ·refine q_ λwv=>?_;obtain⟨e,n,T,nf,d⟩:=I.pin p hp;apply wv;refine⟨(f.2 p.1 ?_).trans e,n,T,nf,d⟩;intro q;rw[q,O]at e;have q':oc=p.2:=ba e;exact d S (by rw[<-q'];exact P)
theorem kG(I:Inv X pins σ H s)(b:X.N.Nodup)(c:X.N[i]? =γ x)(d:Loc X.env.scope x)(r:RelV v u)
  (h:∀a,Inv X pins (σ.set i<|some v) H a->Q () a) (e:X.fn x=true\/X.env.scope.names.lookup x=γ .local:=by first|exact .inl rfl|exact .inr rfl|assumption):Φ M A (storeName X.env x u) Q E s:=
 yO I b c d r (λa f _=>h a f) e
theorem Inv.call'(I:Inv X pins σ H s)(f:s'.os=s.os)(u:Un (nF X.stack) ch H H' s.heap s'.heap)(a:HOk X.prog X.w H' s'.heap)(g:AllBare s'.gens)
  (d:∀b∈ch,(b∈X.ex\/X.s₀.heap.objs.size<=b)/\b≠X.env.locals/\(∀x c,X.env.cells.lookup x=γ c->c≠b)/\∀p∈X.pn++pins,p.1≠b):Inv X pins σ H' s':=by
 obtain⟨h',g',d',t',h⟩:=s';have e:h=s.os:=f;subst e;exact I.call (g':=g') (t':=t') (d':=d') u a g d
end
abbrev XK:=ξ->υ ο->Hp->Prop
abbrev St:=ε<|υ V
abbrev VK:=V->Hp->Prop
abbrev TE:=St->Hp->VK->Prop
abbrev TT:=St->Hp->(Bool->Hp->Prop)->Prop
abbrev TA:=St->Hp->(ε V->Hp->Prop)->Prop
structure Ends where
 nx:St->Hp->Prop
 rt:VK
 bk:St->Hp->Prop:=λ_ _=>Ε
 ct:St->Hp->Prop:=λ_ _=>Ε
abbrev TS:=Ends->St->Hp->Prop
def EP(X:Cx)(pins:ε<|ο×Obj)(b:St)(Q:VK)(u:ξ)(c:Ζ):Prop:=∃v a,Inv X pins b a c/\RelV v u/\Q v a
def TP(X:Cx)(pins:ε<|ο×Obj)(c:St)(Q:Bool->Hp->Prop)(b:Bool)(d:Ζ):Prop:=∃a,Inv X pins c a d/\Q b a
def AP(X:Cx)(pins:ε<|ο×Obj)(c:St)(Q:ε V->Hp->Prop)(d:ε ξ)(e:Ζ):Prop:=∃a b,Inv X pins c b e/\Vals a d/\Q a b
def SP(X:Cx)(pins:ε<|ο×Obj)(D:Ends)(f:Flow)(c:Ζ):Prop:=
 match f with
 | .next=>∃a b,Inv X pins a b c/\D.nx a b
 | .brk=>∃a b,Inv X pins a b c/\D.bk a b
 | .cont=>∃a b,Inv X pins a b c/\D.ct a b
 | .ret u=>∃v a b,Inv X pins a b c/\RelV v u/\D.rt v b
def PE(X:Cx)(e:Expr)(t:TE):Prop:=
 ∀(pins:ε<|ο×Obj)(s:Ζ)(a:St)(H:Hp)(Q:VK),Inv X pins a H s->t a H Q->Φ (model X.prog X.w) X.A (eval e X.env) (EP X pins a Q) X.xe s
def PT(X:Cx)(e:Expr)(t:TT):Prop:=
 ∀(pins:ε<|ο×Obj)(s:Ζ)(a:St)(H:Hp)(Q:Bool->Hp->Prop),Inv X pins a H s->t a H Q->Φ (model X.prog X.w) X.A (isTrue e X.env<|eval e X.env) (TP X pins a Q) X.xe s
def PW(X:Cx)(e:Expr)(t:TT):Prop:=
 ∀(whole:Sem ξ)(pins:ε<|ο×Obj)(s:Ζ)(a:St)(H:Hp)(Q:Bool->Hp->Prop),Inv X pins a H s->t a H Q->Φ (model X.prog X.w) X.A (isTrue e X.env whole) (TP X pins a Q) X.xe s
theorem PW.pt(h:PW X e t):PT X e t:=h _
def PA(X:Cx)(c:ε Expr)(t:TA):Prop:=
 ∀(a:Pos)(pins:ε<|ο×Obj)(s:Ζ)(b:St)(H:Hp)(Q:ε V->Hp->Prop),Inv X pins b H s->t b H Q->Φ (model X.prog X.w) X.A (spliced<|backTo a<|starEach c X.env) (AP X pins b Q) X.xe s
def PS(X:Cx)(st:Stmt)(t:TS):Prop:=
 ∀(pins:ε<|ο×Obj)(s:Ζ)(a:St)(H:Hp)(D:Ends),Inv X pins a H s->t D a H->Φ (model X.prog X.w) X.A (exec st X.env) (SP X pins D) X.xe s
def Df(X:Cx)(st:ε Stmt)(t:TS):Prop:=
 ∀(pins:ε<|ο×Obj)(s:Ζ)(a:St)(H:Hp)(D:Ends),Inv X pins a H s->t D a H->Φ (model X.prog X.w) X.A (execs st X.env) (SP X pins D) X.xe s
theorem dQ{t:Sem b}{Q Q':b->Ζ->Prop}(h:Φ M A t Q E s)(c:∀a s,Q a s->Q' a s):Φ M A t Q' E s:=ed h c λ_ _ x=>x
section
variable{X:Cx}
def fL(i:ν):TE:=λa H Q=>∃v,a[i]? =γ (γ v)/\Q v H
def tC(v:V):TE:=λ_ H Q=>Q v H
theorem aKb(k:X.N[i]? =γ x)(n:Vis X.env.scope x)(f:(x==("__debug__":Ξ))=false:=by decide)(g:(x==("__classdict__":Ξ))=false:=by decide):PE X (.Name x d) (fL i):=by
 intro pins s o H Q I h;refine q_ λwv=>?_;obtain⟨v,e,h⟩:=h;obtain⟨m,p,q⟩:=I.loc;obtain⟨u,r,l⟩:=q i x v k e n;apply wv;have a:EP X pins o Q u s:=⟨v,H,I,r,h⟩;rcases l with⟨b,t⟩|⟨b,c,j,hcell⟩
 ·exact yn (wpAny_loadName_local I.ok.kind b p t a) f
 ·rcases b with b|b
  ·exact yn (wpAny_loadName_cell I.ok.kind b j hcell a) f
  ·exact yn (wpAny_loadName_free I.ok.kind b j hcell a g) f
theorem bS:PE X (.Constant (.int i) j a) (tC<|.int i):=λ_ _ _ H _ I h=>wpAny_Constant_int ⟨.int i,H,I.tok _,⟨_,rfl⟩,h⟩
theorem qA:PE X (.Constant (.bool b) j a) (tC<|.bl b):=λ_ _ _ H _ I h=>Constant_bool ⟨.bl b,H,I,rfl,h⟩
theorem Wj:PE X (.Constant .none j a) (tC .non):=λ_ _ _ H _ I h=>Constant_none ⟨.non,H,I,rfl,h⟩
theorem cA:PE X (.Constant (.str x) j a) (tC<|.str x):=λ_ _ _ H _ I h=>Calls.Constant_str ⟨.str x,H,I.tok _,⟨_,rfl⟩,h⟩
def Gl(X:Cx)(x:Ξ):Prop:=X.env.kindOf x=γ .globalImplicit
theorem qH(I:Inv X pins b H s)(c:Gl X x)(d:X.mg x=γ u)(h:Q u s)
  (e:(x==("__debug__":Ξ))=false:=by decide):Φ (model X.prog X.w) X.A (eval (.Name x a) X.env) Q E s:=
 nv I.ok.kind c (Calls.loadGlobal_global (by rw[I.ok.glob];exact I.mod.glob.keeps I.bk) d h) e
theorem jH(I:Inv X pins b H s)(c:Gl X x)(d:X.mg x=none)(e:bootBuiltins x=γ u)(h:Q u s)
  (f:x≠"__name__":=by decide) (g:(x==("__debug__":Ξ))=false:=by decide):Φ (model X.prog X.w) X.A (eval (.Name x a) X.env) Q E s:=by
 obtain⟨k,i,j⟩:=I.mod.blt;exact nv I.ok.kind c (Calls.loadGlobal_builtin (by rw[I.ok.glob];exact I.mod.glob.keeps I.bk) d (by rw[I.ok.blt];exact i.keeps I.bk) ((j x f).trans e) h) g
theorem fE(b:Gl X x)(c:X.mg x=γ u)(r:RelV v u)(d:(x==("__debug__":Ξ))=false:=by decide):PE X (.Name x a) (tC v):=
 λ_ _ _ H _ I h=>qH I b c ⟨v,H,I,r,h⟩ d
theorem tQ(b:Gl X x)(c:X.mg x=none)(d:bootBuiltins x=γ u)(r:RelV v u)(e:x≠"__name__":=by decide)(f:(x==("__debug__":Ξ))=false:=by decide):PE X (.Name x a) (tC v):=
 λ_ _ _ H _ I h=>jH I b c d ⟨v,H,I,r,h⟩ e f
variable{a b:Expr}{ta tb:TE}{pos:Pos}
def PC(X:Cx)(f:CmpOp)(a b:Expr)(t:TE):Prop:=
 ∀(pins:ε<|ο×Obj)(s:Ζ)(e:St)(H:Hp)(Q:VK),Inv X pins e H s->t e H Q ->
  Φ (model X.prog X.w) X.A (eval a X.env) (λv c=>Φ (model X.prog X.w) X.A (eval b X.env) (λu d=>Φ (model X.prog X.w) X.A (compareOp f v u) (EP X pins e Q) X.xe d) X.xe c) X.xe s
def tB(t:TE):TT:=λd H Q=>t d H λx e=>∃c,x= .bl c/\Q c e
theorem aJt(h:PC X e a b t)(f:behindInMarks e b=false:=by first|exact nobehind _ (by decide) (by decide)|rfl):PT X (.Compare a [e] [b] pos) (tB t):=by
 intro pins s g H Q I hw;refine r4 (dQ (h pins s g H _ I hw) λv n f=>dQ f λu o i=>dQ i λc p y_=>?_) f;refine q_ λW_=>?_;obtain⟨x,j,k,l,m⟩:=y_;apply W_;obtain⟨d,rfl,q⟩:=m;cases l;exact hF ⟨j,k,q⟩
theorem Ax(h:PE X e t)(c:∀whole,isTrue e X.env whole=(do let v <-whole;standAt e.pos;holding [v]<|truthy v):=by intro _;rfl):PT X e (tB t):=by
 intro pins s f H Q I hw;refine isTrue_plain (dQ (h pins s f H _ I hw) λv l y_=>?_)<|c _;refine q_ λW_=>?_;obtain⟨x,g,i,j,k⟩:=y_;apply W_;obtain⟨d,rfl,q⟩:=k;cases j;exact hF ⟨g,i,q⟩
variable{tA tB':TT}{rest:ε Expr}
def aJc(t u:TT):TT:=λd H Q=>t d H λc e=>if c=true then u d e Q else Q false e
def tOr(t u:TT):TT:=λd H Q=>t d H λc e=>if c=true then Q true e else u d e Q
def aIz(t:TT):TT:=λd H Q=>t d H λc e=>Q (!c) e
theorem Au(d:PT X a tA):PW X (.BoolOp .And [a] pos) tA:=by
 intro g pins s f H Q I h;refine BF<|dQ (d pins s f H Q I h) λc i e=>?_;cases c with
 |true=>exact isTrue_and_nil e
 |false=>exact e
theorem Vu(d:PT X a tA):PW X (.BoolOp .Or [a] pos) tA:=by
 intro g pins s f H Q I h;refine isTrue_or<|dQ (d pins s f H Q I h) λc i e=>?_;cases c with
 |false=>exact isTrue_or_nil e
 |true=>exact e
theorem Av(i:PT X a tA)(j:PW X (.BoolOp .And (b::rest) pos) tB'):PW X (.BoolOp .And (a::b::rest) pos) (aJc tA tB'):=by
 intro k pins s d H Q I h;refine BF<|dQ (i pins s d H _ I h) λc l y_=>?_;obtain⟨e,f,g⟩:=y_;cases c with
 |true=>exact j k pins l d e Q f g
 |false=>exact⟨e,f,g⟩
theorem aGx(i:PT X a tA)(j:PW X (.BoolOp .Or (b::rest) pos) tB'):PW X (.BoolOp .Or (a::b::rest) pos) (tOr tA tB'):=by
 intro k pins s d H Q I h;refine isTrue_or<|dQ (i pins s d H _ I h) λc l y_=>?_;obtain⟨e,f,g⟩:=y_;cases c with
 |true=>exact⟨e,f,g⟩
 |false=>exact j k pins l d e Q f g
theorem Jn(d:PT X a tA):PT X (.UnaryOp .Not a pos) (aIz tA):=by
 intro pins s e H Q I h;exact isTrue_not<|d pins s e H (λc f=>Q (!c) f) I h
def aGs(ta tb:TE):TE:=λd H Q=>ta d H λx e=>∃c,x= .bl c/\if c=true then tb d e Q else Q (.bl false) e
def aGo(ta:TE):TE:=λd H Q=>ta d H λx e=>∃c,x= .bl c/\Q (.bl<|!c) e
theorem Wi(h:PE X a t):PE X (.BoolOp c [a] pos) t:=λpins s d H Q I hw=>BoolOp_one<|h pins s d H Q I hw
theorem Wp(i:PE X a ta)(j:PE X (.BoolOp .And (b::rest) pos) tb):PE X (.BoolOp .And (a::b::rest) pos) (aGs ta tb):=by
 intro pins s e H Q I h;refine BoolOp_and<|dQ (i pins s e H _ I h) λv k y_=>?_;refine q_ λW_=>?_;obtain⟨x,f,g,l,d⟩:=y_;apply W_;obtain⟨c,rfl,d⟩:=d;cases l;refine hF ?_;cases c with
 |true=>exact j pins k e f Q g d
 |false=>exact⟨.bl false,f,g,rfl,d⟩
theorem aKc(e:PE X a ta):PE X (.UnaryOp .Not a pos) (aGo ta):=by
 intro pins s f H Q I h;refine UnaryOp_<|dQ (e pins s f H _ I h) λv k y_=>?_;refine q_ λW_=>?_;obtain⟨x,g,i,j,d⟩:=y_;apply W_;obtain⟨c,rfl,d⟩:=d;cases j;exact not_of<|hF ⟨.bl<|!c,g,i,rfl,d⟩
def tIf(t:TT)(ta tb:TE):TE:=λd H Q=>t d H λc e=>if c=true then ta d e Q else tb d e Q
theorem Wl(k:PT X c tA)(l:PE X a ta)(m:PE X b tb):PE X (.IfExp c a b pos) (tIf tA ta tb):=by
 intro pins s e H Q I h;refine wpAny_IfExp<|dQ (k pins s e H _ I h) λd f y_=>?_;obtain⟨g,i,j⟩:=y_;cases d with
 |true=>exact l pins f e g Q i j
 |false=>exact m pins f e g Q i j
end
def SqL(K:μ)(H:Hp)(a:ο)(c:ε V):Prop:=
 Rd H a (.lst c) \/
  ∃(o:Obj)(b:Array ξ)(n:ν),K.lookup a=γ o/\o.cls= .type "list"/\o.dict=none/\o.data= .seq b n/\b.size<=sizeLine/\Vals c b.toList
def SqT(K:μ)(H:Hp)(a:ο)(c:ε V):Prop:=
 Rd H a (.tup c) \/
  ∃(o:Obj)(b:Array ξ)(n:ν),K.lookup a=γ o/\o.cls= .type "tuple"/\o.data= .seq b n/\b.size<=sizeLine/\Vals c b.toList
noncomputable def aUf:ξ->υ V
 | .none=>γ .non
 | .bool b=>γ<|.bl b
 | .int i _=>γ<|.int i
 | .str x _=>γ<|.str x
 | .bytes b _=>γ<|.byt b
 | .float b _=>γ<|.flt b
 | .ref a=>γ<|.ref a
 | .type n=>γ<|.ty n
 |_=>none
theorem RelV.abs(r:RelV x u):aUf u=γ x:=by
 cases x with
 |non=>cases r;rfl
 |bl _=>cases r;rfl
 |int _=>obtain⟨t,rfl⟩:=r;rfl
 |str _=>obtain⟨t,rfl⟩:=r;rfl
 |byt _=>obtain⟨t,rfl⟩:=r;rfl
 |flt _=>obtain⟨t,rfl⟩:=r;rfl
 |ref _=>cases r;rfl
 |ty _=>cases r;rfl
theorem RelV.inj(r:RelV x u)(q:RelV y u):x=y:=ba<|r.abs.symm.trans q.abs
theorem Vals.inj:∀{a b:ε V}{c:ε ξ},Vals a c->Vals b c->a=b
 |_,_,_,.nil,.nil=>rfl
 |_,_,_,.cons r t,.cons d e=>by rw[r.inj d,Vals.inj t e]
section
variable{X:Cx}{pins:ε (ο×Obj)}{σ:St}{H:Hp}{s:Ζ}{a:ο}{xs ys:ε V}
theorem SqL.of{K:μ}(h:H a=γ (.lst xs)):SqL K H a xs:=.inl<|.inl h
theorem SqT.of{K:μ}(h:H a=γ (.tup xs)):SqT K H a xs:=.inl<|.inl h
theorem Inv.list(I:Inv X pins σ H s)(h:SqL X.K H a xs):∃b:ε ξ,Vals xs b/\PlainL s.heap a b.toArray/\xs.length<=sizeLine:=by
 rcases h with h|⟨o,b,n,c,d,f,g,i,r⟩
 ·obtain⟨z,b,n,r,e⟩:=h.ok I.hok;exact⟨b,r,⟨_,n,e,rfl,rfl,rfl⟩,z⟩
 ·refine⟨b.toList,r,⟨o,n,I.kIn a o c,d,f,by simpa using g⟩,?_⟩;have e:=r.length;simp only[uk]at e;exact 10
theorem Inv.tuple(I:Inv X pins σ H s)(h:SqT X.K H a xs):∃b:ε ξ,Vals xs b/\IsTup s.heap a b.toArray/\xs.length<=sizeLine:=by
 rcases h with h|⟨o,b,n,c,d,f,g,r⟩
 ·obtain⟨z,b,r,p⟩:=h.ok I.hok;exact⟨b,r,p,z⟩
 ·refine⟨b.toList,r,⟨o,I.kIn a o c,d,n,by simpa using f⟩,?_⟩;have e:=r.length;simp only[uk]at e;exact 10
theorem Inv.list_inj(I:Inv X pins σ H s)(h:SqL X.K H a xs)(i:SqL X.K H a ys):xs=ys:=by
 obtain⟨c,r,⟨o,n,e,_,_,d⟩,_⟩:=I.list h;obtain⟨b,j,⟨l,m,f,_,_,g⟩,_⟩:=I.list i;rw[e]at f;cases f;rw[d]at g;injection g with k _
 have:c=b:=by simpa using bt Array.toList k
 subst this;exact r.inj j
end
noncomputable abbrev Cx.wish(X:Cx)(E:ξ->Ζ->Prop):Cx:={X with xe:=E}
noncomputable abbrev Cx.nox(X:Cx):Cx:=X.wish λ_ _=>Ε
theorem Cx.Ok.wish{X:Cx}(ok:X.Ok)(E:ξ->Ζ->Prop):(X.wish E).Ok:=
 ⟨ok.mod,ok.kind,ok.glob,ok.blt,ok.above,ok.inj,ok.has,ok.cab,ok.hd,ok.frames,ok.stk,ok.exf,ok.bs,ok.bsz,ok.noex,ok.exfs,ok.funs,ok.frf⟩
theorem Cx.Ok.unwish{X:Cx}{E:ξ->Ζ->Prop}(ok:(X.wish E).Ok):X.Ok:=
 ⟨ok.mod,ok.kind,ok.glob,ok.blt,ok.above,ok.inj,ok.has,ok.cab,ok.hd,ok.frames,ok.stk,ok.exf,ok.bs,ok.bsz,ok.noex,ok.exfs,ok.funs,ok.frf⟩
section
variable{X:Cx}{pins:ε (ο×Obj)}{σ:St}{H:Hp}{s:Ζ}{E:ξ->Ζ->Prop}
theorem Inv.wish(I:Inv X pins σ H s)(E:ξ->Ζ->Prop):Inv (X.wish E) pins σ H s:=⟨I.ok.wish E,I.os,I.bare,I.base,I.loc,I.cell,I.free,I.freeC,I.pin,I.hok,I.len⟩
theorem Inv.unwish(I:Inv (X.wish E) pins σ H s):Inv X pins σ H s:=⟨I.ok.unwish,I.os,I.bare,I.base,I.loc,I.cell,I.free,I.freeC,I.pin,I.hok,I.len⟩
end
section
variable{X:Cx}{st:Stmt}{rest:ε Stmt}{t u:TS}{e:Expr}{te:TE}{pos:Pos}
def Mh:TS:=λD a H=>D.nx a H
def sV(t u:TS):TS:=λD a H=>t {D with nx:=u D} a H
theorem cR:Df X [] Mh:=λ_ _ a H _ I h=>jf ⟨a,H,I,h⟩
theorem aT(b:PS X st t)(c:Df X rest u):Df X (st::rest) (sV t u):=by
 intro pins s d H D I h;refine qh<|dQ (b pins s d H {D with nx:=u D} I h) λf g q=>?_;cases f with
 |next =>
  obtain⟨a,i,j,q⟩:=q;exact c pins g a i D j q
 |ret v=>exact q
 |brk=>exact q
 |cont=>exact q
theorem bG(a:PS X st t):Df X [st] t:=by
 intro pins s b H D I h;refine qh<|dQ (a pins s b H D I h) λf c q=>?_;cases f with
 |next=>exact jf q
 |ret v=>exact q
 |brk=>exact q
 |cont=>exact q
theorem Inv.quiet(I:Inv X pins a H s):interactive X.env=false:=by simp[interactive,I.ok.kind]
def yJ(te:TE):TS:=λD a H=>te a H λ_ b=>D.nx a b
theorem mV(b:PE X e te)(c:swapsWith e none pos.line X.env=pure false:=by rfl):PS X (.Expr e pos) (yJ te):=by
 intro pins s a H D I h;exact wpAny_Expr_any (dQ (b pins s a H _ I h) λv i ⟨x,d,f,j,g⟩=>⟨a,d,f,g⟩) I.quiet c
def Je(te:TE):TS:=λD a H=>te a H D.rt
theorem dL(b:PE X e te):PS X (.Return (γ e) pos) (Je te):=by
 intro pins s a H D I h;exact wpAny_Return_some<|dQ (b pins s a H _ I h) λv i ⟨x,c,d,f,g⟩=>⟨x,a,c,d,f,g⟩
def aCe(c:TT)(t u:TS):TS:=λD a H=>c a H λb d=>if b=true then t D a d else u D a d
theorem eU(m:PT X c g)(n:Df X a t)(o:Df X b u):PS X (.If c a b pos) (aCe g t u):=by
 intro pins s f H D I h;refine wpAny_If<|dQ (m pins s f H _ I h) λd i y_=>?_;obtain⟨j,k,l⟩:=y_;cases d with
 |true=>exact n pins i f j D k l
 |false=>exact o pins i f j D k l
end
abbrev TG:=V->St->Hp->(St->Hp->Prop)->Prop
abbrev TGs:=ε V->St->Hp->(St->Hp->Prop)->Prop
def PG(X:Cx)(target:Expr)(t:TG):Prop:=
 ∀(pins:ε<|ο×Obj)(s:Ζ)(b:St)(H:Hp)(v:V)(u:ξ)(Q:St->Hp->Prop),Inv X pins b H s->RelV v u->t v b H Q ->
  Φ (model X.prog X.w) X.A (assign target X.env u) (λ_ d=>∃a c,Inv X pins a c d/\Q a c) X.xe s
def PGs(X:Cx)(f:ε Expr)(t:TGs):Prop:=
 ∀(pins:ε<|ο×Obj)(s:Ζ)(b:St)(H:Hp)(c:ε V)(d:ε ξ)(Q:St->Hp->Prop),Inv X pins b H s->Vals c d->t c b H Q ->
  Φ (model X.prog X.w) X.A (assignInOrder ((assignEach f X.env).map (·.2)) d) (λ_ g=>∃a e,Inv X pins a e g/\Q a e) X.xe s
abbrev aNm:=V->V->V->Hp->(Hp->Prop)->Prop
def aRv(X:Cx)(t:aNm):Prop:=
 ∀(pins:ε<|ο×Obj)(s:Ζ)(a:St)(H:Hp)(o i v:V)(b c u:ξ)(Q:Hp->Prop),Inv X pins a H s->RelV o b->RelV i c->RelV v u->t o i v H Q ->
  Φ (model X.prog X.w) X.A (setItem b c u) (λ_ e=>∃d,Inv X pins a d e/\Q d) X.xe s
section
variable{X:Cx}{pos:Pos}
def jV(i:ν):TG:=λv a H Q=>Q (a.set i<|some v) H
theorem tP(a:X.N.Nodup)(b:X.N[i]? =γ x)(c:Loc X.env.scope x)(d:X.fn x=true\/X.env.scope.names.lookup x=γ .local:=by first|exact .inl rfl|exact .inr rfl|assumption):PG X (.Name x pos) (jV i):=by
 intro pins s f H v u Q I r h;exact vf<|kG I a b c r (λg e=>⟨_,H,e,h⟩) d
def aQq:TGs:=λa b H Q=>a=[]/\Q b H
def aHo(t:TG)(u:TGs):TGs:=λb c H Q=>∃v r,b=v::r/\t v c H λa d=>u r a d Q
theorem aDf:PGs X [] aQq:=by
 intro pins s a H b c Q I r h;obtain⟨e,h⟩:=h;subst e;cases r;exact vh ⟨a,H,I,h⟩
theorem Wf(c:PG X e t)(d:PGs X a u)
  (f:(assignEach (e::a) X.env).map (·.2)=assign e X.env::(assignEach a X.env).map (·.2):=by rfl):PGs X (e::a) (aHo t u):=by
 intro pins s g H o p Q I r h;obtain⟨v,q,i,h⟩:=h;subst i;cases r with
 |cons r j=>
  rw[f];refine ny<|dQ (c pins s g H _ _ _ I r h) λ_ k y_=>?_;obtain⟨b,l,m,n⟩:=y_;exact d pins k b l _ _ Q m j n
def aLu(K:μ)(n:ν)(t:TGs):TG:=λv c H Q=>∃a b,v= .ref a/\SqT K H a b/\b.length=n/\t b c H Q
theorem aKa(i:X.calm=true)(h:PGs X c t)
  (j:(assignEach c X.env).length=n:=by rfl) (d:(assignEach c X.env).findIdx? (·.1)=none:=by rfl):PG X (.Tuple c k pos) (aLu X.K n t):=by
 intro pins s f H v u Q I r hw;refine q_ λwv=>?_;obtain⟨a,l,m,p,q,hw⟩:=hw;apply wv;subst m;cases r;obtain⟨w,g,x,B⟩:=I.tuple p;refine assign_Tuple_tuple (I.ok.hd i) x (by simp[j,<-q,g.length]) d λy z=>?_;have A:Inv X pins f H {s with heap:=y}:=I.kept (t':=s.toks) λb o e=>z b o (gq<|bw e) e;exact h pins _ f H l _ Q A (by simpa using g) hw
def aQp(b c:TE)(t:aNm):TG:=λv a H Q=>b a H λo d=>c a d λi e=>t o i v e λf=>Q a f
theorem Wg(f:PE X o d)(g:PE X i e)(j:aRv X t)
  (k:∀v,assign (.Subscript o i pos) X.env v=(do
   let a <-holding [v] (eval o X.env)
   let b <-holding [v,a] (eval i X.env)
   standAt pos
   holding [v,a,b] (setItem a b v)
   release [v,a,b] []):=by intro _;rfl):PG X (.Subscript o i pos) (aQp d e t):=by
 intro pins s c H v u Q I r h;rw[k];refine π<|um<|dQ (f pins s c H _ I h) λa l y_=>?_;refine q_ λW_=>?_;obtain⟨x,m,n,p,q⟩:=y_;apply W_;refine π<|um<|dQ (g pins l c m _ n q) λb w y_=>?_;refine q_ λW_=>?_;obtain⟨y,z,A,B,C⟩:=y_;apply W_;refine π<|p4<|π<|um<|dQ (j pins w c z x y v a b u _ A p B r C) λ_ G y_=>?_;obtain⟨D,E,F⟩:=y_;exact wpAny_release ⟨c,D,E,F⟩
def kW(b:TE)(g:TG):TS:=λD a H=>b a H λx c=>g x a c D.nx
theorem Vz(c:PE X e a)(d:PG X tg g)(f:swapsWithSole [tg] e pos.line X.env=pure false:=by rfl)(hw:swappedStores [tg] e X.env=pure none:=by rfl)
  (i:(assignEach [tg] X.env).map (·.2)=[assign tg X.env]:=by rfl):PS X (.Assign [tg] e pos) (kW a g):=by
 intro pins s b H D I h;refine wpAny_Assign_stores (dQ (c pins s b H _ I h) λv j y_=>?_) f hw;refine q_ λW_=>?_;obtain⟨x,k,l,m,n⟩:=y_;apply W_;rw[i];exact dQ (d pins j b k x v _ l m n) λ_ o q=>q
theorem Vy(b:X.N.Nodup)(c:X.N[i]? =γ x)(d:Loc X.env.scope x)(f:PE X e a)(g:swapsWith e (γ<|.Name x pos') pos.line X.env=pure false:=by rfl)(j:X.fn x=true\/X.env.scope.names.lookup x=γ .local:=by first|exact .inl rfl|exact .inr rfl|assumption):
  PS X (.Assign [.Name x pos'] e pos) (kW a<|jV i):=by
 intro pins s k H D I h;refine vj (dQ (f pins s k H _ I h) λv q y_=>?_) g;refine q_ λW_=>?_;obtain⟨y,l,m,n,o⟩:=y_;apply W_;exact kG m b c d n (λr p=>⟨_,l,p,o⟩) j
def aOp(i j:ν)(b:TA):TS:=λD a H=>b a H λc d=>∃v w,c=[v,w]/\D.nx ((a.set i<|some v).set j<|some w) d
theorem aJu(L:X.calm=true)(C:X.N.Nodup)(M:X.N[i]? =γ x)(N:X.N[j]? =γ y)(t:i≠j)
  (E:X.env.scope.names.lookup x=γ .local) (F:X.env.scope.names.lookup y=γ .local) (O:PA X [a,b] B)
  (hw:swappedStores [.Tuple [.Name x k,.Name y l] n m] (.Tuple [a,b] r c) X.env=pure (γ [x,y]))
  (P:swapsWithSole [.Tuple [.Name x k,.Name y l] n m] (.Tuple [a,b] r c) pos.line X.env=pure false:=by rfl):
  PS X (.Assign [.Tuple [.Name x k,.Name y l] n m] (.Tuple [a,b] r c) pos) (aOp i j B):=by
 intro pins s G H D I h;rw[exec_Assign_arm];refine π<|p4 ?_;rw[P];refine π<|Ψ ?_;rw[χ<|by decide];refine π<|Tuple_<|dQ (O _ pins s G H _ I h) λR d y_=>?_;refine q_ λW_=>?_;obtain⟨vs,J,S,T,u⟩:=y_;apply W_;refine q_ λwv=>?_;obtain⟨v,w,U,u⟩:=u;apply wv;subst U;obtain⟨f,g,rfl,W,z⟩:∃f g,R=[f,g]/\RelV v f/\RelV w g:=by
  cases T with
  |cons p q=>
   cases q with
   |cons Y Z=>
    cases Z;exact⟨_,_,rfl,p,Y⟩
 refine vk ?_ (by show 2<=sizeLine;decide);have I2:Inv X pins G J {d with heap:=d.heap.push {cls:=.type "tuple",data:=.seq [f,g].toArray}}:=S.kept (t':=d.toks) λb o e=>Λ _ e;rw[hw];refine π<|Ψ ?_;show Φ (model X.prog X.w) X.A (do rule "assign.swapped-stores";let items <-unpackItems (.ref d.heap.objs.size) 2 none;assignInOrder [λv=>bindName X.env y v,λv=>bindName X.env x v] items.reverse;pure Flow.next) _ _ _;refine π<|yo<|π<|unpackItems_tuple (items:=#[f,g]) (I.ok.hd L) (zm d.heap _) λh' A=>?_;have I3:=I2.kept (h':=h') (t':=d.toks) λb o e=>A b o (gq<|bw e) e;show Φ _ _ (assignInOrder [λv=>bindName X.env y v,λv=>bindName X.env x v] [g,f]>>=λ_=>pure Flow.next) _ _ _;refine π<|ny<|yp<|kG I3 C N (.inl F) z (λs2 I4=>?_)<|.inr F;refine ny<|yp<|kG I4 C M (.inl E) W (λs3 K=>vh<|Ψ ?_)<|.inr E;rw[List.set_comm _ _<|Ne.symm t]at K;exact⟨_,J,K,u⟩
end
section
variable{X:Cx}{pos:Pos}
def Ua(c:TT)(tb:TS):TS:=λD a H=>∃W:ν->St->Hp->Prop,(∃m,W m a H)/\∀m a H,W m a H ->
 c a H λb e=>if b=true then ∃N:St->Hp->Prop,(∀d f,N d f->∃g,g<m/\W g d f)/\tb {D with nx:=N,ct:=N,bk:=D.nx} a e else D.nx a e
theorem Ev(r:PassesOwn (model X.prog X.w) X.A X.env X.xe)(z:PT X c q)(A:Df X body tb):PS X (.While c body [] pos) (Ua q tb):=by
 intro pins s B H D I h;obtain⟨W,⟨C,E⟩,turn⟩:=h;refine wpAny_While<|codeAny_whileLoop (λn F=>∃e t,Inv X pins e t F/\W n e t) ?_ C ⟨B,H,I,E⟩;intro n G qQ0;refine q_ λwv=>?_;obtain⟨d,u,J,K⟩:=qQ0;apply wv;refine il r<|dQ (z pins G d u _ J<|turn n d u K) λb L y_=>?_;obtain⟨w,x,i⟩:=y_;cases b with
 |true=>
  obtain⟨N,y,i⟩:=i;rw[Α rfl];refine il r<|dQ (A pins L d w _ x i) λf M j=>?_;cases f with
  |next =>
   refine q_ λwv=>?_;obtain⟨a,g,k,l⟩:=j;obtain⟨m,o,p⟩:=y a g l;apply wv;exact⟨m,o,a,g,k,p⟩
  |cont=>
   refine q_ λwv=>?_;obtain⟨a,g,k,l⟩:=j;obtain⟨m,o,p⟩:=y a g l;apply wv;exact⟨m,o,a,g,k,p⟩
  |brk=>exact j
  |ret v=>exact j
 |false=>
  rw[χ ag];exact jf ⟨d,w,x,i⟩
end
structure It where
 go:ν->Hp->Prop
 yld:ν->Hp->V->Hp->Prop
 stop:ν->Hp->Prop
def lI(X:Cx)(pins:ε<|ο×Obj)(H:Hp)(b:ο):Prop:=
 H b=none/\b≠X.env.locals/\b∉X.fs/\(b∈X.ex\/X.s₀.heap.objs.size<=b)/\(∀x c,X.env.cells.lookup x=γ c->c≠b)/\∀p∈X.pn++pins,p.1≠b
theorem Inv.fpOk(I:Inv X pins f H s)(a:s.heap.objs.size<=b)(g:d b=none):lI X pins d b:=by
 refine⟨g,wk<|ah I.lt a,I.nofs a,.inr<|Β I.sz a,λx c e z=>?_,λp h z=>?_⟩
 ·obtain⟨v,q⟩:=I.cell x c e;exact ς (ah q.lt (by rw[z];exact a))<|jy _
 ·exact ς (ah (bw (I.pin p h).1) (by rw[z];exact a))<|jy _
structure Turn(P:Program)(w:gb)(K:μ)(tg:Expr)(J:It)(fp:ε ο)(it:ο)(tn:ν->ei->Prop):Prop where
 mem:it∈fp
 obj:∀i h,tn i h->∀b∈fp,∃o,h.get? b=γ o/\∀v,o.data≠ .cell v
 keep:∀i h h',tn i h->(∀b∈fp,∀o,h.get? b=γ o->h'.get? b=γ o)->tn i h'
 item:∀(X:Cx),X.prog=P->X.w=w->X.K=K->X.calm=true->∀(i:ν)(pins:ε<|ο×Obj)(s:Ζ)(σ:St)(H:Hp)(E:ξ->Ζ->Prop),Inv X pins σ H s->(∀b∈fp,lI X pins H b)->tn i s.heap->J.go i H ->
  Φ (model P w) X.A (pyNext (.ref it)) (λr s1=>∃u,r=γ u/\
   Φ (model P w) X.A (letOwnedTupleGo tg (.ref it) u) (λ_ s2=>∃x H',Inv X pins σ H' s2/\RelV x u/\J.yld i H x H'/\tn (i+1) s2.heap/\∀b∈fp,H' b=none) E s1) E s
 done:∀(X:Cx),X.prog=P->X.w=w->X.K=K->X.calm=true->∀(i:ν)(pins:ε<|ο×Obj)(s:Ζ)(σ:St)(H:Hp)(E:ξ->Ζ->Prop),Inv X pins σ H s->(∀b∈fp,lI X pins H b)->tn i s.heap->J.stop i H ->
  Φ (model P w) X.A (pyNext<|.ref it) (λr s1=>r=none/\Inv X pins σ H s1) E s
 self:∀(A:Around)(i:ν)(s:Ζ)(Q:ξ->Ζ->Prop)(E:ξ->Ζ->Prop),tn i s.heap->Q (.ref it) s->Φ (model P w) A (pyIter<|.ref it) Q E s
abbrev TI:=St->Hp->(It->Hp->Prop)->Prop
def PIE(X:Cx)(pins:ε<|ο×Obj)(h:St)(tg:Expr)(R:It->Hp->Prop)(a:ξ)(d:Ζ):Prop:=
 ∃(e:ο)(f:ε ο)(g:ν->ei->Prop)(J:It)(c:Hp),a= .ref e/\Inv X pins h c d/\Turn X.prog X.w X.K tg J f e g/\g 0 d.heap/\(∀b∈f,lI X pins c b)/\R J c
def PI(X:Cx)(tg iter:Expr)(b:TI):Prop:=
 ∀(pins:ε<|ο×Obj)(s:Ζ)(a:St)(H:Hp)(R:It->Hp->Prop),Inv X pins a H s->b a H R ->
  Φ (model X.prog X.w) X.A (eval iter X.env) (λv c=>Φ (model X.prog X.w) X.A (pyIter v) (PIE X pins a tg R) X.xe c) X.xe s
theorem zO(d:s.heap.get? b=γ o)(e:o.cls= .type n)(f:o.data= .fields c)
  (g:["enumerate","zip","dict_itemiterator","dict_reverseitemiterator","odict_iterator","itertools.zip_longest","itertools.pairwise"].contains n=false) (a:Q () s):Φ M A (letOwnedTupleGo tg (.ref b) u) Q E s:=by
 unfold letOwnedTupleGo;cases tg <;>first
  |exact Ψ a
  | (cases u <;> first
    |exact Ψ a
    | (refine π (wpAny_load d ?_)
       rw[e,f]
       show Φ M A (if (["enumerate","zip","dict_itemiterator","dict_reverseitemiterator","odict_iterator","itertools.zip_longest","itertools.pairwise"].contains n && c[0]? ==γ (rawInt _))=true then _ else _) Q E s
       rw[χ (by intro h;rw[g,Bool.false_and]at h;cases h)]
       exact Ψ a))
def Itl(K:μ)(a:ο):It:=
 ⟨λi H=>∃b x,SqL K H a b/\b[i]? =γ x,λi H x c=>c=H/\∀b,SqL K H a b->b[i]? =γ x,λi H=>∃b,SqL K H a b/\b.length<=i⟩
def Itr(a:τ)(n:ν):It:=⟨λi _=>i<n,λi H x b=>b=H/\x= .int (a+i),λi _=>n<=i⟩
theorem Pu{K:μ}(a f:ο):Turn P w K tg (Itl K a) [f] f (λi h=>h.IsListIter f a i) where
 mem:=by simp
 obj:=λi h st b g=>by
  have e:b=f:=by simpa using g
  subst e;obtain⟨o,e,c,d⟩:=st;exact⟨o,e,λv z=>by rw[d]at z;cases z⟩
 keep:=λi h l st k=>st.at λo e=>k f (by simp) o e
 item:=by
  intro X q hw r L i pins s M H E I m st t;subst q hw r;refine q_ λwv=>?_;obtain⟨N,x,n,y⟩:=t;obtain⟨A,B,p,O⟩:=I.list n;obtain⟨u,R,S⟩:=B.get y;obtain⟨C,D,T,F,G,J⟩:=m f (by simp);apply wv;refine wpAny_pyNext_list_item st p.isList (x:=u) (by simpa using R) λl j U=>?_;have Y:Inv X pins M H {s with heap:=l}:=I.turned (t':=s.toks) (λb o g e=>(U.2 b g).trans e) C D F G J;refine q_ λwv=>?_;obtain⟨o,e,c,d⟩:=id j;apply wv;exact⟨u,rfl,zO (s:={s with heap:=l}) e c d (by decide) ⟨x,H,Y,S,⟨rfl,λys Z=>by rw[I.list_inj Z n];exact y⟩,j,λb g=>(m b g).1⟩⟩
 done:=by
  intro X q hw r L i pins s M H E I m st t;subst q hw r;refine q_ λwv=>?_;obtain⟨N,n,y⟩:=t;obtain⟨A,B,p,O⟩:=I.list n;obtain⟨C,D,T,F,G,J⟩:=m f (by simp);apply wv;have hl:=B.length;exact wpAny_pyNext_list_end (I.ok.hd L) st p.isList (by simp;lia) λl eb=>⟨rfl,I.turned (t':=s.toks) (λb o g e=>eb b o g e) C D F G J⟩
 self:=λ_ _ _ _ _ st h=>wpAny_pyIter_listiter st h
theorem Jb{K:μ}(a:ο)(f:τ)(n:ν):Turn P w K tg (Itr f n) [a] a (λi h=>IsRangeIter h a (f+(i:ν)*1) ((n:τ)-(i:ν)) 1) where
 mem:=by simp
 obj:=λi h st b c=>by
  have e:b=a:=by simpa using c
  subst e
  exact⟨_,st,λv z=>by
   have C:Data.fields _=Data.cell v:=z
   cases C⟩
 keep:=λi h g st k=>k a (by simp) _ st
 item:=by
  intro X l hw m p i pins s B H E I j st q;subst l hw m;refine q_ λwv=>?_;obtain⟨r,u,D,x,y,A⟩:=j a (by simp);apply wv;have W:=AV (prog:=X.prog) (w:=X.w) (I.ok.hd p) a f 1 n;refine W.item i s _ _ q st λv g tk F d G=>?_;obtain⟨t,rfl⟩:=F;have J:Inv X pins B H {s with heap:=g,toks:=tk}:=I.turned (λb o c e=>G b o (by simpa using c) e) r u x y A;refine⟨_,rfl,zO (s:={s with heap:=g,toks:=tk}) (n:="range_iterator") d rfl rfl (by decide) ⟨.int<|f+i,H,J,⟨t,?_⟩,⟨rfl,rfl⟩,d,λb c=>(j b c).1⟩⟩;rw[sh]
 done:=by
  intro X l hw m p i pins s B H E I j st q;subst l hw m;obtain⟨r,u,D,x,y,A⟩:=j a (by simp);exact q0 (I.ok.hd p) st (by have:n<=i:=q;lia) λg L=>⟨rfl,I.turned (t':=s.toks) (λb o c e=>L b o c e) r u x y A⟩
 self:=λ_ _ _ _ _ st h=>rb st h
section
variable{X:Cx}{tg:Expr}
def Of(K:μ)(c:TE):TI:=λd H R=>c d H λx b=>∃a,x= .ref a/\(∃e,SqL K b a e)/\R (Itl K a) b
theorem aDe(g:PE X l f):PI X tg l (Of X.K f):=by
 intro pins s i H R I h;refine dQ (g pins s i H _ I h) λv c y_=>?_;refine q_ λW_=>?_;obtain⟨x,j,d,k,m⟩:=y_;apply W_;obtain⟨a,e,⟨u,n⟩,q⟩:=m;subst e;cases k;obtain⟨r,w,p,y⟩:=d.list n;refine jl p.isList ?_;refine⟨c.heap.objs.size,[c.heap.objs.size],_,_,j,rfl,d.kept (t':=c.toks) λb o e=>Λ _ e,Pu a _,⟨_,aj _ rfl,rfl,rfl⟩,λb t=>?_,q⟩;have e:b=c.heap.objs.size:=by simpa using t
 subst e;exact d.fpOk (Η _)<|d.hok.fresh<|Η _
theorem Et{a c:τ}(I:Inv X pins d H s)(g:-(2^62)<=a)(h:a<2^62)(i:-(2^62)<=c)(j:c<2^62)
  (q:R (Itr a (c-a).toNat) H):Φ (model X.prog X.w) X.A (pyIter<|.ref s.heap.objs.size) (PIE X pins d tg R) E {s with heap:=s.heap.push {cls:=.type "range",data:=.fields #[.int a t,.int c u,.int 1 v]},toks:=tk}:=by
 refine uu (AW ..) (small_one g h i j) ?_;have f:Inv X pins d H {s with heap:=s.heap.push {cls:=.type "range",data:=.fields #[.int a t,.int c u,.int 1 v]},toks:=tk}:=I.kept λb o e=>Λ _ e
 refine⟨(s.heap.push {cls:=.type "range",data:=.fields #[.int a t,.int c u,.int 1 v]}).objs.size,[(s.heap.push {cls:=.type "range",data:=.fields #[.int a t,.int c u,.int 1 v]}).objs.size],_,_,H,rfl,
  f.kept (t':=tk) λb o e=>Λ _ e,Jb _ a (c-a).toNat,?_,λb k=>?_,q⟩
 ·have l:a+((0:ν):τ)*1=a:=by simp
  have m:(((c-a).toNat:ν):τ)-((0:ν):τ)=eu a c 1:=by rw[rangeSize_one];split <;>lia
  show IsRangeIter _ _ (a+((0:ν):τ)*1) ((((c-a).toNat:ν):τ)-((0:ν):τ)) 1;rw[l,m];exact aj _ rfl
 ·have e:b=(s.heap.push {cls:=.type "range",data:=.fields #[.int a t,.int c u,.int 1 v]}).objs.size:=by simpa using k
  subst e;exact f.fpOk (Η _)<|f.hok.fresh<|Η _
def Xy(a:TA):TI:=λb H R=>a b H λc d=>∃j:τ,c=[.int j]/\-(2^62)<=j/\j<2^62/\R (Itr 0 j.toNat) d
def aHm(a:TA):TI:=λb H R=>a b H λc d=>∃i j:τ,c=[.int i,.int j]/\(-(2^62)<=i/\i<2^62/\-(2^62)<=j/\j<2^62)/\R (Itr i (j-i).toNat) d
theorem mY(f:Gl X "range")(g:X.mg "range"=none)(i:PA X [a] d)(k:starEach [a] X.env=[(false,eval a X.env)]:=by rfl):PI X tg (.Call (.Name "range" p) [a] [] b) (Xy d):=by
 intro pins s l H R I h;refine zo<|jH I f g yq<|dj (dQ (i b pins s l H _ I h) λv w y_=>?_) k rfl;refine q_ λW_=>?_;obtain⟨x,y,m,n,c⟩:=y_;apply W_;obtain⟨j,e,c,o,q⟩:=c;subst e;cases n with
 |cons r u=>
  cases u;obtain⟨t,rfl⟩:=r;exact call_range_1 (Et m ‹29› ‹29› c o<|by simpa using q)
theorem Qk(l:Gl X "range")(m:X.mg "range"=none)(n:PA X [a,b] k)(o:starEach [a,b] X.env=[(false,eval a X.env),(false,eval b X.env)]:=by rfl)(d:starEach [b] X.env=[(false,eval b X.env)]:=by rfl):
  PI X tg (.Call (.Name "range" p) [a,b] [] c) (aHm k):=by
 intro pins s u H R I h;refine zo<|jH I l m yq<|dj (dQ (n c pins s u H _ I h) λB C y_=>?_) (by rw[o,d]) (by rw[d];rfl);refine q_ λW_=>?_;obtain⟨D,E,v,w,f⟩:=y_;apply W_;refine q_ λwv=>?_;obtain⟨i,j,e,⟨f,x,y,z⟩,q⟩:=f;apply wv;subst e;cases w with
 |cons r g=>
  cases g with
  |cons A g=>
   cases g;obtain⟨t,rfl⟩:=r;obtain⟨F,rfl⟩:=A;exact call_range_2<|Et v f x y z q
def aJb(f:TI)(g:TG)(tb:TS):TS:=λD a H=>f a H λJ h=>∃W:ν->ν->St->Hp->Prop,(∃m,W 0 m a h)/\∀i m a H,W i m a H ->
 (J.stop i H/\D.nx a H)\/(J.go i H/\∃N:St->Hp->Prop,(∀b c,N b c->∃e,e<m/\W (i+1) e b c)/\∀x c,J.yld i H x c->g x a c λd j=>tb {D with nx:=N,ct:=N,bk:=D.nx} d j)
def uY(a:ε ο)(h:ei):ε (ο×Obj):=a.filterMap λb=>(h.get? b).map λo=>(b,o)
theorem kY(c:b∈a)(e:h.get? b=γ o):(b,o)∈uY a h:=jh.mpr ⟨b,c,by rw[e];rfl⟩
theorem Qp(c:p∈uY a h):p.1∈a/\h.get? p.1=γ p.2:=by
 obtain⟨b,d,e⟩:=jh.mp c;cases q:h.get? b with
 |none=>rw[q]at e;cases e
 |some o=>
  rw[q]at e;have f:(b,o)=p:=ba e;subst f;exact⟨d,q⟩
theorem Inv.pinned(I:Inv X pins c H s)(h:∀b∈a,lI X pins H b)(i:∀b∈a,∃o,s.heap.get? b=γ o/\∀v,o.data≠ .cell v):Inv X (pins++uY a s.heap) c H s:=
 I.pins_of λp j=>(eg.mp j).elim (λz=>I.pin p<|cu _ z) λz=>by
  refine q_ λwv=>?_;obtain⟨f,e⟩:=Qp z;obtain⟨k,l,m,_⟩:=h p.1 f;obtain⟨o,g,d⟩:=i p.1 f;apply wv;rw[e]at g;cases g;exact⟨e,k,l,m,d⟩
theorem Inv.unpinned(I:Inv X (pins++b) a H s):Inv X pins a H s:=I.pins_of λp c=>I.pin p<|cu _<|je _ c
theorem Ay(z:PassesOwn (model X.prog X.w) X.A X.env X.xe)(U:X.calm=true)(hi:PI X tg iter S)(hg:PG X tg g)(c:Df X body tb)
  (hs:∀x,foldedSetIterable iter X.env x=pure x:=by intro _;rfl):PS X (.For tg iter body [] G) (aJb S g tb):=by
 intro pins s Y H D I h;refine wpAny_For (dQ (hi pins s Y H _ I h) λv s1 h1=>dQ h1 λa0 s2 h2=>?_) hs;refine q_ λwv=>?_;obtain⟨it,A,Z,J,H2,e,I2,T,K,f2,W,⟨m0,w0⟩,turn⟩:=h2;apply wv;subst e;have j:∀{t:Hp},(∀b∈A,t b=none)->∀b∈A,lI X pins t b:=λhn b c=>⟨hn b c,(f2 b c).2⟩;refine codeAny_forLoop_any (λn s'=>∃i k t,Inv X pins k t s'/\Z i s'.heap/\(∀b∈A,t b=none)/\W i n k t) ?_ m0 ⟨0,Y,H2,I2,K,λb c=>(f2 b c).1,w0⟩;intro n s3 qQ0;refine q_ λwv=>?_;obtain⟨i,l,F,I3,B,C,w3⟩:=qQ0;apply wv;rcases turn i n l F w3 with⟨stop,qn⟩|⟨go,N,hN,step⟩
 ·refine il z<|dQ (T.done X rfl rfl rfl U i pins s3 l F X.xe I3 (j C) B stop) λr s4 y_=>?_;obtain⟨L,I4⟩:=y_;subst L;exact jf ⟨l,F,I4,qn⟩
 ·refine il z<|dQ (T.item X rfl rfl rfl U i pins s3 l F X.xe I3 (j C) B go) λr s4 y_=>?_;obtain⟨u,L,h4⟩:=y_;subst L;refine il z<|dQ h4 λ_ s5 y_=>?_;refine q_ λW_=>?_;obtain⟨x,H5,I5,r5,y5,y,M⟩:=y_;apply W_;have O:=I5.pinned (j M)<|T.obj _ _ y;refine il z<|dQ (hg _ s5 l H5 x u _ O r5<|step x H5 y5) λ_ s6 y_=>?_;obtain⟨P,H6,I6,q6⟩:=y_;refine il z<|dQ (c _ s6 P H6 _ I6 q6) λf R w=>?_;have again:∀{a:St}{p:Hp},Inv X (pins++uY A s5.heap) a p R->N a p->∃m,m<n/\∃i k t,Inv X pins k t R/\Z i R.heap/\(∀b∈A,t b=none)/\W i m k t:=λ{a p} q E=>by
   obtain⟨m',hm,w7⟩:=hN a p E;refine⟨m',hm,i+1,a,p,q.unpinned,T.keep _ _ _ y λb c o e=>(q.pin (b,o)<|cu _<|cu _<|kY c e).1,λb c=>?_,w7⟩;obtain⟨o,e,d⟩:=T.obj _ _ y b c;exact(q.pin (b,o)<|cu _<|cu _<|kY c e).2.1
  cases f with
  |next=>refine q_ λwv=>?_;obtain⟨a,p,q,E⟩:=w;apply wv;exact again q E
  |cont=>refine q_ λwv=>?_;obtain⟨a,p,q,E⟩:=w;apply wv;exact again q E
  |brk=>refine q_ λwv=>?_;obtain⟨a,p,q,w⟩:=w;apply wv;exact⟨a,p,q.unpinned,w⟩
  |ret v=>refine q_ λwv=>?_;obtain⟨x7,a,p,q,r7,w⟩:=w;apply wv;exact⟨x7,a,p,q.unpinned,r7,w⟩
end
abbrev R2:=V->V->Hp->VK->Prop
def lH(X:Cx)(f:ξ->ξ->Sem ξ)(r:R2):Prop:=
 ∀(pins:ε<|ο×Obj)(s:Ζ)(a:St)(H:Hp)(x y:V)(v u:ξ)(Q:VK),Inv X pins a H s->RelV x v->RelV y u->r x y H Q ->
  Φ (model X.prog X.w) X.A (f v u) (EP X pins a Q) X.xe s
def UnR(X:Cx)(f:ξ->Sem ξ)(r:V->Hp->VK->Prop):Prop:=
 ∀(pins:ε<|ο×Obj)(s:Ζ)(a:St)(H:Hp)(x:V)(v:ξ)(Q:VK),Inv X pins a H s->RelV x v->r x H Q ->
  Φ (model X.prog X.w) X.A (f v) (EP X pins a Q) X.xe s
def gS(X:Cx)(f:ξ)(r:ε V->Hp->VK->Prop):Prop:=
 ∀(pins:ε<|ο×Obj)(s:Ζ)(a:St)(H:Hp)(b:ε V)(c:ε ξ)(Q:VK),Inv X pins a H s->Vals b c->r b H Q ->
  Φ (model X.prog X.w) X.A (call f c) (EP X pins a Q) X.xe s
def wY(r:R2)(b tb:TE):TE:=λa H Q=>b a H λx c=>tb a c λy d=>r x y d Q
def tUn(r:V->Hp->VK->Prop)(a:TE):TE:=λb H Q=>a b H λx c=>r x c Q
def rI(C:τ->τ->Prop)(g:τ->τ->V):R2:=λx y H Q=>∃i j,x= .int i/\y= .int j/\C i j/\Q (g i j) H
def Si(g:τ->τ->V):R2:=λx y H Q=>∃i j,x= .int i/\y= .int j/\Q (g i j) H
def rU(g:τ->V):V->Hp->VK->Prop:=λx H Q=>∃i,x= .int i/\Q (g i) H
section
variable{X:Cx}{a b c:Expr}{ta tb tc:TE}{pos:Pos}
theorem aNi(l:PE X a ta)(m:PE X b tb){R:V->V->Hp->Prop}(I:Inv X pins d H s)
  (h:ta d H λx k=>tb d k λy e=>R x y e)  {f:ξ->ξ->Sem ξ}
  (n:∀v u j x y e,Inv X pins d e j->RelV x v->RelV y u->R x y e->Φ (model X.prog X.w) X.A (f v u) Q X.xe j):
  Φ (model X.prog X.w) X.A (eval a X.env) (λv g=>Φ (model X.prog X.w) X.A (eval b X.env) (λu i=>Φ (model X.prog X.w) X.A (f v u) Q X.xe i) X.xe g) X.xe s:=by
 refine dQ (l pins s d H _ I h) λv o y_=>?_;refine q_ λW_=>?_;obtain⟨x,k,p,q,r⟩:=y_;apply W_;refine dQ (m pins o d k _ p r) λu j y_=>?_;refine q_ λW_=>?_;obtain⟨y,e,t,w,z⟩:=y_;apply W_;exact n v u j x y e t q w z
theorem cP(e:lH X (binaryOp d) r)(f:PE X a ta)(g:PE X b tb):PE X (.BinOp a d b pos) (wY r ta tb):=by
 intro pins s i H Q I h;exact wpAny_BinOp<|aNi f g I h λv u j x y k l m n q=>e pins j i k x y v u Q l m n q
theorem Wh(f:UnR X (unaryOp d) r)(g:PE X a ta):PE X (.UnaryOp d a pos) (tUn r ta):=by
 intro pins s e H Q I h;exact UnaryOp_<|dQ (g pins s e H _ I h) λv i ⟨x,j,k,l,m⟩=>f pins i e j x v Q k l m
theorem nO(f:lH X (inplaceOp e) r)(I:Inv X pins d H s)
  (g:RelV x v) (h:RelV y u) (q:r x y H Q):Φ (model X.prog X.w) X.A (inplaceOp e v u) (EP X pins d Q) X.xe s:=f pins s d H x y v u Q I g h q
theorem opI{g:τ->τ->τ}
  (rule:∀(i j:τ)(t u:ui)(s:Ζ)(Q:ξ->Ζ->Prop)(E:ξ->Ζ->Prop),C i j->Q (.int (g i j) s.toks) {s with toks:=s.toks+1}->Φ (model X.prog X.w) X.A (f (.int i t)<|.int j u) Q E s):
  lH X f (rI C λi j=>.int<|g i j):=by
 intro pins s m H x y v u Q I d e h;refine q_ λwv=>?_;obtain⟨i,j,rfl,rfl,k,q⟩:=h;obtain⟨t,rfl⟩:=d;obtain⟨l,rfl⟩:=e;apply wv;exact rule i j t l s _ _ k ⟨.int<|g i j,H,I.tok _,⟨_,rfl⟩,q⟩
theorem aPp{g:τ->τ->τ}
  (rule:∀(i j:τ)(t u:ui)(s:Ζ)(Q:ξ->Ζ->Prop)(E:ξ->Ζ->Prop),Q (.int (g i j) s.toks) {s with toks:=s.toks+1}->Φ (model X.prog X.w) X.A (f (.int i t)<|.int j u) Q E s):
  lH X f (Si λi j=>.int<|g i j):=by
 intro pins s l H x y v u Q I d e h;refine q_ λwv=>?_;obtain⟨i,j,rfl,rfl,q⟩:=h;obtain⟨t,rfl⟩:=d;obtain⟨k,rfl⟩:=e;apply wv;exact rule i j t k s _ _ ⟨.int<|g i j,H,I.tok _,⟨_,rfl⟩,q⟩
theorem aDn{g:τ->τ->Bool}
  (rule:∀(i j:τ)(t u:ui)(s:Ζ)(Q:ξ->Ζ->Prop)(E:ξ->Ζ->Prop),Q (.bool<|g i j) s->Φ (model X.prog X.w) X.A (f (.int i t)<|.int j u) Q E s):
  lH X f (Si λi j=>.bl<|g i j):=by
 intro pins s l H x y v u Q I d e h;refine q_ λwv=>?_;obtain⟨i,j,rfl,rfl,q⟩:=h;obtain⟨t,rfl⟩:=d;obtain⟨k,rfl⟩:=e;apply wv;exact rule i j t k s _ _ ⟨.bl<|g i j,H,I,rfl,q⟩
def aSh(i j:τ):Prop:=0<=j/\j<=1000000/\i.natAbs<2^64
def CMul(i j:τ):Prop:=(-(2^64)<i/\i<2^64)\/(-(2^64)<j/\j<2^64)
theorem rD:lH X (binaryOp .Add) (Si λi j=>.int<|i+j):=aPp λ_ _ _ _ _ _ _ q=>add_int q
theorem Jp:lH X (binaryOp .Sub) (Si λi j=>.int<|i-j):=aPp λ_ _ _ _ _ _ _ q=>sub_int q
theorem iN:lH X (binaryOp .Mod) (rI (λ_ j=>0<j) λi j=>.int<|i%j):=opI λi j _ _ _ _ _ d q=>by
 have e:(0:τ)<j:=d;exact mod_int' ‹21› (by rw[Int.fmod_eq_emod_of_nonneg i<|‹36›];exact q)
theorem aKg:lH X (binaryOp .Pow) (rI aSh λi j=>.int<|i^j.toNat):=opI λ_ _ _ _ _ _ _ d q=>pow_int_small d.1 d.2.1 d.2.2 q
theorem unI{g:τ->τ}
  (rule:∀(i:τ)(t:ui)(s:Ζ)(Q:ξ->Ζ->Prop)(E:ξ->Ζ->Prop),Q (.int (g i) s.toks) {s with toks:=s.toks+1}->Φ (model X.prog X.w) X.A (f<|.int i t) Q E s):
  UnR X f (rU λi=>.int<|g i):=by
 intro pins s e H x v Q I d h;obtain⟨i,rfl,q⟩:=h;obtain⟨t,rfl⟩:=d;exact rule i t s _ _ ⟨.int<|g i,H,I.tok _,⟨_,rfl⟩,q⟩
theorem Iz:UnR X (unaryOp .USub) (rU λi=>.int<|-i):=unI λ_ _ _ _ _ q=>neg_int q
end
noncomputable def aOx:V->V->Bool
 | .non,.non=>true| .non,.int _=>true| .int _,.non=>true| .non,.bl _=>true| .bl _,.non=>true| .non,.str _=>true| .str _,.non=>true
 | .int _,.int _=>true| .bl _,.bl _=>true| .str _,.str _=>true| .byt _,.byt _=>true
 | .int _,.str _=>true| .str _,.int _=>true| .bl _,.str _=>true| .str _,.bl _=>true
 |_,_=>false
def rEq:R2:=λx y H Q=>aOx x y=true/\Q (.bl<|decide (x=y)) H
def rNe:R2:=λx y H Q=>aOx x y=true/\Q (.bl<|!decide (x=y)) H
theorem Pb:decide (V.int i=V.int j)=(i==j):=by
 rw[ip];simp
theorem Zj:decide (V.bl i=V.bl j)=(i==j):=by
 rw[ip];simp
theorem Pa:decide (V.str i=V.str j)=(i==j):=by
 rw[ip];simp
theorem Pc:decide (V.byt i=V.byt j)=(i.toList==j.toList):=by
 rw[ip];cases i;cases j;simp
section
variable{X:Cx}{a b c:Expr}{ta tb tc:TE}{pos:Pos}
theorem cM(I:Inv X pins d H s)(q:Q (.bl k) H)(e:k=f):EP X pins d Q (.bool f) s:=by
 subst e;exact⟨.bl k,H,I,rfl,q⟩
theorem iQ:lH X (compareOp .Eq) rEq:=by
 intro pins s k H x y v u Q I g d h;obtain⟨f,q⟩:=h;cases x with
 |non=>
  cases g;cases y with
  |non=>cases d;exact EqNone.eq_none_none (cM I q<|by simp)
  |bl j=>cases d;exact EqNone.eq_none_bool (cM I q<|by simp)
  |int j=>obtain⟨e,rfl⟩:=d;exact EqNone.eq_none_int (cM I q<|by simp)
  |str j=>obtain⟨e,rfl⟩:=d;exact EqNone.eq_none_str (cM I q<|by simp)
  |_=>exact ς (show false=true from f) ag
 |bl i=>
  cases g;cases y with
  |non=>cases d;exact EqNone.eq_bool_none (cM I q<|by simp)
  |bl j=>cases d;exact eq_bool<|cM I q Zj
  |str j=>obtain⟨e,rfl⟩:=d;exact By (cM I q<|by simp)
  |_=>exact ς (show false=true from f) ag
 |int i=>
  obtain⟨t,rfl⟩:=g;cases y with
  |non=>cases d;exact EqNone.eq_int_none (cM I q<|by simp)
  |int j=>obtain⟨e,rfl⟩:=d;exact eq_int<|cM I q Pb
  |str j=>obtain⟨e,rfl⟩:=d;exact BG (cM I q<|by simp)
  |_=>exact ς (show false=true from f) ag
 |str i=>
  obtain⟨t,rfl⟩:=g;cases y with
  |non=>cases d;exact EqNone.eq_str_none (cM I q<|by simp)
  |bl j=>cases d;exact BA (cM I q<|by simp)
  |int j=>obtain⟨e,rfl⟩:=d;exact BH (cM I q<|by simp)
  |str j=>obtain⟨e,rfl⟩:=d;exact eq_str<|cM I q Pa
  |_=>exact ς (show false=true from f) ag
 |byt i=>
  obtain⟨t,rfl⟩:=g;cases y with
  |byt j=>obtain⟨e,rfl⟩:=d;exact W.eq_bytes<|cM I q Pc
  |_=>exact ς (show false=true from f) ag
 |_=>cases y <;>exact ς (show false=true from f) ag
theorem Ni:lH X (compareOp .NotEq) rNe:=by
 intro pins s k H x y v u Q I g d h;obtain⟨f,q⟩:=h;cases x with
 |non=>
  cases g;cases y with
  |non=>cases d;exact EqNone.ne_none_none (cM I q<|by simp)
  |bl j=>cases d;exact EqNone.ne_none_bool (cM I q<|by simp)
  |int j=>obtain⟨e,rfl⟩:=d;exact EqNone.ne_none_int (cM I q<|by simp)
  |str j=>obtain⟨e,rfl⟩:=d;exact EqNone.ne_none_str (cM I q<|by simp)
  |_=>exact ς (show false=true from f) ag
 |bl i=>
  cases g;cases y with
  |non=>cases d;exact EqNone.ne_bool_none (cM I q<|by simp)
  |bl j=>cases d;exact ne_bool<|cM I q<|bt not Zj
  |str j=>obtain⟨e,rfl⟩:=d;exact BB (cM I q<|by simp)
  |_=>exact ς (show false=true from f) ag
 |int i=>
  obtain⟨t,rfl⟩:=g;cases y with
  |non=>cases d;exact EqNone.ne_int_none (cM I q<|by simp)
  |int j=>obtain⟨e,rfl⟩:=d;exact ne_int<|cM I q<|bt not Pb
  |str j=>obtain⟨e,rfl⟩:=d;exact BI (cM I q<|by simp)
  |_=>exact ς (show false=true from f) ag
 |str i=>
  obtain⟨t,rfl⟩:=g;cases y with
  |non=>cases d;exact EqNone.ne_str_none (cM I q<|by simp)
  |bl j=>cases d;exact BC (cM I q<|by simp)
  |int j=>obtain⟨e,rfl⟩:=d;exact BJ (cM I q<|by simp)
  |str j=>obtain⟨e,rfl⟩:=d;exact ne_str<|cM I q<|bt not Pa
  |_=>exact ς (show false=true from f) ag
 |byt i=>
  obtain⟨t,rfl⟩:=g;cases y with
  |byt j=>obtain⟨e,rfl⟩:=d;exact W.ne_bytes<|cM I q<|bt not Pc
  |_=>exact ς (show false=true from f) ag
 |_=>cases y <;>exact ς (show false=true from f) ag
theorem Wu:lH X (compareOp .Lt) (Si λi j=>.bl<|decide (i<j)):=aDn λ_ _ _ _ _ _ _ q=>lt_int q
theorem aPn:lH X (compareOp .LtE) (Si λi j=>.bl<|decide (i<=j)):=aDn λ_ _ _ _ _ _ _ q=>le_int q
theorem Wv:lH X (compareOp .Gt) (Si λi j=>.bl<|decide (j<i)):=aDn λ_ _ _ _ _ _ _ q=>gt_int q
theorem aPo:lH X (compareOp .GtE) (Si λi j=>.bl<|decide (j<=i)):=aDn λ_ _ _ _ _ _ _ q=>ge_int q
theorem Qn:lH X (compareOp .In) (λx y H Q=>∃i j,x= .str i/\y= .str j/\Q (.bl<|!(bh j i 0 j.length 1).isEmpty) H):=by
 intro pins s f H x y v u Q I d e h;refine q_ λwv=>?_;obtain⟨i,j,rfl,rfl,q⟩:=h;obtain⟨t,rfl⟩:=d;obtain⟨g,rfl⟩:=e;apply wv;exact in_str<|cM I q rfl
theorem aKi:lH X (compareOp .Is) (λx y H Q=>y= .non/\Q (.bl<|decide (x= .non)) H):=by
 intro pins s f H x y v u Q I d e h;obtain⟨rfl,q⟩:=h;cases e;refine is_none_gen<|cM I q ?_;cases x <;>first
  |(cases d;rfl)
  |(obtain⟨t,rfl⟩:=d;rfl)
theorem Bh:lH X (compareOp .NotIn) (λx y H Q=>∃i j,x= .str i/\y= .str j/\Q (.bl<|!(!(bh j i 0 j.length 1).isEmpty)) H):=by
 intro pins s f H x y v u Q I d e h;refine q_ λwv=>?_;obtain⟨i,j,rfl,rfl,q⟩:=h;obtain⟨t,rfl⟩:=d;obtain⟨g,rfl⟩:=e;apply wv;exact notIn_str<|cM I q rfl
theorem dI(b:Expr)(h:d≠ .In:=by decide)(e:d≠ .NotIn:=by decide):behindInMarks d b=false:=by
 have f:(d==CmpOp.In)=false:=by cases d <;>first|rfl|exact ς rfl h
 have g:(d==CmpOp.NotIn)=false:=by cases d <;>first|rfl|exact ς rfl e
 cases b <;>simp[behindInMarks,f,g]
theorem Nf(e:lH X (compareOp d) r)(f:PE X a ta)(g:PE X b tb)(i:behindInMarks d b=false):PE X (.Compare a [d] [b] pos) (wY r ta tb):=by
 intro pins s j H Q I h;exact wpAny_Compare1 (aNi f g I h λv u k x y l m n o q=>e pins k j l x y v u Q m n o q) i
def Mf(t:TE):TT:=λd H Q=>t d H λx e=>∃k,x= .bl k/\Q k e
theorem cN(g:lH X (compareOp d) r)(i:PE X a ta)(j:PE X b tb)(l:behindInMarks d b=false):PT X (.Compare a [d] [b] pos) (Mf<|wY r ta tb):=by
 intro pins s f H Q I h
 refine r4 (dQ (i pins s f H _ I h) λv m ⟨x,n,o,p,q⟩=>dQ (j pins m f n _ o q) λu t ⟨y,w,A,B,C⟩=>
  dQ (g pins t f w x y v u _ A p B C) λc J ⟨z,D,E,F,k,e,G⟩=>?_) l
 subst e;cases F;exact hF ⟨D,E,G⟩
def Ug(r f:R2)(ta tb tc:TE):TE:=λd H Q=>ta d H λx g=>tb d g λy h=>r x y h λz e=>∃k,z= .bl k/\
 (if k=true then tc d e λi j=>f y i j Q else Q (.bl false) e)
theorem Wo(q:lH X (compareOp i) r)(j:lH X (compareOp f) l)(t:PE X a ta)(w:PE X b tb)(A:PE X c tc)
  (B:lastMarks [i,f] [b,c]=false:=by with_unfolding_all rfl):PE X (.Compare a [i,f] [b,c] pos) (Ug r l ta tb tc):=by
 intro pins s g H Q I h
 refine Compare_chain (dQ (t pins s g H _ I h) λv C ⟨x,D,E,F,G⟩=>chain_link (dQ (w pins C g D _ E G) λu J ⟨y,K,L,m,M⟩=>
  dQ (q pins J g K x y v u _ L F m M) λd N ⟨z,n,o,O,k,e,p⟩=>?_)) B
 subst e;cases O;refine hF ?_;cases k with
 |false=>exact ite_ff ⟨.bl false,n,o,rfl,p⟩
 |true=>exact ite_tt<|chain_last<|dQ (A pins N g n _ o p) λP R ⟨S,T,U,W,Y⟩=>j pins R g T y S u P Q U m W Y
theorem oO:(sizeLine:ν)<2^63:=by rw[AX];decide
theorem cY:lH X (binaryOp .Add) (λx y H Q=>∃i j,x= .str i/\y= .str j/\i.length+j.length<=sizeLine/\Q (.str<|i++j) H):=by
 intro pins s k H x y v u Q I d e h;refine q_ λwv=>?_;obtain⟨i,j,rfl,rfl,f,q⟩:=h;obtain⟨t,rfl⟩:=d;obtain⟨g,rfl⟩:=e;apply wv;exact add_str (λg tk=>⟨.str<|i++j,H,I.tok _,⟨_,rfl⟩,q⟩) f
theorem kD(r:Vals [x] d):∃u,d=[u]/\RelV x u:=by
 cases r with
 |cons e f=>cases f;exact⟨_,rfl,e⟩
theorem uB(r:Vals [x,y] d):∃u e,d=[u,e]/\RelV x u/\RelV y e:=by
 cases r with
 |cons f g=>
  cases g with
  |cons h i=>cases i;exact⟨_,_,rfl,f,h⟩
theorem wT:gS X (.builtin "abs") (λd H Q=>∃i,d=[.int i]/\Q (.int<|if i<0 then -i else i) H):=by
 intro pins s e H d f Q I r h;refine q_ λwv=>?_;obtain⟨i,rfl,q⟩:=h;obtain⟨u,rfl,t,rfl⟩:=kD r;apply wv;exact call_abs_int λu tk=>⟨.int<|if i<0 then -i else i,H,I.tok _,⟨_,rfl⟩,q⟩
theorem Sb(f:X.calm=true):gS X (.builtin "max") (λe H Q=>∃i j,e=[.int i,.int j]/\Q (.int<|if j>i then j else i) H):=by
 intro pins s g H e l Q I r h;refine q_ λwv=>?_;obtain⟨i,j,rfl,q⟩:=h;obtain⟨u,m,rfl,⟨t,rfl⟩,⟨n,rfl⟩⟩:=uB r;apply wv;refine max_two_ints (I.ok.hd f) λo tk k=>⟨_,H,I.kept k,?_,q⟩;by_cases d:j>i
 ·rw[Α d,Α d];exact⟨_,rfl⟩
 ·rw[χ d,χ d];exact⟨_,rfl⟩
theorem Sa(f:X.calm=true):gS X (.builtin "min") (λe H Q=>∃i j,e=[.int i,.int j]/\Q (.int<|if j<i then j else i) H):=by
 intro pins s g H e l Q I r h;refine q_ λwv=>?_;obtain⟨i,j,rfl,q⟩:=h;obtain⟨u,m,rfl,⟨t,rfl⟩,⟨n,rfl⟩⟩:=uB r;apply wv;refine min_two_ints (I.ok.hd f) λo tk k=>⟨_,H,I.kept k,?_,q⟩;by_cases d:j<i
 ·rw[Α d,Α d];exact⟨_,rfl⟩
 ·rw[χ d,χ d];exact⟨_,rfl⟩
theorem gO:gS X (.type "str") (λd H Q=>∃i,d=[.int i]/\i.natAbs.log2<1920/\Q (.str<|toString i) H):=by
 intro pins s f H d g Q I r h;refine q_ λwv=>?_;obtain⟨i,rfl,e,q⟩:=h;obtain⟨u,rfl,t,rfl⟩:=kD r;apply wv;exact BK e ⟨.str _,H,I.tok _,⟨_,rfl⟩,q⟩
end
structure ObjM(h:ei)(x dx C:ο)(mA:Ξ->υ ξ):Prop where
 obj:h.get? x=γ (W.instObj C dx)
 ns:h.Ns1 dx mA
 ne:dx≠x
theorem Qy{h:ei}(n:h.Ns1 c d):∃f,h.get? c=γ f/\∀name,W.lookIn name f=γ (d name):=by
 obtain⟨o,g,r,i,j,k,_,l⟩:=n;refine⟨o,i,λname=>?_⟩;have e:=l name;unfold nsFind findBy at e;rw[<-Array.find?_toList]at e;unfold W.lookIn;rw[j];dsimp only;split
 ·rename_i y q
  rw[q]at e;exact bt γ e
 ·rename_i q
  rw[q]at e;have a:g.toList.any (·.refKey)=false:=by
   rw[List.any_eq_false];intro y m;obtain⟨z,t,b⟩:=k y<|si.mp m;simp[DictEntry.refKey,b]
  have p:¬g.toList.any (·.refKey)=true:=by rw[a];exact ag
  rw[χ p];exact bt γ e
theorem ObjM.look(I:ObjM h x b C c):∃a,W.InstAt h x (W.instObj C b) C (γ a)/\∀name,W.lookIn name a=γ (c name):=
 let⟨a,d,e⟩:=Qy I.ns
 ⟨a,⟨I.obj,rfl,rfl,d⟩,e⟩
section
variable{prog:Program}{w:gb}{A:Around}{E:ξ->Ζ->Prop}{s:Ζ}{K:μ}{x dx C f:ο}{mA:Ξ->υ ξ}{name:Ξ}{v:ξ}
theorem aEt(X:K.In s.heap)(I:ObjM s.heap x dx C mA)(b:W.plainGet K C name=true)(c:W.hasDictIn K C=true)
  (d:W.findIn K (.ref C) name=γ none) (e:mA name=γ v) (a:W.handedIn v=true) (h:Q v {s with toks:=s.toks+1}):
  Φ (model prog w) A (getAttr (.ref x) name expr) Q E s:=by
 obtain⟨i,J,g⟩:=I.look;exact W.get_value X J (uo b).1 (W.findObj_own c d rfl<|by rw[g,e]) a h
theorem Yc(X:K.In s.heap)(I:ObjM s.heap x dx C mA)(a:W.plainGet K C name=true)
  (c:W.findIn K (.ref C) name=γ (γ<|.ref f)) (d:W.isFn K (.ref f)=true) (e:mA name=none) (h:Q (.ref f,[.ref x]) s):
  Φ (model prog w) A (getMethod (.ref x) name b) Q E s:=by
 obtain⟨g,J,i⟩:=I.look;exact W.method_fn X J (uo a).1 (uo a).2 c (iy.mp d) (by show(W.lookIn name g).map (·.isSome)=γ false;rw[i,e];rfl) h
theorem aCs(X:K.In s.heap)(I:ObjM s.heap x dx C mA)
  (m:W.findIn K (.ref C) "__setattr__"=γ (γ<|.builtin "object.__setattr__")) (n:W.plainOver K C=true) (o:W.takerIn K C name=γ none) (p:W.hasDictIn K C=true)
  (hw:Within mA l) (q:l.length<=sizeLine)
  (h:∀e,ObjM e x dx C (λy=>if y=name then γ v else mA y)->SameBut dx s.heap e->Q () {s with heap:=e,toks:=s.toks+2}):
  Φ (model prog w) A (setAttr (.ref x) name v) Q E s:=by
 obtain⟨D,J,F⟩:=I.look;refine W.set_plain X J m<|W.osa_open (s:={s with toks:=s.toks+1}) (r:=none) X J n o λb=>?_;obtain⟨G,t,g⟩:=W.any_some p;have u:s.heap.get? x=γ ⟨.ref C,γ dx,.plain,#[]⟩:=I.obj;refine π<|Ψ<|π<|π<|yr u<|π<|B5 (s:={s with toks:=s.toks+1}) (W.looks_clsIn X t) ?_;rw[g];refine Ψ (a:=γ dx)<|π<|Ψ<|π ?_;refine wpAny_nsSet1 (s:={s with toks:=s.toks+1}) I.ns λe c d=>?_;obtain⟨H,z,B,i,j,k⟩:=c.count<|Within.cons name v hw;refine π<|wpAny_lookBehind i (by rw[j];exact pastItsLine_dict<|Β k (by rw[Ρ];exact 6)) ?_;exact Ψ<|h _ ⟨(d.2 _<|Ne.symm I.ne).trans I.obj,c,I.ne⟩ d
theorem Xl(X:K.In s.heap)(c:W.makesIn K C=true)
  (e:W.findIn K (.ref C) "__init__"=γ (γ<|.ref f)) (i:W.typeIn K (.ref f)=γ (.type "function"))
  (h:codeAny (model prog w) (A.under (.builtin "type.__call__" ⟨.ref C::a,b⟩)) (.call (.ref f) ⟨.ref (s.heap.objs.size+1)::a,b⟩) (W.InitBack (s.heap.objs.size+1) R)
   {s with heap:=(s.heap.push W.emptyDict).push (W.instObj C s.heap.objs.size)}):
  codeAny (model prog w) A (.call (.ref C) ⟨a,b⟩) R s:=by
 obtain⟨j,g,d,t,k⟩:=s;exact W.make_core (W.makes_of X c) (nz X e) (λself=>W.bind_fn X self i) (.inl rfl) h
end
noncomputable def nL(f:Ξ)(v:V):ε (Ξ×V)->ε (Ξ×V)
 |[]=>[(f,v)]
 |(g,x)::r=>if g=f then(g,v)::r else(g,x)::nL f v r
theorem sM(f g:Ξ)(v:V):∀c:ε<|Ξ×V,(nL f v c).lookup g=if g=f then γ v else c.lookup g
 |[]=>by
  show List.lookup g [(f,v)]=_;by_cases h:g=f
  ·have a:(g==f)=true:=iy.mpr h;simp only[List.lookup,a,Α h]
  ·have a:(g==f)=false:=bb.mpr h;simp only[List.lookup,a,χ h]
 |(k,x)::r=>by
  have d:=sM f g v r;rw[show nL f v ((k,x)::r)=(if k=f then(k,v)::r else(k,x)::nL f v r)from rfl];by_cases b:k=f
  ·rw[Α b];by_cases h:g=k
   ·have a:(g==k)=true:=iy.mpr h;simp only[List.lookup,a,Α<|h.trans b]
   ·have a:(g==k)=false:=bb.mpr h;simp only[List.lookup,a,χ λe:g=f=>h<|e.trans b.symm]
  ·rw[χ b];by_cases h:g=k
   ·have a:(g==k)=true:=iy.mpr h;simp only[List.lookup,a,χ λe:g=f=>b<|h.symm.trans e]
   ·have a:(g==k)=false:=bb.mpr h;simp only[List.lookup,a];exact d
theorem rJ(f:Ξ)(v:V):∀a:ε<|Ξ×V,f∈(nL f v a).map (·.1)/\∀g,g∈a.map (·.1)->g∈(nL f v a).map (·.1)
 |[]=>⟨by simp[nL],λg h=>by simp at h⟩
 |(k,x)::r=>by
  obtain⟨c,d⟩:=rJ f v r;rw[show nL f v ((k,x)::r)=(if k=f then(k,v)::r else(k,x)::nL f v r)from rfl];by_cases b:k=f
  ·rw[Α b];subst b;exact⟨by simp,λg h=>by simpa using h⟩
  ·rw[χ b];refine⟨?_,λg h=>?_⟩
   ·rw[ak];exact Θ _ c
   ·rw[ak]at h⊢;rcases Ω.mp h with e|e
    ·exact Ω.mpr<|.inl e
    ·exact Θ _<|d g e
theorem sP(f:Ξ)(v:V):∀a:ε<|Ξ×V,(nL f v a).length<=a.length+1
 |[]=>by simp[nL]
 |(k,x)::r=>by
  have c:=sP f v r;rw[show nL f v ((k,x)::r)=(if k=f then(k,v)::r else(k,x)::nL f v r)from rfl];by_cases b:k=f
  ·rw[Α b,Ρ,Ρ];exact 48
  ·rw[χ b,Ρ,Ρ];exact 48
theorem RelO.some_of(r:RelO (γ v) o):∃u,o=γ u/\RelV v u:=by
 cases o with
 |none=>exact(show Ε from r).elim
 |some u=>exact⟨u,rfl,r⟩
theorem RelO.none_of(r:RelO none o):o=none:=by
 cases o with
 |none=>rfl
 |some u=>exact(show Ε from r).elim
theorem Rn(r:RelV v u):W.handedIn u=true:=by
 cases v with
 |non=>cases (show u=Value.none from r);rfl
 |bl b=>cases (show u=Value.bool b from r);rfl
 |int i=>obtain⟨t,e⟩:=(show ∃t,u=nr i t from r);cases e;rfl
 |str x=>obtain⟨t,e⟩:=(show ∃t,u=Value.str x t from r);cases e;rfl
 |byt b=>obtain⟨t,e⟩:=(show ∃t,u=Value.bytes b t from r);cases e;rfl
 |flt b=>obtain⟨t,e⟩:=(show ∃t,u=Value.float b t from r);cases e;rfl
 |ref a=>cases (show u=aw a from r);rfl
 |ty n=>cases (show u=Value.type n from r);rfl
section
variable{P:Program}{w:gb}{H H':Hp}{h h':ei}{a C dx:ο}{fs fs':ε (Ξ×V)}
theorem tU(c:HOk P w H h)(e:H a=γ (.ins C dx fs)):∃b,ObjM h a dx C b/\(∀f,RelO (fs.lookup f)<|b f)/\Within b (fs.map (·.1))/\fs.length<=1000/\H dx=γ (.own a):=by
 refine q_ λwv=>?_;obtain⟨d,z,g,i,b,n,r,q⟩:=(show ObjOk P w H h a (.ins C dx fs)from c a _ e);apply wv;exact⟨b,⟨i,n,g⟩,r,q,z,d⟩
end
structure Cls(K:μ)(C:ο):Prop where
 pg:W.plainGet K C Str.empty=true
 hd:W.hasDictIn K C=true
 po:W.plainOver K C=true
 sa:W.findIn K (.ref C) "__setattr__"=γ (γ<|.builtin "object.__setattr__")
theorem Cls.get{K:μ}(c:Cls K C)(f:Ξ):W.plainGet K C f=true:=c.pg
def NoAttr(K:μ)(C:ο)(f:Ξ):Prop:=W.findIn K (.ref C) f=γ none
theorem NoAttr.taker{K:μ}(n:NoAttr K C f):W.takerIn K C f=γ none:=by
 unfold W.takerIn;rw[show W.findIn K (.ref C) f=γ none from n];rfl
structure Con(K:μ)(C:ο)(f:Ξ)(v:V)(u:ξ):Prop where
 at_:W.findIn K (.ref C) f=γ (γ u)
 rel:RelV v u
 get:W.specialIn K u "__get__"=γ none
 cp:W.copiedNames.contains f=false
structure Meth(K:μ)(C:ο)(m:Ξ)(f:ο):Prop where
 at_:W.findIn K (.ref C) m=γ (γ<|.ref f)
 fn:W.isFn K (.ref f)=true
 kp:W.keepIn K (.ref f)=true
section
variable{X:Cx}{pins:ε (ο×Obj)}{σ:St}{H:Hp}{s:Ζ}{a C dx:ο}{fs:ε (Ξ×V)}{f:Ξ}{v:V}{A:Around}{E:ξ->Ζ->Prop}
theorem Kh(I:Inv X pins σ H s)(e:H a=γ (.ins C dx fs))(c:Cls X.K C)(n:NoAttr X.K C f)(l:fs.lookup f=γ v)
  (h:∀u d,Inv X pins σ H d->RelV v u->Q u d):Φ (model X.prog X.w) A (getAttr (.ref a) f b) Q E s:=by
 obtain⟨i,O,r,_,_,_⟩:=tU I.hok e;obtain⟨u,j,g⟩:=RelO.some_of (v:=v) (o:=i f) (by rw[<-l];exact r f);exact aEt I.kIn O (c.get f) c.hd n j (Rn g)<|h u _ (I.tok _) g
theorem wE(I:Inv X pins σ H s)(e:H a=γ (.ins C dx fs))(c:Cls X.K C)(k:Meth X.K C m g)(l:fs.lookup m=none)
  (h:Q (.ref g,[.ref a]) s):Φ (model X.prog X.w) A (getMethod (.ref a) m b) Q E s:=by
 obtain⟨d,O,r,_,_,_⟩:=tU I.hok e;have i:d m=none:=RelO.none_of (by rw[<-l];exact r m);exact Yc I.kIn O (c.get m) k.at_ k.fn i h
theorem Jk(I:Inv X pins σ H s)(e:H a=γ (.ins C dx fs))(c:Cls X.K C)(n:NoAttr X.K C f)(J:fs.length<1000)(m:RelV y u)
  (h:∀i,Inv X pins σ (dP H a<|.ins C dx<|nL f y fs) i->Q () i):Φ (model X.prog X.w) A (setAttr (.ref a) f u) Q E s:=by
 obtain⟨j,O,r,k,_,l⟩:=tU I.hok e;have p:(fs.map (·.1)).length<=sizeLine:=by rw[θ,AX];exact 1
 refine aCs I.kIn O c.sa c.po n.taker c.hd k p λt d w=>h _ ?_;have B:∃o,t.get? dx=γ o:=let⟨o,_,_,D,_⟩:=d.ns;⟨o,D⟩
 refine I.write (x:=a) (e:=dx) (by rw[e];exact True.intro) (.inr l) (λb q F z=>(w.2 b F).trans z) B ?_;refine⟨by rw[aV O.ne];exact l,?_,O.ne,d.obj,_,d.ns,λg=>?_,λg G=>?_⟩
 ·have:=sP f y fs;exact 2
 ·show RelO ((nL f y fs).lookup g) (if g=f then γ u else j g);rw[sM];by_cases q:g=f
  ·rw[Α q,Α q];exact m
  ·rw[χ q,χ q];exact r g
 ·by_cases q:g=f
  ·rw[q];exact(rJ f y fs).1
  ·refine(rJ f y fs).2 g<|k g λz=>G ?_;show(if g=f then γ u else j g)=none;rw[χ q];exact z
theorem Inv.made(I:Inv X pins σ H s):Inv X pins σ (dP (dP H s.heap.objs.size<|.own<|s.heap.objs.size+1) (s.heap.objs.size+1)<|.ins C s.heap.objs.size [])
  {s with heap:=(s.heap.push W.emptyDict).push<|W.instObj C s.heap.objs.size}:=by
 have c:(s.heap.push W.emptyDict).get? s.heap.objs.size=γ W.emptyDict:=aj s.heap rfl;have g:((s.heap.push W.emptyDict).push<|W.instObj C s.heap.objs.size).get? (s.heap.objs.size+1)=γ (W.instObj C s.heap.objs.size):=by
  have:=aj (s.heap.push W.emptyDict) (o:=W.instObj C s.heap.objs.size) rfl
  rwa [nt]at this
 have h:(s.heap.push W.emptyDict).Ns s.heap.objs.size (λ_=>none):=⟨W.emptyDict,#[],_,c,rfl,(λe i=>ς i<|by simp),λ_=>rfl⟩;have j:=I.laid (a:=s.heap.objs.size) (o:=.own<|s.heap.objs.size+1) (h':=s.heap.push W.emptyDict) (t':=s.toks) (λb u q=>Λ _ q) (Η _) ⟨_,c⟩;refine j.laid (a:=s.heap.objs.size+1) (o:=.ins C s.heap.objs.size []) (t':=s.toks) (λb u q=>Λ _ q) (AY<|nt _ _) ?_;have d:s.heap.objs.size≠s.heap.objs.size+1:=gq<|rf _;refine⟨by rw[aV d,aZ],hB _,d,g,λ_=>none,(BP h).at λo q=>Λ _ q,λ_=>True.intro,λy k=>ς rfl k⟩
theorem aFv(g:attributeBase e f b (eval e b)=eval e b)
  (h:Φ (model prog w) A (eval e b) (λo c=>Φ (model prog w) A (getAttr o f true) Q E c) E s):Φ (model prog w) A (eval (.Attribute e f d) b) Q E s:=
 Attribute_any_ h (by rw[arm_eval_Attribute,g])
end
def aCf(K:μ)(d:TE)(f:Ξ):TE:=λe H Q=>d e H λx b=>∃a C g c v,x= .ref a/\b a=γ (.ins C g c)/\Cls K C/\NoAttr K C f/\c.lookup f=γ v/\Q v b
def aPb(K:μ)(g h:TE)(f:Ξ):TS:=λD b H=>h b H λy i=>g b i λx d=>∃a C e c,x= .ref a/\d a=γ (.ins C e c)/\Cls K C/\NoAttr K C f/\c.length<1000/\
 D.nx b (dP d a<|.ins C e<|nL f y c)
section
variable{X:Cx}{o e value:Expr}{f:Ξ}{pos pos' tpos:Pos}{ta tv:TE}
theorem Bd(b:PE X e ta)(d:attributeBase e f X.env (eval e X.env)=eval e X.env):PE X (.Attribute e f pos) (aCf X.K ta f):=by
 intro pins s g H Q I h;refine aFv d<|dQ (b pins s g H _ I h) λu t y_=>?_;refine q_ λW_=>?_;obtain⟨x,i,j,k,a,C,w,y,v,ex,m,c,n,l,q⟩:=y_;apply W_;subst ex;obtain rfl:u=aw a:=k;exact Kh j m c n l λz A p r=>⟨v,i,p,r,q⟩
theorem aJv(d:PE X o ta)(g:PE X value tv)(i:swapsWith value (γ<|.Attribute o f pos') pos.line X.env=pure false):PS X (.Assign [.Attribute o f pos'] value pos) (aPb X.K ta tv f):=by
 intro pins s b H D I h;refine plainObj_wpAny_Assign_Attribute (dQ (g pins s b H _ I h) λu j ⟨y,k,m,p,q⟩=>dQ (d pins j b k _ m q) λr B y_=>?_) i;refine q_ λW_=>?_;obtain⟨x,E,t,v,a,C,F,G,ex,w,c,n,l,z⟩:=y_;apply W_;subst ex;obtain rfl:r=aw a:=v;exact Jk t w c n l p λJ A=>⟨b,_,A,z⟩
end
section
variable{X:Cx}{pins:ε (ο×Obj)}{σ:St}{H:Hp}{s:Ζ}{A:Around}{E:ξ->Ζ->Prop}{Q:ξ->Ζ->Prop}{c:ξ}{b:Bool}
inductive TyOf(K:μ)(H:Hp):V->ξ->Prop where
 |non:TyOf K H .non<|.type "NoneType"
 |bl (x:Bool):TyOf K H (.bl x)<|.type "bool"
 |int (i:τ):TyOf K H (.int i)<|.type "int"
 |str (x:Ξ):TyOf K H (.str x)<|.type "str"
 |flt (x:UInt64):TyOf K H (.flt x)<|.type "float"
 |lst {a:ο} {xs:ε V} (e:H a=γ (.lst xs)):TyOf K H (.ref a)<|.type "list"
 |frz {a:ο} {o:Obj} {xs:ε V} (e:H a=γ (.frz o<|.lst xs)):TyOf K H (.ref a)<|.type "list"
 |tup {a:ο} {xs:ε V} (e:H a=γ (.tup xs)):TyOf K H (.ref a)<|.type "tuple"
 |dK {a:ο} {kvs:ε<|fB×V} (e:H a=γ (.dK kvs)):TyOf K H (.ref a)<|.type "dict"
 |dT {a:ο} {kvs:ε<|ε fB×V} (e:H a=γ (.dT kvs)):TyOf K H (.ref a)<|.type "dict"
 | ins {a C dx:ο} {fs:ε (Ξ × V)} (e:H a = γ (.ins C dx fs)) (cl:Cls K C) (ha:W.findIn K (.ref C) "__class__" = γ (γ (.builtin "object.__class__")))
   (hn:W.specialIn K (.builtin "object.__class__") "__get__"=γ (γ<|.builtin "getset_descriptor.__get__")) (htk:W.takesIn K (.builtin "object.__class__")=γ true)
   (hm:W.mroIn K C (.type "object")=γ true):TyOf K H (.ref a)<|.ref C
theorem jC(I:Inv X pins σ H s)(d:RelV x u)(ty:TyOf X.K H x t)(e:W.kitOne X.K t c=γ b)(h:∀tk,Q (.bool b) {s with toks:=tk}):
  Φ (model X.prog X.w) A (call (.builtin "isinstance") [u,c]) Q E s:=by
 cases ty with
 |non=>cases (show u=Value.none from d);exact ia W.kitx_none I.kIn True.intro e (λz=>nomatch z) h
 |bl y=>cases (show u=Value.bool y from d);exact ia W.kitx_bool I.kIn True.intro e (λz=>nomatch z) h
 |int i=>obtain⟨t,q⟩:=(show ∃t,u=nr i t from d);cases q;exact ia W.kitx_int I.kIn True.intro e (λz=>nomatch z) h
 |str y=>obtain⟨t,q⟩:=(show ∃t,u=Value.str y t from d);cases q;exact ia W.kitx_str I.kIn True.intro e (λz=>nomatch z) h
 |flt y=>obtain⟨t,q⟩:=(show ∃t,u=Value.float y t from d);cases q;exact ia W.kitx_float I.kIn True.intro e (λz=>nomatch z) h
 |@lst a k f=>
  cases (show u=aw a from d);obtain⟨_,_,n,_,g⟩:=(show ObjOk X.prog X.w H s.heap a (.lst k)from I.hok a _ f);exact ia xg I.kIn ⟨_,g,rfl⟩ e (λz=>nomatch z) h
 |@frz a v k f=>
  cases (show u=aw a from d);obtain⟨_,_,_,n,_,g⟩:=(show ObjOk X.prog X.w H s.heap a (.frz v<|.lst k)from I.hok a _ f);exact ia xg I.kIn ⟨_,g,rfl⟩ e (λz=>nomatch z) h
 |@tup a k f=>
  cases (show u=aw a from d);obtain⟨_,_,_,p⟩:=(show ObjOk X.prog X.w H s.heap a (.tup k)from I.hok a _ f);obtain⟨o,g,l,_⟩:=p;exact ia zu I.kIn ⟨o,g,l⟩ e (λz=>nomatch z) h
 |@dK a j f=>
  cases (show u=aw a from d);refine q_ λwv=>?_;obtain⟨_,_,K,_,p⟩:=(show ObjOk X.prog X.w H s.heap a (.dK j)from I.hok a _ f);obtain⟨o,w,B,g,l,_⟩:=p;apply wv;exact ia AZ I.kIn ⟨o,g,l.1⟩ e (λz=>nomatch z) h
 |@dT a j f=>
  cases (show u=aw a from d);refine q_ λwv=>?_;obtain⟨_,_,k,_,o,w,B,g,l,_⟩:=(show ObjOk X.prog X.w H s.heap a (.dT j)from I.hok a _ f);apply wv;exact ia AZ I.kIn ⟨o,g,l.1⟩ e (λz=>nomatch z) h
 |@ins a C L M f r D F m G=>
  cases (show u=aw a from d);obtain⟨N,O,_⟩:=tU I.hok f;obtain⟨P,J,_⟩:=O.look;exact ia (W.kitx_own (r.get _) r.hd D F m G) I.kIn J e (λz=>nomatch z) h
end
structure Room(k:ν)(A:Around):Prop where
 hd:A.handled=none
 dp:A.depth+3*k+5<recursionLimit
 un:A.units+16*k+200<cLine
theorem Room.mono(r:Room k A)(h:j<=k):Room j A:=⟨r.hd,by have:=r.dp;lia,by have:=r.un;lia⟩
theorem Room.deeper(r:Room (k+1) A)(a:Env):Room k (A.deeper a):=
 ⟨r.hd,by have:=r.dp;show A.depth+1+3*k+5<_;lia,by have:=r.un;show A.units+3+16*k+200<_;lia⟩
theorem Kb{A:Around}:(A.under<|.builtin "type.__call__" ⟨.ref C::a,b⟩).depth=A.depth+1:=by
 first|rfl|simp[Around.under,Code.weight,Code.isCreation,Code.isGuard,Code.isCaller,Code.frames,Code.isFrame,guardIds]
theorem Ka{A:Around}:(A.under<|.builtin "type.__call__" ⟨.ref C::a,b⟩).units=A.units+1:=by
 first|rfl|simp[Around.under,Code.cUnits,Code.frames,Code.isFrame]
theorem Room.make(r:Room (k+1) A)(C:ο)(a:ε ξ)(b:ε<|Ξ×ξ):Room k (A.under<|.builtin "type.__call__" ⟨.ref C::a,b⟩):=
 ⟨r.hd,by have:=r.dp;rw[Kb];lia,by have:=r.un;rw[Ka];lia⟩
theorem Room.depth(r:Room k A):A.depth<recursionLimit:=by have:=r.dp;lia
theorem Room.units(r:Room k A):A.units+64<cLine:=by have:=r.un;lia
def iS:TA:=λ_ H Q=>Q [] H
def dF(b:TE)(tr:TA):TA:=λa H Q=>b a H λx c=>tr a c λd e=>Q (x::d) e
section
variable{X:Cx}{e:Expr}{es:ε Expr}{te:TE}{t:TA}{pos:Pos}
theorem aS:PA X [] iS:=λ_ _ _ _ H Q I h=>vm ⟨[],H,I,.nil,h⟩
theorem aF(b:PE X e te)(c:PA X es t)(d:starEach (e::es) X.env=(false,eval e X.env)::starEach es X.env:=by rfl):PA X (e::es) (dF te t):=by
 intro pos pins s a H Q I h;rw[d];show Φ _ _ (spliced<|(false,eval e X.env)::backTo pos (starEach es X.env)) _ _ s;refine uv<|dQ (b pins s a H _ I h) λu f y_=>?_;refine q_ λW_=>?_;obtain⟨x,g,i,j,k⟩:=y_;apply W_;exact dQ (c pos pins f a g _ i k) λq r ⟨l,m,n,o,p⟩=>⟨x::l,m,n,.cons j o,p⟩
def aIy(t:TA):TE:=λc H Q=>t c H λa b=>a.length<=sizeLine/\∀p,b p=none->Q (.ref p) (dP b p<|.tup a)
def aOr(t:TA):TE:=λc H Q=>t c H λa b=>a.length<=sizeLine/\∀p,b p=none->Q (.ref p) (dP b p<|.lst a)
theorem rC(h:PA X es t):PE X (.Tuple es f pos) (aIy t):=by
 intro pins s g H Q I i;refine wpAny_Tuple_spliced<|dQ (h pos pins s g H _ I i) λj a ⟨k,c,d,r,z,q⟩=>⟨by rw[<-r.length];exact z,?_⟩;have l:c a.heap.objs.size=none:=d.hok.fresh<|Η _;refine⟨.ref a.heap.objs.size,dP c a.heap.objs.size<|.tup k,d.laid (t':=a.toks) (λb u e=>Λ _ e) (Η _) ?_,rfl,q _ l⟩;exact⟨z,j,r,⟨_,aj _ rfl,rfl,_,rfl⟩⟩
theorem gC(h:PA X es t):PE X (.List es pos) (aOr t):=by
 intro pins s f H Q I g;refine wpAny_List_spliced<|dQ (h pos pins s f H _ I g) λi a ⟨j,c,d,r,z,q⟩=>⟨by rw[<-r.length];exact z,?_⟩;have k:c a.heap.objs.size=none:=d.hok.fresh<|Η _;refine⟨.ref a.heap.objs.size,dP c a.heap.objs.size<|.lst j,d.laid (t':=a.toks) (λb u e=>Λ _ e) (Η _) ?_,rfl,q _ k⟩;exact⟨z,i,0,r,aj _ rfl⟩
end
abbrev Sp:=ε V->Hp->VK->XK->Prop
abbrev Lm:=ε Env->Hp->Ζ->XK->ξ->Ζ->Prop
structure Env0(P:Program)(w:gb)(K:μ)(mg:Ξ->υ ξ)(base:ei)(A:Around)(outer:ε Env)(s:Ζ)(H:Hp):Prop where
 frames:A.frames=γ outer
 mod:Mod K mg base
 bs:∀b o,base.get? b=γ o->s.heap.get? b=γ o/\H b=none
 bsz:base.objs.size<=s.heap.objs.size
 funs:s.heap.FunFrames base outer
 frf:∀b∈nF outer,H b=none
 hok:HOk P w H s.heap
 bare:AllBare s.gens
def CE(outer:ε Env)(P:Program)(w:gb)(H:Hp)(s:Ζ)(Q:VK)(u:ξ)(a:Ζ):Prop:=
 ∃v b,a.os=s.os/\AllBare a.gens/\Un (nF outer) [] H b s.heap a.heap/\HOk P w b a.heap/\RelV v u/\Q v b
def CR(b:Lm)(outer:ε Env)(P:Program)(w:gb)(H:Hp)(s:Ζ)(Q:VK)(E:XK)(r:Result)(a:Ζ):Prop:=
 match r with
 | .ok (.ret u)=>CE outer P w H s Q u a
 | .ok _=>Ε
 | .error e=>b outer H s E e a
structure FnOk(P:Program)(w:gb)(K:μ)(mg:Ξ->υ ξ)(base:ei)(CX:Lm)(k:ν)(f:ο)(fd:FuncData)(ps:ε Ξ)(sp:Sp):Prop where
 len:∀vs H Q E,sp vs H Q E->vs.length=ps.length
 run:∀(A:Around)(outer:ε Env)(s:Ζ)(H:Hp)(args:Args)(us:ε ξ)(vs:ε V)(Q:VK)(E:XK),Room k A->Env0 P w K mg base A outer s H->BindsTo s fd args (ps.zip us)->Vals vs us->sp vs H Q E ->
  codeAny (model P w) A (.call (.ref f) args) (CR CX outer P w H s Q E) s
theorem FnOk.imp{K:μ}(F:FnOk P w K c base d k f e g i)
  (h:∀a H Q E,b a H Q E->i a H Q E):FnOk P w K c base d k f e g b:=
 ⟨λa H Q E q=>F.len a H Q E<|h _ _ _ _ q,λA outer s H args j a Q E l m n o p=>F.run A outer s H args j a Q E l m n o<|h _ _ _ _ p⟩
theorem Env0.make{K:μ}(e:Env0 P w K a base A outer s H)(C:ο)(b:ε ξ)(c:ε<|Ξ×ξ):
  Env0 P w K a base (A.under<|.builtin "type.__call__" ⟨.ref C::b,c⟩) outer s H:=⟨by first|exact e.frames|(simpa[Around.under,Code.envs,Code.isFrame,pushEnvs]using e.frames),e.mod,e.bs,e.bsz,e.funs,e.frf,e.hok,e.bare⟩
section
variable{X:Cx}{pins:ε (ο×Obj)}{σ:St}{H:Hp}{s s':Ζ}
theorem Inv.env0(I:Inv X pins σ H s):Env0 X.prog X.w X.K X.mg X.base X.A X.stack s H:=
 ⟨I.ok.frames,I.ok.mod,I.bs,Β I.ok.bsz I.sz,I.stack,I.stkFree,I.hok,I.bare⟩
theorem Inv.after(I:Inv X pins σ H s)(h:CE X.stack X.prog X.w H s Q u s'):EP X pins σ Q u s':=by
 obtain⟨v,e,f,bare,un,a,r,q⟩:=h;obtain⟨i,g,d,t,c⟩:=s';obtain rfl:c=s.os:=f;exact⟨v,e,I.call (h':=i) (g':=g) (d':=d) (t':=t) (ch:=[]) un a bare λb z=>ς z<|by simp,r,q⟩
end
def iG(b:Sp)(a:ε V)(E:XK)(t:TA):TE:=λc H Q=>t c H λd e=>b (d++a) e Q E
def yI(C:ο)(m:Ξ)(f:Sp)(b:ε V)(E:XK)(g:TE)(t:TA):TE:=λc H Q=>g c H λx d=>∃a h e,x= .ref a/\d a=γ (.ins C h e)/\e.lookup m=none/\
 t c d λi j=>f (x::(i++b)) j Q E
def Ud(C:ο)(d:Sp)(b:ε V)(E:XK)(t:TA):TE:=λe H Q=>t e H λf c=>∀x a,c x=none->c a=none->a≠x ->
 d (.ref x::(f++b)) (dP (dP c a<|.own x) x<|.ins C a []) (λv g=>v= .non/\Q (.ref x) g) E
def Binds(K:μ)(d:FuncData)(b:ε Ξ)(c:ε ξ):Prop:=
 ∀(s:Ζ)(a:ε ξ),K.In s.heap->(a++c).length=b.length->BindsTo s d ⟨a,[]⟩ (b.zip<|a++c)
theorem Binds.all{K:μ}(h:∀a:ε ξ,a.length=b.length->bindArgs c ⟨a,[]⟩=pure (b.zip a)):Binds K c b []:=λs a _ d=>by
 rw[eT]at d⊢;exact .of_eq<|h a d
def iP(b:Lm)(X:Cx)(E:XK):Prop:=∀(pins:ε<|ο×Obj)(c:St)(H:Hp)(s:Ζ)(e:ξ)(a:Ζ),Inv X pins c H s->b X.stack H s E e a->X.xe e a
section
variable{X:Cx}{CX:Lm}{k:ν}{f C:ο}{fd:FuncData}{ps:ε Ξ}{sp:Sp}{dvs:ε V}{ds:ε ξ}{E:XK}{x m:Ξ}{p pos apos:Pos}{e o:Expr}{es:ε Expr}{ta:TE}{t:TA}
theorem Vd(F:FnOk X.prog X.w X.K X.mg X.base CX k f fd ps sp)(d:Room k X.A)(g:Binds X.K fd ps ds)(i:Vals dvs ds)(j:iP CX X E)
  (I:Inv X pins b H s) (r:Vals vs us) (h:sp (vs++dvs) H Q E):Φ (model X.prog X.w) X.A (call (.ref f) us) (EP X pins b Q) X.xe s:=by
 have c:Vals (vs++dvs) (us++ds):=r.append i;have l:(us++ds).length=ps.length:=by rw[<-c.length];exact F.len _ _ _ _ h
 refine yt<|m9 (F.run X.A X.stack s H ⟨us,[]⟩ (us++ds) (vs++dvs) Q E d I.env0 (g s us I.kIn l) c h) λr n a=>?_;cases r with
 |error e=>exact j pins b H s e n I a
 |ok q=>
  cases q with
  |ret u=>exact I.after a
  |next=>exact ee a
  |brk=>exact ee a
  |cont=>exact ee a
theorem aDh(F:FnOk X.prog X.w X.K X.mg X.base CX k f fd ps sp)(d:Room k X.A)(g:Gl X x)(i:X.mg x=γ (.ref f))(j:W.keepIn X.K (.ref f)=true)(l:Binds X.K fd ps ds)(n:Vals dvs ds)(u:iP CX X E)
  (v:PA X (e::es) t) (a:(x==("__debug__":Ξ))=false:=by decide) (w:starEach (e::es) X.env=(false,eval e X.env)::starEach es X.env:=by rfl) (b:(backTo pos<|starEach es X.env).any (·.1)=false:=by rfl):
  PE X (.Call (.Name x p) (e::es) [] pos) (iG sp dvs E t):=by
 intro pins s y H Q I h;refine kh<|qH I g i ?_ a;refine vn (h₀:=X.base) I.ok.mod.kin j (dQ (v pos pins s y H _ I h) λz A ⟨B,D,c,r,q⟩=>⟨c.kIn,?_⟩) w b;exact Vd F d l n u c r q
theorem jS(w:PE X o ta)(c:Cls X.K C)(g:Meth X.K C m f)(F:FnOk X.prog X.w X.K X.mg X.base CX k f fd ps sp)(y:Room k X.A)(z:Binds X.K fd ps ds)(A:Vals dvs ds)(B:iP CX X E)(D:PA X (e::es) t)
  (b:starEach (e::es) X.env=(false,eval e X.env)::starEach es X.env:=by rfl) (d:(backTo pos<|starEach es X.env).any (·.1)=false:=by rfl)
  (G:eval (.Call (.Attribute o m apos) (e::es) [] pos) X.env=(do
   let i <-eval o X.env
   standAt apos.atName
   let(f,first) <-holding [i] (getMethod i m pl)
   callWith pos f first (backTo pos (starEach (e::es) X.env)) (backToKw pos (keywordEach [] X.env))):=by rfl):
  PE X (.Call (.Attribute o m apos) (e::es) [] pos) (yI C m sp dvs E ta t):=by
 intro pins s j H Q I h;refine xt (pl:=pl) (dQ (w pins s j H _ I h) λu J y_=>?_) G;refine q_ λW_=>?_;obtain⟨x,K,n,L,a,O,P,ex,M,l,q⟩:=y_;apply W_;subst ex;obtain rfl:u=aw a:=L;refine wE n M c g l ?_;refine vn (first:=[.ref a]) (h₀:=X.base) I.ok.mod.kin g.kp (dQ (D pos pins J j K _ n q) λus R ⟨vs,S,v,r,N⟩=>⟨v.kIn,?_⟩) b d;exact Vd (us:=.ref a::us) (vs:=.ref a::vs) F y z A B v (.cons rfl r) N
structure Mk(K:μ)(C f:ο):Prop where
 makes:W.makesIn K C=true
 init:W.findIn K (.ref C) "__init__"=γ (γ<|.ref f)
 fn:W.isFn K (.ref f)=true
 kp:W.keepIn K (.ref C)=true
theorem Vc(M:Mk X.K C f)(F:FnOk X.prog X.w X.K X.mg X.base CX k f fd ps sp)(l:Room (k+1) X.A)(n:Binds X.K fd ps ds)(q:Vals dvs ds)
  (w:iP CX X E) (I:Inv X pins d H s) (r:Vals g us)
  (h:∀x b,H x=none->H b=none->b≠x->sp (.ref x::(g++dvs)) (dP (dP H b<|.own x) x<|.ins C b []) (λv y=>v= .non/\Q (.ref x) y) E):
  Φ (model X.prog X.w) X.A (call (.ref C) us) (EP X pins d Q) X.xe s:=by
 have i:=h (s.heap.objs.size+1) s.heap.objs.size (I.hok.fresh<|Nat.le_succ _) (I.hok.fresh<|Η _)<|gq<|rf _;have c:=Inv.made (C:=C) I;have j:Vals (V.ref (s.heap.objs.size+1)::(g++dvs)) (aw (s.heap.objs.size+1)::(us++ds)):=.cons rfl<|r.append q;have z:(aw (s.heap.objs.size+1)::us++ds).length=ps.length:=by
  have e:=j.length;rw[F.len _ _ _ _ i]at e;exact e.symm
 refine yt (Xl (f:=f) I.kIn M.makes M.init (iy.mp M.fn) (m9 (F.run _ X.stack _ _ ⟨aw (s.heap.objs.size+1)::us,[]⟩ (aw (s.heap.objs.size+1)::(us++ds)) _ _ E (l.make C us [])
  (c.env0.make C us []) (n _ (aw (s.heap.objs.size+1)::us) c.kIn z) j i) λr A a=>?_))
 cases r with
 |error e=>exact w pins d _ _ e A c a
 |ok B=>
  cases B with
  |ret u=>
   refine q_ λwv=>?_;obtain⟨v,D,G,J,K,L⟩:=c.after a;apply wv;subst K;exact⟨J,⟨V.ref<|s.heap.objs.size+1,D,G,rfl,L⟩⟩
  |next=>exact ee a
  |brk=>exact ee a
  |cont=>exact ee a
theorem Wk(M:Mk X.K C f)(F:FnOk X.prog X.w X.K X.mg X.base CX k f fd ps sp)(b:Room (k+1) X.A)(c:Gl X x)(d:X.mg x=γ (.ref C))(g:Binds X.K fd ps ds)(i:Vals dvs ds)(j:iP CX X E)
  (a:(x==("__debug__":Ξ))=false:=by decide):PE X (.Call (.Name x p) [] [] pos) (Ud C sp dvs E iS):=by
 intro pins s l H Q I h;refine kh<|qH I c d ?_ a;exact W.callWith_K0 I.kIn M.kp<|Vc (us:=[]) M F b g i j I .nil h
end
section
variable{X:Cx}{CX:Lm}{k:ν}{f C:ο}{fd:FuncData}{ps ks:ε Ξ}{sp:Sp}{E:XK}{x m:Ξ}{p pos apos kpos:Pos}{e o:Expr}{es:ε Expr}{kws:ε Keyword}{te ta:TE}{t tk:TA}{nm:υ Ξ}
structure KBinds(K:μ)(fd:FuncData)(ps ks:ε Ξ)(g:ε ξ->ε ξ->ε ξ)(gV:ε V->ε V->ε V):Prop where
 to:∀(s:Ζ)(us ws:ε ξ),K.In s.heap->(g us ws).length=ps.length->BindsTo s fd ⟨us,ks.zip ws⟩ (ps.zip<|g us ws)
 rel:∀{vs:ε V}{us:ε ξ}{zs:ε V}{ws:ε ξ},Vals vs us->Vals zs ws->Vals (gV vs zs) (g us ws)
variable{g:ε ξ->ε ξ->ε ξ}{gV:ε V->ε V->ε V}
end
structure FnScope(N P:ε Ξ)(sc:Scope):Prop where
 kind:sc.kind= .function
 co:sc.isCoroutine=false
 gen:sc.isGenerator=false
 nd:N.Nodup
 pre:N.take P.length=P
 par:∀x∈P,sc.names.lookup x=γ .local\/sc.names.lookup x=γ .cell
 nofree:∀y∈sc.names,y.2≠ .free
theorem zY{kindOf:Ξ->υ NameKind}:∀{binds:ε<|Ξ×ξ}{m:Ξ->υ ξ},(∀v,(x,v)∉binds)->bindL kindOf binds m x=m x
 |[],_,_=>rfl
 |(n,v)::r,m,h=>by
  unfold bindL;rw[zY λw hw=>h w<|Θ _ hw];split
  ·have:x≠n:=by rintro rfl;exact h v Κ
   simp[this]
  ·rfl
theorem Aa{kindOf:Ξ->υ NameKind}:∀{binds:ε<|Ξ×ξ}{m:Ξ->υ ξ},(∀v,(x,v)∉binds)->bindC kindOf binds m x=m x
 |[],_,_=>rfl
 |(n,v)::r,m,h=>by
  unfold bindC;rw[Aa λw hw=>h w<|Θ _ hw];split
  ·rfl
  ·have:x≠n:=by rintro rfl;exact h v Κ
   simp[this]
theorem zZ{kindOf:Ξ->υ NameKind}:∀{P:ε Ξ}{a:ε ξ}{i:ν}{m:Ξ->υ ξ},P.Nodup->P[i]? =γ x->a[i]? =γ v->kindOf x=γ .local ->
  bindL kindOf (P.zip a) m x=γ v
 |[],_,_,_,_,h,_,_=>by simp at h
 |_::_,[],_,_,_,_,h,_=>by simp at h
 |p::P,w::a,0,m,d,b,c,e=>by
  simp at b c;subst b;subst c;show bindL kindOf ((p,w)::P.zip a) m p=_;unfold bindL;rw[zY λv f=>(ki.mp d).1 (fm f).1,Α e];simp
 |p::P,w::a,i+1,m,d,b,c,e=>by
  show bindL kindOf ((p,w)::P.zip a) m x=_;unfold bindL;exact zZ (i:=i) (ki.mp d).2 (by simpa using b) (by simpa using c) e
theorem Ab{kindOf:Ξ->υ NameKind}:∀{P:ε Ξ}{a:ε ξ}{i:ν}{m:Ξ->υ ξ},P.Nodup->P[i]? =γ x->a[i]? =γ v->kindOf x≠γ .local ->
  bindC kindOf (P.zip a) m x=γ v
 |[],_,_,_,_,h,_,_=>by simp at h
 |_::_,[],_,_,_,_,h,_=>by simp at h
 |p::P,w::a,0,m,d,b,c,e=>by
  simp at b c;subst b;subst c;show bindC kindOf ((p,w)::P.zip a) m p=_;unfold bindC;rw[Aa λv f=>(ki.mp d).1 (fm f).1,χ e];simp
 |p::P,w::a,i+1,m,d,b,c,e=>by
  show bindC kindOf ((p,w)::P.zip a) m x=_;unfold bindC;exact Ab (i:=i) (ki.mp d).2 (by simpa using b) (by simpa using c) e
noncomputable def start(N:ε Ξ)(a:ε V):St:=a.map γ++cg (N.length-a.length) none
noncomputable def oS(c:Lm)(P:Program)(w:gb)(K:μ)(mg:Ξ->υ ξ)(base:ei)(N:ε Ξ)(qual:Ξ)(scope:Scope)(f:ο)(b:ξ)(A:Around)(outer:ε Env)(s:Ζ)(H:Hp)(E:XK):Cx where
 prog:=P
 w:=w
 K:=K
 mg:=mg
 base:=base
 A:=A.deeper<|envOfC qual scope s.heap.objs.size f b
 N:=N
 s₀:=s
 H₀:=H
 env:=envOfC qual scope s.heap.objs.size f b
 outer:=outer
 stack:=envOfC qual scope s.heap.objs.size f b::outer
 ex:=[]
 calm:=true
 fn:=λ_=>true
 pn:=[]
 xe:=λe d=>Φ (model P w) (A.deeper<|envOfC qual scope s.heap.objs.size f b) (leaving (envOfC qual scope s.heap.objs.size f b) e) (λ_ a=>c outer H s E e a) (λg a=>c outer H s E g a) d
theorem Im{a:Scope}(h:a.names.lookup x=γ .cell):∃c,(cellsFrom n a.names []).lookup x=γ c:=by
 have q:=wm a.names n []<|.inl h;exact kz.mp q
theorem Rk{K:μ}
  (S:FnScope N j scope) (R:A.handled=none) (g:Env0 P w K G base A outer s H) (Y:l.length=j.length) (r:Vals l I)
  (x:InCallC s s.heap.objs.size (bindL (envOfC qual scope s.heap.objs.size f C).kindOf (j.zip I) λ_=>none) (cellsFrom (s.heap.objs.size+1) scope.names []) (bindC (envOfC qual scope s.heap.objs.size f C).kindOf (j.zip I) λ_=>none) L):
  Inv (oS J P w K G base N qual scope f C A outer s H E) [] (start N l) H L:=by
 have T:j.length<=N.length:=by have:=bt length S.pre;rw[aA]at this;lia
 obtain⟨D,tk,rfl,M⟩:=x.done;have m:∀b:ο,b∉(oS J P w K G base N qual scope f C A outer s H E).ex:=λb z=>ς (show b∈([]:ε ο)from z) (by simp)
 refine⟨⟨g.mod,S.kind,rfl,rfl,Η _,λy z c D d=>?_,λy o=>?_,λy c _ h=>?_,λ_=>R,Around.frames_deeper g.frames,.inr ⟨rfl,rfl⟩,λb z=>ς z (m b),g.bs,g.bsz,λb _ _=>m b,λb z=>ς z (m b),g.funs,g.frf⟩,
  rfl,g.bare,Un.kept M,⟨_,x.toInCall.ns,λi y v D d Z=>?_⟩,λy c h=>⟨_,x.cell y c h⟩,g.hok.fresh (Η _),λy c h=>?_,λp t=>ς (show p∈([]:ε (ο×Obj))from t) (by simp),g.hok.kept M,?_⟩
 ·exact name_of_addr x.apart (gg D)<|gg d
 ·have o:scope.names.lookup y=γ .cell\/scope.names.lookup y=γ .free:=o;rcases o with o|o
  ·exact Im o
  ·exact ς rfl<|S.nofree _<|gg o
 ·exact bu<|x.above y c<|gg h
 ·have F:i<l.length:=by
   unfold start at d;by_cases F:i<l.length
   ·exact F
   ·rw[bo<|by simpa using F]at d;rw[List.getElem?_replicate]at d;split at d <;>cases d
  have U:l[i]? =γ v:=by
   unfold start at d;rw[dq<|by simpa using F,cw]at d;cases e:l[i]? with
   |none=>rw[e]at d;cases d
   |some a=>rw[e]at d;cases d;rfl
  obtain⟨u,O,X⟩:=r.get U;have t:j[i]? =γ y:=by
   rw[<-S.pre,iz<|‹38›];exact D
  have B:j.Nodup:=by rw[<-S.pre];exact S.nd.sublist<|k6 _ _
  refine⟨u,X,?_⟩;rcases S.par y (ao t)with k|k
  ·exact .inl ⟨k,zZ B t O k⟩
  ·obtain⟨c,e⟩:=Im (n:=s.heap.objs.size+1) k;refine .inr ⟨.inl k,c,e,?_⟩;have q:=x.cell y c e;rw[Ab B t O (by show scope.names.lookup y≠_;rw[k];decide)]at q;exact q
 ·exact g.hok.fresh<|bu<|x.above y c<|gg h
 ·unfold start;show _=N.length;rw[Γ,θ,cf];exact 50
theorem aQs{K:μ}{X kV l Y a ct oc:ξ}
     (lk:K.lookup f=γ ⟨oc,od,.func<|W.fnOf name qual params body scope X kV l Y Z a ct,G⟩) (M:W.codeIn K a qual=true) (S:FnScope N F scope)
  (m:∀c H Q E,L c H Q E->c.length=F.length)
  (h:∀(A:Around)(outer:ε Env)(s:Ζ)(H:Hp)(c:ε V)(Q:VK)(E:XK),Room k (A.deeper (envOfC qual scope s.heap.objs.size f a))->L c H Q E ->
   ∃t,Df (oS C P w K D base N qual scope f a A outer s H E) body t/\t {nx:=λ_ g=>Q .non g,rt:=Q} (start N c) H):
  FnOk P w K D base C (k+1) f (W.fnOf name qual params body scope X kV l Y Z a ct) F L:=by
 refine⟨m,λA outer s H args us c Q E O p hb r z=>?_⟩;have hl:=m _ _ _ _ z;have KX:K.In s.heap:=p.mod.kin.keeps λb o e=>(p.bs b o e).1;have R:s.heap.NoLimit:=p.mod.nolimit.keeps λb o e=>(p.bs b o e).1;have i:∀y∈F.zip us,scope.names.lookup y.1=γ .local\/(scope.names.lookup y.1=γ .cell/\((cellsFrom (s.heap.objs.size+1) scope.names []).lookup y.1).isSome=true):=λ⟨n,v⟩ hy=>by
  rcases S.par n (fm hy).1 with q|q
  ·exact .inl q
  ·exact .inr ⟨q,wm _ _ _<|.inl q⟩
 refine codeAny_call_function O.depth (KX _ _ lk) rfl S.co S.gen rfl (W.codeRec_of KX M)<|hb _ _ _ _ ?_;refine wpAny_newFunctionEnv_cells S.kind i λa0 he s1 x=>?_;subst he;refine⟨R.keeps x.toInCall.keep,codeAny_func ?_⟩;obtain⟨t,ht,hq⟩:=h A outer s H c Q E (O.deeper _) z;have I:Inv (oS C P w K D base N qual scope f a A outer s H E) [] (start N c) H s1:=Rk S O.hd p hl r x;refine ed (ht [] s1 (start N c) H _ I hq) (λfl T j=>?_) λe T j=>j;have B:∀{d:St}{g:Hp}{v:V}{u:ξ},Inv (oS C P w K D base N qual scope f a A outer s H E) [] d g T->RelV v u->Q v g->CE outer P w H s Q u T:=
  λ{d g v u} J U q=>⟨v,g,J.os,J.bare,J.base,J.hok,U,q⟩
 cases fl with
 |ret u=>
  obtain⟨v,d,g,J,U,q⟩:=j;exact B J U q
 |next =>
  obtain⟨d,g,J,q⟩:=j;exact B (v:=V.non) (u:=Value.none) J rfl q
 |brk=>
  obtain⟨_,_,_,q⟩:=j;exact ee q
 |cont=>
  obtain⟨_,_,_,q⟩:=j;exact ee q
section
variable{X:Cx}{x:Ξ}{p pos:Pos}{e:Expr}{es:ε Expr}{t:TA}{id T:String}{r:ε V->Hp->VK->Prop}
def tCB(r:ε V->Hp->VK->Prop)(t:TA):TE:=λa H Q=>t a H λb c=>r b c Q
theorem dH(d:gS X (.builtin id) r)(f:Gl X x)(g:X.mg x=none)(i:bootBuiltins x=γ (.builtin id))(j:PA X (e::es) t)(k:x≠"__name__":=by decide)(a:(x==("__debug__":Ξ))=false:=by decide)
  (l:starEach (e::es) X.env=(false,eval e X.env)::starEach es X.env:=by rfl) (b:(backTo pos<|starEach es X.env).any (·.1)=false:=by rfl):PE X (.Call (.Name x p) (e::es) [] pos) (tCB r t):=by
 intro pins s c H Q I h;refine kh<|jH I f g i ?_ k a;exact wo (dQ (j pos pins s c H _ I h) λm n ⟨o,q,u,v,w⟩=>d pins n c q o m Q u v w) l b
theorem gX(d:gS X (.type T) r)(f:Gl X x)(g:X.mg x=none)(i:bootBuiltins x=γ (.type T))(j:PA X (e::es) t)(k:x≠"__name__":=by decide)(a:(x==("__debug__":Ξ))=false:=by decide)
  (l:starEach (e::es) X.env=(false,eval e X.env)::starEach es X.env:=by rfl) (b:(backTo pos<|starEach es X.env).any (·.1)=false:=by rfl):PE X (.Call (.Name x p) (e::es) [] pos) (tCB r t):=by
 intro pins s c H Q I h;refine kh<|jH I f g i ?_ k a;exact dj (dQ (j pos pins s c H _ I h) λm n ⟨o,q,u,v,w⟩=>d pins n c q o m Q u v w) l b
end
end L2
namespace HT
open PySem PyProof.Rows
section
variable{prog:Program}{w:gb}{A:Around}{E:ξ->Ζ->Prop}{s:Ζ}
noncomputable def sIx(n d:ν):υ τ->ν
 |none=>d
 |some v=>if v<0 then(v+(n:τ)).toNat else min v.toNat n
theorem sIx_none(n d:ν):sIx n d none=d:=rfl
theorem sIx_nat(n d k:ν):sIx n d (γ (k:τ))=min k n:=by
 show(if (k:τ)<0 then((k:τ)+(n:τ)).toNat else min (k:τ).toNat n)=min k n;rw[χ<|by lia,cy]
end
end HT
namespace L2
open PySem PySem.Spec PyProof.Rows
abbrev TO:=St->Hp->(υ τ->Hp->Prop)->Prop
def PO(X:Cx)(e:υ Expr)(t:TO):Prop:=
 ∀(pins:ε<|ο×Obj)(s:Ζ)(a:St)(H:Hp)(Q:υ τ->Hp->Prop),Inv X pins a H s->t a H Q ->
  Φ (model X.prog X.w) X.A (evalPart e X.env) (λu c=>∃o b,Inv X pins a b c/\IsPart u o/\Q o b) X.xe s
def Mg:TO:=λ_ H Q=>Q none H
def aGn(t:TE):TO:=λa H Q=>t a H λx b=>∃i,x= .int i/\Q (γ i) b
section
variable{X:Cx}{e:Expr}{te:TE}{lo hi:υ Expr}{tl th:TO}{pos p2:Pos}
theorem tN:PO X none Mg:=by
 intro pins s a H Q I h;rw[p5];exact Ψ ⟨none,H,I,.none,h⟩
theorem mW(h:PE X e te):PO X (γ e) (aGn te):=by
 intro pins s a H Q I hw;rw[evalPart_some];refine dQ (h pins s a H _ I hw) λu g y_=>?_;refine q_ λW_=>?_;obtain⟨x,b,c,d,f⟩:=y_;apply W_;obtain⟨i,rfl,q⟩:=f;obtain⟨t,rfl⟩:=d;exact⟨γ i,b,c,.int i t,q⟩
def SlR(X:Cx)(r:V->υ τ->υ τ->Hp->VK->Prop):Prop:=
 ∀(pins:ε<|ο×Obj)(s:Ζ)(a:St)(H:Hp)(x:V)(v b c:ξ)(lo hi:υ τ)(d:ο)(Q:VK),Inv X pins a H s->RelV x v->s.heap.IsSliceOf d b c .none->IsPart b lo->IsPart c hi->r x lo hi H Q ->
  ∃T id,typeLookup (.type T) "__getitem__"=pure (γ<|.builtin id)/\s.TypeIs v T/\Φ (model X.prog X.w) X.A (getItem v<|.ref d) (EP X pins a Q) X.xe s
def tSl(r:V->υ τ->υ τ->Hp->VK->Prop)(te:TE)(tl th:TO):TE:=λa H Q=>te a H λx b=>tl a b λl c=>th a c λu d=>r x l u d Q
theorem vB(i:SlR X r)(j:PE X e te)(k:PO X lo tl)(m:PO X hi th):PE X (.Subscript e (.Slice lo hi none p2) pos) (tSl r te tl th):=by
 intro pins s c H Q I h;refine rg<|dQ (j pins s c H _ I h) λv n y_=>?_;refine q_ λW_=>?_;obtain⟨x,o,p,t,w⟩:=y_;apply W_;refine xh<|dQ (k pins n c o _ p w) λd y ⟨l,z,A,B,C⟩=>dQ (m pins y c z _ A C) λf a y_=>?_;refine q_ λW_=>?_;obtain⟨u,g,D,E,F⟩:=y_;apply W_;rw[p5];refine Ψ ?_;have G:Inv X pins c g {a with heap:=a.heap.push {cls:=.type "slice",data:=.fields #[d,f,.none]}}:=D.kept (t':=a.toks) λb M q=>Λ _ q;refine q_ λwv=>?_;obtain⟨T,id,J,K,L⟩:=i pins {a with heap:=a.heap.push {cls:=.type "slice",data:=.fields #[d,f,.none]}} c g x v d f l u a.heap.objs.size Q G t (IsSliceOf.new ..) B E F;apply wv;show Φ (model X.prog X.w) X.A (subscriptTail e (.Slice lo hi none p2) v<|.ref a.heap.objs.size) (EP X pins c Q) X.xe {a with heap:=a.heap.push {cls:=.type "slice",data:=.fields #[d,f,.none]}};exact vo (ops:=[.ref a.heap.objs.size,v]) K J L (by with_unfolding_all rfl)
noncomputable def Lc(a:ε V)(lo hi:υ τ):ε V:=(a.drop<|HT.sIx a.length 0 lo).take<|HT.sIx a.length a.length hi-HT.sIx a.length 0 lo
theorem Il(a:ε V)(lo hi:υ τ):(Lc a lo hi).length<=a.length:=by
 unfold Lc;rw[aA,bx];exact 50
end
noncomputable def Kg(n:ν)(i:τ):υ ν:=if 0<=i then(if i<n then γ i.toNat else none)else if -(n:τ)<=i then γ (i+n).toNat else none
noncomputable def kC{a:Type}(b:ε a)(i:τ):υ a:=(Kg b.length i).bind λj=>b[j]?
theorem Ob(h:Kg n i=γ j):seqIndex? i n=γ j/\j<n/\-(n:τ)<=i/\i<n:=by
 unfold Kg at h;by_cases b:0<=i
 ·rw[Α b]at h;by_cases a:i<n
  ·rw[Α a]at h;have e:i.toNat=j:=ba h;exact⟨by rw[xi b a,e],by lia,by lia,a⟩
  ·rw[χ a]at h;cases h
 ·rw[χ b]at h;by_cases a:-(n:τ)<=i
  ·rw[Α a]at h;have e:(i+n).toNat=j:=ba h;exact⟨by rw[vp (by lia) a,e],by lia,a,by lia⟩
  ·rw[χ a]at h;cases h
theorem De{a:ε b}{v:b}(h:kC a i=γ v):∃j,seqIndex? i a.length=γ j/\a[j]? =γ v/\j<a.length/\-(a.length:τ)<=i/\i<a.length:=by
 unfold kC at h;cases e:Kg a.length i with
 |none=>rw[e]at h;cases h
 |some j=>
  rw[e]at h;obtain⟨c,d,f,g⟩:=Ob e;exact⟨j,c,h,d,f,g⟩
theorem dR{a:ε b}{j:ν}{v:b}(h:a[j]? =γ v):kC a (j:τ)=γ v:=by
 have c:j<a.length:=(ρ.mp h).1;have e:Kg a.length (j:τ)=γ j:=by
  unfold Kg;rw[Α<|‹29›,Α<|‹19›];simp
 unfold kC;rw[e];exact h
def aFz(b:Expr):Prop:=∀o i,subscripted b false o i=operate [o,i] (getItem o i)
def IxR(X:Cx)(r:R2):Prop:=
 ∀(value slice:Expr)(pins:ε<|ο×Obj)(s:Ζ)(a:St)(H:Hp)(x y:V)(v u:ξ)(Q:VK),Inv X pins a H s->RelV x v->RelV y u->r x y H Q ->
  subscripted slice false v u=operate [v,u] (getItem v u)->Φ (model X.prog X.w) X.A (subscriptTail value slice v u) (EP X pins a Q) X.xe s
def MtR(X:Cx)(id:String)(r:V->ε V->Hp->VK->Prop):Prop:=
 ∀(pins:ε<|ο×Obj)(s:Ζ)(a:St)(H:Hp)(x:V)(b:ε V)(v:ξ)(c:ε ξ)(Q:VK),Inv X pins a H s->RelV x v->Vals b c->r x b H Q ->
  Φ (model X.prog X.w) X.A (call (.builtin id)<|v::c) (EP X pins a Q) X.xe s
section
variable{X:Cx}{a b:Expr}{ta tb:TE}{pos:Pos}
theorem nV(c:IxR X r)(d:PE X a ta)(e:PE X b tb)(f:aFz b):PE X (.Subscript a b pos) (wY r ta tb):=by
 intro pins s g H Q I h;exact rg<|aNi d e I h λv u i x y j k l m q=>c a b pins i g j x y v u Q k l m q<|f _ _
def aCx(K:μ):R2:=λx y H Q=>∃p c i v,x= .ref p/\y= .int i/\SqL K H p c/\kC c i=γ v/\Q v H
def Jm(K:μ):R2:=λx y H Q=>∃p c i v,x= .ref p/\y= .int i/\SqT K H p c/\kC c i=γ v/\Q v H
def aPg:R2:=λx y H Q=>∃z i c,x= .str z/\y= .int i/\z.length<=sizeLine/\kC z.cps.toList i=γ c/\Q (.str ⟨#[c]⟩) H
theorem aEm:IxR X (aCx X.K):=by
 intro value slice pins s l H x y v u Q I A B h m;refine q_ λwv=>?_;obtain⟨p,L,i,z,rfl,rfl,C,D,q⟩:=h;apply wv;cases A;refine q_ λwv=>?_;obtain⟨t,rfl⟩:=B;obtain⟨e,r,f,M⟩:=I.list C;obtain⟨j,d,E,N,F,G⟩:=De D;obtain⟨w,n,g⟩:=r.get E;apply wv;have J:=r.length;have O:=oO;have c:EP X pins l Q w s:=⟨z,H,I,g,q⟩;by_cases o:0<=i
 ·have k:i.toNat=j:=by
   rw[xi o G]at d;exact ba d
  exact item_listR f.isList o (by lia) (by rw[k];simpa using n) c m
 ·have k:(i+(e.toArray.size:τ)).toNat=j:=by
   rw[vp (by lia) F]at d;rw[ae,<-J];exact ba d
  exact rh (x:=w) f.isList.typeIs slot_list_getitem.lookup
   (wpAny_getItem_list_neg (Q:=λr K=>r=w/\EP X pins l Q r K) f.isList (by lia) (by rw[ae] <;>lia) (by lia) (by rw[k];simpa using n) ⟨rfl,c⟩) m
theorem aLh:IxR X (Jm X.K):=by
 intro value slice pins s e H x y v u Q I g k h l;refine q_ λwv=>?_;obtain⟨p,F,i,z,rfl,rfl,m,n,q⟩:=h;apply wv;cases g;refine q_ λwv=>?_;obtain⟨t,rfl⟩:=k;obtain⟨o,r,f,G⟩:=I.tuple m;obtain⟨j,A,B,J,K,L⟩:=De n;obtain⟨w,C,c⟩:=r.get B;apply wv;have D:=r.length;have M:=oO;have d:EP X pins e Q w s:=⟨z,H,I,c,q⟩;exact rh (x:=w) f.typeIs slot_tuple_getitem.lookup
  (getItem_tuple (j:=j) (Q:=λr E=>r=w/\EP X pins e Q r E) f (by lia) (by lia) (by rw[ae,<-D];exact A) (by simpa using C) ⟨rfl,d⟩) l
theorem aLj:IxR X aPg:=by
 intro value slice pins s w H x y v u Q I e f h g;refine q_ λwv=>?_;obtain⟨z,i,c,rfl,rfl,A,k,q⟩:=h;obtain⟨t,rfl⟩:=e;obtain⟨B,rfl⟩:=f;obtain⟨j,d,l,C,m,n⟩:=De k;apply wv;have o:z.cps.toList.length=z.length:=by simp[Str.length]
 rw[o]at d m n;have D:=oO
 exact vo (kj s z t) slot_str_getitem.lookup (getItem_str (c:=c) (by
  have p:decide (i< -(2^63:τ))=false:=Τ (by lia)
  have r:decide (i>=2^63)=false:=Τ (by lia)
  rw[p,r,Bool.or_false]) (by rw[d];simpa using l) ⟨.str ⟨#[c]⟩,H,I.tok _,⟨_,rfl⟩,q⟩) g
theorem Jz(c:ε ξ)(n j:ν)(u:ξ):Obj.mapSeq (·.setIfInBounds j u) {cls:=.type "list",data:=.seq c.toArray n}={cls:=.type "list",data:=.seq (c.set j u).toArray n}:=by
 simp[Obj.mapSeq]
theorem Inv.lst(I:Inv X pins f H s)(h:H p=γ (.lst d)):
  ∃(c:ε ξ)(n:ν),Vals d c/\s.heap.get? p=γ {cls:=.type "list",data:=.seq c.toArray n}/\d.length<=sizeLine:=by
 obtain⟨z,c,n,r,e⟩:=I.hok p _ h;exact⟨c,n,r,e,z⟩
theorem Inv.lstUpd{d c:ε ξ}(I:Inv X pins j H s)(h:H p=γ (.lst l))
  (m:s.heap.get? p=γ {cls:=.type "list",data:=.seq d.toArray n}) (k:f {cls:=.type "list",data:=.seq d.toArray n}={cls:=.type "list",data:=.seq c.toArray i}) (r:Vals g c) (o:g.length<=sizeLine) (t:ν):
  Inv X pins j (dP H p<|.lst g) {s with heap:=s.heap.update p f,toks:=t}:=by
 have e:(s.heap.update p f).get? p=γ {cls:=.type "list",data:=.seq c.toArray i}:=by
  rw[qi f m (by rw[k] <;>rfl),k]
 refine I.write (x:=p) (e:=p) (by rw[h];trivial) (.inl rfl) (λb u v q=>(k8 _ _<|Ne.symm v).trans q) ⟨_,e⟩ ?_;exact⟨o,c,i,r,e⟩
def aGv:V->V->V->Hp->(Hp->Prop)->Prop:=λo i v H Q=>∃p c k j,o= .ref p/\i= .int k/\H p=γ (.lst c)/\Kg c.length k=γ j/\Q (dP H p<|.lst<|c.set j v)
theorem El:aRv X aGv:=by
 intro pins s z H o i v G J u Q I A B C h;refine q_ λwv=>?_;obtain⟨p,D,k,j,rfl,rfl,l,E,q⟩:=h;apply wv;cases A;refine q_ λwv=>?_;obtain⟨t,rfl⟩:=B;obtain⟨c,n,r,e,F⟩:=I.lst l;obtain⟨d,K,m,w⟩:=Ob E;apply wv;have f:=r.length;have L:=oO;have x:Inv X pins z (dP H p<|.lst<|D.set j v) {s with heap:=s.heap.update p<|Obj.mapSeq (·.setIfInBounds j u)}:=
  I.lstUpd l e (Jz c n j u) (r.set C j) (by rw[ib];exact F) s.toks
 by_cases y:0<=k
 ·have g:k.toNat=j:=by
   rw[xi y w]at d;exact ba d
  exact W.ki_setAt e y (by lia) (by rw[ae,<-f];exact w) (by rw[g];exact⟨_,x,q⟩)
 ·have g:(k+(c.toArray.size:τ)).toNat=j:=by
   rw[vp (by lia) m]at d;rw[ae,<-f];exact ba d
  exact W.ki_setBack e (by lia) (by rw[ae,<-f];exact m) (by lia) (by rw[g];exact⟨_,x,q⟩)
theorem Ah(c d:υ τ)(n:ν):(sliceBounds c d none n).1=((HT.sIx n 0 c:ν):τ)/\(sliceBounds c d none n).2.1=((HT.sIx n n d:ν):τ)/\(sliceBounds c d none n).2.2=1:=by
 refine⟨?_,?_,rfl⟩
 ·cases c with
  |none=>simp[sliceBounds,HT.sIx]
  |some i=>
   simp only[sliceBounds,HT.sIx,wq,show(1:τ)>0 by decide,jz];by_cases h:i<0
   ·simp only[h,jz] <;>lia
   ·simp only[h,sj] <;>lia
 ·cases d with
  |none=>simp[sliceBounds,HT.sIx]
  |some i=>
   simp only[sliceBounds,HT.sIx,wq,show(1:τ)>0 by decide,jz];by_cases h:i<0
   ·simp only[h,jz] <;>lia
   ·simp only[h,sj] <;>lia
theorem xA(c:ε ξ)(d e:υ τ):slicePick c.toArray d e none=((c.drop<|HT.sIx c.length 0 d).take<|HT.sIx c.length c.length e-HT.sIx c.length 0 d).toArray:=by
 obtain⟨f,g,h⟩:=Ah d e c.toArray.size;unfold slicePick;rw[f,g,h];simp only[sliceRange_one,pick_run,ae] <;>rfl
def aJs(K:μ):V->υ τ->υ τ->Hp->VK->Prop:=λx d e H Q=>∃a c,x= .ref a/\SqL K H a c/\∀p,H p=none->Q (.ref p) (dP H p<|.lst<|Lc c d e)
theorem aCn:SlR X (aJs X.K):=by
 intro pins s p H x v t u d e w Q I g i j k h;refine q_ λwv=>?_;obtain⟨a,c,rfl,l,q⟩:=h;apply wv;cases g;obtain⟨m,r,f,n⟩:=I.list l;have hlen:=r.length;refine⟨"list",_,slot_list_getitem.lookup,f.isList.typeIs,?_⟩;refine j8 f.isList i j k .none (by simp) ?_ (by rw[ae] <;>lia);rw[xA,<-hlen];refine⟨.ref s.heap.objs.size,_,I.laid (t':=s.toks) (o:=.lst<|Lc c d e) (λb y q=>Λ _ q) (Η _) ?_,rfl,q _<|I.hok.fresh<|Η _⟩;exact⟨Β (Il c d e) n,_,0,(r.drop<|HT.sIx c.length 0 d).take<|HT.sIx c.length c.length e-HT.sIx c.length 0 d,aj _ rfl⟩
theorem Cz:gS X (.builtin "len") (λi H Q=>∃p c,i=[.ref p]/\(SqL X.K H p c\/SqT X.K H p c)/\Q (.int c.length) H):=by
 intro pins s l H i m Q I r h;refine q_ λwv=>?_;obtain⟨p,c,rfl,d,q⟩:=h;obtain⟨u,rfl,j⟩:=kD r;apply wv;cases j;have n:=oO;rcases d with d|d
 ·obtain⟨e,f,g,k⟩:=I.list d;have hlen:=f.length;exact Calls.call_len_list g.isList (by simp only[ae] <;>lia) ⟨.int c.length,H,I.tok _,⟨s.toks+1,by rw[ae,hlen]⟩,q⟩
 ·obtain⟨e,f,g,k⟩:=I.tuple d;have hlen:=f.length;exact len_tuple g (by simp only[ae] <;>lia) ⟨.int c.length,H,I.tok _,⟨s.toks+1,by rw[ae,hlen]⟩,q⟩
theorem Cy:gS X (.builtin "len") (λc H Q=>∃z,c=[.str z]/\z.length<=sizeLine/\Q (.int z.length) H):=by
 intro pins s d H c e Q I r h;refine q_ λwv=>?_;obtain⟨z,rfl,f,q⟩:=h;obtain⟨u,rfl,t,rfl⟩:=kD r;apply wv;have g:=oO;exact len_str (by lia) ⟨.int z.length,H,I.tok _,⟨_,rfl⟩,q⟩
theorem Cw:gS X (.type "list") (λz H Q=>∃p f,z=[.ref p]/\(SqL X.K H p f\/SqT X.K H p f)/\∀l,H l=none->Q (.ref l) (dP H l<|.lst f)):=by
 intro pins s B H z D Q I r h;refine q_ λwv=>?_;obtain⟨p,f,rfl,j,q⟩:=h;obtain⟨u,rfl,C⟩:=kD r;apply wv;cases C;have k:∀(c:ε ξ),Vals f c->f.length<=sizeLine->∀(d:ei)(g:ν),(∀b A,s.heap.get? b=γ A->d.get? b=γ A) ->
   d.get? s.heap.objs.size=γ {cls:=.type "list",dict:=none,data:=.seq c.toArray g,slots:=#[]}->EP X pins B Q (.ref s.heap.objs.size) {s with heap:=d}:=λc i m d g t e=>
  ⟨.ref s.heap.objs.size,_,I.laid (t':=s.toks) t (Η _)<|show ObjOk X.prog X.w _ d _ (.lst f)from⟨m,c,g,i,e⟩,rfl,q _<|I.hok.fresh<|Η _⟩
 rcases j with j|j
 ·refine q_ λwv=>?_;obtain⟨c,i,v,m⟩:=I.list j;have hlen:=i.length;obtain⟨o,w,x,n,y⟩:=v.isList;apply wv;exact zf p (.inl rfl) w x y (λd g t e=>k c i m d g t e) (by simp only[ae] <;>lia)
 ·refine q_ λwv=>?_;obtain⟨c,i,v,m⟩:=I.tuple j;have hlen:=i.length;obtain⟨o,w,x,n,y⟩:=v;apply wv;exact zf p (.inr rfl) w x y (λd g t e=>k c i m d g t e) (by simp only[ae] <;>lia)
def tyV(K:μ)(T:String)(x:V)(H:Hp):Prop:=match x with
 | .str _=>T="str"
 | .int _=>T="int"
 | .ref p=>(T = "list"/\∃ d,SqL K H p d)\/(T = "tuple"/\∃ o,K.lookup p = γ o/\o.cls = .type "tuple"/\o.dict = none) \/
   (T="dict"/\((∃c,H p=γ (.dK c))\/∃c,H p=γ (.dT c)))\/(T="set"/\∃S n,H p=γ (.set S n))
 |_=>Ε
theorem Tq(I:Inv X pins l H s)(r:RelV x v)(ty:tyV X.K T x H):
  s.TypeIs v T/\∀a,v= .ref a->∃j,s.heap.get? a=γ j/\j.dict=none:=by
 cases x with
 |str z=>
  obtain⟨t,rfl⟩:=r;cases (show T="str" from ty);exact⟨kj s z t,λ_ e=>nomatch e⟩
 |int i=>
  obtain⟨t,rfl⟩:=r;cases (show T="int" from ty);exact⟨yu s i t,λ_ e=>nomatch e⟩
 |ref p=>
  cases r;rcases ty with⟨rfl,w,m⟩|⟨rfl,o,d,q,f⟩|⟨rfl,d⟩|⟨rfl,S,n,d⟩
  ·obtain⟨u,_,k,_⟩:=I.list m;refine⟨k.isList.typeIs,λa e=>?_⟩;cases e;obtain⟨o,n,e,c,f,_⟩:=k;exact⟨o,e,f⟩
  ·refine⟨⟨o,I.kIn p o d,q⟩,λa e=>?_⟩;cases e;exact⟨o,I.kIn _ o d,f⟩
  ·have z:∃o,s.heap.get? p=γ o/\o.ExactDict:=by
    rcases d with⟨g,d⟩|⟨g,d⟩
    ·obtain⟨_,_,_,_,o,_,_,e,ex,_⟩:=I.hok p _ d;exact⟨o,e,ex⟩
    ·obtain⟨_,_,_,_,o,_,_,e,ex,_⟩:=I.hok p _ d;exact⟨o,e,ex⟩
   obtain⟨o,e,ex⟩:=z;refine⟨⟨o,e,ex.1⟩,λa h=>?_⟩;cases h;exact⟨o,e,ex.2.1⟩
  ·refine q_ λwv=>?_;obtain⟨o,_,_,_,e,ex,_⟩:=I.hok p _ d;apply wv;refine⟨⟨o,e,ex.1⟩,λa h=>?_⟩;cases h;exact⟨o,e,ex.2.1⟩
 |_=>exact ee ty
def aOs(K:μ)(T:String)(r:V->ε V->Hp->VK->Prop)(d:TE):TE:=λe H Q=>d e H λx c=>tyV K T x c/\r x [] c Q
def tBM(K:μ)(T:String)(r:V->ε V->Hp->VK->Prop)(e:TE)(t:TA):TE:=λc H Q=>e c H λx d=>tyV K T x d/\t c d λf g=>r x f g Q
variable{o e:Expr}{es:ε Expr}{to:TE}{t:TA}{name:Ξ}{apos cpos:Pos}{T id:String}{r:V->ε V->Hp->VK->Prop}
theorem aKe(k:PlainAttrs T)(slot:Slot T name id)(f:typeOf (.builtin id)=pure (.type "method_descriptor"))(l:MtR X id r)(m:PE X o to)
  (c:attributeBase o name X.env (eval o X.env)=eval o X.env:=by rfl) (d:(apos.endLine==cpos.line)=true:=by rfl):PE X (.Call (.Attribute o name apos) [] [] cpos) (aOs X.K T r to):=by
 intro pins s g H Q I h;refine wpAny_Call_method0_late c d<|dQ (m pins s g H _ I h) λv n y_=>?_;refine q_ λW_=>?_;obtain⟨x,p,i,j,ty,q⟩:=y_;apply W_;obtain⟨u,w⟩:=Tq i j ty;exact⟨T,id,k,slot,f,u,w,k9 rfl<|PySem.evalArgs_none<|l pins n g p x [] v [] Q i j .nil q⟩
theorem pZ(n:PlainAttrs T)(slot:Slot T name id)(i:typeOf (.builtin id)=pure (.type "method_descriptor"))(p:MtR X id r)(q:PE X o to)(u:PA X (e::es) t)
  (d:attributeBase o name X.env (eval o X.env)=eval o X.env:=by rfl)
  (g:((backTo cpos (starEach (e::es) X.env)).all (λx=>!x.1) && (backToKw cpos (keywordEach [] X.env)).all (λx=>x.1.isSome)
   && decide ((e::es).length+([]:ε Keyword).length+(if ([]:ε Keyword).isEmpty then 0 else 1)<30))=true:=by rfl)
  (f:(apos.endLine==cpos.line)=true:=by rfl) (w:starEach (e::es) X.env=(false,eval e X.env)::starEach es X.env:=by rfl) (c:(backTo cpos<|starEach es X.env).any (·.1)=false:=by rfl):
  PE X (.Call (.Attribute o name apos) (e::es) [] cpos) (tBM X.K T r to t):=by
 intro pins s j H Q I h;refine wpAny_Call_method_late d g f rfl<|dQ (q pins s j H _ I h) λv y y_=>?_;refine q_ λW_=>?_;obtain⟨x,z,k,l,ty,A⟩:=y_;apply W_;obtain⟨B,C⟩:=Tq k l ty;refine⟨T,id,n,slot,i,B,C,?_⟩;have m:=u cpos pins y j z _ k A;rw[w]at m⊢;refine k9 (by show(false||(backTo cpos<|starEach es X.env).any (·.1))=false;rw[c] <;>rfl)<|mq ?_;exact dQ m λD E ⟨F,G,J,K,L⟩=>p pins E j G x F v D Q J l K L
end
def MtM(X:Cx)(id:String)(r:V->ε V->Hp->VK->Prop):Prop:=
 ∀(pins:ε<|ο×Obj)(s:Ζ)(a:St)(H:Hp)(x:V)(b:ε V)(v:ξ)(c:ε ξ)(Q:VK),Inv X pins a H s->RelV x v->Vals b c->r x b H Q ->
  Φ (model X.prog X.w) X.A (call (.builtin id)<|v::c) (EP X pins a Q) X.xe s
theorem Vals.one:∀{x:V}{a:ε ξ},Vals [x] a->∃u,a=[u]/\RelV x u
 |_,_,.cons r .nil=>⟨_,rfl,r⟩
theorem Vals.zero:∀{a:ε ξ},Vals [] a->a=[]
 |_,.nil=>rfl
theorem Vals.dropLast{a:ε V}{b:ε ξ}(h:Vals a b):Vals a.dropLast b.dropLast:=by
 induction h with
 |nil=>exact .nil
 |cons r t c=>
  cases t with
  |nil=>exact .nil
  |cons q d=>exact .cons r c
theorem Vals.reverse(h:Vals a b):Vals a.reverse b.reverse:=by
 induction h with
 |nil=>exact .nil
 |cons r t c=>rw[nc,nc];exact Vals.append c<|.cons r .nil
theorem Vals.rep(h:Vals a b):∀k:ν,Vals (cg k a).flatten (cg k b).flatten
 |0=>.nil
 |k+1=>by
  rw[i6,i6,gn,gn];exact Vals.append h<|Vals.rep h k
theorem Ku{c:Type}(l:ε c):l.eraseIdx (l.length-1)=l.dropLast:=by
 induction l with
 |nil=>rfl
 |cons a r d=>
  cases r with
  |nil=>rfl
  |cons b r=>
   have e:(a::b::r).length-1=((b::r).length-1)+1:=by
    have f:(a::b::r).length=r.length+2:=rfl;have g:(b::r).length=r.length+1:=rfl;assumption
   rw[e,List.eraseIdx_cons_succ,d]
   all_goals rfl
theorem zP(a:ε ξ):∀(k:ν)(b:ε ξ),
  foldl (λc d=>c++d) b.toArray (cg k a.toArray)=(b++(cg k a).flatten).toArray
 |0,b=>by simp
 |k+1,b=>by
  have e:b.toArray++a.toArray=(b++a).toArray:=by simp
  have f:(b++a)++(cg k a).flatten=b++(cg (k+1) a).flatten:=by
   rw[i6,gn,ek]
  rw[<-f,<-zP a k (b++a),<-e,i6,ri]
section
variable{X:Cx}{pins:ε (ο×Obj)}{σ:St}{H:Hp}{s:Ζ}{l b:ο}{xs ys zs:ε V}
theorem Inv.lset{a its':ε ξ}(I:Inv X pins σ H s)(d:H l=γ (.lst xs))
  (e:s.heap.get? l=γ {cls:=.type "list",data:=.seq a.toArray n}) (g:f a.toArray=its'.toArray) (h:Vals ys its') (i:ys.length<=sizeLine):
  Inv X pins σ (dP H l<|.lst ys) {s with heap:=s.heap.update l<|Obj.mapSeq f,toks:=c}:=by
 have q:=BX e f;rw[g]at q;refine I.write (x:=l) (e:=l) (by rw[d];exact trivial) (.inl rfl) (λm u j k=>(k8 s.heap (Obj.mapSeq f)<|Ne.symm j).trans k) ⟨_,q⟩ ?_;exact⟨i,its',_,h,q⟩
theorem Inv.lnew(I:Inv X pins σ H s)(c:Vals ys a)(d:ys.length<=sizeLine):
  Inv X pins σ (dP H s.heap.objs.size<|.lst ys) {s with heap:=s.heap.push {cls:=.type "list",data:=.seq a.toArray},toks:=t'}:=
 I.laid (λ_ _ q=>Λ _ q) (Η _) ⟨d,a,0,c,aj _ rfl⟩
theorem Inv.fresh(I:Inv X pins σ H s):H s.heap.objs.size=none:=I.hok.fresh<|Η _
theorem Inv.lstM(I:Inv X pins σ H s)(c:H l=γ (.lst xs)):xs.length<=sizeLine/\∃(a:ε ξ)(n:ν),Vals xs a/\xs.length=a.length/\s.heap.get? l=γ {cls:=.type "list",data:=.seq a.toArray n}:=by
 obtain⟨z,a,n,r,e⟩:=I.hok l _ c;exact⟨z,a,n,r,r.length,e⟩
theorem Gm(h:n<=sizeLine):Builtin.List.listTooLong n=false:=by
 unfold Builtin.List.listTooLong;exact Τ ‹25›
end
section
variable{X:Cx}
def Mx:V->ε V->Hp->VK->Prop:=λx b H Q=>∃l a y,x= .ref l/\b=[y]/\H l=γ (.lst a)/\a.length<sizeLine/\Q .non (dP H l<|.lst<|a++[y])
theorem nE:MtM X "list.append" Mx:=by
 intro pins s g H x i v j Q I c d h;refine q_ λwv=>?_;obtain⟨l,k,y,rfl,rfl,b,m,q⟩:=h;apply wv;cases c;refine q_ λwv=>?_;obtain⟨u,rfl,f⟩:=d.one;obtain⟨z,a,n,r,o,e⟩:=I.lstM b;apply wv;refine ic kl ⟨_,e,rfl⟩ F.entry_list_append (F.args_list_append_2 _ _) (PySem.list_append l a.toArray n u (by rw[ae];lia)) ⟨e,?_⟩;refine⟨.non,_,I.lset (its':=a++[u]) b e (by simp) (r.append<|.cons f .nil) ?_,rfl,q⟩;rw[Γ,fj];exact 50
def aPf:V->ε V->Hp->VK->Prop:=λx b H Q=>∃l a y,x= .ref l/\b=[]/\H l=γ (.lst a)/\a[a.length-1]? =γ y/\Q y (dP H l<|.lst a.dropLast)
theorem aKo:MtM X "list.pop" aPf:=by
 intro pins s o H x p v t Q I f g h;refine q_ λwv=>?_;obtain⟨l,w,y,rfl,rfl,d,i,q⟩:=h;apply wv;cases f;have b:=g.zero;subst b;refine q_ λwv=>?_;obtain⟨z,a,n,r,j,e⟩:=I.lstM d;obtain⟨u,k,m⟩:=r.get i;apply wv;have c:a.toArray[a.toArray.size-1]? =γ u:=by
  show a.toArray[a.length-1]? =γ u;rw[<-ry,<-j];exact k
 refine ic xu ⟨_,e,rfl⟩ F.entry_list_pop (F.args_list_pop_1 _) (zv l a.toArray n u c (by rw[ae];lia)) ⟨e,?_⟩;refine⟨y,_,I.lset (its':=a.dropLast) d e ?_ r.dropLast ?_,m,q⟩
 ·show a.toArray.eraseIdxIfInBounds (a.toArray.size-1)=a.dropLast.toArray;rw[ae,List.eraseIdxIfInBounds_toArray,Ku]
 ·rw[mx];exact 50
def aPj:R2:=λx y H Q=>∃l b a c,x= .ref l/\y= .ref b/\H l=γ (.lst a)/\H b=γ (.lst c)/\a.length+c.length<=sizeLine/\∀p,H p=none->Q (.ref p) (dP H p<|.lst<|a++c)
theorem Ww:lH X (binaryOp .Add) aPj:=by
 intro pins s p H x y v u Q I d f h;refine q_ λwv=>?_;obtain⟨l,b,t,w,rfl,rfl,g,i,A,q⟩:=h;apply wv;cases d;cases f;refine q_ λwv=>?_;obtain⟨z,c,n,r,B,e⟩:=I.lstM g;obtain⟨C,a,D,j,k,m⟩:=I.lstM i;apply wv;refine BY e m ?_ (by rw[ae,ae];lia);have o:c.toArray++a.toArray=(c++a).toArray:=by simp
 rw[o];exact⟨.ref _,_,I.lnew (t':=s.toks) (r.append j) (by rw[Γ];assumption),rfl,q _ I.fresh⟩
def aPe:R2:=λx y H Q=>∃l k a,x= .ref l/\y= .int k/\H l=γ (.lst a)/\-(2^63)<=k/\k<2^63/\a.length*k.toNat<=sizeLine/\
 ∀p,H p=none->Q (.ref p) (dP H p<|.lst (cg k.toNat a).flatten)
theorem aEh{b:Type}(a:ε b)(k:ν):(cg k a).flatten.length=k*a.length:=by
 induction k with
 |zero=>simp
 |succ k c=>rw[i6,gn,Γ,c,yv,uf]
theorem aKf:lH X (binaryOp .Mult) aPe:=by
 intro pins s J H x y v u Q I p w h;refine q_ λwv=>?_;obtain⟨l,k,K,rfl,rfl,A,B,C,o,q⟩:=h;apply wv;cases p;refine q_ λwv=>?_;obtain⟨t,rfl⟩:=w;obtain⟨z,b,n,r,D,e⟩:=I.lstM A;apply wv;have hlen:b.toArray.size*k.toNat<=sizeLine:=by rw[ae,<-D];exact o
 have d:¬b.toArray.size*k.toNat>(2^63-1)/8:=by
  have:(sizeLine:ν)<=(2^63-1)/8:=by decide
  lia
 have f:¬(!Builtin.List.listFitsIndex k)=true:=by
  rw[fitsIndex_both B C];exact ag
 have c:¬Builtin.List.listTooLong (b.toArray.size*k.toNat)=true:=by
  rw[Gm hlen];exact ag
 have g:foldl (λi j=>i++j) #[] (cg (if b.toArray.isEmpty=true then 0 else k.toNat) b.toArray)=(cg k.toNat b).flatten.toArray:=by
  have E:∀m:ν,foldl (λi j=>i++j) #[] (cg m b.toArray)=(cg m b).flatten.toArray:=λm=>by
   have:=zP b m [];rw[uw]at this;exact this
  rw[E];cases b with
  |nil=>simp
  |cons a L=>rw[χ<|by simp]
 refine wpAny_binaryOp_repeat_ref (T:="list") (U:="int") (by decide) ⟨_,e,rfl⟩ (λG=>yu G k t) noFill_list_mul F.fills_int_mul xw repeat_list F.slot_int_index.lookup
  (ic xw (yu s k t) F.entry_int_rmul (F.args_int_rmul_2 _ _) (int___rmul___int_list k t l b.toArray n)
   ⟨e,rfl,⟨_,e,rfl⟩,ic F.slot_list_mul ⟨_,e,rfl⟩ F.entry_list_mul (F.args_list_mul_2 _ _) (ve l b.toArray n k t f d c) ⟨e,?_⟩⟩)
 rw[g];exact⟨.ref _,_,I.lnew (t':=s.toks) (r.rep k.toNat) (by rw[aEh,ie];exact o),rfl,q _ I.fresh⟩
end
end L2
namespace Att
open PySem PySem.W PySem.Calls PyProof.Rows
theorem tF:∀(c:ε τ)(d:ε ξ),WellAll P h d (c.map WData.int)->IntsAre d c:=by
 intro c
 induction c with
 |nil=>
  intro d w;rw[zw]at w;cases w;exact .nil
 |cons n c e=>
  intro d w;rw[ak]at w;cases w with
  |cons a b=>
   cases a;exact .cons _ _<|e _ b
theorem Pz{l:OpenLaw}(m:l.most=γ n)
  (c:l.row.toRowW.claim.pre args=true) (g:WellAll P h vals args):
  ∃a j b,vals=[aw a]/\args=[WData.list<|b.map WData.int]/\h.get? a=γ {cls:=.type "list",data:=.seq j.toArray}/\IntsAre j b/\b.length<=n:=by
 have i:WShape.hasAll [] args [.list .int]=true:=(pre_splitW c).1;have k:l.pre.holds [] {args:=args}=true:=(pre_splitW c).2;refine q_ λwv=>?_;obtain⟨d,r,rfl,o,p⟩:=hasAllW_cons i;obtain rfl:=hasAllW_nil p;obtain⟨x,rfl,s⟩:=hasW_list o;obtain⟨b,rfl⟩:=items_int s;apply wv;have hlen:b.length<=n:=by
  unfold OpenLaw.pre at k;have e:(WTm.not<|.lt (.lit<|.int (n:τ))<|.len<|.arg 0).holds [] {args:=[.list<|b.map .int]}=true:=by
   have e:=(holds_andW k).1;rw[m]at e;exact e
  have f:=condW_of e<|w_not<|w_lt w_lit<|w_len_list<|w_arg rfl;rw[θ]at f;refine Nat.le_of_not_lt λq=>?_;have t:(n:τ)<((b.length:ν):τ):=‹19›
  first
   |(rw[cj t]at f;exact ς f<|by decide)
   |(simp at f;lia)
 cases g with
 |cons u v=>
  cases v;cases u with
  |list w hall=>exact⟨_,_,b,rfl,rfl,w,tF b _ hall,hlen⟩
theorem Qh(l:OpenLaw)(args:ε WData):l.row.toRowW.claim.post args (.bool true) args=true:=
 postW_of (r:=l.row.toRowW) (X:=(true==true))
  (show WShape.has [] (.bool true) .bool=true by first|rfl|decide |simp[WShape.has,WShape.arms,WShape.armsAll])
  (show(WTm.eq .res<|.lit<|.bool true).value [] {args:=args,res:=γ<|.bool true,after:=args}=γ (.bool<|true==true)from w_eq_bool (w_res rfl) w_lit) rfl
section
variable{prog:Program}{w:gb}{A:Around}{E:ξ->Ζ->Prop}{s:Ζ}{K:Frag}
noncomputable def ledger(h:ei)(L d:ο):ε (ο×Obj):=(range h.objs.size).filterMap λa=>if a=L\/a=d then none else(h.get? a).map λo=>(a,o)
end
end Att
namespace L2
open PySem PySem.Spec PyProof.Rows
theorem yD:∀{a:ε ξ}{b:ε τ},IntsAre a b->Vals (b.map V.int) a
 |_,_,.nil=>.nil
 |_,_,.cons n t h=>.cons ⟨t,rfl⟩<|yD h
def aNn(H:Hp):Prop:=∀b,H b=none\/∃o a,H b=γ (.frz o<|.lst a)
theorem Xq{K:μ}
  (KX:K.In c.heap) (A:c.heap.Ns mainGlobals t) (g:c.heap.Ns builtinsNs N) (R:∀x:Ξ,x≠"__name__"->N x=bootBuiltins x) (B:c.heap.NoLimit) (hg:c.gens=#[])
  (M:c.heap.get? a=γ {cls:=.type "list",data:=.seq l.toArray}) (hi:IntsAre l y) (hl:y.length<=sizeLine) (hr:Room k callerA)
  (F:∀base:ei,K.In base->base.Ns mainGlobals t->FnOk P w K t base Z k O fd [x] sp) (p:∀(s:Ζ)(u:ξ),BindsTo s fd ⟨[u],[]⟩ [(x,u)])
  (S:∀H:Hp,aNn H->SqL K H a (y.map V.int)->sp [.ref a] H (λv _=>v= .bl true) λ_ _ _=>Ε)
  (T:∀H e i,Z [] H c (λ_ _ _=>Ε) e i->Ε):
  codeAny (model P w) callerA (.call (.ref O) ⟨[.ref a],[]⟩) (λr i=>r= .ok (.ret<|.bool true)/\OldK c.heap i.heap/\i.os=c.os/\AllBare i.gens) c:=by
 have rv:=yD hi;have C:=hi.length;have core:∀H:Hp,aNn H->SqL K H a (y.map V.int)->HOk P w H c.heap->(∀b,H b≠none->b=a)->(H a≠none->K.lookup a=none) ->
   codeAny (model P w) callerA (.call (.ref O) ⟨[.ref a],[]⟩) (λr i=>r= .ok (.ret<|.bool true)/\OldK c.heap i.heap/\i.os=c.os/\AllBare i.gens) c:=by
  intro H hO hS D hA hK;have f:∀{b:ο}{o:Obj},c.heap.get? b=γ o->H b=none->(Cc c.heap H).get? b=γ o:=λe n=>Xz e n;have U:∀{b:ο}{o:Obj}{E:Array DictEntry}{G:ν},c.heap.get? b=γ o->o.data= .dict E G->H b=none:=λ{b o E G} e d=>by
   cases q:H b with
   |none=>rfl
   |some u=>
    have X:b=a:=hA b (by rw[q];simp);subst X;rw[M]at e;cases e;have d':Data.seq l.toArray _=Data.dict E G:=d;cases d'
  have j:∀{b:ο}{m:Ξ->υ ξ},c.heap.Ns b m->(Cc c.heap H).Ns b m:=λ{b m} ⟨o,E,G,e,d,r⟩=>⟨o,E,G,f e<|U e d,d,r⟩
  have I:K.In (Cc c.heap H):=λb o e=>f (KX b o e) (by
   cases q:H b with
   |none=>rfl
   |some u=>
    have X:b=a:=hA b (by rw[q];simp)
    subst X
    rw[hK (by rw[q];simp)]at e;cases e)
  have hM:Mod K t (Cc c.heap H):=⟨I,j A,⟨N,j g,R⟩,let⟨mc,h1,h2⟩:=B;⟨mc,j h1,h2⟩⟩;have e0:Env0 P w K t (Cc c.heap H) callerA [] c H:=⟨rfl,hM,λb o e=>aDp e,AY<|Rm _ _,trivial,λb g=>ς (show b∈([]:ε ο)from g)<|by simp,D,.of_eq hg⟩;refine m9 ((F _ I<|j A).run callerA [] c H ⟨[.ref a],[]⟩ [.ref a] [.ref a] _ _ hr e0 (p c<|.ref a) (.cons rfl .nil)<|S H hO hS) λr i h=>?_;cases r with
  |error e=>exact(T H e i h).elim
  |ok fl=>
   cases fl with
   |next=>exact ee h
   |brk=>exact ee h
   |cont=>exact ee h
   |ret u=>
    refine q_ λwv=>?_;obtain⟨v,H',os,bare,un,J,r',q⟩:=h;apply wv;have q':v= .bl true:=q;subst q';obtain rfl:u=Value.bool true:=r';refine⟨rfl,OldK.of_keep λb o e=>?_,os,bare⟩;cases q:H b with
    |none=>exact un.keep b o e q (by intro z;exact ς (show b∈([]:ε ο)from z)<|by simp) (by simp)
    |some u=>
     rcases hO b with z|⟨ob,xs,z⟩
     ·rw[q]at z;cases z
     ·have z2:=un.frzs b ob _ z;obtain⟨e1,_⟩:=D b _ z;obtain⟨e2,_⟩:=J b _ z2;rw[e]at e1;cases e1;exact e2
 cases Y:K.lookup a with
 |some o=>
  have e:=KX a o Y;rw[M]at e;cases e;refine core (λ_=>none) (λ_=>.inl rfl) (.inr ⟨_,l.toArray,_,Y,rfl,rfl,rfl,by rw[ae,C];exact hl,by simpa using rv⟩) (λb u z=>by have L:(none:υ HO)=γ u:=z;cases L) (λb z=>ς rfl z) λz=>ς rfl z
 |none=>
  refine core (λb=>if b=a then γ (.frz {cls:=.type "list",data:=.seq l.toArray}<|.lst<|y.map V.int)else none) (λb=>?_) (.inl<|.inr ⟨{cls:=.type "list",data:=.seq l.toArray},Α rfl⟩) (λb u z=>?_) (λb z=>?_) λ_=>Y
  ·by_cases g:b=a
   ·exact .inr ⟨_,_,Α g⟩
   ·exact .inl<|χ g
  ·by_cases g:b=a
   ·have L:=(Α g).symm.trans z;cases L;subst g;exact⟨M,by rw[θ];exact hl,l,_,rv,M⟩
   ·have L:=(χ g).symm.trans z;cases L
  ·by_cases g:b=a
   ·exact g
   ·exact ς (χ g) z
abbrev KOf{K:μ}{h:ei}(_:K.In h):μ:=K
noncomputable def tV(s:Stmt)(j:ν):Stmt:=match s with
 | .ClassDef _ _ _ body _ _ _ _ _ _ _=>body.getD j<|.Pass ⟨0,0,0,0⟩
 |_=>.Pass ⟨0,0,0,0⟩
noncomputable def jX(s:Stmt):Arguments:=match s with
 | .FunctionDef _ a _ _ _ _ _ _ _ _=>a
 |_=>{posonlyargs:=[],args:=[],vararg:=none,kwonlyargs:=[],kw_defaults:=[],kwarg:=none,defaults:=[]}
def eP(s:Stmt):ε Stmt:=match s with
 | .FunctionDef _ _ b _ _ _ _ _ _ _=>b
 |_=>[]
noncomputable def aM(s:Stmt):Scope:=match s with
 | .FunctionDef _ _ _ _ _ _ a _ _ _=>a
 |_=>{kind:=.function,names:=[],isGenerator:=false,isCoroutine:=false}
abbrev CX0:Lm:=λ_ _ _ _ _ _=>Ε
abbrev E0:XK:=λ_ _ _=>Ε
structure Fun(K:μ)(x qual:Ξ)(st:Stmt)(f:ο)(fd:FuncData):Prop where
 ex:∃(oc:ξ)(od:υ ο)(kV doc pm:ξ)(an:υ ο)(cdv ct:ξ)(osl:Array<|υ ξ),
  fd=W.fnOf x qual (jX st) (eP st) (aM st) .none kV doc pm an cdv ct/\K.lookup f=γ ⟨oc,od,.func fd,osl⟩/\W.codeIn K cdv qual=true
 kp:W.keepIn K (.ref f)=true
section
variable{P:Program}{w:gb}{K:μ}{mg:Ξ->υ ξ}{base:ei}
theorem Fun.binds{st:Stmt}(F:Fun K x qual st f i)
  (h:∀(kV a d:ξ)(e:υ ο)(b ct:ξ)(g:ε ξ),g.length=c.length->bindArgs (W.fnOf x qual (jX st) (eP st) (aM st) .none kV a d e b ct) ⟨g,[]⟩=pure (c.zip g)):Binds K i c []:=by
 obtain⟨l,m,kV,a,d,e,b,ct,j,rfl,n,k⟩:=F.ex;exact .all<|h kV a d e b ct
theorem fun_mk{st:Stmt}{kV b g a ct:ξ}(l:K.lookup f=γ ⟨h,i,.func<|W.fnOf x qual (jX st) (eP st) (aM st) .none kV b g e a ct,d⟩)
  (c:W.codeIn K a qual=true) (k:W.keepIn K (.ref f)=true):Fun K x qual st f (W.fnOf x qual (jX st) (eP st) (aM st) .none kV b g e a ct):=⟨⟨h,i,kV,b,g,e,a,ct,d,rfl,l,c⟩,k⟩
end
theorem bQ(h:n<=1000):n<sizeLine:=eh h (by decide)
section
variable{X:Cx}
theorem pv(i:ν)(c:X.N[i]? =γ x:=by rfl)(d:Vis X.env.scope x:=by first|exact Or.inl rfl|exact Or.inr (Or.inl rfl)|exact Or.inr (Or.inr rfl))(e:(x==("__debug__":Ξ))=false:=by decide)
  (b:(x==("__classdict__":Ξ))=false:=by decide):PE X (.Name x a) (fL i):=aKb c d e b
end
theorem aQi{A B:Prop}(h:B):if false=true then A else B:=by
 rw[χ ag];exact h
theorem aQh{A B:Prop}(h:A):if true=true then A else B:=by
 rw[Α rfl];exact h
theorem bT{c A B:Prop}[Decidable c](a:c->A)(b:¬c->B):if c then A else B:=by
 by_cases h:c
 ·rw[Α h];exact a h
 ·rw[χ h];exact b h
def Same(H a:Hp):Prop:=∀b o,H b=γ o->a b=γ o
theorem Same.refl(H:Hp):Same H H:=λ_ _ h=>h
theorem Same.trans(a:Same H d)(b:Same d e):Same H e:=λc o h=>b c o<|a c o h
theorem Same.free(e:Same H a)(h:a l=Option.none):H l=Option.none:=by
 cases q:H l with
 |none=>rfl
 |some o=>
  rw[e l o q]at h;cases h
theorem Same.seq{K:μ}(e:Same H b)(h:SqL K H a c):SqL K b a c:=by
 rcases h with(h|⟨o,h⟩)|h
 ·exact .inl<|.inl<|e _ _ h
 ·exact .inl<|.inr ⟨o,e _ _ h⟩
 ·exact .inr h
section
variable{κ:Type}[DecidableEq κ]
noncomputable def nK(a:ε<|κ×V)(k:κ):υ V:=(a.find? λb=>decide (b.1=k)).map (·.2)
noncomputable def lX(a:ε<|κ×V)(k:κ)(v:V):ε (κ×V):=
 if (a.any λb=>decide (b.1=k))=true then a.map (λb=>if b.1=k then(b.1,v)else b)else a++[(k,v)]
noncomputable def nY(a:ε<|κ×V)(k:κ):ε (κ×V):=a.filter λb=>decide (b.1≠k)
theorem pD{p:κ×V}{r:ε<|κ×V}{k:κ}(e:p.1=k):nK (p::r) k=γ p.2:=by simp[nK,n3,e]
theorem lK{p:κ×V}{r:ε<|κ×V}{k:κ}(e:¬p.1=k):nK (p::r) k=nK r k:=by simp[nK,n3,e]
theorem Dn(k:κ):∀a:ε<|κ×V,(a.any λb=>decide (b.1=k))=(nK a k).isSome
 |[]=>rfl
 |p::r=>by
  rw[qj];by_cases e:p.1=k
  ·simp only[pD e,cj e,Bool.true_or,Option.isSome_some]
  ·rw[lK e,Τ e,Bool.false_or];exact Dn k r
theorem sO(a:ε<|κ×V)(k:κ)(v:V):(lX a k v).length<=a.length+1:=by
 unfold lX;split
 ·rw[θ];exact 48
 ·rw[Γ,Ρ,km];exact 48
theorem RelO.isSome_eq(r:RelO o u):o.isSome=u.isSome:=by
 cases o with
 |none=>cases u with
  |none=>rfl
  |some _=>exact(show Ε from r).elim
 |some _=>cases u with
  |none=>exact(show Ε from r).elim
  |some _=>rfl
theorem KV.val{a:ε<|κ×V}{f:ε<|κ×ξ}(r:KV a f)(k:κ):RelO (nK a k) (valueAt f k):=by
 unfold KV at r
 induction r with
 |nil=>exact True.intro
 |@cons p q l c h t i=>
  obtain⟨g,j⟩:=h;by_cases e:p.1=k
  ·have d:q.1=k:=g.symm.trans e;have b:valueAt (q::c) k=γ q.2:=by simp[valueAt,n3,d]
   rw[pD e,b];exact j
  ·have d:¬q.1=k:=λz=>e<|g.trans z;have b:valueAt (q::c) k=valueAt c k:=by simp[valueAt,n3,d]
   rw[lK e,b];exact i
theorem KV.any{a:ε<|κ×V}{c:ε<|κ×ξ}(r:KV a c)(k:κ):(a.any λb=>decide (b.1=k))=c.any λb=>decide (b.1=k):=by
 unfold KV at r
 induction r with
 |nil=>rfl
 |cons h t d=>rw[qj,qj,d,h.1]
theorem KV.repl{b:ε<|κ×V}{d:ε<|κ×ξ}(r:KV b d)(k:κ){y:V}{u:ξ}(f:RelV y u):
  KV (b.map λa=>if a.1=k then(a.1,y)else a) (d.map λa=>if a.1=k then(a.1,u)else a):=by
 unfold KV at r⊢
 induction r with
 |nil=>exact .nil
 |@cons p q j l h t g=>
  rw[ak,ak];refine .cons ?_ g;obtain⟨c,i⟩:=h;by_cases e:p.1=k
  ·rw[Α e,Α<|c.symm.trans e];exact⟨c,f⟩
  ·rw[χ e,χ λz=>e<|c.trans z];exact⟨c,i⟩
theorem KV.put{a:ε<|κ×V}{b:ε<|κ×ξ}(r:KV a b)(k:κ){y:V}{u:ξ}(c:RelV y u):KV (lX a k y) (stored b k u):=by
 unfold lX stored;rw[r.any k];by_cases e:(b.any λd=>decide (d.1=k))=true
 ·rw[Α e,Α e];exact r.repl k c
 ·rw[χ e,χ e];exact A2 r ⟨rfl,c⟩
theorem KV.drop{c:ε<|κ×V}{f:ε<|κ×ξ}(r:KV c f)(k:κ):KV (nY c k) (without f k):=by
 unfold KV at r⊢;unfold nY without
 induction r with
 |nil=>exact .nil
 |@cons p q l m h t g=>
  obtain⟨d,i⟩:=h;rw[wt,wt];by_cases e:p.1=k
  ·have a:¬decide (p.1≠k)=true:=by simp[e]
   have b:¬decide (q.1≠k)=true:=by simp[d.symm.trans e]
   rw[χ a,χ b];exact g
  ·have j:¬q.1=k:=λz=>e<|d.trans z;have a:decide (p.1≠k)=true:=by simp[e]
   have b:decide (q.1≠k)=true:=by simp[j]
   rw[Α a,Α b];exact .cons ⟨d,i⟩ g
theorem KV.length{a:ε<|κ×V}{b:ε<|κ×ξ}(r:KV a b):a.length=b.length:=pz r
theorem Zf(a:ε<|κ×V)(k:κ):(nY a k).length<=a.length:=r6 _ _
end
theorem Gz(r:RelV (kV k) u):(fG P w).is k u=true:=by
 cases k with
 |inl i=>obtain⟨t,e⟩:=(show ∃t,u=nr i t from r);subst e;exact Gp P w i t
 |inr x=>obtain⟨t,e⟩:=(show ∃t,u=Value.str x t from r);subst e;exact Go P w x t
theorem zM:∀{a:ε fB}{b:ε ξ},Vals (a.map kV) b->ItemsAre (fG P w) a b
 |[],_,r=>by rw[zw]at r;cases r;exact .nil
 |k::a,_,r=>by
  rw[ak]at r;cases r with
  |cons h t=>exact .cons (Gz h)<|zM t
abbrev KT(H:Hp):ε (ε fB×V)->ε (ε fB×ο×ξ)->Prop:=Paired λp q=>p.1=q.1/\H q.2.1=γ (.tup<|p.1.map kV)/\RelV p.2 q.2.2
theorem KT.val(r:KT H a f)(k:ε fB):RelO (nK a k) ((atKey f k).map (·.2)):=by
 induction r with
 |nil=>exact True.intro
 |@cons p q l c h t i=>
  obtain⟨g,_,j⟩:=h;by_cases e:p.1=k
  ·have d:q.1=k:=g.symm.trans e;have b:atKey (q::c) k=γ q.2:=by simp[atKey,n3,d]
   rw[pD e,b];exact j
  ·have d:¬q.1=k:=λz=>e<|g.trans z;have b:atKey (q::c) k=atKey c k:=by simp[atKey,n3,d]
   rw[lK e,b];exact i
theorem KT.repl(r:KT H a d)(k:ε fB)(g:RelV y u):
  KT H (a.map λc=>if c.1=k then(c.1,y)else c) (d.map<|putAt k u):=by
 induction r with
 |nil=>exact .nil
 |@cons p q l m h t i=>
  rw[ak,ak];refine .cons ?_ i;obtain⟨b,f,j⟩:=h;unfold putAt;by_cases e:p.1=k
  ·rw[Α e,Α<|b.symm.trans e];exact⟨b,f,g⟩
  ·rw[χ e,χ λz=>e<|b.trans z];exact⟨b,f,j⟩
theorem KT.put(r:KT H a c)(k:ε fB)(f:H b=γ (.tup<|k.map kV))(d:RelV y u):
  KT H (lX a k y) (storedH c k b u):=by
 have e:(a.any λg=>decide (g.1=k))=(atKey c k).isSome:=by
  rw[Dn,(r.val k).isSome_eq,yw]
 unfold lX storedH;rw[e];by_cases q:(atKey c k).isSome=true
 ·rw[Α q,Α q];exact r.repl k d
 ·rw[χ q,χ q];exact A2 r ⟨rfl,f,d⟩
theorem KT.keeps(r:KT H a d)(f:∀b e,H b=γ (.tup e)->c b=γ (.tup e)):KT c a d:=
 Paired.mapP r λ_ _ z=>⟨z.1,f _ _ z.2.1,z.2.2⟩
section
variable{P:Program}{w:gb}{H:Hp}{h:ei}{a:ο}
theorem aGu(ok:HOk P w H h)(e:Rd H a u):ObjOk P w H h a u:=e.ok ok
theorem Ih(ok:HOk P w H h)(e:Rd H a<|.dK b):b.length<=sizeLine/\(a==sysModules)=false/\∃c,KV b c/\h.DictOf (fG P w) a c:=
 show ObjOk P w H h a (.dK b)from aGu ok e
theorem aHt(ok:HOk P w H h)(e:H a=γ (.dK b)):b.length<=sizeLine/\(a==sysModules)=false/\∃c,KV b c/\h.DictOf (fG P w) a c:=Ih ok<|.inl e
theorem Bx(ok:HOk P w H h)(e:H a=γ (.tup<|b.map kV)):(tupleKind<|fG P w).is h b a:=by
 refine q_ λwv=>?_;obtain⟨_,c,r,o,d,f,n,g⟩:=(show ObjOk P w H h a (.tup<|b.map kV)from ok a _ e);apply wv;exact⟨o,c.toArray,n,d,f,g,by simpa using zM r⟩
theorem Ig(ok:HOk P w H h)(e:Rd H a<|.dT b):b.length<=sizeLine/\(a==sysModules)=false/\
  ∃d,KT H b d/\h.DictOfH (tupleKind<|fG P w) a d:=by
 refine q_ λwv=>?_;obtain⟨z,y,d,r,o,i,j,k,n,s,u,v⟩:=(show ObjOk P w H h a (.dT b)from aGu ok e);apply wv;clear wv;refine⟨z,y,d,r,o,i,j,k,n,s,u,λx c=>?_,v⟩;have f:∀{l:ε<|ε fB×V}{m:ε<|ε fB×ο×ξ},KT H l m->∀x∈m,(tupleKind<|fG P w).is h x.1 x.2.1:=by
  intro l m q
  induction q with
  |nil=>intro x c;exact nomatch c
  |@cons p q B C g t A=>
   intro x c;rcases Ω.mp c with e|c
   ·subst e;exact Bx ok (by rw[<-g.1];exact g.2.1)
   ·exact A x c
 exact f r x c
theorem aRa(ok:HOk P w H h)(e:H a=γ (.dT b)):b.length<=sizeLine/\(a==sysModules)=false/\
  ∃c,KT H b c/\h.DictOfH (tupleKind<|fG P w) a c:=Ig ok<|.inl e
end
def DGet(H:Hp)(a:ο)(y:V)(r:υ V):Prop:=
 (∃c k,Rd H a (.dK c)/\y=kV k/\r=nK c k)\/∃c k b,Rd H a (.dT c)/\y= .ref b/\H b=γ (.tup<|k.map kV)/\r=nK c k
def DPut(H:Hp)(a:ο)(y v:V)(d:Hp):Prop:=
 (∃c k,H a=γ (.dK c)/\y=kV k/\c.length<sizeLine/\d=dP H a (.dK<|lX c k v)) \/
 ∃c k b,H a=γ (.dT c)/\y= .ref b/\H b=γ (.tup<|k.map kV)/\c.length<sizeLine/\d=dP H a (.dT<|lX c k v)
theorem DGet.k{k:fB}(e:H a=γ (.dK b)):DGet H a (kV k) (nK b k):=.inl ⟨b,k,.inl e,rfl,rfl⟩
theorem DPut.k{k:fB}(e:H a=γ (.dK b))(c:b.length<sizeLine):DPut H a (kV k) v (dP H a<|.dK<|lX b k v):=.inl ⟨b,k,e,rfl,c,rfl⟩
section
variable{X:Cx}{pins:ε (ο×Obj)}{σ:St}{H:Hp}{s:Ζ}{a:ο}{y v:V}{u r:ξ}{o:υ V}{A:Around}{E:ξ->Ζ->Prop}
theorem Inv.big(I:Inv X pins σ H s):sysModules<s.heap.objs.size:=by
 have h:mainGlobals<s.heap.objs.size:=(I.mod.glob.keeps I.bk).lt;exact mr (by decide) h
theorem Rv(w:A.units+1<cLine)(I:Inv X pins σ H s)(g:DGet H a y<|some v)(q:RelV y u)(h:∀f t,Inv X pins σ H t->RelV v f->Q f t):
  Φ (model X.prog X.w) A (getItem (.ref a) u) Q E s:=by
 rcases g with⟨i,k,e,j,l⟩|⟨i,k,b,e,j,x,l⟩
 ·subst j;obtain⟨z,B,C,c,m⟩:=Ih I.hok e;obtain⟨f,hw,d⟩:=RelO.some_of (v:=v) (o:=valueAt C k) (by rw[l];exact c.val k);exact wu (Gz q) m.mapOf hw<|h f _ (I.tok _) d
 ·subst j;cases (show u=aw b from q);obtain⟨z,B,D,c,m⟩:=Ig I.hok e;obtain⟨f,hw,d⟩:=RelO.some_of (v:=v) (o:=(atKey D k).map (·.2)) (by rw[l];exact c.val k);obtain⟨p,F,n⟩:=rj.mp hw;refine wpAny_getItem_heap (n6 w) (Bx I.hok x) m F ?_;rw[n];exact h f _ (I.tok _) d
theorem aFc(p:A.units+1<cLine)(I:Inv X pins σ H s)(g:DGet H a y o)(m:RelV y u)(h:∀n,Inv X pins σ H n->Q (.bool<|!o.isSome) n):
  Φ (model X.prog X.w) A (compareOp .NotIn u<|.ref a) Q E s:=by
 rcases g with⟨d,k,e,f,l⟩|⟨d,k,b,e,f,t,l⟩
 ·subst f;obtain⟨z,i,w,c,j⟩:=Ih I.hok e;refine yx (Gz m) i j.mapOf ?_;rw[<-(c.val k).isSome_eq,<-l];exact h _<|I.tok _
 ·subst f;cases (show u=aw b from m);obtain⟨z,i,x,c,j⟩:=Ig I.hok e;refine wpAny_notIn_heap (n6 p) (Bx I.hok t) i j ?_;have q:=(c.val k).isSome_eq;rw[yw]at q;rw[<-q,<-l];exact h _<|I.tok _
theorem Cn(I:Inv X pins σ H s)(h:Mut<|H a)(i:SameBut a s.heap c)(j:∃q,c.get? a=γ q)(f:ObjOk X.prog X.w (dP H a d) c a d):
  Inv X pins σ (dP H a d) {s with heap:=c,toks:=g}:=
 I.write (x:=a) (e:=a) h (.inl rfl) (λb q k z=>(i.2 b k).trans z) j f
theorem Zg(z:b.length<=sizeLine)(g:(a==sysModules)=false)(d:KV b c)(h:e.DictOf (fG P w) a c):
  ObjOk P w f e a (.dK b):=⟨z,g,c,d,h⟩
theorem Ru(M:A.units+1<cLine)(I:Inv X pins σ H s)(g:DPut H a y v C)(D:RelV y u)(F:RelV v r)(h:∀G,Inv X pins σ C G->Q () G):
  Φ (model X.prog X.w) A (setItem (.ref a) u r) Q E s:=by
 rcases g with⟨d,k,e,m,l,n⟩|⟨d,k,b,e,m,J,l,n⟩
 ·subst m n;obtain⟨z,p,N,f,t⟩:=aHt I.hok e;have w:N.length<=sizeLine:=by rw[<-f.length];exact z
  have x:(lX d k v).length<=sizeLine:=by have:=sO d k v;exact 2
  refine wpAny_setItem_pairs (hsz:=w) (Gz D) t λK i B=>h _ ?_;have O:∃q,K.get? a=γ q:=let⟨q,_,_,j,_⟩:=i;⟨q,j⟩
  exact Cn I (by rw[e];exact True.intro) B O<|Zg x p (f.put k F) i
 ·subst m n;cases (show u=aw b from D);obtain⟨z,p,P,f,t⟩:=aRa I.hok e;have w:P.length<=sizeLine:=by rw[<-pz f];exact z
  have x:(lX d k v).length<=sizeLine:=by have:=sO d k v;exact 2
  refine wpAny_setItem_heap (hsz:=w) (n6 M) (Bx I.hok J) t λK i B=>h _ ?_;refine q_ λwv=>?_;obtain⟨q,R,S,j,T,U,W,_,Y⟩:=i;apply wv;refine Cn I (by rw[e];exact True.intro) B ⟨q,j⟩ ⟨x,p,_,(f.put k J F).keeps λc Z L=>?_,q,R,S,j,T,U,W,Y⟩;rw[aV<|aPy L e λz=>nomatch z];exact L
end
section
variable{X:Cx}{pins:ε (ο×Obj)}{σ:St}{H:Hp}{s:Ζ}{a:ο}{kvs:ε (fB×V)}{k:fB}{u:ξ}{A:Around}{E:ξ->Ζ->Prop}
theorem aRh{v:V}{more:ε ξ}{Q:ξ->Ζ->Prop}(I:Inv X pins σ H s)(e:H a=γ (.dK kvs))(f:RelV (kV k) u)(l:nK kvs k=γ v)(j:more=[]\/∃x,more=[x])
  (h:∀c m,Inv X pins σ (dP H a<|.dK<|nY kvs k) m->RelV v c->Q c m):Φ (model X.prog X.w) A (call (.builtin "dict.pop")<|.ref a::u::more) Q E s:=by
 obtain⟨z,r,n,b,p⟩:=aHt I.hok e;obtain⟨c,hw,g⟩:=RelO.some_of (v:=v) (o:=valueAt n k) (by rw[<-l];exact b.val k);have w:(keyPart u).isSome=true:=by
  cases k with
  |inl i=>obtain⟨t,q⟩:=(show ∃t,u=nr i t from f);subst q;rfl
  |inr x=>obtain⟨t,q⟩:=(show ∃t,u=Value.str x t from f);subst q;rfl
 have y:argsOk "dict.pop" ⟨.ref a::u::more,[]⟩:=by
  rcases j with q|⟨x,q⟩
  ·subst q;exact F.args_dict_pop_2 _ _
  ·subst q;exact F.args_dict_pop_3 _ _ _
 refine call_meetsIn xx p.typeIs F.entry_dict_pop y (meets_dict_pop_there (fG X.prog X.w) a (Gz f) more j w)
  ⟨n,c,p,by rw[<-b.length];exact z,hw,λB d C=>h c _ ?_ g⟩
 have D:∃q,B.get? a=γ q:=let⟨q,_,_,G,_⟩:=d;⟨q,G⟩
 exact Cn I (by rw[e];exact True.intro) C D<|Zg (Β (Zf kvs k) z) r (b.drop k) d
end
def aRw(i:Expr):Prop:=∀a b,subscripted i false a b=operate [a,b] (getItem a b)
theorem aCh{T id:String}
  (m:typeLookup (.type T) "__getitem__"=pure (γ<|.builtin id)) (n:aRw slice)
  (h:Φ (model prog w) A (eval value e) (λo c=>Φ (model prog w) A (eval slice e) (λi a=>a.TypeIs o T/\Φ (model prog w) A (getItem o i) Q E a) E c) E s):
  Φ (model prog w) A (eval (.Subscript value slice k) e) Q E s:=by
 refine rg<|ed h (λo c g=>ed g (λi a b=>?_) λ_ _ x=>x) λ_ _ x=>x;obtain⟨l,b⟩:=b;unfold subscriptTail;refine π ?_;rw[getitemInPython_of_ne l.not_modules];refine π<|wpAny_specialOf l m ?_;have f:Φ (model prog w) A (subscripted slice false o i) (λr d=>Φ (model prog w) A (letTemporaryGo value o r>>=λ_=>pure r) Q E d) E a:=by
  rw[n o i];exact wpAny_operating<|ed b (λr d j=>π<|wpAny_letTemporaryGo<|Ψ j) λ_ _ x=>x
 first
  |exact Ψ (π f)
  |exact π (Ψ<|π f)
  |exact π f
theorem Ii(I:Inv X pins f H s)(g:DGet H a y o):s.TypeIs (.ref a) "dict":=by
 rcases g with⟨c,k,e,_,_⟩|⟨c,k,b,e,_,_,_⟩
 ·obtain⟨_,_,h,_,d⟩:=Ih I.hok e;exact d.typeIs
 ·obtain⟨_,_,i,_,d⟩:=Ig I.hok e;exact d.typeIs
def aGp(d ty:TE):TE:=λb H Q=>d b H λx e=>ty b e λy c=>∃a v,x= .ref a/\DGet c a y (γ v)/\Q v c
def Mi(ty d:TE):TE:=λb H Q=>ty b H λy e=>d b e λx c=>∃a o,x= .ref a/\DGet c a y o/\Q (.bl<|!o.isSome) c
def aGt(d ty e:TE):TS:=λD b H=>e b H λv f=>d b f λx g=>ty b g λy h=>∃a c,x= .ref a/\DPut h a y v c/\D.nx b c
section
variable{X:Cx}{o i e value:Expr}{pos pos' tpos:Pos}{td ty tv:TE}
theorem aDg(f:X.A.units+1<cLine)(j:PE X o td)(k:PE X i ty)(l:aRw i):PE X (.Subscript o i pos) (aGp td ty):=by
 intro pins s c H Q I h;refine aCh F.slot_dict_getitem.lookup l<|dQ (j pins s c H _ I h) λu m ⟨x,n,p,q,r⟩=>dQ (k pins m c n _ p r) λB C y_=>?_;refine q_ λW_=>?_;obtain⟨y,t,d,w,a,v,ex,g,z⟩:=y_;apply W_;subst ex;obtain rfl:u=aw a:=q;exact⟨Ii d g,Rv f d g w λD E A b=>⟨v,t,A,b,z⟩⟩
theorem Ql(c:X.A.units+1<cLine)(d:PE X i ty)(f:PE X o td):PC X .NotIn i o (Mi ty td):=by
 intro pins s b H Q I h;refine dQ (d pins s b H _ I h) λz j ⟨y,k,l,m,n⟩=>dQ (f pins j b k _ l n) λu A y_=>?_;refine q_ λW_=>?_;obtain⟨x,p,q,r,a,t,ex,g,v⟩:=y_;apply W_;subst ex;obtain rfl:u=aw a:=r;exact aFc c q g m λB w=>⟨.bl<|!t.isSome,p,w,rfl,v⟩
theorem aCz(c:X.A.units+1<cLine)(d:PE X o td)(f:PE X i ty)(j:PE X value tv)(k:swapsWith value (γ<|.Subscript o i pos') pos.line X.env=pure false):
  PS X (.Assign [.Subscript o i pos'] value pos) (aGt td ty tv):=by
 intro pins s b H D I h;refine wpAny_Assign_Subscript (dQ (j pins s b H _ I h) λr l ⟨v,m,n,p,q⟩=>dQ (d pins l b m _ n q) λu t ⟨x,w,z,A,B⟩=>dQ (f pins t b w _ z B) λK L y_=>?_) k;refine q_ λW_=>?_;obtain⟨y,M,C,E,a,F,ex,g,G⟩:=y_;apply W_;subst ex;obtain rfl:u=aw a:=A;exact Ru c C g E p λN J=>⟨b,F,J,G⟩
end
theorem Zh(h:ei)(a:sysModules<h.objs.size):ObjOk P w H (h.push {cls:=.type "dict",data:=.dict #[]}) h.objs.size (.dK []):=
 ⟨hB _,bb.mpr<|Ne.symm<|gq a,[],.nil,B2 h⟩
def Uf:TE:=λ_ H Q=>∀p,H p=none->Q (.ref p) (dP H p<|.dK [])
section
variable{X:Cx}{pos:Pos}
theorem Wn:PE X (.Dict [] [] pos) Uf:=λpins s b H Q I h=>
 wpAny_Dict_empty ⟨.ref s.heap.objs.size,_,I.laid (a:=s.heap.objs.size) (o:=.dK []) (t':=s.toks) (λ_ _ q=>Λ _ q) (Η _)<|Zh s.heap I.big,rfl,h _<|I.hok.fresh<|Η _⟩
end
structure M1(X:Cx)(o:Expr)(m:Ξ)(apos:Pos)(e:Expr)(cpos:Pos):Prop where
 base:attributeBase o m X.env (eval o X.env)=eval o X.env
 few:((backTo cpos (starEach [e] X.env)).all (λx=>!x.1) && (backToKw cpos (keywordEach [] X.env)).all (λx=>x.1.isSome)
  && decide (([e]:ε Expr).length+([]:ε Keyword).length+(if ([]:ε Keyword).isEmpty then 0 else 1)<30))=true
 line:(apos.endLine==cpos.line)=true
 trees:backTo cpos (starEach [e] X.env)=[(false,eval e X.env)]
structure M2(X:Cx)(o:Expr)(m:Ξ)(apos:Pos)(e f:Expr)(cpos:Pos):Prop where
 base:attributeBase o m X.env (eval o X.env)=eval o X.env
 few:((backTo cpos (starEach [e,f] X.env)).all (λx=>!x.1) && (backToKw cpos (keywordEach [] X.env)).all (λx=>x.1.isSome)
  && decide (([e,f]:ε Expr).length+([]:ε Keyword).length+(if ([]:ε Keyword).isEmpty then 0 else 1)<30))=true
 line:(apos.endLine==cpos.line)=true
 trees:backTo cpos (starEach [e,f] X.env)=[(false,eval e X.env),(false,eval f X.env)]
def IsD(H:Hp)(a:ο):Prop:=(∃b,Rd H a<|.dK b)\/∃b,Rd H a<|.dT b
theorem aLo{X:Cx}{pins:ε<|ο×Obj}{k:St}{H:Hp}{s:Ζ}{a:ο}(I:Inv X pins k H s)(d:IsD H a):
  s.TypeIs (.ref a) "dict"/\(∀b,aw a= .ref b->∃c,s.heap.get? b=γ c/\c.dict=none)/\(a==sysModules)=false:=by
 rcases d with⟨g,e⟩|⟨g,e⟩
 ·obtain⟨_,h,l,_,f⟩:=Ih I.hok e;refine⟨f.typeIs,λb q=>?_,h⟩;cases q;obtain⟨c,_,_,i,j,_⟩:=f;exact⟨c,i,j.2.1⟩
 ·obtain⟨_,h,m,_,f⟩:=Ig I.hok e;refine⟨f.typeIs,λb q=>?_,h⟩;cases q;obtain⟨c,_,_,i,j,_⟩:=f;exact⟨c,i,j.2.1⟩
def Ue(f ty:TE):TE:=λc H Q=>f c H λx d=>∃a,x= .ref a/\IsD d a/\ty c d λy e=>∃b k v,e a=γ (.dK b)/\y=kV k/\nK b k=γ v/\Q v (dP e a<|.dK<|nY b k)
section
variable{X:Cx}{o e f:Expr}{apos cpos:Pos}{td ty tx:TE}
theorem Wm(i:PE X o td)(j:PE X e ty)(m:M1 X o "pop" apos e cpos):PE X (.Call (.Attribute o "pop" apos) [e] [] cpos) (Ue td ty):=by
 intro pins s c H Q I h;refine wpAny_Call_method m.base m.few m.line F.plainAttrs_dict xx F.type_dict_pop<|dQ (i pins s c H _ I h) λu n y_=>?_;refine q_ λW_=>?_;obtain⟨x,p,g,q,a,ex,d,r⟩:=y_;apply W_;subst ex;refine q_ λwv=>?_;obtain rfl:u=aw a:=q;obtain⟨t,w,_⟩:=aLo g d;apply wv;refine⟨t,w,?_⟩;rw[m.trees];refine k9 rfl<|mq<|uv<|dQ (j pins n c p _ g r) λJ K ⟨y,L,z,A,B,k,v,C,D,l,E⟩=>vm ?_;subst D;exact aRh z C A l (.inl rfl) λM N G b=>⟨v,_,G,b,E⟩
end
end L2
set_option maxHeartbeats 4000000
namespace Lx
open PySem PySem.Spec PyProof.Rows L2
def ExcAt(a h:ei)(H:Hp)(x:ο)(C:ξ):Prop:=
 ∃b c,h.get? x=γ b/\b.cls=C/\b.data= .fields c/\H x=none/\a.get? x=none/\
  (c[1]? =γ Value.none\/∃T d e,c[1]? =γ (aw T)/\T≠x/\h.get? T=γ d/\d.data= .fields e/\e[3]? =γ Value.none/\H T=none/\a.get? T=none)
theorem ExcAt.older(e:ExcAt c h H x C)(k:∀b,c.get? b=none->a.get? b=none):ExcAt a h H x C:=by
 obtain⟨f,g,i,j,l,m,n,d⟩:=e;refine⟨f,g,i,j,l,m,k _ n,?_⟩;rcases d with d|⟨T,o,p,q,r,s,t,u,v,w⟩
 ·exact .inl d
 ·exact .inr ⟨T,o,p,q,r,s,t,u,v,k _ w⟩
theorem Bp(x:ObjOk P w H h a o):∃u,h.get? a=γ u:=by
 cases o with
 |lst c=>obtain⟨_,_,_,_,e⟩:=x;exact⟨_,e⟩
 |tup c=>obtain⟨_,_,_,p⟩:=x;obtain⟨o,d,_⟩:=p;exact⟨o,d⟩
 |dK b=>obtain⟨_,_,_,_,o,_,_,e,_⟩:=x;exact⟨_,e⟩
 |dT b=>obtain⟨_,_,_,_,o,_,_,e,_⟩:=x;exact⟨_,e⟩
 |set S n=>obtain⟨o,_,_,_,e,_⟩:=x;exact⟨_,e⟩
 |ins C i g=>obtain⟨_,_,_,e,_⟩:=x;exact⟨_,e⟩
 |own y=>exact x
 |xd g=>obtain⟨_,⟨_,_,_,e,_⟩,_⟩:=x;exact⟨_,e⟩
 |rng j k=>obtain⟨_,_,_,e⟩:=x;exact⟨_,e⟩
 |frz l u=>obtain⟨e,_⟩:=x;exact⟨_,e⟩
 |tbl m=>exact⟨_,(show h.get? a=γ _ from x)⟩
 |met f y=>exact⟨_,(show h.get? a=γ _ from x)⟩
 |ext q=>obtain⟨_,e,_⟩:=x;exact e
theorem tR(h:b∈l)(c:b.frame=γ a):a∈nF l:=jh.mpr ⟨b,h,c⟩
theorem zH
  (r:A.frames=γ (env::outer)) (hl:s.heap.FunFrames base<|env::outer) (D:env.frame=γ L) (hx:ExcAt h₀ s.heap H x C)
  (h0:∀b o,h₀.get? b=γ o->∃u,s.heap.get? b=γ u) (hH:∀b o,H b=γ o->∃u,s.heap.get? b=γ u)
  (h:∀c,(∀b o,s.heap.get? b=γ o->(h₀.get? b≠none\/H b≠none)->b∉nF (env::outer)->c.get? b=γ o) ->
   (∀b o,s.heap.get? b=γ o->b∈nF (env::outer)->∃sl,c.get? b=γ {o with slots:=sl}) ->
   ExcAt h₀ c H x C->Q () {s with heap:=c}):
  Φ M A (noteFrame (.ref x) env) (λ_ s2=>Φ M A (setFlight (.ref x) none) Q E s2) E s:=by
 refine q_ λwv=>?_;obtain⟨oe,vs,F,hc,G,k,l,d⟩:=hx;apply wv;have go:∀(tr:ε ο)(K:x∈tr)(d:∀b∈tr,H b=none/\h₀.get? b=none)(c:ei),Heap.Left (W.hideAll s.heap<|tr++nF (env::outer)) (env::outer) x C s.heap c->Q () {s with heap:=c}:=by
  intro tr K d c j;obtain⟨k1,k2,k3,k4⟩:=j;have kept:∀b o,s.heap.get? b=γ o->(h₀.get? b≠none\/H b≠none)->b∉nF (env::outer)->c.get? b=γ o:=λb o e g hn=>by
   refine k1 b o<|uj _ e λI=>?_;rcases eg.mp I with z|z
   ·obtain⟨z1,z2⟩:=d b z;rcases g with q|q
    ·exact q z2
    ·exact q z1
   ·exact hn z
  refine h c kept (λb o e g=>?_) ?_
  ·obtain⟨_,o',t,f⟩:=hl.mem g;rw[e]at t;cases t;exact k4 b o e f
  ·obtain⟨N,O,T,oT,ts,P,R,S,U,v,X,hT,w,J⟩:=k3;have y:H T=none/\h₀.get? T=none:=by
    by_cases I:T∈tr++nF (env::outer)
    ·rcases eg.mp I with z|z
     ·exact d T z
     ·obtain⟨_,o',t,f⟩:=k2.mem z;rw[hT]at t;cases t;exact ς w<|f ts
    ·have no:s.heap.get? T=none:=by
      cases q:s.heap.get? T with
      |none=>rfl
      |some o=>
       rw[uj _ q I]at v;cases v
     refine⟨?_,?_⟩
     ·cases q:H T with
      |none=>rfl
      |some o=>
       obtain⟨u,B⟩:=hH T o q;rw[no]at B;cases B
     ·cases q:h₀.get? T with
      |none=>rfl
      |some o=>
       obtain⟨u,B⟩:=h0 T o q;rw[no]at B;cases B
   exact⟨N,O,P,R,S,k,l,.inr ⟨T,oT,ts,U,X,hT,w,J,y.1,y.2⟩⟩
 have ff:∀tr:ε ο,s.heap.FunFrames (W.hideAll s.heap<|tr++nF (env::outer)) (env::outer):=λtr=>W.funFrames_hide hl λa1 m a h2=>cu _<|tR m h2;have stays:∀tr:ε ο,(W.hideAll s.heap<|tr++nF (env::outer)).StaysIn s.heap:=λtr b o q=>zt _ q;have n:∀(tr:ε ο)(b:ο),b∈tr->(W.hideAll s.heap<|tr++nF (env::outer)).get? b=none:=λtr b g=>ym _<|je _ g;rcases d with m|⟨Tr,a2,tv,m,Y,p,hdTr,J,Z,a0⟩
 ·unfold noteFrame;simp only[D];refine π<|gu (s:=s) F G m ?_;rw[χ (by decide:¬((Value.none !=Value.none)=true))];refine yy r (ff [x]) D F (stays [x]) (n [x] x<|by simp) G (fo.mp m).1 λc j=>go [x] (by simp) (λb g=>?_) c (by rw[<-hc];exact j);have e:b=x:=by simpa using g
  subst e;exact⟨k,l⟩
 ·unfold noteFrame;simp only[D];refine π<|gu (s:=s) F G m ?_;rw[Α (by simp:(aw Tr !=Value.none)=true)];refine π<|gu (s:=s) p hdTr J ?_;rw[χ (by simp[rawInt]:¬((Value.none==rawInt L)=true))];refine π<|yz (s:=s) p hdTr (fo.mp J).1 ?_;have i:∀b,b≠Tr->(s.heap.update Tr<|Obj.mapFields (·.setIfInBounds 3 Value.none)).get? b=s.heap.get? b:=λb nb=>k8 _ _<|Ne.symm nb;have nT:∀b u,s.heap.get? b=γ u->(∀vs,u.data≠ .fields vs)->b≠Tr:=λb u q f z=>by
   rw[z,p]at q;cases q;exact f tv hdTr
  refine yy r ((ff [x,Tr]).of_keeps λb u q f=>⟨u,(i b<|nT b u q f).trans q,rfl⟩) D ((i x<|Ne.symm Y).trans F) (λb u q=>(i b λz=>?_).trans<|stays [x,Tr] b u q) (n [x,Tr] x<|by simp) G (fo.mp m).1
   λc j=>go [x,Tr] (by simp) (λb g=>?_) c ⟨j.1,j.2.1,by rw[<-hc];exact j.2.2.1,λb u q f=>j.2.2.2 b u ((i b<|nT b u q f).trans q) f⟩
  ·rw[z,n [x,Tr] Tr<|by simp]at q;cases q
  ·have e:b=x\/b=Tr:=by simpa using g
   rcases e with e|e
   ·subst e;exact⟨k,l⟩
   ·subst e;exact⟨Z,a0⟩
theorem Gw
  (d:A.frames=γ (a::outer)) (e:s.heap.FunFrames base<|a::outer) (f:a.frame=γ L) (g:ExcAt h₀ s.heap H x C)
  (i:∀b o,h₀.get? b=γ o->∃u,s.heap.get? b=γ u) (j:∀b o,H b=γ o->∃u,s.heap.get? b=γ u)
  (h:∀c,(∀b o,s.heap.get? b=γ o->(h₀.get? b≠none\/H b≠none)->b∉nF (a::outer)->c.get? b=γ o) ->
   (∀b o,s.heap.get? b=γ o->b∈nF (a::outer)->∃k,c.get? b=γ {o with slots:=k}) ->
   ExcAt h₀ c H x C->Q () {s with heap:=c}):
  Φ M A (leaving a<|.ref x) Q E s:=π<|zH d e f g i j h
def iY(P:Program)(w:gb):Lm:=λouter H s E e a=>
 ∃(x:ο)(C:ξ)(b:Hp),e= .ref x/\a.os=s.os/\AllBare a.gens/\Un (nF outer) [] H b s.heap a.heap/\HOk P w b a.heap/\ExcAt s.heap a.heap b x C/\E C none b
theorem bV:iP (iY P w) X E0:=λ_ _ _ _ _ _ _ ⟨_,_,_,_,_,_,_,_,_,h⟩=>h.elim
section
variable{P:Program}{w:gb}{K:μ}{mg:Ξ->υ ξ}{base:ei}
theorem Oa{f h₁:ei}(g:Inv X pins h c d)
  (k:∀b o,d.heap.get? b=γ o->(h₁.get? b≠none\/c b≠none)->b∉nF X.stack->f.get? b=γ o):HOk X.prog X.w c f:=λa o e=>
 (g.hok a o e).stay (λb u i q=>by
  have t:c b≠none:=by
   rcases i with z|z
   ·rw[z,e];simp
   ·rw[z];simp
  exact k b u q (.inr t) λj=>t (g.stkFree b j)) (λ_ q=>q) λ_ _ q=>q
theorem eV:
  iP (iY P w) (oS (iY P w) P w K mg base N qual scope f g A outer a h E) E:=by
 intro pins J H s e F I L;refine q_ λwv=>?_;obtain⟨x,C,t,rfl,M,O,u,k,R,S⟩:=L;apply wv;have c:Inv (oS (iY P w) P w K mg base N qual scope f g A outer a h E) pins J t F:=I.call' M u k O (λb z=>ς z<|by simp);have there:∀b o,a.heap.get? b=γ o->∃m,s.heap.get? b=γ m:=λb o e=>I.base.there b o e (by intro z;exact ς (show b∈([]:ε ο)from z)<|by simp);show Φ (model P w) _ (leaving _<|.ref x) _ _ F;refine Gw (h₀:=s.heap) (H:=t) (C:=C) (base:=base) c.ok.frames c.stack rfl R (λb o e=>u.there b o e<|by simp) (λb o e=>Bp<|k b o e) λh' v G y=>?_;have d:∀b:ο,b∉(oS (iY P w) P w K mg base N qual scope f g A outer a h E).ex:=λb z=>ς (show b∈([]:ε ο)from z) (by simp);have B:∀b o,a.heap.get? b=γ o->b∉nF outer->b∉nF (envOfC qual scope a.heap.objs.size f g::outer):=λb o e i p=>by
  rcases Ω.mp (c.stkSub b p)with z|z
  ·exact ς (z▸bw e)<|ux.mpr c.ok.above
  ·exact i z
 refine⟨x,C,t,rfl,c.os,c.bare,⟨λb o e n i _=>?_,λb o e n i _=>?_,λb o e n _=>c.base.free b o e n<|d b,λb o e _=>?_,c.base.tups,c.base.frzs,c.base.tbls⟩,Oa c v,y.older λb q=>?_,S⟩
 ·obtain⟨m,j⟩:=there b o e;exact v b o (c.base.keep b o e n i<|d b) (.inl (by rw[j];simp))<|B b o e i
 ·obtain⟨T,r⟩:=c.base.slot b o e n i (d b)
  obtain⟨l,D⟩:=G b _ r (by
   obtain⟨U,W,X⟩:=jh.mp i
   exact tR (Θ _ W) X)
  exact⟨l,D⟩
 ·obtain⟨Y,r⟩:=c.base.there b o e<|d b;by_cases p:b∈nF (envOfC qual scope a.heap.objs.size f g::outer)
  ·obtain⟨l,D⟩:=G b _ r p;exact⟨_,D⟩
  ·obtain⟨m,j⟩:=there b o e;exact⟨_,v b Y r (.inl (by rw[j];simp)) p⟩
 ·cases Z:a.heap.get? b with
  |none=>rfl
  |some o=>
   obtain⟨m,j⟩:=there b o Z;rw[q]at j;cases j
theorem okE{st:Stmt}(F:Fun K x qual st f j)(S:FnScope N d<|aM st)(g:∀b H Q E,e b H Q E->b.length=d.length)
  (c:∀(a:ξ)(A:Around)(outer:ε Env)(s:Ζ)(H:Hp)(b:ε V)(Q:VK)(E:XK),Room k (A.deeper (envOfC qual (aM st) s.heap.objs.size f a))->e b H Q E ->
   ∃t,Df (oS (iY P w) P w K mg base N qual (aM st) f a A outer s H E) (eP st) t/\t {nx:=λ_ l=>Q .non l,rt:=Q} (start N b) H):FnOk P w K mg base (iY P w) (k+1) f j d e:=by
 refine q_ λwv=>?_;obtain⟨q,r,kV,m,u,v,a,ct,n,rfl,o,h⟩:=F.ex;apply wv;exact aQs o h S g λA outer s H b Q E p i=>c a A outer s H b Q E p i
end
noncomputable abbrev aTh:ε ξ:=[.type "ValueError",.type "Exception",.type "BaseException",.type "object"]
theorem aDk{K:μ}(i:K.In h)(q:W.excIn K C b newId=true):
  ∃o N nm t bs c u j v k w x y z A B p,h.get? C=γ (excClassObj nm t C N bs o c u j v k w x y z A B newId)/\h.Ns N p/\p "__init__"=none/\OwnTail h b o:=by
 unfold W.excIn at q;split at q
 ·rename_i dct d e a
  split at q
  ·rename_i Cx l s0 D E F Y G f g
   simp only[h9,iy,rk]at q;refine q_ λwv=>?_;obtain⟨⟨⟨⟨⟨H,I⟩,r⟩,J⟩,m⟩,s⟩:=q;apply wv;subst H;subst I;refine q_ λwv=>?_;obtain⟨L,M,Z,O,P,R,S,T,U,n,X⟩:=d;apply wv;dsimp only at f r m s;subst f;subst r;obtain⟨sl⟩:=e;dsimp only at g;subst g;exact⟨l,O,L,P,M,R,S,T,U,n,dct,s0,D,E,F,G,_,i _ _ a,.of_isNs<|W.isNs_of_in i m,W.nsMap_none_of_in i m s,W.tail_of_in i J⟩
  ·cases q
 ·cases q
structure ExcCl(K:μ)(mg:Ξ->υ ξ)(x:Ξ)(C:ο):Prop where
 ex:W.excIn K C aTh "ValueError.__new__"=true
 mgx:mg x=γ (.ref C)
def Uc(E:XK)(C:ο)(t:TA):TS:=λ_ a H=>t a H λb c=>b.length<=sizeLine/\E (.ref C) none c
section
variable{X:Cx}{P:Program}{w:gb}{E:XK}{x:Ξ}{C:ο}{np cpos pos:Pos}{e:Expr}{es:ε Expr}{t:TA}
theorem eJ(O:ExcCl X.K X.mg x C)(v:X.A.handled=none)(A:iP (iY X.prog X.w) X E)(B:Gl X x)(G:PA X (e::es) t)(J:(x==("__debug__":Ξ))=false:=by decide)
  (m:starEach (e::es) X.env=(false,eval e X.env)::starEach es X.env:=by rfl) (i:(backTo cpos<|starEach es X.env).any (·.1)=false:=by rfl):
  PS X (.Raise (γ<|.Call (.Name x np) (e::es) [] cpos) none pos) (Uc E C t):=by
 intro pins s n H D I h;refine q_ λwv=>?_;obtain⟨bm,N,nm,K,bs,hdct,sn,sub,ab,col,dd,k0,k1,k2,k3,k5,mN,L,R,j,T⟩:=aDk I.ok.mod.kin O.ex;apply wv;refine wpAny_Raise_call_subU (C:=C) (nm:=nm) (q:=K) (N:=N) (bs:=bs) (bm:=bm) (hdct:=hdct) (sn:=sn) (sub:=sub) (ab:=ab) (col:=col) (dd:=dd) (k0:=k0) (k1:=k1) (k2:=k2) (k3:=k3) (k5:=k5)
  sk (by decide +kernel) sk (mN:=mN) (T.hasType F.excBase_ValueError.hasBase) v (by rw[m];show(false||(backTo cpos<|starEach es X.env).any (·.1))=false;rw[i];rfl) j (qH I B O.mgx ⟨rfl,?_⟩ J)
 have d:=dQ (G cpos pins s n H _ I h) (Q':=λg c=>g.length<=sizeLine/\(∀b o,X.base.get? b=γ o->c.heap.get? b=γ o)/\∀k e,Heap.MadeExcOf c.heap k e (.ref C) g->X.xe (.ref e) {c with heap:=k}) λW S ⟨g,l,f,r,z,q⟩=>⟨by rw[<-r.length];exact z,f.bk,λk e M=>?_⟩
 ·rw[m]at d⊢;exact mq<|ed d (λg c a=>⟨rfl,a.1,a.2.1 _ _ L,R.keeps a.2.1,T.keeps a.2.1,a.2.2⟩) λ_ _ y=>y
 ·refine A pins n l S (.ref e) _ f ⟨e,.ref C,l,rfl,rfl,f.bare,Un.kept M.keeps,f.hok.kept M.keeps,?_,q⟩;obtain⟨Y,U,Z,t3⟩:=M.there;refine⟨_,_,U,rfl,rfl,?_,M.new,.inl rfl⟩;cases z:l e with
  |none=>rfl
  |some o=>
   obtain⟨u,p⟩:=Bp<|f.hok e o z;rw[M.new]at p;cases p
end
abbrev XS:=L2.St->XK
abbrev TSX:=Ends->XS->L2.St->Hp->Prop
def Up(X:Cx)(pins:ε<|ο×Obj)(E:XS)(e:ξ)(f:Ζ):Prop:=
 ∃(x:ο)(C:ξ)(d:L2.St)(g:Hp)(a:ei),e= .ref x/\Inv X pins d g f/\ExcAt a f.heap g x C/\(∀b o,a.get? b=γ o->∃u,f.heap.get? b=γ u)/\
  (∀b o,X.s₀.heap.get? b=γ o->b∉X.ex->∃u,a.get? b=γ u)/\(∃u,a.get? X.env.locals=γ u)/\(∀p∈X.pn++pins,∃u,a.get? p.1=γ u)/\(∀x c,X.env.cells.lookup x=γ c->∃u,a.get? c=γ u)/\E d C none g
def PSX(X:Cx)(st:Stmt)(t:TSX):Prop:=
 ∀(pins:ε<|ο×Obj)(s:Ζ)(a:L2.St)(H:Hp)(D:Ends)(E:XS),Inv X pins a H s->t D E a H->Φ (model X.prog X.w) X.A (exec st X.env) (SP X pins D) (Up X pins E) s
def aRu(X:Cx)(st:ε Stmt)(t:TSX):Prop:=
 ∀(pins:ε<|ο×Obj)(s:Ζ)(a:L2.St)(H:Hp)(D:Ends)(E:XS),Inv X pins a H s->t D E a H->Φ (model X.prog X.w) X.A (execs st X.env) (SP X pins D) (Up X pins E) s
section
variable{X:Cx}{st:Stmt}{rest:ε Stmt}{t u:TSX}{pos:Pos}
theorem Vw(a:PSX X st t):aRu X [st] t:=by
 intro pins s b H D E I h;refine qh<|dQ (a pins s b H D E I h) λf c q=>?_;cases f with
 |next=>exact jf q
 |ret v=>exact q
 |brk=>exact q
 |cont=>exact q
theorem aOn{pins:ε<|ο×Obj}{d:L2.St}{H:Hp}{s g:Ζ}{e:ξ}{E:XS}(I:Inv X pins d H s)(h:iY X.prog X.w X.stack H s (E d) e g):Up X pins E e g:=by
 obtain⟨x,C,j,rfl,a,k,i,f,l,n⟩:=h;refine⟨x,C,d,j,s.heap,rfl,I.call' a i f k λb z=>ς z<|by simp,l,λb o e=>i.there b o e<|by simp,λb o e q=>I.base.there b o e q,?_,λp r=>⟨_,(I.pin p r).1⟩,λx c w=>?_,n⟩
 ·obtain⟨m,⟨o,_,_,a,_⟩,_⟩:=I.loc;exact⟨o,a⟩
 ·obtain⟨v,o,a,_⟩:=I.cell x c w;exact⟨o,a⟩
variable{k:ν}{f:ο}{fd:FuncData}{ps:ε Ξ}{sp:Sp}{x:Ξ}{p:Pos}{e:Expr}{es:ε Expr}{ta:TA}
end
noncomputable abbrev mP(X:Cx)(x:ο):Cx:={X with A:=X.A.mark<|some<|.ref x,calm:=false,xe:=λ_ _=>Ε}
section
variable{X:Cx}{pins:ε (ο×Obj)}{σ:L2.St}{H:Hp}{s:Ζ}{x:ο}
theorem Qo(ok:X.Ok):(mP X x).Ok:=
 ⟨ok.mod,ok.kind,ok.glob,ok.blt,ok.above,ok.inj,ok.has,ok.cab,λz=>ς z<|by simp,ok.frames,ok.stk,ok.exf,ok.bs,ok.bsz,ok.noex,ok.exfs,ok.funs,ok.frf⟩
theorem wB(I:Inv X pins σ H s):Inv (mP X x) pins σ H s:=⟨Qo I.ok,I.os,I.bare,I.base,I.loc,I.cell,I.free,I.freeC,I.pin,I.hok,I.len⟩
theorem iV(a:X.Ok)(I:Inv (mP X x) pins σ H s):Inv X pins σ H s:=⟨a,I.os,I.bare,I.base,I.loc,I.cell,I.free,I.freeC,I.pin,I.hok,I.len⟩
theorem Eh{D:Ends}{f:Flow}{d:Ζ}(c:X.Ok)(h:SP (mP X x) pins D f d):SP X pins D f d:=by
 cases f with
 |next=>obtain⟨a,b,I,q⟩:=h;exact⟨a,b,iV c I,q⟩
 |brk=>obtain⟨a,b,I,q⟩:=h;exact⟨a,b,iV c I,q⟩
 |cont=>obtain⟨a,b,I,q⟩:=h;exact⟨a,b,iV c I,q⟩
 |ret u=>obtain⟨v,a,b,I,r,q⟩:=h;exact⟨v,a,b,iV c I,r,q⟩
structure Old(X:Cx)(pins:ε<|ο×Obj)(h₁:ei):Prop where
 s0:∀b o,X.s₀.heap.get? b=γ o->b∉X.ex->∃u,h₁.get? b=γ u
 lo:∃u,h₁.get? X.env.locals=γ u
 pn:∀p∈X.pn++pins,∃u,h₁.get? p.1=γ u
 ce:∀x c,X.env.cells.lookup x=γ c->∃u,h₁.get? c=γ u
theorem nA{h:ei}{b:ο}(e:∃u,h.get? b=γ u):h.get? b≠none:=by
 obtain⟨u,e⟩:=e;rw[e];simp
theorem He{h₁ C:ei}{t':ν}(A:X.stack=X.env::X.outer)(P:X.env.frame=γ X.env.locals)(I:Inv X pins σ H s)(O:Old X pins h₁)
  (B:∀b o,s.heap.get? b=γ o->(h₁.get? b≠none\/H b≠none)->b∉nF X.stack->C.get? b=γ o)
  (j:∀b o,s.heap.get? b=γ o->b∈nF X.stack->∃j,C.get? b=γ {o with slots:=j}):Inv X pins σ H {s with heap:=C,toks:=t'}:=by
 have E:∀b∈X.fs,b∈nF X.stack:=λb a=>by
  obtain⟨R,S,T⟩:=jh.mp a;rw[A];exact tR (Θ _ S) T
 have F:X.env.locals∈nF X.stack:=by rw[A];exact tR Κ P
 have f:∀b o,X.s₀.heap.get? b=γ o->b∉X.fs->b∉nF X.stack:=λb o e a t=>by
  rcases Ω.mp (I.stkSub b t)with z|z
  ·exact ς (z▸bw e)<|ux.mpr I.ok.above
  ·exact a z
 have cellK:∀x c,X.env.cells.lookup x=γ c->∀v,s.heap.IsCell c v->C.IsCell c v:=λx c e v ⟨o,D,J⟩=>by
  by_cases K:c∈nF X.stack
  ·obtain⟨z,q⟩:=j c o D K;exact⟨_,q,J⟩
  ·exact⟨o,B c o D (.inl<|nA<|O.ce x c e) K,J⟩
 refine⟨I.ok,I.os,I.bare,⟨λb o e n a g=>?_,λb o e n a g=>?_,I.base.free,λb o e g=>?_,I.base.tups,I.base.frzs,I.base.tbls⟩,?_,λy c e=>?_,I.free,I.freeC,λp L=>?_,?_,I.len⟩
 ·exact B b o (I.base.keep b o e n a g) (.inl<|nA<|O.s0 b o e g)<|f b o e a
 ·obtain⟨s1,w⟩:=I.base.slot b o e n a g;obtain⟨G,h⟩:=j b _ w<|E b a;exact⟨G,h⟩
 ·obtain⟨U,w⟩:=I.base.there b o e g;by_cases t:b∈nF X.stack
  ·obtain⟨G,h⟩:=j b _ w t;exact⟨_,h⟩
  ·exact⟨_,B b U w (.inl<|nA<|O.s0 b o e g) t⟩
 ·refine q_ λwv=>?_;obtain⟨m,W,Y⟩:=I.loc;obtain⟨o,Z,ep,D,r⟩:=W;obtain⟨G,h⟩:=j _ o D F;apply wv;refine⟨m,⟨_,Z,ep,h,r⟩,λi y v w h e3=>?_⟩;obtain⟨u,r',l⟩:=Y i y v w h e3;refine⟨u,r',?_⟩;rcases l with l|⟨k,c,e,z⟩
  ·exact .inl l
  ·exact .inr ⟨k,c,e,cellK y c e _ z⟩
 ·obtain⟨v,z⟩:=I.cell y c e;exact⟨v,cellK y c e v z⟩
 ·refine q_ λwv=>?_;obtain⟨e,n,M,N,d⟩:=I.pin p L;apply wv;refine⟨B p.1 p.2 e (.inl<|nA<|O.pn p L) λt=>?_,n,M,N,d⟩;rcases Ω.mp (I.stkSub _ t)with z|z
  ·exact M z
  ·exact N z
 ·exact Oa (h₁:=h₁) I B
theorem Kl{M:Model}{A:Around}{E:ξ->Ζ->Prop}{a:ei}{C:ξ}{Q:Unit->Ζ->Prop}(B:ExcAt a s.heap H x C)
  (h:∀e,(∀b o,s.heap.get? b=γ o->(a.get? b≠none\/H b≠none)->e.get? b=γ o)->(∀b o,s.heap.get? b=γ o->(∀n,o.data≠ .fields n)->e.get? b=γ o)->(∀b o,s.heap.get? b=γ o->∃u,e.get? b=γ u)->ExcAt a e H x C->Q () {s with heap:=e}):
  Φ M A (setFlight (.ref x) none) Q E s:=by
 have p:=B;obtain⟨F,n,r,G,t,v,w,y⟩:=B;unfold setFlight;rcases y with m|⟨Tr,I,J,m,f,d,hdTr,D,i,j⟩
 ·refine π<|gu (s:=s) r t m ?_;rw[χ (by decide:¬((Value.none !=Value.none)=true))];exact Ψ<|h s.heap (λ_ _ q _=>q) (λ_ _ q _=>q) (λ_ o q=>⟨o,q⟩) p
 ·refine π<|gu (s:=s) r t m ?_;rw[Α (by simp:(aw Tr !=Value.none)=true)];refine yz (s:=s) d hdTr (fo.mp D).1 ?_;have c:∀b,b≠Tr->(s.heap.update Tr<|Obj.mapFields (·.setIfInBounds 3 Value.none)).get? b=s.heap.get? b:=λb K=>k8 _ _<|Ne.symm K;have k:=Obj.data_mapFields hdTr (·.setIfInBounds 3 Value.none);have l:=qi (Obj.mapFields (·.setIfInBounds 3 Value.none)) d<|Obj.isFreed_of_fields k;refine h _ (λb o q L=>(c b λz=>?_).trans q) (λb o q N=>(c b λz=>?_).trans q) (λb o q=>?_) ⟨F,n,(c x<|Ne.symm f).trans r,G,t,v,w,.inr ⟨Tr,_,_,m,f,l,k,by simp[(fo.mp D).1],i,j⟩⟩
  ·subst z;rcases L with g|g
   ·exact g j
   ·exact g i
  ·subst z;rw[d]at q;cases q;exact N J hdTr
  ·by_cases z:b=Tr
   ·subst z;exact⟨_,l⟩
   ·exact⟨o,(c b z).trans q⟩
end
section
variable{X:Cx}
def aBl(X:Cx)(y:Ξ)(a:ξ):Prop:=(Gl X y/\X.mg y=γ a)\/(Gl X y/\X.mg y=none/\bootBuiltins y=γ a/\y≠"__name__")
theorem Ry{E:ξ->Ζ->Prop}{pins:ε<|ο×Obj}{s:Ζ}{f:L2.St}{H:Hp}{y:Ξ}{d:ξ}{g:Pos}{Q:ξ->Ζ->Prop}(c:aBl X y d)(I:Inv X pins f H s)(e:(y==("__debug__":Ξ))=false)(h:Q d s):
  Φ (model X.prog X.w) X.A (eval (.Name y g) X.env) Q E s:=by
 rcases c with⟨a,b⟩|⟨a,b,i,j⟩
 ·exact qH I a b h e
 ·exact jH I a b i h j e
end
theorem Pi(h:i.natAbs<2^n):az i<=n:=by
 unfold az;split
 ·exact hB _
 ·rcases uy i.natAbs with b|c
  ·rename_i a
   exact ς (Int.natAbs_eq_zero.mp b) (by simpa using a)
  ·have:=(zy<|wk c).mpr h;assumption
def Wee(i:τ):Prop:=i.natAbs<2^8000
theorem Wee.bits(h:Wee i):az i<=8000:=Pi h
theorem fS(a:Wee i)(b:Wee j):IntMulOk i j:=y2 a.bits b.bits (by decide)
theorem Xd(a:az i<=10000000)(b:Wee j):IntMulOk i j:=y2 a b.bits (by decide)
theorem Ls(h:Wee i):i.natAbs.log2<9000:=by
 rcases uy i.natAbs with a|b
 ·rw[a];decide
 ·have:=(zy<|wk b).mpr h;exact 1
def aSi(i j:τ):Prop:=IntMulOk i j
def Pn(i j:τ):Prop:=0<j/\Wee j
def aSj(i j:τ):Prop:=j≠0/\Wee j
section
variable{X:Cx}
theorem mZ:lH X (binaryOp .Mult) (rI aSi λi j=>.int<|i*j):=opI λ_ _ _ _ _ _ _ a q=>mul_int q a
theorem Fr:lH X (binaryOp .FloorDiv) (rI aSj λi j=>.int<|i.fdiv j):=opI λ_ _ _ _ _ _ _ a q=>zz a.1 q<|.inl<|p6<|Ls a.2
theorem lZ:lH X (binaryOp .FloorDiv) (rI Pn λi j=>.int<|i/j):=opI λi j _ _ _ _ _ a q=>by
 have b:(0:τ)<j:=a.1;refine zz (Int.ne_of_gt b) ?_<|.inl<|p6<|Ls a.2;rw[jb _<|vq b];exact q
end
theorem Oc{a:ο}:∀u,RelV (.ref a) u->u= .ref a:=λ_ h=>h
theorem bits_of_lay{a:ε τ}(h:W.WData.layableAll [W.WData.list<|a.map W.WData.int]=true):∀v∈a,az v<=1048576:=λv c=>by
 have d:=W.layableW_arg h _<|Υ.mpr rfl;have f:=W.layableW_item d (W.WData.int v)<|Ν.mpr ⟨v,c,rfl⟩;obtain⟨_,_,b⟩:=W.layableW_iff.mp f;have e:(2:ν)^20=1048576:=by decide
 rw[e]at b;simpa only[W.WData.weight,az]using b
end Lx
namespace Att
open PySem PySem.W PySem.Calls PyProof.Rows
theorem attachB{l:OpenLaw}
  (E:l.most=γ n) (t:d.params.defaults=[])
  (call:∀(w:gb)(c b:Ζ)(m u:Ξ->υ ξ)(h:ο)(o:Obj)(x p e:ξ)(a:ο)(g:ε ξ)(i:ε τ),
   Ground q loose [] B w c m u b.heap->C w b.heap ->
   b.heap.get? h=γ o->o.data= .func (docDef d.name d.params d.body d.scope x p e)->b.heap.CodeRec p d.name->m d.name=γ (.ref h) ->
   b.heap.get? a=γ {cls:=.type "list",data:=.seq g.toArray}->IntsAre g i->i.length<=n->(∀v∈i,az v<=1048576)->b.gens=#[] ->
   codeAny (model l.prog w) callerA (.call (.ref h) ⟨[.ref a],[]⟩) (λr s=>r= .ok (.ret (.bool true))/\OldK b.heap s.heap/\s.os=b.os/\AllBare s.gens) b):
  WalkO q loose B C l.row.toRowW d [] (λf g=>PySem.call f g):=by
 intro w c b m u G Y h o x p e F kV H I y D z J args vals S j k K A L;refine q_ λwv=>?_;obtain rfl:F= .none:=Dflts.none D t;obtain rfl:kV= .none:=Dflts.noKw D;obtain⟨a,g,i,rfl,rfl,hobj,hints,hlen⟩:=Pz E j A;apply wv;refine enter_call<|m9 (call w c b m u h o x p e a g i G Y H (fd_plain I) y z hobj hints hlen (Lx.bits_of_lay k) J) λr s M=>?_;obtain⟨rfl,N,O,P⟩:=M;exact⟨.inl ⟨.bool true,.bool true,[],rfl,λ_=>rfl,.bool true,Qh l _,λ_=>⟨Pairwise.nil,λ_ R=>(nomatch R)⟩⟩,N,O,P⟩
end Att
namespace Lx
open PySem PySem.Spec PyProof.Rows L2
def Mo(K:μ):Sp:=λc H Q _=>∃(a:ο)(b:ε τ),c=[.ref a]/\SqL K H a (b.map V.int)/\b.length<=63/\(∀v∈b,az v<=1048576)/\aNn H/\∀d,Q (.bl true) d
theorem walkB{l:W.OpenLaw}{K:Params->μ}
  (z:l.most=γ 63) (j:d.params.defaults=[]) (A:Room k callerA)
  (B:∀(w:gb)(h:ei),p w h->(K w.params).In h)
  (F:∀(w:gb)(c:Ξ->υ ξ)(i:ο)(h:ei),(K w.params).In h->h.Ns mainGlobals c->c d.name=γ (.ref i) ->
   ∃m:FuncData,(∀(s:Ζ)(u:ξ),BindsTo s m ⟨[u],[]⟩ [("script",u)])/\
    ∀base:ei,(K w.params).In base->base.Ns mainGlobals c->FnOk l.prog w (K w.params) c base (iY l.prog w) k i m ["script"] (Mo (K w.params))):
  W.WalkO q loose y p l.row.toRowW d [] (λf r=>PySem.call f r):=by
 refine Att.attachB z j λw t v c O i o P R C a r D G Y S T E n g hints hlen b I=>?_;have x:=B w _ Y;obtain⟨m,J,L⟩:=F w c i _ x G.T.g n;exact Xq x G.T.g G.T.b G.T.builtins G.T.nolimit I g hints (Β hlen<|by decide) A L J (λH M N=>⟨a,D,rfl,N,hlen,b,M,λ_=>rfl⟩) λH e U ⟨_,_,_,_,_,_,_,_,_,h⟩=>h
def Its(a st:τ)(n:ν):It:=⟨λi _=>i<n,λi H x b=>b=H/\x= .int (a+i*st),λi _=>n<=i⟩
theorem Dv{K:μ}(a:ο)(d st:τ)(n:ν):Turn P w K tg (Its d st n) [a] a (λi h=>IsRangeIter h a (d+(i:ν)*st) ((n:τ)-(i:ν)) st) where
 mem:=by simp
 obj:=λi h z b c=>by
  have e:b=a:=by simpa using c
  subst e
  exact⟨_,z,λv y=>by
   have D:Data.fields _=Data.cell v:=y
   cases D⟩
 keep:=λi h f z k=>k a (by simp) _ z
 item:=by
  intro X j hw l m i pins s B H E I g z p;subst j hw l;refine q_ λwv=>?_;obtain⟨q,r,F,u,x,A⟩:=g a (by simp);apply wv;have W:=AV (prog:=X.prog) (w:=X.w) (I.ok.hd m) a d st n;refine W.item i s _ _ p z λv f tk G C J=>?_;obtain⟨t,rfl⟩:=G;have L:Inv X pins B H {s with heap:=f,toks:=tk}:=I.turned (λb o c e=>J b o (by simpa using c) e) q r u x A;exact⟨_,rfl,zO (s:={s with heap:=f,toks:=tk}) (n:="range_iterator") C rfl rfl (by decide) ⟨.int<|d+i*st,H,L,⟨t,rfl⟩,⟨rfl,rfl⟩,C,λb c=>(g b c).1⟩⟩
 done:=by
  intro X j hw l m i pins s B H E I g z p;subst j hw l;obtain⟨q,r,F,u,x,A⟩:=g a (by simp);exact q0 (I.ok.hd m) z (by have:n<=i:=p;lia) λf M=>⟨rfl,I.turned (t':=s.toks) (λb o c e=>M b o c e) q r u x A⟩
 self:=λ_ _ _ _ _ z h=>rb z h
section
variable{X:Cx}{tg:Expr}
theorem Qc{a c st:τ}{n:ν}(I:Inv X pins d H s)(f:Builtin.Range.small a c st=true)(h:eu a c st=(n:τ))
  (q:R (Its a st n) H):Φ (model X.prog X.w) X.A (pyIter<|.ref s.heap.objs.size) (PIE X pins d tg R) E {s with heap:=s.heap.push {cls:=.type "range",data:=.fields #[.int a t,.int c u,.int st v]},toks:=tk}:=by
 refine uu (AW ..) f ?_;have g:Inv X pins d H {s with heap:=s.heap.push {cls:=.type "range",data:=.fields #[.int a t,.int c u,.int st v]},toks:=tk}:=I.kept λb o e=>Λ _ e
 refine⟨(s.heap.push {cls:=.type "range",data:=.fields #[.int a t,.int c u,.int st v]}).objs.size,[(s.heap.push {cls:=.type "range",data:=.fields #[.int a t,.int c u,.int st v]}).objs.size],_,_,H,rfl,
  g.kept (t':=tk) λb o e=>Λ _ e,Dv _ a st n,?_,λb i=>?_,q⟩
 ·have j:a+((0:ν):τ)*st=a:=by simp
  have k:(n:τ)-((0:ν):τ)=eu a c st:=by rw[h];simp
  show IsRangeIter _ _ (a+((0:ν):τ)*st) ((n:τ)-((0:ν):τ)) st;rw[j,k];exact aj _ rfl
 ·have e:b=(s.heap.push {cls:=.type "range",data:=.fields #[.int a t,.int c u,.int st v]}).objs.size:=by simpa using i
  subst e;exact g.fpOk (Η _)<|g.hok.fresh<|Η _
def aHl(a:TA):TI:=λb H R=>a b H λc d=>∃(i j k:τ),c=[.int i,.int j,.int k]/\∃n:ν,k≠0/\k.natAbs<1000000/\Builtin.Range.small i j k=true/\eu i j k=(n:τ)/\R (Its i k n) d
theorem Qj(u:Gl X "range")(v:X.mg "range"=none)(w:PA X [a,b,c] o)(x:starEach [a,b,c] X.env=[(false,eval a X.env),(false,eval b X.env),(false,eval c X.env)]:=by rfl)(f:starEach [b,c] X.env=[(false,eval b X.env),(false,eval c X.env)]:=by rfl):
  PI X tg (.Call (.Name "range" p) [a,b,c] [] d) (aHl o):=by
 intro pins s y H R I h;refine zo<|jH I u v yq<|dj (dQ (w d pins s y H _ I h) λF G y_=>?_) (by rw[x,f]) (by rw[f];rfl);refine q_ λW_=>?_;obtain⟨J,K,z,A,l⟩:=y_;apply W_;refine q_ λwv=>?_;obtain⟨i,j,k,e,n,l,L,B,C,q⟩:=l;apply wv;subst e;cases A with
 |cons r g=>
  cases g with
  |cons D g=>
   cases g with
   |cons m g=>
    cases g;refine q_ λwv=>?_;obtain⟨t,rfl⟩:=r;obtain⟨M,rfl⟩:=D;obtain⟨E,rfl⟩:=m;apply wv;exact call_range_3 l (Qc z B C q) (Or.inl<|zA<|‹1›)
end
theorem Qb(e:-(2^40)<i/\i<2^40)(f:-(2^40)<j/\j<2^40)(a:0<k/\k<1000000):Builtin.Range.small i j k=true:=by
 unfold Builtin.Range.small eu;have g:∀z:τ,0<=z->z/k<=z:=λz b=>Int.ediv_le_self _ b;have l:∀z:τ,0<=z->0<=z/k:=λz b=>Int.ediv_nonneg b (by lia);have c:k>0:=a.1;simp only[Builtin.Range.rangeFitsLong,h9,xy,ir,iy,c,jz];have B:∀x:τ,-(2^40)<x/\x<2^40->-2^63<=x/\x<2^63:=λx h=>⟨vq<|vr (by decide) h.1,vr h.2<|by decide⟩;refine⟨⟨⟨⟨B i e,B j f⟩,z0 (by decide)<|vq a.1,vr a.2<|by decide⟩,?_⟩,.inr ⟨by lia,by lia⟩⟩;split
 ·have m:=g (j-i-1) (by lia);have d:=l (j-i-1) (by lia);generalize (j-i-1)/k=z at m d⊢;exact⟨z0 (by decide)<|Int.add_nonneg d<|by decide,by lia⟩
 ·exact⟨by decide,by decide⟩
section
variable{prog:Program}{w:gb}{A:Around}{R:Result->Ζ->Prop}{s:Ζ}
theorem aEi(J:ν->Ζ->Prop)
  (turn:∀n s,J n s->∀f:ξ->Ζ->Prop,Φ (model prog w) A (pyNext i) (λr j=>match r with
   |none=>R (.ok .next) j
   | γ v=>Φ (model prog w) A (letOwnedTupleGo target i v) (fun _ o=>Φ (model prog w) A (assign target a v) (fun _ p =>
     Φ (model prog w) A (forIn d true λc r=>if r=true then do let ok <-isTrue c a (eval c a);pure (ForInStep.yield ok)else pure (ForInStep.yield r)) (λok l=>
      if ok=true then Φ (model prog w) A (eval b a) (λx q=>
       Φ (model prog w) A (call (.builtin "list.append") [e,x]) (λ_ t=>∃m,m<n/\J m t) f q) f l
      else ∃m,m<n/\J m l) f p) f o) f j) f s)
  (n:ν) (h:J n s):codeAny (model prog w) A (.compLoop (.ListComp b [⟨target,iter,d,0⟩] scope g) 0 i e a) R s:=by
 refine codeAny_loop rfl J (λk u D=>?_) n h;show Φ _ A ((compTurn (.ListComp b [⟨target,iter,d,0⟩] scope g) 0 i e a).onRaise (λy=>do noteFrame y a;theTreesLotGoes y)) _ _ u;refine wpAny_noted ?_;rw[compTurn_list];refine π<|p4<|π<|ed (turn k u D _) (λr j B=>?_) λ_ _ z=>z;cases r with
 |none=>exact Ψ B
 |some v=>
  refine π<|ed B (λ_ o E=>π<|ed E (λ_ p F=>π<|ed F (λok l C=>?_) λ_ _ z=>z) λ_ _ z=>z) λ_ _ z=>z;cases ok with
  |false=>exact Ψ ⟨rfl,C⟩
  |true=>exact π<|π<|ed C (λx q G=>π<|ed G (λ_ t H=>Ψ<|Ψ ⟨rfl,H⟩) λ_ _ z=>z) λ_ _ z=>z
end
noncomputable def kN(X:Cx)(scope:Scope)(a:ε<|Ξ×ο)(b:ε Ξ)(C:ο)(s₀:Ζ)(H₀:Hp)(c:ε ο):Cx where
 prog:=X.prog
 w:=X.w
 K:=X.K
 mg:=X.mg
 base:=X.base
 A:=X.A
 N:=b
 s₀:=s₀
 H₀:=H₀
 env:=compEnvC scope a C X.env
 outer:=X.stack
 stack:=X.stack
 ex:=c
 fn:=λ_=>false
 calm:=X.calm
 pn:=[]
 xe:=λ_ _=>Ε
def CapsOk(X:Cx)(scope:Scope)(a:ε<|Ξ×ο):ε (υ ν)->ε Ξ->Prop
 |[],[]=>yk
 |none::b,_::d=>CapsOk X scope a b d
 |some i::b,y::d=>(∃c,X.N[i]? =γ y/\X.env.scope.names.lookup y=γ .cell/\a.lookup y=γ c/\X.env.cells.lookup y=γ c/\(relabel scope X.env).names.lookup y=γ .cell)/\CapsOk X scope a b d
 |_,_=>Ε
theorem CapsOk.at:∀{cs:ε<|υ ν}{ns:ε Ξ}{j i:ν}{y:Ξ},CapsOk X scope b cs ns->cs[j]? =γ (γ i)->ns[j]? =γ y ->
  ∃c,X.N[i]? =γ y/\X.env.scope.names.lookup y=γ .cell/\b.lookup y=γ c/\X.env.cells.lookup y=γ c/\(relabel scope X.env).names.lookup y=γ .cell
 |[],_,j,i,y,_,e,_=>by simp at e
 |none::cs,[],_,_,_,h,_,_=>ee h
 |some _::cs,[],_,_,_,h,_,_=>ee h
 |none::cs,_::ns,0,i,y,h,e,_=>by simp at e
 |none::cs,_::ns,j+1,i,y,h,e,a=>CapsOk.at (cs:=cs) (ns:=ns) (j:=j) h (by simpa using e) (by simpa using a)
 |some k::cs,z::ns,0,i,y,h,e,a=>by
  have d:k=i:=by simpa using e
  have f:z=y:=by simpa using a
  subst d;subst f;exact h.1
 |some k::cs,z::ns,j+1,i,y,h,e,a=>CapsOk.at (cs:=cs) (ns:=ns) (j:=j) h.2 (by simpa using e) (by simpa using a)
theorem CapsOk.len:∀{cs:ε<|υ ν}{ns:ε Ξ},CapsOk X scope a cs ns->cs.length=ns.length
 |[],[],_=>rfl
 |[],_::_,h=>ee h
 |none::cs,[],h=>ee h
 |some _::cs,[],h=>ee h
 |none::cs,_::ns,h=>bt (·+1)<|CapsOk.len (cs:=cs) (ns:=ns) h
 |some _::cs,_::ns,h=>bt (·+1)<|CapsOk.len (cs:=cs) (ns:=ns) h.2
noncomputable def capσ(a:ε<|υ ν)(b:L2.St):L2.St:=a.map λo=>o.bind λi=>(b[i]?).bind id
def PTs(X:Cx)(a:ε Expr)(t:TT):Prop:=
 ∀(pins:ε<|ο×Obj)(s:Ζ)(b:L2.St)(H:Hp)(Q:Bool->Hp->Prop),Inv X pins b H s->t b H Q ->
  Φ (model X.prog X.w) X.A (forIn a true λc r=>if r=true then do let ok <-isTrue c X.env (eval c X.env);pure (ForInStep.yield ok)else pure (ForInStep.yield r)) (TP X pins b Q) X.xe s
def aOo:TT:=λ_ H Q=>Q true H
theorem Aw:PTs X [] aOo:=λ_ _ _ H _ I h=>wpAny_tests_nil ⟨H,I,h⟩
theorem aCy(h:PT X c t):PTs X [c] t:=λpins s a H Q I q=>wpAny_tests_one<|h pins s a H Q I q
def tLC(q:TI)(h:ε<|υ ν)(g:TG)(r:TT)(s:TE):TE:=λk H Q=>q k H λJ l=>∀D,l D=none ->
 ∃W:ν->ν->L2.St->Hp->Prop,(∃m,W 0 m (capσ h k)<|dP l D<|.lst [])/\∀i m c d,W i m c d ->
  (J.stop i d/\Q (.ref D) d)\/(J.go i d/\∃N:L2.St->Hp->Prop,(∀e f,N e f->∃n,n<m/\W (i+1) n e f)/\∀x f,J.yld i d x f->g x c f λa t=>r a t λb o=>
   if b=true then s a o λy p=>∃j,p D=γ (.lst j)/\j.length<sizeLine/\N a (dP p D (.lst (j++[y])))else N a o)
structure LcOk(X:Cx)(scope:Scope)(cl:ε<|Ξ×ο)(cap:ε<|υ ν)(NC:ε Ξ):Prop where
 clos:closureFor scope X.env=pure cl
 kind:scope.kind= .function
 nocell:∀x∈scope.names,x.2≠ .cell
 names:∀x∈scope.names,x.2= .local->scope.names.lookup x.1=γ .local
 caps:CapsOk X scope cl cap NC
 cells:∀p∈cl,X.env.cells.lookup p.1=γ p.2
 has:((relabel scope X.env).names.all λp=>(p.2 != .cell && p.2 != .free)||(cl.lookup p.1).isSome)=true
section
variable{X:Cx}{elt target iter:Expr}{ifs:ε Expr}{scope:Scope}{pos:Pos}{wi:TI}{cap:ε (υ ν)}{NC:ε Ξ}{cl:ε (Ξ×ο)}{g:TG}{tt:TT}{te:TE}
theorem kM(L:LcOk X scope cl cap NC)(h:cl.lookup x=γ c):X.env.cells.lookup x=γ c:=L.cells (x,c)<|gg h
theorem Gx{Z:ξ->ο->Result->Ζ->Prop}{G:V->Hp->Prop}
  (hc:X.calm=true) (L:LcOk X scope cl cap NC) (hg:∀C I K H,PG (kN X scope cl NC C I K H) target g) (ht:∀C I K H,PTs (kN X scope cl NC C I K H) ifs tt) (he:∀C I K H,PE (kN X scope cl NC C I K H) elt te)
  (I2:Inv X pins U R a) (T:Turn X.prog X.w X.K target J H it tn) (a4:tn 0 a.heap) (f2:∀b∈H,lI X pins R b)
  (hW:∀D,R D=none->∃W:ν->ν->L2.St->Hp->Prop,(∃m,W 0 m (capσ cap U) (dP R D (.lst [])))/\∀i m s t,W i m s t ->
   (J.stop i t/\G (.ref D) t)\/(J.go i t/\∃N:L2.St->Hp->Prop,(∀a0 H',N a0 H'->∃m',m'<m/\W (i+1) m' a0 H')/\∀x H',J.yld i t x H'->g x s H' λa5 R=>tt a5 R λb H3=>
    if b=true then te a5 H3 λy H4=>∃ys,H4 D=γ (.lst ys)/\ys.length<sizeLine/\N a5 (dP H4 D (.lst (ys++[y])))else N a5 H3))
  (hZ:∀(D C:ο)(t:Hp)(s':Ζ)(m:Ξ->υ ξ),s'.heap.Ns C m->(∀h',SameBut C s'.heap h'->∀t',Inv X pins U t {s' with heap:=h',toks:=t'})->lI X pins t C->G (.ref D) t->Z (.ref D) C (.ok .next) s') :
  Φ (model X.prog X.w) X.A (newList []) (λb0 M=>Φ (model X.prog X.w) X.A (newFunctionEnv scope X.env.globals cl [] X.env.qual none .none (γ X.env)) (λa7 b1=>
   codeAny (model X.prog X.w) X.A (.compStart (.ListComp elt [⟨target,iter,ifs,0⟩] scope pos) 0 (.ref it) b0 {a7 with scope:=relabel scope X.env}) (Z b0 a7.locals) b1) E M) E a:=by
 refine vk<|wpAny_newFunctionEnv L.nocell (by intro y hy;simp at hy) (λa1 B F=>?_) L.kind;dsimp only at B F⊢;have nD:R a.heap.objs.size=none:=I2.hok.fresh<|Η _;have A:Inv X pins U (dP R a.heap.objs.size<|.lst []) {a with heap:=a.heap.push {cls:=.type "list",dict:=none,data:=.seq ([]:ε ξ).toArray}}:=by
  refine I2.laid (t':=a.toks) (λb u e=>Λ _ e) (Η _) ?_;exact⟨hB _,[],0,.nil,aj _ rfl⟩
 refine q_ λwv=>?_;obtain⟨W,⟨m0,w0⟩,turn⟩:=hW a.heap.objs.size nD;apply wv;generalize hD:a.heap.objs.size=D at nD A turn w0⊢;generalize hH:a.heap.push {cls:=.type "list",dict:=none,data:=.seq ([]:ε ξ).toArray}=w at B F A⊢;have P:∀b o,a.heap.get? b=γ o->w.get? b=γ o:=λb o e=>by rw[<-hH];exact Λ _ e
 generalize hC:w.objs.size=C at B F⊢;have h:∀b o,w.get? b=γ o->b≠C:=λb o e z=>by
  have:=bw e;rw[hC,<-z]at this;exact jy _ this
 have O:∀b o,w.get? b=γ o->a1.get? b=γ o:=λb o e=>F.extBut b o (h b o e)<|Λ _ e;have f3:∀b∈H,lI X pins (dP R D<|.lst []) b:=λb f=>by
  obtain⟨x1,x2⟩:=f2 b f;obtain⟨o,e,_⟩:=T.obj 0 _ a4 b f;refine⟨?_,x2⟩;rw[aV (λz=>by have:=bw e;rw[z,<-hD]at this;exact jy _ this)];exact x1
 have b2:∀b∈H,b≠C:=λb f=>by
  obtain⟨o,e,_⟩:=T.obj 0 _ a4 b f;exact h b o<|P b o e
 have c3:∀x c,cl.lookup x=γ c->c≠C:=λx c e=>by
  obtain⟨v,o,ho,_⟩:=A.cell x c<|kM L e;exact h c o ho
 let Y:Cx:=kN X scope cl NC C {a with heap:=w} (dP R D<|.lst []) H
 have b5:(dP R D<|.lst []) C=none:=A.hok.fresh (by show w.objs.size<=C;rw[hC];exact Η _);have a8:Y.Ok:=by
  refine⟨A.ok.mod,by show(relabel scope X.env).kind=_;exact L.kind,A.ok.glob,A.ok.blt,by show w.objs.size<=C;rw[hC];exact Η _,λx y c e1 e2=>A.ok.inj x y c (kM L e1)<|kM L e2,λx hx=>?_,λx c z=>(by cases z),A.ok.hd,A.ok.frames,.inl rfl,λb f=>⟨b2 b f,λx c e=>(f3 b f).2.2.2.2.1 x c<|kM L e⟩,A.bs,Β A.ok.bsz A.sz,λb o e f=>?_,λb f hm=>?_,A.stack,A.stkFree⟩
  ·have b6:∃k,(x,k)∈(relabel scope X.env).names/\(k= .cell\/k= .free):=by
    rcases hx with z|z
    ·exact⟨_,gg z,.inl rfl⟩
    ·exact⟨_,gg z,.inr rfl⟩
   obtain⟨k,hk,b7⟩:=b6;have q:=oD.mp L.has (x,k) hk;have q2:(cl.lookup x).isSome=true:=by
    rcases b7 with z|z
    ·subst z;simpa using q
    ·subst z;simpa using q
   exact kz.mp q2
  ·rcases(f3 b f).2.2.2.1 with z|z
   ·exact A.ok.noex b o e z
   ·exact ς (ah (bw e)<|Β A.ok.bsz z)<|jy _
  ·rcases Ω.mp (A.stkSub b hm)with z|z
   ·exact(f3 b f).2.1 z
   ·exact(f3 b f).2.2.1 z
 have a2:∀{t:Hp},(∀b∈H,t b=none)->∀b∈H,lI Y [] t b:=λhn b f=>
  ⟨hn b f,b2 b f,a8.exfs b f,.inl f,λx c e=>(a8.exf b f).2 x c e,λp hp=>ς (show p∈([]++[]:ε<|ο×Obj)from hp)<|by simp⟩
 have back:∀{s:L2.St}{t:Hp}{s':Ζ}{pn:ε<|ο×Obj},Inv Y pn s t s'->∀h',SameBut C s'.heap h'->∀t',Inv X pins U t {s' with heap:=h',toks:=t'}:=λ{s t s' pn} I' h' sb t'=>by
  have u:=I'.base;have nC:t C=none:=I'.free;refine A.call' (s':={s' with heap:=h',toks:=t'}) (ch:=H) I'.os ⟨λb o e n f hx=>?_,λb o e n f hx=>?_,u.free,λb o e hx=>?_,u.tups,u.frzs,u.tbls⟩ (λb o e=>?_) I'.bare λb f=>⟨(f3 b f).2.2.2.1,(f3 b f).2.1,(f3 b f).2.2.2.2.1,(f3 b f).2.2.2.2.2⟩
  ·exact(sb.2 b<|h b o e).trans<|u.keep b o e n f hx
  ·obtain⟨sl,q⟩:=u.slot b o e n f hx;exact⟨sl,(sb.2 b<|h b o e).trans q⟩
  ·obtain⟨o',q⟩:=u.there b o e hx;exact⟨o',(sb.2 b<|h b o e).trans q⟩
  ·refine(I'.hok b o e).stay (λc v b8 q=>(sb.2 c ?_).trans q) (λ_ q=>q) λ_ _ q=>q;rintro rfl;rcases b8 with z|z
   ·subst z;rw[nC]at e;cases e
   ·rw[nC]at z;cases z
 have b9:∀t',Inv Y [] (capσ cap U) (dP R D<|.lst []) {a with heap:=a1,toks:=t'}:=λt'=>by
  refine⟨a8,rfl,A.bare,⟨λb o e _ _ _=>O b o e,λb o e _ _ _=>⟨o.slots,O b o e⟩,λ_ _ _ n _=>n,λb o e _=>⟨o,O b o e⟩,λ_ _ e=>e,λ_ _ _ e=>e,λb ps e=>⟨#[],by rw[show(dP R D (.lst [])) b=_ from e];simp⟩⟩,⟨_,B,λj y v e1 e2 e3=>?_⟩,λy c e=>?_,b5,λy c e=>A.freeC y c (kM L e),λp hp=>ς (show p∈([]++[]:ε (ο×Obj))from hp) (by simp),A.hok.kept O,by
   show(cap.map _).length=NC.length
   rw[θ];exact L.caps.len⟩
  ·have S:(cap.map λo=>o.bind λi=>(U[i]?).bind id)[j]? =γ (γ v):=e2;rw[cw]at S;cases hq:cap[j]? with
   |none=>rw[hq]at S;cases S
   |some o=>
    rw[hq]at S;cases o with
    |none=>cases S
    |some i=>
     have e4:(U[i]?).bind id=γ v:=by simpa using S
     have e5:U[i]? =γ (γ v):=by
      cases hs:U[i]? with
      |none=>rw[hs]at e4;cases e4
      |some z=>rw[hs]at e4;simpa using e4
     refine q_ λwv=>?_;obtain⟨c,x1,x2,x3,x4,x5⟩:=L.caps.at hq e1;obtain⟨m,hn,hl⟩:=A.loc;apply wv;obtain⟨u,r,l⟩:=hl i y v x1 e5<|.inr<|.inl x2;refine⟨u,r,.inr ⟨.inl x5,c,x3,?_⟩⟩;rcases l with⟨k,_⟩|⟨_,c',x6,z⟩
     ·have k':X.env.scope.names.lookup y=γ .local:=k;rw[x2]at k';cases k'
     ·rw[x4]at x6;cases x6;obtain⟨o,ho,hd⟩:=z;exact⟨o,O _ _ ho,hd⟩
  ·obtain⟨v,o,ho,hd⟩:=A.cell y c<|kM L e;exact⟨v,o,O _ _ ho,hd⟩
 have loop:∀M:Ζ,M={a with heap:=a1,toks:=a.toks+([]:ε<|Ξ×ξ).length} ->
   codeAny (model X.prog X.w) X.A (.compLoop (.ListComp elt [⟨target,iter,ifs,0⟩] scope pos) 0 (.ref it) (.ref D)<|compEnvC scope cl C X.env) (Z (.ref D) C) M:=by
  rintro M rfl;refine aEi (λn s'=>∃i s t,Inv Y [] s t s'/\tn i s'.heap/\(∀b∈H,t b=none)/\W i n s t) ?_ m0 ⟨0,capσ cap U,_,b9 _,T.keep _ _ _ a4 λb f o e=>O b o<|P b o e,λb f=>(f3 b f).1,w0⟩;intro n s5 qQ0 E';refine q_ λwv=>?_;obtain⟨i,s,t,I5,b3,b4,w5⟩:=qQ0;apply wv;rcases turn i n s t w5 with⟨stop,qn⟩|⟨go,N,hN,step⟩
  ·refine ed (T.done Y rfl rfl rfl hc i [] s5 s t E' I5 (a2 b4) b3 stop) (λr s6 y_=>?_) λ_ _ z=>z;obtain⟨hr,I6⟩:=y_;subst hr;refine q_ λwv=>?_;obtain⟨m,hn,_⟩:=id I6.loc;apply wv;exact hZ D C t s6 m hn (back I6) (A.fpOk (by show w.objs.size<=C;rw[hC];exact Η _) I6.free) qn
  ·refine ed (T.item Y rfl rfl rfl hc i [] s5 s t E' I5 (a2 b4) b3 go) (λr s6 y_=>?_) λ_ _ z=>z;obtain⟨u,hr,h6⟩:=y_;subst hr;refine ed h6 (λ_ s7 y_=>?_) λ_ _ z=>z;refine q_ λW_=>?_;obtain⟨x,H7,I7,r7,y7,a9,c0⟩:=y_;apply W_;have c1:=I7.pinned (a2 c0)<|T.obj _ _ a9;refine ed (hg C _ _ H _ s7 s H7 x u _ c1 r7<|step x H7 y7) (λ_ s8 y_=>?_) λ_ _ z=>ee z;obtain⟨a6,H8,I8,q8⟩:=y_;have again:∀{a3:L2.St}{H9:Hp}{s9:Ζ},Inv Y ([]++uY H s7.heap) a3 H9 s9->N a3 H9->∃m,m<n/\∃i a0 H',Inv Y [] a0 H' s9/\tn i s9.heap/\(∀b∈H,H' b=none)/\W i m a0 H':=λ{a3 H9 s9} I9 n9=>by
    obtain⟨m',hm,w9⟩:=hN a3 H9 n9;refine⟨m',hm,i+1,a3,H9,I9.unpinned,T.keep _ _ _ a9 λb f o e=>(I9.pin (b,o)<|cu _<|cu _<|kY f e).1,λb f=>?_,w9⟩;obtain⟨o,e,d⟩:=T.obj _ _ a9 b f;exact(I9.pin (b,o)<|cu _<|cu _<|kY f e).2.1
   refine ed (ht C _ _ H _ s8 a6 H8 _ I8 q8) (λok s9 y_=>?_) λ_ _ z=>ee z;obtain⟨H9,I9,q9⟩:=y_;cases ok with
   |false=>
    rw[χ ag]at q9⊢;exact again I9 q9
   |true=>
    rw[Α rfl]at q9⊢;refine ed (he C _ _ H _ s9 a6 H9 _ I9 q9) (λv sa y_=>?_) λ_ _ z=>ee z;refine q_ λW_=>?_;obtain⟨y,Ha,Ia,ra,ys,hy,hl,na⟩:=y_;apply W_;have c2:=nE (X:=Y) _ sa a6 Ha (.ref D) [y] (.ref D) [v] (λ_ Hb=>N a6 Hb) Ia rfl (.cons ra .nil) ⟨D,ys,y,rfl,rfl,hy,hl,na⟩;exact ed c2 (λ_ sb ⟨_,Hb,Ib,_,nb⟩=>again Ib nb) λ_ _ z=>ee z
 exact codeAny_compStart_list (loop _ rfl)<|T.self _ 0 _ _ _ (T.keep _ _ _ a4 λb f o e=>O b o<|P b o e)<|loop _ rfl
theorem aGy(k:X.calm=true)(L:LcOk X scope cl cap NC)(l:PI X target iter wi)(n:∀C a b c,PG (kN X scope cl NC C a b c) target g)(o:∀C a b c,PTs (kN X scope cl NC C a b c) ifs tt)(p:∀C a b c,PE (kN X scope cl NC C a b c) elt te)
  (r:∀x,foldedSetIterable iter X.env x=pure x:=by intro _;rfl):PE X (.ListComp elt [⟨target,iter,ifs,0⟩] scope pos) (tLC wi cap g tt te):=by
 intro pins s t H Q I h;rw[eval_ListComp];refine p8 (use:=none) rfl r L.clos L.kind L.names<|dQ (l pins s t H _ I h) λE i d=>dQ d λu j e=>?_;refine q_ λwv=>?_;obtain⟨F,c,K,J,M,rfl,I2,T,f,v,w⟩:=e;apply wv;refine Gx (G:=Q) k L n o p I2 T f v w λD C y N m z back _ q=>?_;exact⟨m,z,λA B=>⟨.ref D,y,back A B _,rfl,q⟩⟩
end
mutual
inductive DV(K:μ)(H:Hp):V->η->Prop
 |non:DV K H .non .none
 |bl (b:Bool):DV K H (.bl b)<|.bool b
 |int (i:τ):DV K H (.int i)<|.int i
 |str (x:Ξ):DV K H (.str x)<|.str x
 |tup {a:ο} {xs:ε V} {ds:ε η}:SqT K H a xs->DVs K H xs ds->DV K H (.ref a) (.tuple ds)
 |lst {a:ο} {xs:ε V} {ds:ε η}:SqL K H a xs->DVs K H xs ds->DV K H (.ref a) (.list ds)
  |dct {a:ο} {x y:Ξ}:H a=γ (.dK [(.inr x,.str y)])->DV K H (.ref a) (.dict [(.str x,.str y)])
  |dc0 {a:ο}:H a=γ (.dK [])->DV K H (.ref a) (.dict [])
inductive DVs(K:μ)(H:Hp):ε V->ε η->Prop
 |nil:DVs K H [] []
 |cons {x:V} {xs:ε V} {d:η} {ds:ε η}:DV K H x d->DVs K H xs ds->DVs K H (x::xs) (d::ds)
end
section
variable{X:Cx}{pins:ε (ο×Obj)}{σ:L2.St}{H:Hp}{s:Ζ}
mutual
theorem iJ(I:Inv X pins σ H s):∀{x:V}{d:η}{u:ξ},DV X.K H x d->RelV x u->∃as,Reads s.heap u d as
 |_,_,u,.non,r=>by
  cases (show u=Value.none from r);exact⟨_,.none⟩
 |_,_,u,.bl b,r=>by
  cases (show u=Value.bool b from r);exact⟨_,.bool b⟩
 |_,_,u,.int i,r=>by
  obtain⟨t,rfl⟩:=r;exact⟨_,.int i t⟩
 |_,_,u,.str x,r=>by
  obtain⟨t,rfl⟩:=r;exact⟨_,.str x t⟩
 |_,_,u,@DV.tup _ _ a P R h B,r=>by
  cases (show u=aw a from r);obtain⟨C,D,⟨o,g,j,n,m⟩,_⟩:=I.tuple h;obtain⟨as,q⟩:=nH I B D;exact⟨_,.tuple g j m<|by simpa using q⟩
 |_,_,u,@DV.lst _ _ a P R h B,r=>by
  cases (show u=aw a from r);obtain⟨C,D,⟨o,n,g,j,_,m⟩,_⟩:=I.list h;obtain⟨as,q⟩:=nH I B D;exact⟨_,.list g j m<|by simpa using q⟩
 |_,_,u,@DV.dct _ _ a x y h,r=>by
  cases (show u=aw a from r);refine q_ λwv=>?_;obtain⟨_,_,S,c,o,E,T,g,j,m,U,A,_⟩:=(show ObjOk X.prog X.w H s.heap a (.dK [(.inr x,.str y)])from I.hok a _ h);apply wv;unfold KV at c;cases c with
  |@cons p q ps qs W t=>
   cases t;obtain⟨k,v⟩:=q;obtain⟨Y,F,Z⟩:=W;have G:Sum.inr x=k:=Y;subst G;have J:v=Value.str y F:=Z;subst J;generalize f:E.toList=l at A;cases A with
   |@cons e kv a0 kvs' K L M=>
    cases M;have N:vZ (.inr x) e.key=true:=K;have O:∃w,e.key=Value.str x w:=by
     rcases dO N with⟨i,w,z,_⟩|⟨x2,w,z,z2⟩
     ·exact nomatch z
     ·cases z;exact⟨w,z2⟩
    obtain⟨w,O⟩:=O;have ev:e.val=Value.str y F:=L;exact⟨_,.dict (as:=[]++[]) (bs:=[]++[]) g j.1 m (by rw[f];show ReadsAll _ [e.key] [br x] _;rw[O];exact .cons (.str x w) .nil) (by rw[f];show ReadsAll _ [e.val] [br y] _;rw[ev];exact .cons (.str y F) .nil)⟩
 |_,_,u,@DV.dc0 _ _ a h,r=>by
  cases (show u=aw a from r);obtain⟨_,_,S,c,o,E,T,g,j,m,U,A,_⟩:=(show ObjOk X.prog X.w H s.heap a (.dK [])from I.hok a _ h);unfold KV at c;cases c;generalize f:E.toList=l at A;cases A;exact⟨_,.dict (as:=[]) (bs:=[]) g j.1 m (by rw[f];exact .nil) (by rw[f];exact .nil)⟩
theorem nH(I:Inv X pins σ H s):∀{a:ε V}{b:ε η}{c:ε ξ},DVs X.K H a b->Vals a c->∃d,ReadsAll s.heap c b d
 |_,_,_,.nil,.nil=>⟨_,.nil⟩
 |_,_,_,.cons h e,.cons r f=>by
  obtain⟨d,q⟩:=iJ I h r;obtain⟨bs,g⟩:=nH I e f;exact⟨_,.cons q g⟩
end
end
structure Enc(α:Type) where
 d:α->η
 dep:ν
 small:dep<=60
 lay:∀x,(d x).canLay0=true
 depth:∀x,(d x).depth<=dep
 eqv:∀x y,PyData.eqv (d x) (d y)=true↔x=y
theorem Enc.shaped(e:Enc a)(x:a):SeqAt.shaped (e.d x)=true:=by
 unfold SeqAt.shaped;rw[e.lay,uq];exact cj (Β (e.depth x)<|Β e.small<|by decide)
def aQv:Enc τ:=⟨.int,0,by decide,λ_=>rfl,λ_=>by simp[PyData.depth],λx y=>by simp[PyData.eqv]⟩
noncomputable def aQw:Enc Bool:=⟨.bool,0,by decide,λ_=>rfl,λ_=>by simp[PyData.depth],λx y=>by simp[PyData.eqv]⟩
theorem tW(e:Enc b):∀(a:ε b),PyData.canLayAll0 (a.map e.d)=true/\PyData.depthAll (a.map e.d)<=e.dep
 |[]=>⟨rfl,by simp[PyData.depthAll]⟩
 |x::a=>by
  obtain⟨c,f⟩:=tW e a;have d:=e.lay x;have g:=e.depth x;constructor
  ·show((e.d x).canLay0 && PyData.canLayAll0 (a.map e.d))=true;rw[d,c];rfl
  ·show PyData.depthAll (e.d x::a.map e.d)<=e.dep;simp only[PyData.depthAll];lia
theorem wJ(e:Enc c):∀(a b:ε c),PyData.eqvAll (a.map e.d) (b.map e.d)=true↔a=b
 |[],[]=>by simp[PyData.eqvAll]
 |[],y::b=>by simp[PyData.eqvAll]
 |x::a,[]=>by simp[PyData.eqvAll]
 |x::a,y::b=>by
  have h:=wJ e a b;have d:=e.eqv x y;simp only[ak,PyData.eqvAll,h9,h,d,x8]
noncomputable def Yv(e:Enc b)(h:e.dep<=50):Enc (ε b) where
 d:=λa=>.list<|a.map e.d
 dep:=e.dep+1
 small:=‹6›
 lay:=λa=>by show PyData.canLayAll0 _=true;exact(tW e a).1
 depth:=λa=>by
  have:=(tW e a).2;simp only[PyData.depth];exact 48
 eqv:=λa c=>by
  show PyData.eqvAll _ _=true↔_;exact wJ e a c
noncomputable def eRat:Enc ψ where
 d:=λq=>.tuple [.int q.num,.int (q.den:τ)]
 dep:=1
 small:=by decide
 lay:=λq=>by simp[PyData.canLay0,PyData.canLayAll0]
 depth:=λq=>by simp[PyData.depth,PyData.depthAll]
 eqv:=λp q=>by
  simp only[PyData.eqv,PyData.eqvAll,h9,iy,y3];constructor
  ·rintro⟨a,b⟩;exact As a (by lia)
  ·rintro rfl;exact⟨rfl,rfl⟩
def Qe(K:μ)(c:Bool):R2:=λx y H Q=>∃(d:Type)(e:Enc d)(a b:d),DV K H x (e.d a)/\DV K H y (e.d b)/\∀k:Bool,(k=true↔a=b)->Q (.bl<|if c then !k else k) H
section
variable{X:Cx}
theorem aKj(c:X.A.units+64<cLine):lH X (compareOp .Eq) (Qe X.K false):=by
 intro pins s l H x y v u Q I d f h;refine q_ λwv=>?_;obtain⟨m,e,a,b,g,i,q⟩:=h;obtain⟨n,j⟩:=iJ I g d;obtain⟨bs,k⟩:=iJ I i f;apply wv;exact eq_dataH j k (e.shaped a) (e.shaped b) c ⟨.bl _,H,I,rfl,q _<|e.eqv a b⟩
theorem aKh(c:X.A.units+64<cLine):lH X (compareOp .NotEq) (Qe X.K true):=by
 intro pins s l H x y v u Q I d f h;refine q_ λwv=>?_;obtain⟨m,e,a,b,g,i,q⟩:=h;obtain⟨n,j⟩:=iJ I g d;obtain⟨bs,k⟩:=iJ I i f;apply wv;exact ne_dataH j k (e.shaped a) (e.shaped b) c ⟨.bl _,H,I,rfl,q _<|e.eqv a b⟩
theorem Pl(e:Enc c)(a:c):∀bs:ε c,((bs.map e.d).any λy=>PyData.eqv y<|e.d a)=true↔a∈bs
 |[]=>by simp
 |b::bs=>by
  have h:=Pl e a bs;have d:=e.eqv b a;simp only[ak,qj,xy,h,d,Ω];constructor
  ·rintro(z|z)
   ·exact .inl z.symm
   ·exact .inr z
  ·rintro(z|z)
   ·exact .inl z.symm
   ·exact .inr z
end
structure ExcK(K:μ)(C:ο):Prop where
 fg:W.findIn K (.ref C) "__getattribute__"=γ (γ<|.builtin "BaseException.__getattribute__")
 fa:W.findIn K (.ref C) "__getattr__"=γ none
 fc:W.findIn K (.ref C) "__class__"=γ (γ<|.builtin "object.__class__")
 so:W.subIn K (.ref C) (.type "object")=γ true
 sb:W.subIn K (.ref C) (.type "BaseException")=γ true
section
variable{prog:Program}{w:gb}{A:Around}{E:ξ->Ζ->Prop}{h:ei}{g:Array GenState}{d:Drawn}{t:ν}{os:OsState}{a C:ο}{o:Obj}{K:μ}
theorem aIk{R:Result->Ζ->Prop}(f:K.In h)(k:ExcK K C)(c:h.get? a=γ o)(e:o.cls= .ref C)(j:R (.ok<|.ret<|.ref C) ⟨h,g,d,t,os⟩):
  codeAny (model prog w) A (.call (.builtin "getset_descriptor.__get__") ⟨[.builtin "object.__class__",.ref a,.ref C],[]⟩) R ⟨h,g,d,t,os⟩:=by
 have b:(⟨h,g,d,t,os⟩:Ζ).TypeIs (.builtin "object.__class__") "getset_descriptor":=l9;have i:W.Looks (model prog w) h (isSubtype (.ref C)<|.type<|".".intercalate ("object.__class__".cutAt '.').dropLast) true:=by rw[F.owner_object_class];exact zg f k.so
 refine sr F.slot_gs_get.plain F.entry_gs_get<|F.slot_gs_get.check _ _ _ _ _ _ _ _ b (F.args_gs_get _ _ _) ?_
 repeat (any_goals (first|assumption|(with_reducible refine jm c ?_;rw[e])|(with_reducible refine i.at ?_)|wp_step))
 refine⟨Code.quiet_builtin _<|by decide +kernel,codeAny_builtin F.entry_object_class ?_⟩
 repeat (any_goals (first|assumption|(with_reducible refine jm c ?_;rw[e])|wp_step))
theorem Sr{tk:ui}{Q:Fin->Ζ->Prop}(b:K.In h)(k:ExcK K C)(c:h.get? a=γ o)(e:o.cls= .ref C)(j:Q (.done<|.ret<|.ref C) ⟨h,g,d,t,os⟩):
  Φ (model prog w) A (Builtin.«object.__getattribute__» ⟨[.ref a,.str "__class__" tk],[]⟩) Q E ⟨h,g,d,t,os⟩:=by
 have f:(⟨h,g,d,t,os⟩:Ζ).TypeIs (.builtin "object.__class__") "getset_descriptor":=l9;have l:=l9;have m:=F.slot_gs_get.lookup;have n:=F.slot_gs_set.lookup;have i:W.Looks (model prog w) h (typeLookup (.ref C) "__class__") _:=nz b k.fc
 repeat (any_goals (first|assumption|(with_reducible refine jm c ?_;rw[e])|(with_reducible refine i.at ?_)|wp_step))
 refine aIk b k c e ?_
 repeat (any_goals (first|assumption|wp_step))
theorem Ss{M:Model}{b:ξ}{Q:Unit->Ζ->Prop}(c:K.In h)(k:ExcK K C)(e:h.get? a=γ o)(f:o.cls= .ref C)(i:Q () ⟨h,g,d,t,os⟩):Φ M A (checkBuiltinCall "BaseException.__getattribute__" ⟨[.ref a,b],[]⟩) Q E ⟨h,g,d,t,os⟩:=by
 have j:builtinKind "BaseException.__getattribute__"=γ .slot:=by decide +kernel
 have l:splitId "BaseException.__getattribute__"=γ ("BaseException","__getattribute__"):=by decide +kernel
 have n:=F.args_bexc_ga (.ref a) b;have m:W.Looks M h (isSubtype (.ref C)<|.type "BaseException") true:=zg c k.sb;simp only[checkBuiltinCall,j,l];refine π ?_;unfold isInstance
 repeat (first|(with_reducible refine jm e ?_;rw[f])|(with_reducible refine m.at ?_)|wp_step)
 exact i
theorem aBt{tk:ui}{R:Result->Ζ->Prop}(b:K.In h)(k:ExcK K C)(c:h.get? a=γ o)(e:o.cls= .ref C)(f:R (.ok<|.ret<|.ref C) ⟨h,g,d,t,os⟩):
  codeAny (model prog w) A (.call (.builtin "BaseException.__getattribute__") ⟨[.ref a,.str "__class__" tk],[]⟩) R ⟨h,g,d,t,os⟩:=
 sr F.attr_ValueError.ga.plain F.entry_bexc_ga (Ss b k c e<|Sr b k c e f)
theorem aOb{tk:ui}{Q:ξ->Ζ->Prop}(b:K.In h)(k:ExcK K C)(e:h.get? a=γ o)(f:o.cls= .ref C)(m:Q (.ref C) ⟨h,g,d,t,os⟩):
  Φ (model prog w) A (getAttrBy (.ref a) (.str "__class__" tk) false) Q E ⟨h,g,d,t,os⟩:=by
 have n:=F.attr_ValueError.ga.bind<|.ref a;have c:(Value.builtin "BaseException.__getattribute__"==Value.builtin "object.__getattribute__")=false:=by decide +kernel
 have i:(onTheHeap (aw C) && Value.builtin "BaseException.__getattribute__"==Value.builtin "object.__getattribute__")=false:=by rw[c];rfl
 have j:W.Looks (model prog w) h (typeLookup (.ref C) "__getattribute__") _:=nz b k.fg;have l:W.Looks (model prog w) h (typeLookup (.ref C) "__getattr__") _:=nz b k.fa
 repeat (any_goals (first|assumption|(with_reducible refine jm e ?_;rw[f])|(with_reducible refine j.at ?_)|(with_reducible refine l.at ?_)|wp_step))
 refine aBt b k e f ?_
 repeat (any_goals (first|assumption|wp_step))
theorem aBu{Q:υ ξ->Ζ->Prop}(b:K.In h)(k:ExcK K C)(c:h.get? a=γ o)(e:o.cls= .ref C)(f:Q (γ<|.ref C) ⟨h,g,d,t+1,os⟩):
  Φ (model prog w) A (getAttr? (.ref a) "__class__") Q E ⟨h,g,d,t,os⟩:=by
 unfold getAttr? getAttrBy?
 repeat (any_goals (first|assumption|with_reducible apply aOb b k c e|wp_step))
end
def mS(x C:ο)(h:ei):Prop:=∃o a,h.get? x=γ o/\o.cls= .ref C/\o.data= .fields a
theorem Hm{K:μ}{C:ο}{d:ε ξ}{newId:String}(q:W.excIn K C d newId=true):∃e f g,K.lookup C=γ ⟨.type "type",e,.cls f,g⟩:=by
 unfold W.excIn at q;split at q
 ·rename_i dct b c a
  exact⟨dct,b,c,a⟩
 ·cases q
theorem Xr{K:μ}{x C:ο}{b:ε ξ}{newId:String}(q:W.excIn K C b newId=true)(k:ExcK K C):W.KitX K (.ref x) (.ref C) (mS x C) where
 ty:=λM h _ ⟨o,m,c,f,_⟩=>f▸(BL c).andThen .now
 it:=λ_ _ a _=>by
  obtain⟨p,r,u,i⟩:=Hm q;intro H I J L j v;unfold isType loadHead;exact π<|yr (j _ _<|a _ _ i)<|Ψ v
 ne:=λh y p B n u a l=>by
  obtain⟨D,r,F,i⟩:=Hm q;refine vt.mpr λz=>?_;have e:C=y:=B3<|iy.mp z;subst e;have G:=bt (λo:υ Obj=>o.map (·.data))<|(a _ _ i).symm.trans l;cases G
 ca:=λ{prog w A E Q s} a ⟨o,m,c,f,_⟩ j=>by
  obtain⟨N,g,d,t,O⟩:=s;exact aBu a k c f j
section
variable{X:Cx}
theorem Sc:gS X (.builtin "isinstance") (λe H Q=>∃x C c d b a newId,e=[.ref x,c]/\(∀u,RelV c u->u=d)/\H x=γ (.ext<|mS x C)/\W.excIn X.K C a newId=true/\ExcK X.K C/\W.kitOne X.K (.ref C) d=γ b/\Q (.bl b) H):=by
 intro pins s n H e o Q I r h;refine q_ λwv=>?_;obtain⟨x,C,c,d,b,a,newId,rfl,f,g,i,j,k,q⟩:=h;obtain⟨u,v,rfl,l,m⟩:=uB r;apply wv;rw[f v m];cases (show u=aw x from l);obtain⟨p,_,_⟩:=(show ObjOk X.prog X.w H s.heap x (.ext<|mS x C)from I.hok x _ g);exact ia (Xr i j) I.kIn p k (λz=>nomatch z) λtk=>⟨.bl b,H,I.tok tk,rfl,q⟩
variable{pins:ε (ο×Obj)}{σ:L2.St}{H:Hp}{s:Ζ}{x C:ο}
theorem Rj{a:ei}(I:Inv X pins σ H s)(O:Old X pins a)(A:ExcAt a s.heap H x<|.ref C)(B:x∉X.ex):Inv X pins σ (dP H x<|.ext<|mS x C) s:=by
 obtain⟨k,D,l,E,F,h,i,_⟩:=A;have g:∀b,(∃u,a.get? b=γ u)->b≠x:=λb ⟨u,e⟩ z=>by rw[z,i]at e;cases e
 have d:∀b o,H b=γ o->b≠x:=λb o e z=>by rw[z,h]at e;cases e
 refine⟨I.ok,I.os,I.bare,⟨I.base.keep,I.base.slot,λb o e n f=>?_,I.base.there,λb t e=>?_,λb o u e=>?_,λb G e=>?_⟩,I.loc,I.cell,?_,λy c e=>?_,λp w=>?_,λb o e=>?_,I.len⟩
 ·rw[aV<|g b<|O.s0 b o e f];exact I.base.free b o e n f
 ·have q:=I.base.tups b t e;rw[aV<|d b _ q];exact q
 ·have q:=I.base.frzs b o u e;rw[aV<|d b _ q];exact q
 ·obtain⟨m,q⟩:=I.base.tbls b G e;exact⟨m,by rw[aV<|d b _ q];exact q⟩
 ·rw[aV<|g _ O.lo];exact I.free
 ·rw[aV<|g c<|O.ce y c e];exact I.freeC y c e
 ·obtain⟨e,n,r⟩:=I.pin p w;exact⟨e,by rw[aV<|g p.1<|O.pn p w];exact n,r⟩
 ·by_cases f:b=x
  ·subst f;rw[aZ]at e;cases e;refine⟨⟨k,D,l,E,F⟩,⟨k,l⟩,λN P p J=>?_⟩;obtain⟨o,j,K,L,M⟩:=p;exact⟨o,j,J o K,L,M⟩
  ·rw[aV f]at e;exact(I.hok b o e).stay (λc v _ q=>q) (λc q=>by rw[aV<|d c _ q];exact q) λc t q=>by rw[aV<|d c _ q];exact q
theorem Xx{i:ν}{n:Ξ}{t:ei}{K:ν}{v:υ ξ}{m:Ξ->υ ξ}(I:Inv X pins σ H s)(L:X.N.Nodup)(M:X.N[i]? =γ n)(Y:X.env.scope.names.lookup n=γ .local)(Z:s.heap.Ns X.env.locals m)(A:∀(j:ν)(y:Ξ)(w:V),X.N[j]? =γ y->σ[j]? =γ (γ w)->Vis X.env.scope y->∃u,RelV w u/\aRz X.env s.heap m y u)
  (N:t.Ns X.env.locals λy=>if y=n then v else m y) (f:SameBut X.env.locals s.heap t):Inv X pins (σ.set i none) H {s with heap:=t,toks:=K}:=by
 have a:∀b o,X.s₀.heap.get? b=γ o->b≠X.env.locals:=λb o e=>gq<|ah (bw e) I.ok.above;have cellK:∀x c,X.env.cells.lookup x=γ c->∀v,s.heap.IsCell c v->t.IsCell c v:=λx c e v z=>z.sameBut f<|I.cne x c e;refine⟨I.ok,I.os,I.bare,⟨λb o e n B h=>(f.2 b<|a b o e).trans<|I.base.keep b o e n B h,λb o e n B h=>?_,I.base.free,λb o e h=>?_,I.base.tups,I.base.frzs,I.base.tbls⟩,⟨_,N,λj y w F g O=>?_⟩,λy c e=>?_,I.free,I.freeC,λp P=>?_,λb o e=>?_,by rw[ib];exact I.len⟩
 ·obtain⟨R,q⟩:=I.base.slot b o e n B h;exact⟨R,(f.2 b<|a b o e).trans q⟩
 ·obtain⟨S,q⟩:=I.base.there b o e h;exact⟨S,(f.2 b<|a b o e).trans q⟩
 ·by_cases D:j=i
  ·subst D;by_cases E:j<σ.length
   ·rw[gh E]at g;cases g
   ·rw[List.getElem?_eq_none (by rw[ib];exact 24)]at g;cases g
  ·rw[dV<|Ne.symm D]at g;obtain⟨u,r,l⟩:=A j y w F g O;refine⟨u,r,?_⟩;rcases l with⟨k,e⟩|⟨k,c,e,z⟩
   ·refine .inl ⟨k,?_⟩;have T:y≠n:=λz=>D<|vR L F<|z▸M;show(if y=n then v else m y)=_;rw[χ T];exact e
   ·exact .inr ⟨k,c,e,cellK y c e _ z⟩
 ·obtain⟨G,z⟩:=I.cell y c e;exact⟨G,cellK y c e G z⟩
 ·refine q_ λwv=>?_;obtain⟨e,n,J,U,d⟩:=I.pin p P;apply wv;exact⟨(f.2 p.1 J).trans e,n,J,U,d⟩
 ·refine(I.hok b o e).stay (λc v W q=>(f.2 c ?_).trans q) (λ_ q=>q) λ_ _ q=>q;rintro rfl;rcases W with z|z
  ·rw[<-z,I.free]at e;cases e
  ·rw[I.free]at z;cases z
def Ub(K:μ)(f:ξ)(tb:TSX)(i:ν)(g:TS):TS:=λD σ H=>tb D (λd C _ e=>W.exmOne K C f=γ true/\∃c:ο,C= .ref c/\∀x,e x=none ->
 g {nx:=λa b=>D.nx (a.set i none) b,rt:=D.rt,bk:=λa b=>D.bk (a.set i none) b,ct:=λa b=>D.ct (a.set i none) b} (d.set i (γ (.ref x))) (dP e x (.ext (mS x c)))) σ H
theorem Vx{body d:ε Stmt}{r:Stmt}{y n:Ξ}{i:ν}{cv:ξ}{np t a0:Pos}{tb:TSX}{ts:TS}(g:X.stack=X.env::X.outer)(hf:X.env.frame=γ X.env.locals)(hN:X.N.Nodup)(hi:X.N[i]? =γ n)(U:X.env.scope.names.lookup n=γ .local)(a1:X.ex=[])(L:aRu X body tb)
  (c:aBl X y cv) (hs:∀x,Df (mP X x) (r::d) ts) (hd:(y==("__debug__":Ξ))=false:=by decide):
  PS X (.Try body [.ExceptHandler (γ<|.Name y np) (γ n) (r::d) t] [] [] a0) (Ub X.K cv tb i ts):=by
 intro pins s σ H D I h;refine wpAny_Try_except<|ed (L pins s σ H D _ I h) (λf w q=>?_) λe w q=>?_
 ·cases f with
  |next=>exact jf q
  |ret v=>exact q
  |brk=>exact q
  |cont=>exact q
 ·refine q_ λwv=>?_;obtain⟨x,C,p,Y,A,rfl,I',hx,a2,o1,o2,o3,o4,hm,cc,rfl,q⟩:=q;apply wv;have O:Old X pins A:=⟨o1,o2,o3,o4⟩;have a3:(X.env.scope.kind== .class||(X.env.scope.kind== .module && X.env.locals !=X.env.globals))=false:=by rw[I.ok.kind];rfl
  refine zH (h₀:=A) (H:=Y) (C:=.ref cc) (base:=X.base) (env:=X.env) (outer:=X.outer) (by rw[<-g];exact I'.ok.frames) (by rw[<-g];exact I'.stack) hf hx a2 (λb o e=>Bp<|I'.hok b o e) λF kp sl M=>?_;rw[<-g]at kp sl;have I2:Inv X pins p Y {w with heap:=F}:=He (t':=w.toks) g hf I' O kp sl;have I3:Inv (mP X x) pins p Y {w with heap:=F}:=wB I2;refine wpAny_handleBy_cons (codeAny_handlers_test ?_) (by intro q;cases q);refine Ry (X:=mP X x) c I3 hd ?_;refine q_ λwv=>?_;obtain⟨oe,vs,he,hc,_⟩:=id M;apply wv;have LT:W.Looks (model X.prog X.w) F (typeOf<|.ref x) (.ref cc):=by rw[<-hc];exact(BL he).andThen .now
  refine(W.exm_one (K:=X.K) I3.kIn LT hm).here ?_;refine codeAny_handlers_suite_as<|Kl (s:={w with heap:=F}) M λh2 a4 a5 b1 N=>?_;have I4:Inv X pins p Y {w with heap:=h2}:=He (s:={w with heap:=F}) (t':=w.toks) g hf I2 O (λb o e L _=>a4 b o e L) λb o e L=>by
   obtain⟨_,u,hu,nf⟩:=I2.stack.mem L;have P:F.get? b=γ u:=hu;have e':F.get? b=γ o:=e;rw[e']at P;cases P;exact⟨o.slots,a5 b o e nf⟩
  have I5:=Rj I4 O N (by rw[a1];simp);refine q_ λwv=>?_;obtain⟨_,_,_,_,_,a6,_,_⟩:=N;apply wv;refine kG (X:=mP X x) (v:=.ref x) (wB I5) hN hi (.inl U) rfl (λs6 I6=>?_)<|.inr U;have a7:=hs x pins s6 (p.set i<|some<|.ref x) _ {nx:=λj S=>D.nx (j.set i none) S,rt:=D.rt,bk:=λj S=>D.bk (j.set i none) S,ct:=λj S=>D.ct (j.set i none) S} I6<|q x a6;refine ed a7 (λf s7 q7=>?_) λ_ _ z=>ee z;have Z:=Eh I'.ok q7;have go:∀{a:L2.St}{k:Hp},Inv X pins a k s7->∀{R:Ζ->Prop}{E:ξ->Ζ->Prop},(∀B,Inv X pins (a.set i none) k B->R B)->Φ (model X.prog X.w) X.A (do bindName X.env n .none;unbindBehindTheSuite X.env n t) (λ_ B=>R B) E s7:=λ{a k} l {R E} hR=>by
   obtain⟨m,T,a8⟩:=id l.loc;exact wpAny_nameGoes_keeps U T a3 λh8 v a9 b0=>hR _<|Xx l hN hi U T a8 a9 b0
  cases f with
  |next =>
   obtain⟨a,k,l,G⟩:=Z;exact go l λB J=>⟨_,k,J,G⟩
  |ret v=>
   refine q_ λwv=>?_;obtain⟨v7,a,k,l,r7,G⟩:=Z;apply wv;exact go l λB J=>⟨v7,_,k,J,r7,G⟩
  |brk=>
   obtain⟨a,k,l,G⟩:=Z;exact go l λB J=>⟨_,k,J,G⟩
  |cont=>
   obtain⟨a,k,l,G⟩:=Z;exact go l λB J=>⟨_,k,J,G⟩
end
section
variable{X:Cx}{K:μ}
theorem Hd(h:X.K=K):IxR X (aCx K):=by subst h;exact aEm
theorem aTr(h:X.K=K):IxR X (Jm K):=by subst h;exact aLh
theorem Xp(h:X.K=K):gS X (.builtin "len") (λb H Q=>∃p a,b=[.ref p]/\(SqL K H p a\/SqT K H p a)/\Q (.int a.length) H):=by subst h;exact Cz
theorem aQf(h:X.K=K):gS X (.type "list") (λb H Q=>∃p a,b=[.ref p]/\(SqL K H p a\/SqT K H p a)/\∀l,H l=none->Q (.ref l) (dP H l<|.lst a)):=by subst h;exact Cw
theorem aJe(h:X.K=K):SlR X (aJs K):=by subst h;exact aCn
theorem eqK(h:X.K=K)(a:X.A.units+64<cLine):lH X (compareOp .Eq) (Qe K false):=by subst h;exact aKj a
theorem neK(h:X.K=K)(a:X.A.units+64<cLine):lH X (compareOp .NotEq) (Qe K true):=by subst h;exact aKh a
theorem aHi(h:X.K=K):gS X (.builtin "isinstance") (λe H Q=>∃x C c d b a newId,e=[.ref x,c]/\(∀u,RelV c u->u=d)/\H x=γ (.ext<|mS x C)/\W.excIn K C a newId=true/\ExcK K C/\W.kitOne K (.ref C) d=γ b/\Q (.bl b) H):=by subst h;exact Sc
theorem aJx(h:X.K=K)(b:PE X l a):PI X tg l (Of K a):=by subst h;exact aDe b
theorem aPm(h:X.K=K)(d:X.calm=true)(e:PGs X a t)
  (f:(assignEach a X.env).length=n:=by rfl) (c:(assignEach a X.env).findIdx? (·.1)=none:=by rfl):PG X (.Tuple a k b) (aLu K n t):=by subst h;exact aKa d e f c
end
section
variable{X:Cx}{elt target iter:Expr}{ifs:ε Expr}{scope:Scope}{pos spos pos':Pos}{wi:TI}{cap:ε (υ ν)}{NC:ε Ξ}{cl:ε (Ξ×ο)}{g:TG}{tt:TT}{te:TE}
theorem Ew(R:X.N.Nodup)(S:X.N[i]? =γ x)(F:X.env.scope.names.lookup x=γ .local)(U:X.calm=true)(L:LcOk X scope cl cap NC)(n:PI X target iter wi)
  (W:∀C c d f,PG (kN X scope cl NC C c d f) target g) (Y:∀C c d f,PTs (kN X scope cl NC C c d f) ifs tt) (Z:∀C c d f,PE (kN X scope cl NC C c d f) elt te)
  (p:swapsWith (.ListComp elt [⟨target,iter,ifs,0⟩] scope pos) (γ<|.Name x pos') spos.line X.env=pure true:=by rfl)
  (hs:∀x,foldedSetIterable iter X.env x=pure x:=by intro _;rfl):PS X (.Assign [.Name x pos'] (.ListComp elt [⟨target,iter,ifs,0⟩] scope pos) spos) (kW (tLC wi cap g tt te)<|jV i):=by
 intro pins s r H D I h;rw[exec_Assign_Name_used _ _ _ _ p];refine π<|p4<|π ?_;show Φ _ X.A (do let _ <-comprehension (.ListComp elt [⟨target,iter,ifs,0⟩] scope pos) scope X.env _ (newList []) false (eval iter X.env) (γ<|assign (.Name x pos') X.env)) _ _ s
 refine π (ed (p8 (use:=γ (assign (.Name x pos') X.env)) (Q:=λ_ j=>SP X pins D .next j) rfl hs L.clos L.kind L.names
  (dQ (n pins s r H _ I h) λxv K k=>dQ k λa0 M l=>?_)) (λ_ j t=>Ψ (Ψ t)) λ_ _ e=>e)
 refine q_ λwv=>?_;obtain⟨it,f,tn,J,H2,rfl,u,T,w,f2,t⟩:=l;apply wv;refine Gx (G:=λv H'=>D.nx (r.set i<|some v) H') U L W Y Z u T w f2 t λy C N j m hn back A q=>?_;refine q_ λwv=>?_;obtain⟨z1,O,z3,z4,P,z6⟩:=A;apply wv;have Ib:Inv X pins r N j:=back j.heap (.refl _ _) j.toks;show Φ _ X.A (assign (.Name x pos') X.env<|.ref y) _ _ _;refine vf<|yO Ib R S (.inl F) (show RelV (.ref y) (.ref y)from rfl) (λs2 u y_=>?_)<|.inr F;obtain⟨a,sb,ha⟩:=y_;have B:C≠a:=by
  rcases ha with z|z
  ·rw[z];exact O
  ·exact λe=>P x a z e.symm
 refine⟨m,hn.sameBut sb B,λh' E=>⟨_,N,?_,q⟩⟩;exact u.turned (t':=s2.toks) (it:=C) (λb o hb e=>(E.2 b hb).trans e) z1 O z4 P z6
end
theorem zN:∀{b:ε τ}{c:ε ξ},Vals (b.map V.int) c->∃a:ε<|τ×ui,c=a.map (λp=>nr p.1 p.2)/\a.map (·.1)=b
 |[],_,.nil=>⟨[],rfl,rfl⟩
 |n::b,_,.cons r d=>by
  obtain⟨t,rfl⟩:=r;obtain⟨a,rfl,e⟩:=zN d;exact⟨(n,t)::a,rfl,by simp[e]⟩
section
variable{X:Cx}{K:μ}
theorem aAx(c:X.calm=true):gS X (.builtin "sum") (λb H Q=>∃(p:ο)(a:ε τ),b=[.ref p]/\SqL X.K H p (a.map V.int)/\Q (.int a.sum) H):=by
 intro pins s n H b o Q I r h;refine q_ λwv=>?_;obtain⟨p,a,rfl,d,q⟩:=h;obtain⟨u,rfl,f⟩:=kD r;apply wv;cases f;refine q_ λwv=>?_;obtain⟨g,i,j,t⟩:=I.list d;obtain⟨k,rfl,e⟩:=zN i;apply wv;have l:s.heap.IsList p (intItems k.toArray):=by
  have:=j.isList;simpa[intItems]using this
 refine sum_intListG (I.ok.hd c) l λv tk t' m=>?_;refine⟨.int a.sum,H,I.kept (t':=tk) m,⟨t',?_⟩,q⟩;rw[preSum_eq,bg<|by simp];simp[e]
theorem aTk(h:X.K=K)(b:X.calm=true):gS X (.builtin "sum") (λc H Q=>∃(p:ο)(a:ε τ),c=[.ref p]/\SqL K H p (a.map V.int)/\Q (.int a.sum) H):=by subst h;exact aAx b
end
end Lx
namespace Fm
theorem abs_if(i:τ):(if i<0 then -i else i)=((i.natAbs:ν):τ):=by lia
theorem gcd_step(a b:τ)(h:0<b):bq b (a%b)=bq a b:=by
 rw[vu b<|a%b,Int.emod_def];exact Int.gcd_sub_mul_left_left _ _ _
theorem gcd_zero(h:0<=a):((bq a 0:ν):τ)=a:=by
 rw[Int.gcd_zero_right];lia
theorem gcd_le_right(c:b≠0):bq a b<=b.natAbs:=wx ‹15›<|Int.gcd_dvd_natAbs_right a b
theorem gcd_pos_right(c:b≠0):0<bq a b:=Int.gcd_pos_of_ne_zero_right a c
theorem fr_num(e:b≠0):t.fdiv (if b<0 then -((bq t b:ν):τ)else((bq t b:ν):τ))=(cD t b).num:=by
 rw[y4,vu b t];have f:(0:τ)<((bq t b:ν):τ):=by have:=gcd_pos_right (a:=t) e;exact 19
 have h:((bq t b:ν):τ)∣t:=wy t b;split
 ·rename_i c
  rw[Int.sign_eq_neg_one_of_neg c];obtain⟨k,d⟩:=h;generalize ((bq t b:ν):τ)=g at f d;subst d;rw[show -1*(g*k)=g*(-k) by grind,p9 _<|‹21›];rw[show g*k=(-g)*(-k) by grind];exact jr _ (by lia)
 ·rename_i c
  rw[n7<|by lia,sv,jb _<|‹29›]
theorem fr_den(c:b≠0):b.fdiv (if b<0 then -((bq t b:ν):τ)else((bq t b:ν):τ))=(((cD t b).den:ν):τ):=by
 rw[uz,χ c,vu b t];have e:(0:τ)<((bq t b:ν):τ):=by have:=gcd_pos_right (a:=t) c;exact 19
 have f:((bq t b:ν):τ)∣b:=vw t b;rw[la];split
 ·rename_i h
  rw[show((b.natAbs:ν):τ)=-b by lia];obtain⟨k,d⟩:=f;generalize ((bq t b:ν):τ)=g at e d;subst d;rw[show -(g*k)=g*(-k) by grind,p9 _<|‹21›];rw[show g*k=(-g)*(-k) by grind];exact jr _ (by lia)
 ·rename_i h
  rw[show((b.natAbs:ν):τ)=b by lia,jb _<|‹29›]
theorem add_parts(a b:ψ)(s:ν)(h:s=a.den.gcd b.den)(f:τ)(i:f=a.num*((b.den/s:ν):τ)+b.num*((a.den/s:ν):τ))(g:ν)(c:g=s.gcd f.natAbs):
  (a+b).num=f/(g:τ)/\(a+b).den=a.den/s*(b.den/g):=by
 have j:0<s:=by rw[h];exact j1 _<|ig a.den_nz
 have o:0<g:=by rw[c];exact j1 _ j
 have k:g∣s:=by rw[c];exact ng _ _
 have l:s∣b.den:=by rw[h];exact vx _ _
 have m:g∣b.den:=qk k l;have e:a.den/s*(b.den/g)=a.den/s*b.den/g:=(Nat.mul_div_assoc _ m).symm;rw[e];show(Rat.add a b).num=_/\(Rat.add a b).den=_;unfold Rat.add;simp only[<-h];split
 ·rename_i n
  have:g=1:=by rw[c,n];exact Nat.gcd_one_left _
  subst this;dsimp only;rw[i,n];simp
 ·rename_i n
  simp only[Rat.maybeNormalize_eq];have d:(a.num*((b.den/s:ν):τ)+b.num*((a.den/s:ν):τ)).natAbs.gcd s=g:=by rw[c,<-i,Nat.gcd_comm]
  have p:(g:τ)∣f:=by
   rw[c];exact sx.mpr<|vx _ _
  constructor
  ·rw[ql,d,<-i,m4 p]
  ·rw[d]
theorem mul_parts(a b:ψ):(a*b).num=(cD a.num (b.den:τ)).num*(cD b.num (a.den:τ)).num/\(a*b).den=(cD a.num (b.den:τ)).den*(cD b.num (a.den:τ)).den:=by
 show(Rat.mul a b).num=_/\(Rat.mul a b).den=_;have c:(a.den:τ)≠0:=by have:=a.den_nz;exact 28
 have d:(b.den:τ)≠0:=by have:=b.den_nz;exact 28
 rw[y4,y4,uz,uz,χ c,χ d];have e:((b.den:ν):τ).sign=1:=n7 (by have:=b.den_nz;lia);have f:((a.den:ν):τ).sign=1:=n7 (by have:=a.den_nz;lia);rw[e,f,sv,sv];unfold Rat.mul;dsimp only;have g:bq ((b.den:ν):τ) a.num=a.num.natAbs.gcd b.den:=by rw[vu];rfl
 have h:bq ((a.den:ν):τ) b.num=b.num.natAbs.gcd a.den:=by rw[vu];rfl
 rw[g,h];constructor
 ·rw[ql,ql,m4<|sx.mpr<|ng _ _,m4<|sx.mpr<|ng _ _]
 ·rw[ie];rfl
theorem div_inv(b:ψ):cD (b.den:τ) b.num=b⁻¹:=(Rat.inv_def b).symm
theorem less_iff(a b:ψ):(a.num*(b.den:τ)<b.num*(a.den:τ))↔a<b:=(Rat.lt_iff a b).symm
theorem den_pos(q:ψ):(1:τ)<=(q.den:τ):=by have:=q.den_nz;lia
theorem aAs(t b:τ)(a:b≠0):(cD t b).num*b=t*((cD t b).den:τ):=by
 have h:=js<|cD t b;exact(Rat.divInt_eq_divInt_iff (by have:=(cD t b).den_nz;exact 28) a).mp h
theorem num_le(t:τ)(c:b≠0):(cD t b).num.natAbs<=t.natAbs:=by
 have h:=aAs t b c;have i:=Fm.den_pos<|cD t b;rw[<-fr_num c];have e:(0:τ)<((bq t b:ν):τ):=by have:=gcd_pos_right (a:=t) c;exact 19
 obtain⟨k,d⟩:((bq t b:ν):τ)∣t:=wy t b;generalize ((bq t b:ν):τ)=g at e d;subst d;have f:k.natAbs<=(g*k).natAbs:=by
  rw[ck];exact ro _ (by lia)
 split
 ·rw[show g*k=(-g)*(-k) by grind,jr _<|by lia];rw[show(-g)*(-k)=g*k by grind];exact 49
 ·rw[jr _<|‹21›];exact f
theorem den_le(t:τ)(a:b≠0):(cD t b).den<=b.natAbs:=by
 rw[uz,χ a];exact pa _ _
theorem num_eq(q:ψ):(q.num:ψ)=q*(q.den:ψ):=by
 have h:=js q;rw[qa]at h;have b:((q.den:τ):ψ)≠0:=by
  have:=q.den_nz;intro z;rw[Ο]at z;exact this (by simpa using z)
 rw[Ο]at h b;have c:=n8 (a:=(q.num:ψ)) b;rw[h]at c;exact c.symm
theorem fr_pos(d:0<b):t/((bq t b:ν):τ)=(cD t b).num/\b/((bq t b:ν):τ)=((cD t b).den:τ):=by
 have a:=fr_num (t:=t) (b:=b) ‹21›;have c:=fr_den (t:=t) (b:=b) ‹21›;rw[χ<|by lia,jb _<|‹50›]at a c;exact⟨a,c⟩
theorem eq_divInt{n m:τ}(a:m≠0)(h:q*(m:ψ)=(n:ψ)):q=cD n m:=by
 rw[qa,<-h];have:(m:ψ)≠0:=by simpa using a
 exact(Rat.mul_div_cancel this).symm
theorem size_of{n m:τ}(a:m≠0)(h:q*(m:ψ)=(n:ψ)):q.num.natAbs<=n.natAbs/\q.den<=m.natAbs:=by
 rw[eq_divInt a h];exact⟨num_le n a,den_le n a⟩
structure Sz(N:ν)(q:ψ):Prop where
 n:q.num.natAbs<=N
 d:q.den<=N
theorem Sz.mono(h:Sz M q)(l:M<=N):Sz N q:=⟨Β h.n l,Β h.d l⟩
theorem Sz.neg(h:Sz N q):Sz N (-q):=⟨by show(-q.num).natAbs<=N;rw[y6];exact h.n,h.d⟩
theorem Ea(a b:ψ)(f:ψ)(n:τ)(h:f*((a.den:τ)*(b.den:τ):τ)=(n:ψ))(c:Sz M a)(d:Sz N b)(e:n.natAbs<=2*(M*N)):Sz (2*(M*N)) f:=by
 have g:(a.den:τ)*(b.den:τ)≠0:=pd (by have:=a.den_nz;exact 28) (by have:=b.den_nz;exact 28);obtain⟨i,j⟩:=size_of g h;refine⟨Β i e,Β j ?_⟩;rw[ck];have:=ai c.d d.d;simp only[fi];lia
theorem Sz.add(c:Sz M a)(d:Sz N b):Sz (2*(M*N)) (a+b):=by
 refine Ea a b _ (a.num*(b.den:τ)+b.num*(a.den:τ)) ?_ c d ?_
 ·rw[aq,xj,aq,aq,Ο,Ο,num_eq a,num_eq b];grind
 ·have g:=ai c.n d.d;have e:=ai d.n c.d;have f:=jg (a.num*(b.den:τ))<|b.num*(a.den:τ);rw[ck,ck,fi,fi]at f;rw[ie N M]at e;lia
theorem Sz.sub(c:Sz M a)(d:Sz N b):Sz (2*(M*N)) (a-b):=by
 rw[sy];exact c.add d.neg
theorem Sz.mul(c:Sz M a)(d:Sz N b):Sz (2*(M*N)) (a*b):=by
 refine Ea a b _ (a.num*b.num) ?_ c d ?_
 ·rw[aq,aq,Ο,Ο,num_eq a,num_eq b];grind
 ·have e:=ai c.n d.n;rw[ck];lia
theorem Sz.inv(a:Sz N b)(c:b≠0):Sz N b⁻¹:=by
 have d:b.num≠0:=λz=>c<|tf.mp z;have e:b⁻¹*((b.num:τ):ψ)=((b.den:τ):ψ):=by
  rw[num_eq b,Ο];grind
 obtain⟨f,g⟩:=size_of d e;exact⟨by have:=a.d;rw[fi]at f;exact 2,Β g a.n⟩
theorem Sz.div(c:Sz M a)(d:Sz N b)(e:b≠0):Sz (2*(M*N)) (a/b):=by
 rw[ml];exact c.mul<|d.inv e
end Fm
namespace Fm
theorem Cl(t:τ)(a:b≠0):(cD t b).den∣b.natAbs:=by
 have h:=bt Int.natAbs<|aAs t b a;rw[ck,ck]at h;have c:(cD t b).den∣(cD t b).num.natAbs*b.natAbs:=⟨t.natAbs,by rw[h,ie];simp⟩;have d:Nat.Coprime (cD t b).den (cD t b).num.natAbs:=Nat.Coprime.symm (cD t b).reduced;exact d.dvd_of_dvd_mul_left c
theorem Ck{n:τ}{L:ν}(a:L≠0)(h:q*(L:ψ)=(n:ψ)):q.den∣L:=by
 have e:q=cD n (L:τ):=eq_divInt ‹28› (by rw[Ο];exact h);rw[e];have:=Cl n (b:=(L:τ)) ‹28›;simpa using this
theorem uD{L:ν}(h:q.den∣L):q*(L:ψ)=((q.num*((L/q.den:ν):τ):τ):ψ):=by
 obtain⟨c,rfl⟩:=h;have a:0<q.den:=ig q.den_nz;rw[Nat.mul_div_cancel_left _ a,aq,num_eq q,hE,Ο];exact 47
structure Cm(L B:ν)(q:ψ):Prop where
 d:q.den∣L
 lo:-(B:ψ)<=q
 hi:q<=(B:ψ)
theorem qQ{a b:ν}(h:a<=b):(a:ψ)<=(b:ψ):=by
 rw[<-Ο,<-Ο];exact fq.mpr ‹19›
theorem nJ(a:ν):(0:ψ)<=(a:ψ):=qQ<|hB a
theorem Cm.mono(h:Cm L B q)(a:L∣L')(b:B<=B'):Cm L' B' q:=by
 have:=qQ b;exact⟨qk h.d a,by have:=h.lo;grind,by have:=h.hi;exact 43⟩
theorem Cm.neg(h:Cm L B q):Cm L B (-q):=⟨h.d,by have:=h.hi;grind,by have:=h.lo;grind⟩
theorem Cm.add(a:Cm L B p)(b:Cm L C q):Cm L (B+C) (p+q):=by
 refine⟨?_,?_,?_⟩
 ·by_cases c:L=0
  ·rw[c];exact AA _
  ·refine Ck c (n:=p.num*((L/p.den:ν):τ)+q.num*((L/q.den:ν):τ)) ?_;rw[xj,<-uD a.d,<-uD b.d];grind
 ·rw[xk];have:=a.lo;have:=b.lo;grind
 ·rw[xk];have:=a.hi;have:=b.hi;grind
theorem Cm.sub(a:Cm L B p)(b:Cm L C q):Cm L (B+C) (p-q):=by
 rw[sy];exact a.add b.neg
theorem Xc{a b B C:ψ}(c:-B<=a)(d:a<=B)(e:-C<=b)(f:b<=C):a*b<=B*C/\-(B*C)<=a*b:=by
 have g:0<=(B-a)*(C+b):=ew (by grind) (by grind);have h:0<=(B+a)*(C-b):=ew (by grind) (by grind);have i:0<=(B-a)*(C-b):=ew (by grind) (by grind);have j:0<=(B+a)*(C+b):=ew (by grind) (by grind);constructor <;>grind
theorem Cm.mul(a:Cm L B p)(b:Cm M C q):Cm (L*M) (B*C) (p*q):=by
 refine⟨?_,?_,?_⟩
 ·by_cases c:L*M=0
  ·rw[c];exact AA _
  ·refine Ck c (n:=(p.num*((L/p.den:ν):τ))*(q.num*((M/q.den:ν):τ))) ?_;rw[aq,<-uD a.d,<-uD b.d,hE];grind
 ·rw[hE];exact(Xc a.lo a.hi b.lo b.hi).2
 ·rw[hE];exact(Xc a.lo a.hi b.lo b.hi).1
theorem Cm.int{i:τ}(h:i.natAbs<=B):Cm 1 B (i:ψ):=by
 refine⟨by simp,?_,?_⟩
 ·rw[<-Ο,<-mu];exact fq.mpr (by lia)
 ·rw[<-Ο];exact fq.mpr (by lia)
theorem Cm.zero:Cm L B 0:=by
 have:=nJ B;exact⟨by simp,by grind,this⟩
theorem Cm.num(h:Cm L B q):q.num.natAbs<=B*q.den:=by
 have b:(0:ψ)<=(q.den:ψ):=nJ _;have e:=num_eq q;have c:(q.num:ψ)<=((B*q.den:ν):ψ):=by
  rw[e,hE];exact me h.hi b
 have a:-((B*q.den:ν):ψ)<=(q.num:ψ):=by
  rw[e,hE,<-A3];exact me h.lo b
 rw[<-Ο]at c a;rw[<-mu]at a;have d:=fq.mp c;have f:=fq.mp a;lia
theorem Cm.den(h:Cm L B q)(a:0<L):q.den<=L:=wx a h.d
theorem Cm.sz(h:Cm L B q)(a:0<L):Sz ((B+1)*L) q:=by
 have c:=h.num;have b:=h.den a;have d:B*q.den<=B*L:=af _ b;have e:(B+1)*L=B*L+L:=by rw[mm,j0]
 exact⟨by lia,by lia⟩
theorem Cm.of(b:q.den∣L)(g:q.num.natAbs<=B*q.den):Cm L B q:=by
 have a:(0:ψ)<(q.den:ψ):=by
  rw[<-Ο];exact ko.mpr (by have:=q.den_nz;lia)
 have e:=num_eq q;have d:(q.num:ψ)<=(B:ψ)*(q.den:ψ):=by
  rw[<-hE,<-Ο];exact fq.mpr (by lia)
 have f:-((B:ψ)*(q.den:ψ))<=(q.num:ψ):=by
  rw[<-hE,<-Ο,<-mu];exact fq.mpr (by lia)
 rw[e]at d f;refine⟨b,?_,?_⟩
 ·refine lj.mp λc=>?_;have:=hJ c a;rw[A3]at this;grind
 ·refine lj.mp λc=>?_;have:=hJ c a;grind
theorem Cm.div(a:0<b)(c:b∣L)(d:t.natAbs<=B*b):Cm L B (cD t (b:τ)):=by
 have e:=Cl t (b:=(b:τ)) (by lia);have f:=aAs t (b:τ) (by lia);refine Cm.of (qk (by simpa using e) c) ?_;have g:(cD t (b:τ)).num.natAbs*b=t.natAbs*(cD t (b:τ)).den:=by
  have:=bt Int.natAbs f;rw[ck,ck]at this;simpa using this
 refine Nat.le_of_mul_le_mul_right ?_ a;rw[g]
 calc t.natAbs*(cD t (b:τ)).den<=(B*b)*(cD t (b:τ)).den:=Χ _ d
  _=B*(cD t (b:τ)).den*b:=by rw[gc,ie b,gc]
def Dg(n:ν)(q:ψ):Prop:=Sz (10^n) q
theorem gH(h:a<=b):10^a<=10^b:=eH (by decide) h
theorem jO(a b:ν):2*(10^a*10^b)<=10^(a+b+1):=by
 rw[gi,ij];exact 48
theorem Dg.mono(h:Dg a q)(l:a<=b):Dg b q:=Sz.mono h<|gH l
theorem Dg.add(c:Dg a p)(d:Dg b q):Dg (a+b+1) (p+q):=(Sz.add c d).mono<|jO a b
theorem Dg.sub(c:Dg a p)(d:Dg b q):Dg (a+b+1) (p-q):=(Sz.sub c d).mono<|jO a b
theorem Dg.mul(c:Dg a p)(d:Dg b q):Dg (a+b+1) (p*q):=(Sz.mul c d).mono<|jO a b
theorem Dg.div(c:Dg a p)(d:Dg b q)(e:q≠0):Dg (a+b+1) (p/q):=(Sz.div c d e).mono<|jO a b
theorem Dg.inv(b:Dg a p)(c:p≠0):Dg a p⁻¹:=Sz.inv b c
theorem Dg.neg(b:Dg a p):Dg a (-p):=Sz.neg b
theorem Dg.zero:Dg n 0:=⟨hB _,pf (n:=n)<|by decide⟩
theorem Dg.one:Dg n 1:=⟨pf (n:=n)<|by decide,pf (n:=n)<|by decide⟩
theorem Dg.int{i:τ}(h:i.natAbs<=10^n):Dg n (i:ψ):=⟨h,pf (n:=n)<|by decide⟩
def bZ(q:ψ):ψ:=⟨(q.num.natAbs:τ),q.den,q.den_nz,by simpa using q.reduced⟩
theorem iK(q:ψ):(bZ q).num=((q.num.natAbs:ν):τ):=rfl
theorem mR(h:0<=q):bZ q=q:=by
 have:=rp.mpr h;exact As (by rw[iK];lia) rfl
theorem wX(h:q<=0):bZ q=-q:=by
 have a:0<=-q:=by grind
 have:=rp.mpr a;exact As (by rw[iK];show _=-q.num;have e:(-q).num=-q.num:=rfl;lia) rfl
theorem uA(q:ψ):0<=bZ q:=rp.mp (by rw[iK];exact 29)
theorem eQ(q:ψ):(0<=q/\bZ q=q)\/(q<=0/\bZ q=-q):=by
 rcases A4 (a:=0) (b:=q)with h|h
 ·exact .inl ⟨h,mR h⟩
 ·exact .inr ⟨h,wX h⟩
theorem Cm.abs(h:Cm L B q):Cm L B (bZ q):=by
 rcases eQ q with⟨_,e⟩|⟨_,e⟩
 ·rw[e];exact h
 ·rw[e];exact h.neg
theorem Dg.abs(h:Dg n q):Dg n (bZ q):=⟨by rw[iK];exact h.n,h.d⟩
theorem Cm.dg(h:Cm L B q)(a:0<L)(c:L<=10^l)(d:B<=10^b):Dg (b+l+1) q:=by
 refine(h.sz a).mono ?_;have e:(B+1)*L<=(10^b+10^b)*10^l:=ai (by have:=pf (n:=b) (show 0<10 by decide);lia) c;have:=jO b l;rw[mm<|10^b]at e;lia
end Fm
namespace Dl
open PySem PySem.Spec PyProof.Rows L2 Lx
inductive Sl where
 |dat (d:η)
 |own (ds:ε η)
  |exc (C:ο)
  |two (xs ys:ε η)
  |fz (as:ε ο) (d:η)
  |mon (φ:μ->Hp->V->Prop)
abbrev bF:=ε<|υ Sl
noncomputable def slot:bF->ν->υ Sl
 |[],_=>none
 |x::_,0=>x
 |_::a,n+1=>slot a n
noncomputable def put(s:υ Sl):ν->bF->bF
 |_,[]=>[]
 |0,_::a=>s::a
 |n+1,x::a=>x::put s n a
theorem iI(s:υ Sl):∀(i j:ν)(b:bF),slot (put s i b) j=if j=i/\i<b.length then s else slot b j
 |i,j,[]=>by cases i <;>simp[put,slot]
 |0,0,x::a=>by simp[put,slot]
 |0,j+1,x::a=>by simp[put,slot]
 |i+1,0,x::a=>by simp[put,slot]
 |i+1,j+1,x::a=>by
  have:=iI s i j a;simp only[put,slot,this,Ρ];simp
theorem jR(s:υ Sl):∀(i:ν)(a:bF),(put s i a).length=a.length
 |i,[]=>by cases i <;>rfl
 |0,x::b=>rfl
 |i+1,x::b=>by simp[put,jR s i b]
theorem lN{K:μ}(e:Same H b)(h:SqT K H a c):SqT K b a c:=by
 rcases h with(h|⟨o,h⟩)|h
 ·exact .inl<|.inl<|e _ _ h
 ·exact .inl<|.inr ⟨o,e _ _ h⟩
 ·exact .inr h
mutual
theorem cU{K:μ}{H c:Hp}(s:Same H c):∀{x:V}{d:η},DV K H x d->DV K c x d
 |_,_,.non=>.non
 |_,_,.bl b=>.bl b
 |_,_,.int i=>.int i
 |_,_,.str x=>.str x
 |_,_,.tup h a=>.tup (lN s h)<|aU s a
 |_,_,.lst h a=>.lst (s.seq h)<|aU s a
 |_,_,.dct h=>.dct<|s _ _ h
 |_,_,.dc0 h=>.dc0<|s _ _ h
theorem aU{K:μ}{H a:Hp}(s:Same H a):∀{b:ε V}{c:ε η},DVs K H b c->DVs K a b c
 |_,_,.nil=>.nil
 |_,_,.cons h t=>.cons (cU s h)<|aU s t
end
mutual
def mH:η->Bool
 | .none=>true
 | .bool _=>true
 | .int _=>true
 | .str _=>true
 | .list _=>false
 | .tuple a=>cZ a
 | .dict _=>true
def cZ:ε η->Bool
 |[]=>true
 |d::a=>mH d && cZ a
end
def Sub(G H:Hp):Prop:=∀b,G b=H b\/(G b=none/\∃a,H b=γ (.lst a))
theorem Sub.same(s:Sub G H):Same G H:=λb o e=>by
 rcases s b with h|⟨h,_⟩
 ·rw[<-h];exact e
 ·rw[h]at e;cases e
theorem Sub.refl(H:Hp):Sub H H:=λ_=>.inl rfl
theorem Sub.other(s:Sub G H)(h:H b=γ o)(n:∀a,o≠ .lst a):G b=γ o:=by
 rcases s b with e|⟨_,a,e⟩
 ·rw[e];exact h
 ·rw[h]at e;cases e;exact ς rfl<|n a
mutual
theorem Ov{K:μ}{G H:Hp}(s:∀b o,H b=γ o->(∀a,o≠ .lst a)->G b=γ o):∀{x:V}{d:η},DV K H x d->mH d=true->DV K G x d
 |_,_,.non,_=>.non
 |_,_,.bl b,_=>.bl b
 |_,_,.int i,_=>.int i
 |_,_,.str x,_=>.str x
 | _,_,.tup h c,f=>.tup (by
   rcases h with(h|⟨o,h⟩)|h
   ·exact .inl<|.inl<|s _ _ h (by intro a z;cases z)
   ·exact .inl<|.inr ⟨o,s _ _ h (by intro a z;cases z)⟩
   ·exact .inr h) (mL s c f)
 |_,_,.lst _ _,f=>by cases f
 |_,_,.dct h,_=>.dct<|s _ _ h (by intro a z;cases z)
 |_,_,.dc0 h,_=>.dc0<|s _ _ h (by intro a z;cases z)
theorem mL{K:μ}{G H:Hp}(s:∀b o,H b=γ o->(∀a,o≠ .lst a)->G b=γ o):∀{a:ε V}{c:ε η},DVs K H a c->cZ c=true->DVs K G a c
 |_,_,.nil,_=>.nil
 |_,_,.cons h t,f=>by
  simp only[cZ,h9]at f;exact .cons (Ov s h f.1)<|mL s t f.2
end
end Dl
namespace Lx
open PySem PySem.Spec PyProof.Rows L2
theorem DVs.len{K:μ}:∀{a:ε V}{b:ε η},DVs K H a b->a.length=b.length
 |_,_,.nil=>rfl
 |_,_,.cons _ t=>bt (·+1)<|DVs.len t
theorem DVs.at{K:μ}:∀{a:ε V}{b:ε η}{i:ν}{d:η},DVs K H a b->b[i]? =γ d->∃x,a[i]? =γ x/\DV K H x d
 |_,_,_,_,.nil,e=>by simp at e
 |_,_,0,_,.cons h _,e=>by
  simp at e;subst e;exact⟨_,rfl,h⟩
 |_,_,i+1,_,.cons _ t,e=>by
  obtain⟨x,c,f⟩:=DVs.at (i:=i) t (by simpa using e);exact⟨x,by simpa using c,f⟩
theorem DVs.append{K:μ}:∀{a b:ε V}{c d:ε η},DVs K H a c->DVs K H b d->DVs K H (a++b) (c++d)
 |_,_,_,_,.nil,h=>h
 |_,_,_,_,.cons r t,h=>.cons r<|DVs.append t h
theorem DVs.take{K:μ}:∀{a:ε V}{b:ε η}(n:ν),DVs K H a b->DVs K H (a.take n) (b.take n)
 |_,_,0,_=>by simp only[List.take_zero];exact .nil
 |_,_,_+1,.nil=>.nil
 |_,_,n+1,.cons r t=>.cons r<|DVs.take n t
theorem DVs.drop{K:μ}:∀{a:ε V}{b:ε η}(n:ν),DVs K H a b->DVs K H (a.drop n) (b.drop n)
 |_,_,0,h=>by simp only[mf];exact h
 |_,_,_+1,.nil=>.nil
 |_,_,n+1,.cons _ t=>DVs.drop n t
theorem DVs.set{K:μ}(r:DV K H x d):∀{a:ε V}{b:ε η}(i:ν),DVs K H a b->DVs K H (a.set i x) (b.set i d)
 |_,_,_,.nil=>.nil
 |_,_,0,.cons _ t=>.cons r t
 |_,_,i+1,.cons q t=>.cons q<|DVs.set r i t
theorem DVs.rev{K:μ}:∀{a:ε V}{b:ε η},DVs K H a b->DVs K H a.reverse b.reverse
 |_,_,.nil=>.nil
 |_,_,.cons r t=>by
  rw[nc,nc];exact DVs.append (DVs.rev t)<|.cons r .nil
end Lx
namespace Dl
open PySem PySem.Spec PyProof.Rows L2 Lx
inductive Rws(K:μ)(G H:Hp):ε ο->ε (ε η)->Prop
 |nil:Rws K G H [] []
 |cons {b:ο} {bs:ε ο} {vs:ε V} {ds:ε η} {dss:ε<|ε η}:H b=γ (.lst vs)->DVs K G vs ds->Rws K G H bs dss->Rws K G H (b::bs) (ds::dss)
theorem Rws.mono{K:μ}(g:Same G b)(h:Same H c):∀{bs:ε ο}{a:ε<|ε η},Rws K G H bs a->Rws K b c bs a
 |_,_,.nil=>.nil
 |_,_,.cons d e r=>.cons (h _ _ d) (aU g e)<|r.mono g h
theorem Rws.dv{K:μ}(b:Hp)(g:Same G b):∀{bs:ε ο}{a:ε<|ε η},(∀c∈bs,b c=H c)->Rws K G H bs a->DVs K b (bs.map V.ref) (a.map gv)
 |_,_,_,.nil=>.nil
 |_,_,f,.cons d e r=>.cons (.lst (SqL.of (by rw[f _ Κ];exact d))<|aU g e)<|r.dv b g λc h=>f c<|Θ _ h
inductive FzIs(K:μ)(G:Hp):V->ε ο->η->Prop
 |pair {t a b:ο} {vs ws:ε V} {xs ys:ε η}:SqT K G t [.ref a,.ref b]->a≠b->G a=γ (.lst vs)->G b=γ (.lst ws)->DVs K G vs xs->DVs K G ws ys->FzIs K G (.ref t) [a,b] (.tuple [.list xs,.list ys])
 |one {a:ο} {vs:ε V} {ds:ε η}:G a=γ (.lst vs)->DVs K G vs ds->FzIs K G (.ref a) [a] (.list ds)
 |gr {a:ο} {cs:ε ο} {dss:ε<|ε η}:G a=γ (.lst<|cs.map V.ref)->(a::cs).Nodup->Rws K G G cs dss->FzIs K G (.ref a) (a::a::cs) (.list<|dss.map gv)
 |tg {t p a:ο} {cs:ε ο} {vs:ε V} {xs:ε η} {dss:ε<|ε η}:SqT K G t [.ref p,.ref a]->(p::a::cs).Nodup->G p=γ (.lst vs)->DVs K G vs xs->G a=γ (.lst<|cs.map V.ref)->Rws K G G cs dss->FzIs K G (.ref t) (p::p::a::cs) (.tuple [.list xs,.list<|dss.map gv])
theorem FzIs.same{K:μ}(s:Same G i)(h:FzIs K G v j d):FzIs K i v j d:=by
 cases h with
 |pair a b c e f g=>exact .pair (lN s a) b (s _ _ c) (s _ _ e) (aU s f)<|aU s g
 |one a b=>exact .one (s _ _ a)<|aU s b
 |gr a b c=>exact .gr (s _ _ a) b<|c.mono s s
 |tg a b c e f g=>exact .tg (lN s a) b (s _ _ c) (aU s e) (s _ _ f)<|g.mono s s
theorem FzIs.dv{K:μ}(h:FzIs K G v i d):DV K G v d:=by
 cases h with
 |pair a c b e f g=>exact .tup a<|.cons (.lst (SqL.of b) f)<|.cons (.lst (SqL.of e) g) .nil
 |one a c=>exact .lst (SqL.of a) c
 |gr a c b=>exact .lst (SqL.of a)<|b.dv G (Same.refl _) λ_ _=>rfl
 |tg a c b e f g=>exact .tup a<|.cons (.lst (SqL.of b) e)<|.cons (.lst (SqL.of f)<|g.dv G (Same.refl _) λ_ _=>rfl) .nil
def SlIs(K:μ)(G H:Hp)(v:V):Sl->Prop
 | .dat d=>DV K G v d
 | .own e=>∃a b,v= .ref a/\G a=none/\H a=γ (.lst b)/\DVs K G b e
 | .exc C=>∃x,v= .ref x/\G x=γ (.ext<|mS x C)
 | .two _ _=>Ε
 | .fz f d=>FzIs K G v f d
 | .mon g=>∀c,Same G c->g K c v
structure Sees(K:μ)(H₀ G:Hp)(δ:bF)(σ:L2.St)(H:Hp):Prop where
 old:Same H₀ G
 sub:Sub G H
 len:δ.length<=σ.length
 has:∀i s,slot δ i=γ s->∃v,σ[i]? =γ (γ v)/\SlIs K G H v s
 sep:∀i j xs ys a,slot δ i=γ (.own xs)->slot δ j=γ (.own ys)->σ[i]? =γ (γ<|.ref a)->σ[j]? =γ (γ<|.ref a)->i=j
structure Ext(G H G' H':Hp):Prop where
 g:Same G G'
 h:Same H H'
 s:Sub G' H'
 n:∀b o,G' b=γ o->G b=γ o\/H b=none
theorem Ext.refl(s:Sub G H):Ext G H G H:=⟨Same.refl _,Same.refl _,s,λ_ _ h=>.inl h⟩
theorem Ext.trans{G H d e f g:Hp}(a:Ext G H d e)(b:Ext d e f g):Ext G H f g:=
 ⟨a.g.trans b.g,a.h.trans b.h,b.s,λc o h=>by
  rcases b.n c o h with z|z
  ·exact a.n c o z
  ·exact .inr (a.h.free z)⟩
theorem Ext.keep(e:Ext G H b c)(d:G a=none)(f:H a=γ o):b a=none:=by
 cases q:b a with
 |none=>rfl
 |some u=>
  rcases e.n a u q with z|z
  ·rw[d]at z;cases z
  ·rw[f]at z;cases z
section
variable{K:μ}{H₀ G H G' H':Hp}{δ:bF}{σ:L2.St}
theorem SlIs.ext(e:Ext G H G' H')(h:SlIs K G H v s):SlIs K G' H' v s:=by
 cases s with
 |dat d=>exact cU e.g h
 |own l=>
  obtain⟨a,c,rfl,f,b,g⟩:=h;exact⟨a,c,rfl,e.keep f b,e.h _ _ b,aU e.g g⟩
 |two m n=>exact h.elim
 |fz o d=>exact FzIs.same e.g h
 |mon p=>exact λi j=>h i<|e.g.trans j
 |exc C=>
  obtain⟨x,rfl,k⟩:=h;exact⟨x,rfl,e.g _ _ k⟩
theorem Sees.ext(S:Sees K H₀ G δ σ H)(e:Ext G H G' H'):Sees K H₀ G' δ σ H':=
 ⟨S.old.trans e.g,e.s,S.len,λi s h=>by
  obtain⟨v,a,b⟩:=S.has i s h
  exact⟨v,a,b.ext e⟩,S.sep⟩
theorem Sees.refl(S:Sees K H₀ G δ σ H):Ext G H G H:=.refl S.sub
theorem Sees.oldH(S:Sees K H₀ G δ σ H):Same H₀ H:=S.old.trans S.sub.same
theorem mT:∀{δ:bF}{i:ν}{s:Sl},slot δ i=γ s->i<δ.length
 |[],_,_,h=>by cases h
 |_::_,0,_,_=>Nat.zero_lt_succ _
 |_::a,i+1,s,h=>Nat.succ_lt_succ<|mT (δ:=a) (i:=i) (s:=s) h
theorem Sees.setS(S:Sees K H₀ G δ σ H)(i:ν)(h:SlIs K G H v s)(q:∀t j w a,s= .own t->slot δ j=γ (.own w)->σ[j]? =γ (γ<|.ref a)->v≠ .ref a):Sees K H₀ G (put (γ s) i δ) (σ.set i<|some v) H:=by
 have look:∀j u,slot (put (γ s) i δ) j=γ u->(j=i/\u=s/\(σ.set i<|some v)[j]? =γ (γ v))\/(j≠i/\slot δ j=γ u/\(σ.set i<|some v)[j]? =σ[j]?):=λj u b=>by
  rw[iI]at b;split at b
  ·rename_i n
   obtain⟨rfl,x⟩:=n;cases b;exact .inl ⟨rfl,rfl,by rw[gh<|ah x S.len]⟩
  ·rename_i n
   have f:j≠i:=λz=>n ⟨z,by rw[<-z];exact mT b⟩;exact .inr ⟨f,b,by rw[dV<|Ne.symm f]⟩
 refine⟨S.old,S.sub,by rw[jR,ib];exact S.len,λj u b=>?_,λj k o p a b y c d=>?_⟩
 ·rcases look j u b with⟨rfl,rfl,e⟩|⟨_,g,e⟩
  ·exact⟨v,e,h⟩
  ·rw[e];exact S.has j u g
 ·rcases look j _ b with⟨rfl,A,l⟩|⟨C,g,l⟩ <;>rcases look k _ y with⟨rfl,B,m⟩|⟨D,r,m⟩
  ·rfl
  ·rw[l]at c;rw[m]at d;cases c;exact ς rfl<|q o k p a A.symm r d
  ·rw[l]at c;rw[m]at d;cases d;exact ς rfl<|q p j o a B.symm g c
  ·rw[l]at c;rw[m]at d;exact S.sep j k o p a g r c d
theorem Sees.unset(S:Sees K H₀ G δ σ H)(i:ν):Sees K H₀ G (put none i δ) (σ.set i none) H:=by
 have look:∀j u,slot (put none i δ) j=γ u->j≠i/\slot δ j=γ u:=λj u b=>by
  rw[iI]at b;split at b
  ·cases b
  ·rename_i g
   exact⟨λz=>g ⟨z,by rw[<-z];exact mT b⟩,b⟩
 refine⟨S.old,S.sub,by rw[jR,ib];exact S.len,λj u b=>?_,λj k h l a b m e f=>?_⟩
 ·obtain⟨c,d⟩:=look j u b;rw[dV<|Ne.symm c];exact S.has j u d
 ·obtain⟨c,d⟩:=look j _ b;obtain⟨n,o⟩:=look k _ m;rw[dV<|Ne.symm c]at e;rw[dV<|Ne.symm n]at f;exact S.sep j k h l a d o e f
theorem Sees.setD(S:Sees K H₀ G δ σ H)(i:ν)(h:DV K G v d):Sees K H₀ G (put (γ<|.dat d) i δ) (σ.set i<|some v) H:=
 S.setS i (s:=.dat d) h λ_ _ _ _ z=>nomatch z
theorem Sees.ownAt(S:Sees K H₀ G δ σ H)(h:slot δ i=γ (.own c)):∃a b,σ[i]? =γ (γ<|.ref a)/\G a=none/\H a=γ (.lst b)/\DVs K G b c:=by
 refine q_ λwv=>?_;obtain⟨v,d,a,b,rfl,e,f,g⟩:=S.has i _ h;apply wv;exact⟨a,b,d,e,f,g⟩
theorem Sees.setO(S:Sees K H₀ G δ σ H)(e:Ext G H G' H')(i:ν)(k:H a=none)(l:G' a=none)(m:H' a=γ (.lst d))(n:DVs K G' d f):
  Sees K H₀ G' (put (γ<|.own f) i δ) (σ.set i<|some<|.ref a) H':=
 (S.ext e).setS i (s:=.own f) ⟨a,d,rfl,l,m,n⟩ λ_ j q b _ o p z=>by
  cases z;obtain⟨c,r,g,t,h,u⟩:=S.ownAt o;rw[p]at g;cases g;rw[k]at h;cases h
theorem Sees.updO(S:Sees K H₀ G δ σ H)(h:slot δ i=γ (.own n))(o:σ[i]? =γ (γ<|.ref a))(A:DVs K G vs es):
  Sees K H₀ G (put (γ<|.own es) i δ) σ (dP H a<|.lst vs):=by
 obtain⟨b,t,w,x,I,J⟩:=S.ownAt h;rw[o]at w;cases w;have look:∀j u,slot (put (γ<|.own es) i δ) j=γ u->(j=i/\u= .own es)\/(j≠i/\slot δ j=γ u):=λj u e=>by
  rw[iI]at e;split at e
  ·rename_i p
   cases e;exact .inl ⟨p.1,rfl⟩
  ·rename_i p
   exact .inr ⟨λz=>p ⟨z,by rw[<-z];exact mT e⟩,e⟩
 refine⟨S.old,λc=>?_,by rw[jR];exact S.len,λj u e=>?_,λj k g q c e B r s=>?_⟩
 ·by_cases z:c=a
  ·subst z;exact .inr ⟨x,vs,aZ⟩
  ·rw[aV z];exact S.sub c
 ·rcases look j u e with⟨rfl,rfl⟩|⟨y,l⟩
  ·exact⟨_,o,a,vs,rfl,x,aZ,A⟩
  ·obtain⟨v,m,f⟩:=S.has j u l;refine⟨v,m,?_⟩;cases u with
   |dat d=>exact f
   |two g q=>exact f.elim
   |fz L d=>exact f
   |mon M=>exact f
   |exc C=>exact f
   |own g=>
    obtain⟨c,t,rfl,D,E,F⟩:=f;refine⟨c,t,rfl,D,?_,F⟩;rw[aV λz=>?_]
    ·exact E
    ·subst z;exact y<|S.sep j i g n c l h m o
 ·rcases look j _ e with⟨rfl,_⟩|⟨y,l⟩ <;>rcases look k _ B with⟨rfl,_⟩|⟨N,m⟩
  ·rfl
  ·exact S.sep j k n q c h m r s
  ·exact S.sep j k g n c l h r s
  ·exact S.sep j k g q c l m r s
theorem Sees.frz(S:Sees K H₀ G δ σ H)(h:slot δ i=γ (.own l)):∃G',Same G G'/\Sees K H₀ G' (put (γ<|.dat<|.list l) i δ) σ H:=by
 obtain⟨a,q,r,w,y,A⟩:=S.ownAt h;have sg:Same G (dP G a<|.lst q):=λb o e=>by rw[aV<|bL e w];exact e
 refine⟨dP G a<|.lst q,sg,S.old.trans sg,λb=>?_,by rw[jR];exact S.len,λj u f=>?_,λj k m s c f B D E=>?_⟩
 ·by_cases z:b=a
  ·subst z;exact .inl (by rw[aZ,y])
  ·rw[aV z];exact S.sub b
 ·rw[iI]at f;split at f
  ·rename_i n
   cases f;exact⟨_,by rw[n.1];exact r,.lst (SqL.of aZ)<|aU sg A⟩
  ·rename_i n
   have p:j≠i:=λz=>n ⟨z,by rw[<-z];exact mT f⟩;obtain⟨v,t,g⟩:=S.has j u f;refine⟨v,t,?_⟩;cases u with
   |dat d=>exact cU sg g
   |two m s=>exact g.elim
   |fz P d=>exact FzIs.same sg g
   |mon R=>exact λF I=>g F<|sg.trans I
   |exc C=>
    obtain⟨x,rfl,J⟩:=g;exact⟨x,rfl,sg _ _ J⟩
   |own m=>
    obtain⟨c,L,rfl,M,N,O⟩:=g;refine⟨c,L,rfl,?_,N,aU sg O⟩;rw[aV λz=>?_]
    ·exact M
    ·subst z;exact p<|S.sep j i m l c f h t r
 ·have look:∀j u,slot (put (γ<|.dat<|.list l) i δ) j=γ (.own u)->slot δ j=γ (.own u):=λj u f=>by
   rw[iI]at f;split at f
   ·cases f
   ·exact f
  exact S.sep j k m s c (look _ _ f) (look _ _ B) D E
end
abbrev DX:=ο->Prop
abbrev DE:=DX->bF->(η->Prop)->Prop
abbrev DL:=DX->bF->(ε η->Prop)->Prop
abbrev DT:=DX->bF->(Bool->Prop)->Prop
def lJ(a:Hp)(E:XK)(ex:DX):Prop:=∀C b,Same a b->ex C->E (.ref C) none b
section
variable(K:μ)(H₀:Hp)(E:XK)
def gG(g:TE)(h:DE):Prop:=∀ex a b G H c Q,lJ H₀ E ex->Sees K H₀ G a b H->h ex a c->(∀v d e f,Ext G H e f->DV K e v d->c d->Q v f)->g b H Q
def jL(f:TE)(g:DE):Prop:=∀ex b c G H e Q,lJ H₀ E ex->Sees K H₀ G b c H->g ex b e->(∀v d h a,Ext G H h a->DV K a v d->e d->Q v a)->f c H Q
def Sm(i:TE)(j:DL):Prop:=∀ex c d G H e Q,lJ H₀ E ex->Sees K H₀ G c d H->j ex c e->(∀a f g h b,Ext G H h b->SqL K b a f->DVs K h f g->e g->Q (.ref a) b)->i d H Q
def xV(i:TE)(j:DL):Prop:=∀ex d e G H f Q,lJ H₀ E ex->Sees K H₀ G d e H->j ex d f->(∀a g h b c,Ext G H b c->H a=none->b a=none->c a=γ (.lst g)->DVs K b g h->f h->Q (.ref a) c)->i e H Q
def Ac(f:TT)(g:DT):Prop:=∀ex a c G H d Q,lJ H₀ E ex->Sees K H₀ G a c H->g ex a d->(∀b h e,Ext G H h e->d b->Q b e)->f c H Q
def oY(g:TA)(h:DL):Prop:=∀ex b c G H d Q,lJ H₀ E ex->Sees K H₀ G b c H->h ex b d->(∀e f i a,Ext G H i a->DVs K a e f->d f->Q e a)->g c H Q
def AvE(h:TA)(n:ν)(i:DL):Prop:=∀ex b c G H d Q,lJ H₀ E ex->Sees K H₀ G b c H->i ex b d->(∀e a f g,Ext G H f g->DVs K f e a->a.length=n->d a->Q e g)->h c H Q
end
def Kw(i:ν)(a:DX)(b:bF)(Q:η->Prop):Prop:=match slot b i with
 |some (.dat d)=>Q d
 |_=>Ε
def wM(i:ν)(a:DX)(b:bF)(Q:η->Prop):Prop:=match slot b i with
 |some (.dat d)=>Q d
 |some (.own c)=>Q<|.list c
 |_=>Ε
def wL(i:ν)(b:DX)(c:bF)(Q:ε η->Prop):Prop:=match slot c i with
 |some (.dat<|.list a)=>Q a
 |some (.own a)=>Q a
 |_=>Ε
def dC(d:η)(a:DX)(b:bF)(Q:η->Prop):Prop:=Q d
def dFz(a:DL)(ex:DX)(b:bF)(Q:η->Prop):Prop:=a ex b λc=>Q<|.list c
def wO(a:DE)(ex:DX)(b:bF)(Q:ε η->Prop):Prop:=a ex b λd=>match d with
 | .list c=>Q c
 |_=>Ε
def aUc(a:DE)(ex:DX)(b:bF)(Q:ε η->Prop):Prop:=a ex b λd=>match d with
 | .tuple c=>Q c
 |_=>Ε
def aFf(a:DX)(b:bF)(Q:ε η->Prop):Prop:=Q []
def zW(b:DE)(c:DL)(ex:DX)(a:bF)(Q:ε η->Prop):Prop:=b ex a λd=>c ex a λe=>Q<|d::e
section
variable{K:μ}{H₀:Hp}{E:XK}{te:TE}{de:DE}{dl:DL}{ta:TA}
theorem aE(h:gG K H₀ E te de):jL K H₀ E te de:=λex a b G H c Q f S q k=>
 h ex a b G H c Q f S q λv d g i e j=>k v d g i e<|cU e.s.same j
theorem bU(h:xV K H₀ E te dl):gG K H₀ E te (dFz dl):=λex f g G H t Q i S q k=>
 h ex f g G H _ Q i S q λa d j c l e m n p r s=>by
  have sg:Same c (dP c a<|.lst d):=λb o z=>by rw[aV<|bL z n];exact z
  refine k (.ref a) (.list j) (dP c a<|.lst d) l ⟨e.g.trans sg,e.h,λb=>?_,λb o z=>?_⟩ (.lst (SqL.of aZ)<|aU sg r) s
  ·by_cases w:b=a
   ·subst w;exact .inl (by rw[aZ,p])
   ·rw[aV w];exact e.s b
  ·by_cases w:b=a
   ·subst w;exact .inr m
   ·rw[aV w]at z;exact e.n b o z
theorem mF(h:xV K H₀ E te dl):Sm K H₀ E te dl:=λex b c G H o Q d S q k=>
 h ex b c G H _ Q d S q λa f g i j e p r l m n=>k a f g i j e (SqL.of l) m n
theorem eG(h:DV K G v<|.list b):∃a c,v= .ref a/\SqL K G a c/\DVs K G c b:=by
 cases h with
 |lst d e=>exact⟨_,_,rfl,d,e⟩
theorem mM(h:DV K G v<|.tuple b):∃a c,v= .ref a/\SqT K G a c/\DVs K G c b:=by
 cases h with
 |tup d e=>exact⟨_,_,rfl,d,e⟩
theorem cF(h:DV K G v<|.int i):v= .int i:=by cases h;rfl
theorem mO(h:DV K G v<|.bool i):v= .bl i:=by cases h;rfl
theorem cT(h:DV K G v<|.str i):v= .str i:=by cases h;rfl
theorem Zc(h:DV K G v .none):v= .non:=by cases h;rfl
theorem aHe(h:gG K H₀ E te de):Sm K H₀ E te (wO de):=λex c f G H r Q g S q k=>
 h ex c f G H _ Q g S q λv d i j e l b=>by
  cases d with
  |list m=>
   obtain⟨a,n,rfl,o,p⟩:=eG l;exact k a n m i j e (e.s.same.seq o) p b
  |_=>exact b.elim
theorem aY(i:ν):gG K H₀ E (fL i) (Kw i):=λex e f G H g Q h S q k=>by
 unfold Kw at q;split at q
 ·rename_i d a
  obtain⟨v,b,c⟩:=S.has i _ a;exact⟨v,b,k v d G H S.refl c q⟩
 ·exact q.elim
theorem aI(i:ν):jL K H₀ E (fL i) (wM i):=λex h j G H l Q m S q k=>by
 unfold wM at q;split at q
 ·rename_i d b
  obtain⟨v,c,e⟩:=S.has i _ b;exact⟨v,c,k v d G H S.refl (cU S.sub.same e) q⟩
 ·rename_i n b
  obtain⟨a,o,c,e,f,g⟩:=S.ownAt b;exact⟨_,c,k _ _ G H S.refl (.lst (SqL.of f)<|aU S.sub.same g) q⟩
 ·exact q.elim
theorem aL(i:ν):Sm K H₀ E (fL i) (wL i):=λex j l G H m Q n S q k=>by
 unfold wL at q;split at q
 ·rename_i b c
  obtain⟨v,d,h⟩:=S.has i _ c;obtain⟨a,e,rfl,f,g⟩:=eG h;exact⟨_,d,k a e b G H S.refl (S.sub.same.seq f) g q⟩
 ·rename_i b c
  obtain⟨a,e,d,h,f,g⟩:=S.ownAt c;exact⟨_,d,k a e b G H S.refl (SqL.of f) g q⟩
 ·exact q.elim
theorem nN(h:∀G:Hp,DV K G v d):gG K H₀ E (tC v) (dC d):=λex a b G H c Q e S q k=>k v d G H S.refl (h G) q
theorem aX:gG K H₀ E (tC<|.int i) (dC<|.int i):=nN λ_=>.int i
theorem mK:gG K H₀ E (tC<|.bl i) (dC<|.bool i):=nN λ_=>.bl i
theorem aP:gG K H₀ E (tC<|.str i) (dC<|.str i):=nN λ_=>.str i
theorem Ks:gG K H₀ E (tC .non) (dC .none):=nN λ_=>.non
theorem aB:oY K H₀ E iS aFf:=λex a b G H c Q d S q k=>k [] [] G H S.refl .nil q
theorem Pj(h:jL K H₀ E te de)(t:oY K H₀ E ta dl):oY K H₀ E (dF te ta) (zW de dl):=λex b c G H u Q e S q k=>
 h ex b c G H _ _ e S q λv d i j f l m=>t ex b c i j _ _ e (S.ext f) m λn o p r g a s=>
  k (v::n) (d::o) p r (f.trans g) (.cons (cU g.h l) a) s
theorem aO:AvE K H₀ E iS 0 aFf:=λex a b G H c Q d S q k=>k [] [] G H S.refl .nil rfl q
theorem aH(h:gG K H₀ E te de)(t:AvE K H₀ E ta n dl):AvE K H₀ E (dF te ta) (n+1) (zW de dl):=λex b c G H x Q e S q k=>
 h ex b c G H _ _ e S q λv d i j f l m=>t ex b c i j _ _ e (S.ext f) m λo p r s g a u w=>
  k (v::o) (d::p) r s (f.trans g) (.cons (cU g.g l) a) (by rw[Ρ,u]) w
theorem qJ(s:Sub G H)(a:H p=none):Ext G H (dP G p<|.tup xs) (dP H p<|.tup xs):=by
 have c:G p=none:=s.same.free a;refine⟨λb o z=>by rw[aV<|bL z c];exact z,λb o z=>by rw[aV<|bL z a];exact z,λb=>?_,λb o z=>?_⟩
 ·by_cases w:b=p
  ·subst w;exact .inl (by rw[aZ,aZ])
  ·rw[aV w,aV w];exact s b
 ·by_cases w:b=p
  ·subst w;exact .inr a
  ·rw[aV w]at z;exact .inl z
theorem Ym{G H:Hp}{p:ο}{o:HO}(s:Sub G H)(a:H p=none):Ext G H (dP G p o) (dP H p o):=by
 have c:G p=none:=s.same.free a;refine⟨λb u z=>by rw[aV<|bL z c];exact z,λb u z=>by rw[aV<|bL z a];exact z,λb=>?_,λb u z=>?_⟩
 ·by_cases w:b=p
  ·subst w;exact .inl (by rw[aZ,aZ])
  ·rw[aV w,aV w];exact s b
 ·by_cases w:b=p
  ·subst w;exact .inr a
  ·rw[aV w]at z;exact .inl z
theorem fY(s:Sub G H)(a:H p=none):Ext G H G (dP H p<|.lst xs)/\G p=none:=by
 have c:G p=none:=s.same.free a;refine⟨⟨Same.refl _,λb o z=>by rw[aV<|bL z a];exact z,λb=>?_,λb o z=>.inl z⟩,c⟩;by_cases w:b=p
 ·subst w;exact .inr ⟨c,xs,aZ⟩
 ·rw[aV w];exact s b
def aMe(dl:DL)(ex:DX)(a:bF)(Q:η->Prop):Prop:=dl ex a λb=>Q<|.tuple b
def aMp(dl:DL)(ex:DX)(a:bF)(Q:ε η->Prop):Prop:=dl ex a Q
theorem cQ(h:AvE K H₀ E ta n dl)(d:n<=1000:=by decide):gG K H₀ E (aIy ta) (aMe dl):=λex e f G H r Q g S q k=>
 h ex e f G H _ _ g S q λi j s t a b l m=>⟨bu (bQ (by rw[b.len,l];exact d)),λp o=>by
  have c:=qJ (xs:=i) a.s o
  exact k (.ref p) (.tuple j) _ _ (a.trans c) (.tup (SqT.of aZ) (aU c.g b)) m⟩
theorem bN(h:AvE K H₀ E ta n dl)(e:n<=1000:=by decide):xV K H₀ E (aOr ta) (aMp dl):=λex f g G H s Q i S q k=>
 h ex f g G H _ _ i S q λb j t u a c l m=>⟨bu (bQ (by rw[c.len,l];exact e)),λp d=>by
  obtain⟨o,r⟩:=fY (xs:=b) a.s d
  exact k p b j _ _ (a.trans o) (a.h.free d) r aZ c m⟩
end
section
variable{K:μ}{H₀:Hp}{E:XK}{te ta tb:TE}{da db de:DE}{dl dk:DL}{t:TA}{tt tu:TT}{dt du:DT}
abbrev RD2:=η->η->(η->Prop)->Prop
def Iu(K:μ)(r:R2)(e:RD2):Prop:=∀(G H:Hp)(x y:V)(a b:η)(c:η->Prop)(Q:VK),DV K H x a->DV K H y b->e a b c->(∀v d,DV K G v d->c d->Q v H)->r x y H Q
def dOp(b:RD2)(da db:DE)(ex:DX)(a:bF)(Q:η->Prop):Prop:=da ex a λx=>db ex a λy=>b x y Q
theorem cB(j:Iu K r a)(l:jL K H₀ E ta da)(m:jL K H₀ E tb db):gG K H₀ E (wY r ta tb) (dOp a da db):=λex b c G H n Q e S q k=>
 l ex b c G H _ _ e S q λx o p s f u w=>m ex b c p s _ _ e (S.ext f) w λy z g h i A B=>
  j g h x y o z n Q (cU i.h u) A B λv d C D=>k v d g h (f.trans i) C D
def oI(C:τ->τ->Prop)(f:τ->τ->τ)(x y:η)(Q:η->Prop):Prop:=match x,y with
 | .int i,.int j=>C i j/\Q (.int<|f i j)
 |_,_=>Ε
def oI0(f:τ->τ->τ)(x y:η)(Q:η->Prop):Prop:=match x,y with
 | .int i,.int j=>Q<|.int<|f i j
 |_,_=>Ε
def oB0(f:τ->τ->Bool)(x y:η)(Q:η->Prop):Prop:=match x,y with
 | .int i,.int j=>Q<|.bool<|f i j
 |_,_=>Ε
theorem eZ:Iu K (rI C λi j=>.int<|f i j) (oI C f):=by
 intro G H x y c d e Q a b q k;unfold oI at q;split at q
 ·cases cF a;cases cF b;exact⟨_,_,rfl,rfl,q.1,k _ _ (.int _) q.2⟩
 ·exact q.elim
theorem cG:Iu K (Si λi j=>.int<|f i j) (oI0 f):=by
 intro G H x y c d e Q a b q k;unfold oI0 at q;split at q
 ·cases cF a;cases cF b;exact⟨_,_,rfl,rfl,k _ _ (.int _) q⟩
 ·exact q.elim
theorem eR:Iu K (Si λi j=>.bl<|f i j) (oB0 f):=by
 intro G H x y c d e Q a b q k;unfold oB0 at q;split at q
 ·cases cF a;cases cF b;exact⟨_,_,rfl,rfl,k _ _ (.bl _) q⟩
 ·exact q.elim
def oEq(x y:η)(Q:η->Prop):Prop:=match x,y with
 | .int i,.int j=>Q<|.bool<|decide (i=j)
 | .str i,.str j=>Q<|.bool<|decide (i=j)
 | .bool i,.bool j=>Q<|.bool<|decide (i=j)
 |_,_=>Ε
def oNe(x y:η)(Q:η->Prop):Prop:=match x,y with
 | .int i,.int j=>Q<|.bool<|!decide (i=j)
 | .str i,.str j=>Q<|.bool<|!decide (i=j)
 | .bool i,.bool j=>Q<|.bool<|!decide (i=j)
 |_,_=>Ε
theorem cJ:Iu K rEq oEq:=by
 intro G H x y c d e Q a b q k;unfold oEq at q;split at q
 ·cases cF a;cases cF b;refine⟨rfl,k _ _ (.bl _) ?_⟩;simpa using q
 ·cases cT a;cases cT b;refine⟨rfl,k _ _ (.bl _) ?_⟩;simpa using q
 ·cases mO a;cases mO b;refine⟨rfl,k _ _ (.bl _) ?_⟩;simpa using q
 ·exact q.elim
theorem Mu:Iu K rNe oNe:=by
 intro G H x y c d e Q a b q k;unfold oNe at q;split at q
 ·cases cF a;cases cF b;refine⟨rfl,k _ _ (.bl _) ?_⟩;simpa using q
 ·cases cT a;cases cT b;refine⟨rfl,k _ _ (.bl _) ?_⟩;simpa using q
 ·cases mO a;cases mO b;refine⟨rfl,k _ _ (.bl _) ?_⟩;simpa using q
 ·exact q.elim
def aPw(x y:η)(Q:η->Prop):Prop:=∃(c:Type)(e:Enc c)(a b:c),x=e.d a/\y=e.d b/\∀k:Bool,(k=true↔a=b)->Q (.bool k)
def aPu(x y:η)(Q:η->Prop):Prop:=∃(c:Type)(e:Enc c)(a b:c),x=e.d a/\y=e.d b/\∀k:Bool,(k=true↔a=b)->Q (.bool !k)
theorem qZ:Iu K (Qe K false) aPw:=by
 rintro G H x y i j l Q d f ⟨g,e,a,b,rfl,rfl,q⟩ k;exact⟨g,e,a,b,d,f,λc h=>k _ _ (.bl _)<|q c h⟩
theorem oH:Iu K (Qe K true) aPu:=by
 rintro G H x y i j l Q d f ⟨g,e,a,b,rfl,rfl,q⟩ k;exact⟨g,e,a,b,d,f,λc h=>k _ _ (.bl _)<|q c h⟩
def aPv(a:Bool)(x y:η)(Q:η->Prop):Prop:=match y with
 | .none=>(match x with
  | .none=>Q<|.bool<|!a
  |_=>Q (.bool a))
 |_=>Ε
theorem aMa(h:DV K H x d):(x= .non↔d= .none):=by
 cases h <;>simp
theorem aJq:Iu K (λx y H Q=>y= .non/\Q (.bl<|decide (x= .non)) H) (aPv false):=by
 intro G H x y b c e Q a d q k;cases c with
 |none=>
  refine⟨Zc d,k _ _ (.bl _) ?_⟩;cases b with
  |none=>rw[cj<|Zc a];exact q
  |_=>rw[Τ (λz=>by have:=(aMa a).mp z;cases this)];exact q
 |_=>exact q.elim
def aMn(da:DE)(ex:DX)(a:bF)(Q:η->Prop):Prop:=da ex a λx=>match x with
 | .int i=>Q<|.int<|-i
 |_=>Ε
theorem gZ(b:jL K H₀ E ta da):gG K H₀ E (tUn (rU λi=>.int<|-i) ta) (aMn da):=λex c d G H m Q e S q k=>
 b ex c d G H _ _ e S q λx f g h j l a=>by
  cases f with
  |int i=>
   cases cF l;exact⟨_,rfl,k _ _ g h j (.int _) a⟩
  |_=>exact a.elim
theorem xR(h:gG K H₀ E te de)(c:∀ex a Q,Q (.int v)->de ex a Q):gG K H₀ E te (dC<|.int v):=λex a d G H b Q e S q k=>h ex a d G H b Q e S (c ex a b q) k
def aMo(f:τ->τ)(da:DE)(ex:DX)(a:bF)(Q:η->Prop):Prop:=da ex a λx=>match x with
 | .int i=>Q<|.int<|f i
 |_=>Ε
theorem oR(g:Pn 0 k)(h:jL K H₀ E ta da)(l:gG K H₀ E tb<|dC<|.int k):gG K H₀ E (wY (rI Pn λi j=>.int<|i/j) ta tb) (aMo (λi=>i/k) da):=λex a b G H A Q c S q m=>
 h ex a b G H _ _ c S q λx n o p e r f=>l ex a b o p (λd=>d= .int k) _ c (S.ext e) rfl λy B s u v w z=>by
  subst z;cases cF w;cases n with
  |int i=>cases cF r;exact⟨_,_,rfl,rfl,g,m _ _ s u (e.trans v) (.int _) f⟩
  |_=>exact f.elim
theorem eC(g:0<k)(h:jL K H₀ E ta da)(l:gG K H₀ E tb<|dC<|.int k):gG K H₀ E (wY (rI (λ_ j=>0<j) λi j=>.int<|i%j) ta tb) (aMo (λi=>i%k) da):=λex a b G H A Q c S q m=>
 h ex a b G H _ _ c S q λx n o p e r f=>l ex a b o p (λd=>d= .int k) _ c (S.ext e) rfl λy B s u v w z=>by
  subst z;cases cF w;cases n with
  |int i=>cases cF r;exact⟨_,_,rfl,rfl,g,m _ _ s u (e.trans v) (.int _) f⟩
  |_=>exact f.elim
def aMq(dl:DL)(db:DE)(ex:DX)(a:bF)(Q:η->Prop):Prop:=dl ex a λb=>db ex a λy=>match y with
 | .int i=>∃d,kC b i=γ d/\Q d
 |_=>Ε
theorem tY(h:DVs K G b a)(e:kC a i=γ d):∃v,kC b i=γ v/\DV K G v d:=by
 unfold kC at e⊢;rw[h.len];cases q:Kg a.length i with
 |none=>rw[q]at e;cases e
 |some j=>
  rw[q]at e;exact h.at e
theorem bE(j:Sm K H₀ E ta dl)(l:jL K H₀ E tb db):gG K H₀ E (wY (aCx K) ta tb) (aMq dl db):=λex e f G H D Q g S q k=>
 j ex e f G H _ _ g S q λa m F n o h p r s=>l ex e f n o _ _ g (S.ext h) s λy u w x c A b=>by
  cases u with
  |int i=>
   obtain⟨d,z,b⟩:=b;cases cF A;obtain⟨v,B,C⟩:=tY r z;exact⟨a,m,i,v,rfl,rfl,c.h.seq p,B,k v d w x (h.trans c) (cU c.g C) b⟩
  |_=>exact b.elim
def aTz(da:DE)(db:DE)(ex:DX)(a:bF)(Q:η->Prop):Prop:=da ex a λx=>db ex a λy=>match x,y with
 | .tuple b,.int i=>∃d,kC b i=γ d/\Q d
 |_,_=>Ε
noncomputable def nth:ε η->ν->υ η
 |[],_=>none
 |d::_,0=>γ d
 |_::a,n+1=>nth a n
theorem Br:∀{ds:ε η}{k:ν}{d:η},nth ds k=γ d->ds[k]? =γ d
 |[],_,_,h=>by cases h
 |d::_,0,_,h=>by simpa[nth]using h
 |_::ds,k+1,d,h=>by simpa using Br (ds:=ds) (k:=k) (d:=d) h
def aAa(k:ν)(da:DE)(ex:DX)(a:bF)(Q:η->Prop):Prop:=da ex a λx=>match x with
 | .tuple b=>(match nth b k with
  |some d=>Q d
  |none=>Ε)
 |_=>Ε
theorem oQ(m:ν)(e:gG K H₀ E ta da):gG K H₀ E (wY (Jm K) ta<|tC<|.int (m:τ)) (aAa m da):=λex f g G H w Q h S q k=>
 e ex f g G H _ _ h S q λx i j l c n b=>by
  cases i with
  |tuple y=>
   dsimp only at b;split at b
   ·rename_i d z
    obtain⟨a,o,rfl,p,r⟩:=mM n;obtain⟨v,s,u⟩:=tY r<|dR<|Br z;exact⟨a,o,_,v,rfl,rfl,lN c.s.same p,s,k v _ j l c u b⟩
   ·exact b.elim
  |_=>exact b.elim
abbrev RDc:=ε η->(η->Prop)->Prop
def RCb(K:μ)(r:ε V->Hp->VK->Prop)(e:RDc):Prop:=∀(G H:Hp)(a:ε V)(b:ε η)(c:η->Prop)(Q:VK),DVs K H a b->e b c->(∀v d,DV K G v d->c d->Q v H)->r a H Q
def dCb(a:RDc)(dl:DL)(ex:DX)(b:bF)(Q:η->Prop):Prop:=dl ex b λc=>a c Q
theorem bR(e:RCb K r a)(f:oY K H₀ E t dl):gG K H₀ E (tCB r t) (dCb a dl):=λex g h G H i Q j S q k=>
 f ex g h G H _ _ j S q λl m b c n o p=>e b c l m i Q o p λv d s u=>k v d b c n s u
def aFt(a:ε η)(Q:η->Prop):Prop:=match a with
 |[.int i]=>Q<|.int<|if i<0 then -i else i
 |_=>Ε
def aFq(a:ε η)(Q:η->Prop):Prop:=match a with
 |[.int i,.int j]=>Q<|.int<|if j<i then j else i
 |_=>Ε
def aFr(a:ε η)(Q:η->Prop):Prop:=match a with
 |[.int i,.int j]=>Q<|.int<|if j>i then j else i
 |_=>Ε
def aFs(b:ε η)(Q:η->Prop):Prop:=match b with
 |[.list a]=>Q<|.int a.length
 |[.tuple a]=>Q<|.int a.length
 |_=>Ε
def aFp(b:ε η)(Q:η->Prop):Prop:=match b with
 |[.list c]=>∃a:ε τ,c=a.map bj/\Q (.int a.sum)
 |_=>Ε
def aUd(a:ε η)(Q:η->Prop):Prop:=match a with
 |[.int i]=>Q<|.int i
 |[.bool b]=>Q<|.int<|if b then 1 else 0
 |_=>Ε
theorem xS(h:DVs K H a [d]):∃x,a=[x]/\DV K H x d:=by
 cases h with
 |cons h t=>cases t;exact⟨_,rfl,h⟩
theorem aEz(h:DVs K H a [d,e]):∃x y,a=[x,y]/\DV K H x d/\DV K H y e:=by
 cases h with
 |cons h t=>cases t with
  |cons b t=>cases t;exact⟨_,_,rfl,h,b⟩
theorem uV:RCb K (λa H Q=>∃i,a=[.int i]/\Q (.int<|if i<0 then -i else i) H) aFt:=by
 intro G H a c d Q h q k;unfold aFt at q;split at q
 ·obtain⟨x,rfl,b⟩:=xS h;cases cF b;exact⟨_,rfl,k _ _ (.int _) q⟩
 ·exact q.elim
theorem Vk:RCb K (λa H Q=>∃i j,a=[.int i,.int j]/\Q (.int<|if j<i then j else i) H) aFq:=by
 intro G H a d e Q h q k;unfold aFq at q;split at q
 ·refine q_ λwv=>?_;obtain⟨x,y,rfl,b,c⟩:=aEz h;apply wv;cases cF b;cases cF c;exact⟨_,_,rfl,k _ _ (.int _) q⟩
 ·exact q.elim
theorem Vl:RCb K (λa H Q=>∃i j,a=[.int i,.int j]/\Q (.int<|if j>i then j else i) H) aFr:=by
 intro G H a d e Q h q k;unfold aFr at q;split at q
 ·refine q_ λwv=>?_;obtain⟨x,y,rfl,b,c⟩:=aEz h;apply wv;cases cF b;cases cF c;exact⟨_,_,rfl,k _ _ (.int _) q⟩
 ·exact q.elim
theorem cI:RCb K (λg H Q=>∃p b,g=[.ref p]/\(SqL K H p b\/SqT K H p b)/\Q (.int b.length) H) aFs:=by
 intro G H g i j Q h q k;unfold aFs at q;split at q
 ·refine q_ λwv=>?_;obtain⟨x,rfl,c⟩:=xS h;obtain⟨a,d,rfl,e,f⟩:=eG c;apply wv;exact⟨a,d,rfl,.inl e,k _ _ (.int _) (by rw[f.len];exact q)⟩
 ·refine q_ λwv=>?_;obtain⟨x,rfl,c⟩:=xS h;obtain⟨a,d,rfl,e,f⟩:=mM c;apply wv;exact⟨a,d,rfl,.inr e,k _ _ (.int _) (by rw[f.len];exact q)⟩
 ·exact q.elim
theorem Ie:∀{a:ε τ}{b:ε V},DVs K H b (a.map bj)->b=a.map V.int
 |[],_,.nil=>rfl
 |n::a,_,.cons h t=>by
  cases cF h;rw[Ie t];rfl
theorem aJr:RCb K (λc H Q=>∃(p:ο)(b:ε τ),c=[.ref p]/\SqL K H p (b.map V.int)/\Q (.int b.sum) H) aFp:=by
 intro G H c g i Q h q k;unfold aFp at q;split at q
 ·refine q_ λwv=>?_;obtain⟨x,rfl,d⟩:=xS h;obtain⟨b,rfl,q⟩:=q;obtain⟨a,j,rfl,e,f⟩:=eG d;apply wv;cases Ie f;exact⟨a,b,rfl,e,k _ _ (.int _) q⟩
 ·exact q.elim
def Cq(dl:DL)(ex:DX)(a:bF)(Q:ε η->Prop):Prop:=dl ex a Q
theorem gK(f:Sm K H₀ E te dl):xV K H₀ E (tCB (λxs H Q=>∃p b,xs=[.ref p]/\(SqL K H p b\/SqT K H p b)/\∀l,H l=none->Q (.ref l) (dP H l<|.lst b))<|dF te iS) (Cq dl):=λex g h G H u Q i S q k=>
 f ex g h G H _ _ i S q λa c j v w d m n o=>⟨a,c,rfl,.inl m,λp e=>by
  obtain⟨r,s⟩:=fY (xs:=c) d.s e
  exact k p c j _ _ (d.trans r) (d.h.free e) s aZ n o⟩
noncomputable def Mb:η->String
 | .none=>"NoneType"
 | .bool _=>"bool"
 | .int _=>"int"
 | .str _=>"str"
 | .list _=>"list"
 | .tuple _=>"tuple"
 | .dict _=>"dict"
noncomputable def isD(n:String)(d:η):Bool:=Mb d==n||(n=="int" && Mb d=="bool")
abbrev DO:=DX->bF->(υ τ->Prop)->Prop
def OvP(K:μ)(H₀:Hp)(E:XK)(f:TO)(d:DO):Prop:=∀ex a b G H c Q,lJ H₀ E ex->Sees K H₀ G a b H->d ex a c->(∀o g e,Ext G H g e->c o->Q o e)->f b H Q
def aMm(a:DX)(b:bF)(Q:υ τ->Prop):Prop:=Q none
def Zw(de:DE)(ex:DX)(a:bF)(Q:υ τ->Prop):Prop:=de ex a λx=>match x with
 | .int i=>Q<|some i
 |_=>Ε
theorem gQ:OvP K H₀ E Mg aMm:=λex a b G H c Q d S q k=>k none G H S.refl q
theorem cH(h:jL K H₀ E te de):OvP K H₀ E (aGn te) (Zw de):=λex b c G H m Q d S q k=>
 h ex b c G H _ _ d S q λx e f g j l a=>by
  cases e with
  |int i=>
   cases cF l;exact⟨_,rfl,k _ f g j a⟩
  |_=>exact a.elim
noncomputable def eM{b:Type}(a:ε b)(c d:υ τ):ε b:=(a.drop<|HT.sIx a.length 0 c).take<|HT.sIx a.length a.length d-HT.sIx a.length 0 c
theorem jI(f:a->e)(b:ε a)(c d:υ τ):eM (b.map f) c d=(eM b c d).map f:=by
 unfold eM;rw[θ,qm,y8]
theorem qO(a:ε b)(k:ν):eM a none (γ (k:τ))=a.take k:=by
 unfold eM;rw[HT.sIx_none,mf,vy,HT.sIx_nat,List.take_eq_take_iff.mpr];exact 50
theorem iW(a:ε b)(k:ν):eM a (γ (k:τ)) none=a.drop k:=by
 unfold eM;rw[HT.sIx_none,HT.sIx_nat];by_cases h:k<=a.length
 ·rw[iw h,bg (by rw[bx];exact 48)]
 ·have e:min k a.length=a.length:=by lia
  rw[e,xm,List.take_nil,ph<|by lia]
def dSl(dl:DL)(b d2:DO)(ex:DX)(a:bF)(Q:ε η->Prop):Prop:=dl ex a λc=>b ex a λd=>d2 ex a λe=>Q<|eM c d e
theorem aEy{c d:υ τ}(h:DVs K G a b):DVs K G (Lc a c d) (eM b c d):=by
 unfold Lc eM;rw[h.len];exact(h.drop _).take _
theorem gP{l d2:DO}(r:Sm K H₀ E te dl)(s:OvP K H₀ E i l)(u:OvP K H₀ E j d2):xV K H₀ E (tSl (aJs K) te i j) (dSl dl l d2):=λex d e G H M Q f S q k=>
 r ex d e G H _ _ f S q λa m N v w h x y z=>s ex d e v w _ _ f (S.ext h) z λA B C b D=>u ex d e B C _ _ f (S.ext<|h.trans b) D λF O P c I=>
  ⟨a,m,rfl,(b.trans c).h.seq x,λp n=>by
   obtain⟨J,L⟩:=fY (xs:=Lc m A F) c.s n
   have o:=h.trans<|b.trans c
   exact k p _ _ _ _ (o.trans J) (o.h.free n) L aZ (aU (b.trans c).g (aEy y)) I⟩
def aAo(de:DE)(ex:DX)(a:bF)(Q:Bool->Prop):Prop:=de ex a λx=>match x with
 | .bool b=>Q b
 |_=>Ε
theorem lM(h:jL K H₀ E te de):Ac K H₀ E (tB te) (aAo de):=λex b c G H m Q d S q k=>
 h ex b c G H _ _ d S q λx e f g j l a=>by
  cases e with
  |bool i=>
   cases mO l;exact⟨_,rfl,k _ f g j a⟩
  |_=>exact a.elim
theorem Me(h:jL K H₀ E te de):Ac K H₀ E (Mf te) (aAo de):=λex b c G H m Q d S q k=>
 h ex b c G H _ _ d S q λx e f g j l a=>by
  cases e with
  |bool i=>
   cases mO l;exact⟨_,rfl,k _ f g j a⟩
  |_=>exact a.elim
def aMz(dt du:DT)(ex:DX)(a:bF)(Q:Bool->Prop):Prop:=dt ex a λb=>if b=true then du ex a Q else Q false
def dOr(dt du:DT)(ex:DX)(a:bF)(Q:Bool->Prop):Prop:=dt ex a λb=>if b=true then Q true else du ex a Q
def aMk(dt:DT)(ex:DX)(a:bF)(Q:Bool->Prop):Prop:=dt ex a λb=>Q<|!b
theorem Ja(j:Ac K H₀ E tt dt)(l:Ac K H₀ E tu du):Ac K H₀ E (aJc tt tu) (aMz dt du):=λex d e G H r Q f S q k=>
 j ex d e G H _ _ f S q λb g h a i=>by
  cases b with
  |true=>exact l ex d e g h _ _ f (S.ext a) i λc m n o p=>k c m n (a.trans o) p
  |false=>exact k false g h a i
theorem pG(j:Ac K H₀ E tt dt)(l:Ac K H₀ E tu du):Ac K H₀ E (tOr tt tu) (dOr dt du):=λex d e G H r Q f S q k=>
 j ex d e G H _ _ f S q λb g h a i=>by
  cases b with
  |false=>exact l ex d e g h _ _ f (S.ext a) i λc m n o p=>k c m n (a.trans o) p
  |true=>exact k true g h a i
theorem oA(a:Ac K H₀ E tt dt):Ac K H₀ E (aIz tt) (aMk dt):=λex c d G H j Q e S q k=>
 a ex c d G H _ _ e S q λb f g h i=>k _ f g h i
def aAq(da db:DE)(ex:DX)(a:bF)(Q:η->Prop):Prop:=da ex a λx=>match x with
 | .bool b=>if b=true then db ex a Q else Q (.bool false)
 |_=>Ε
def aTx(da db:DE)(ex:DX)(a:bF)(Q:η->Prop):Prop:=da ex a λx=>match x with
 | .bool b=>if b=true then Q (.bool true)else db ex a Q
 |_=>Ε
def aIa(da:DE)(ex:DX)(a:bF)(Q:η->Prop):Prop:=da ex a λx=>match x with
 | .bool b=>Q<|.bool<|!b
 |_=>Ε
theorem Kt(j:jL K H₀ E ta da)(l:gG K H₀ E tb db):gG K H₀ E (aGs ta tb) (aAq da db):=λex c e G H w Q f S q k=>
 j ex c e G H _ _ f S q λx m g h a n b=>by
  cases m with
  |bool i=>
   cases mO n;refine⟨_,rfl,?_⟩;cases i with
   |true=>exact l ex c e g h _ _ f (S.ext a) b λv d o p r s u=>k v d o p (a.trans r) s u
   |false=>exact k _ _ g h a (.bl _) b
  |_=>exact b.elim
theorem aLy(b:jL K H₀ E ta da):gG K H₀ E (aGo ta) (aIa da):=λex c d G H m Q e S q k=>
 b ex c d G H _ _ e S q λx f g h j l a=>by
  cases f with
  |bool i=>
   cases mO l;exact⟨_,rfl,k _ _ g h j (.bl _) a⟩
  |_=>exact a.elim
def aMu(dt:DT)(da db:DE)(ex:DX)(a:bF)(Q:η->Prop):Prop:=dt ex a λb=>if b=true then da ex a Q else db ex a Q
theorem Ys(p:Ac K H₀ E tt dt)(r:gG K H₀ E ta da)(s:gG K H₀ E tb db):gG K H₀ E (tIf tt ta tb) (aMu dt da db):=λex c e G H u Q f S q k=>
 p ex c e G H _ _ f S q λb m n a o=>by
  cases b with
  |true=>exact r ex c e m n _ _ f (S.ext a) o λv d g h i j l=>k v d g h (a.trans i) j l
  |false=>exact s ex c e m n _ _ f (S.ext a) o λv d g h i j l=>k v d g h (a.trans i) j l
abbrev DW:=ε η->(Sl->Prop)->DX->Prop
noncomputable def rm(H:Hp)(a:ο):Hp:=λb=>if b=a then none else H b
def qT(K:μ)(H e:Hp)(v:V):Sl->Prop
 | .dat d=>DV K e v d
 | .own i=>∃a f,v= .ref a/\H a=none/\e a=γ (.lst f)/\DVs K (rm e a) f i
 | .exc _=>Ε
 | .mon _=>Ε
 | .fz g d=>(∀c∈g,H c=none)/\3<=g.length/\FzIs K e v g d
 | .two j k=>∃t a b f h,v= .ref t/\SqT K e t [.ref a,.ref b]/\a≠b/\H a=none/\H b=none/\e a=γ (.lst f)/\e b=γ (.lst h)/\DVs K (rm (rm e a) b) f j/\DVs K (rm (rm e a) b) h k
def oV(K:μ)(w:DW):Sp:=λe H Q E=>∃b c d,DVs K H e b/\w b c d/\(∀v s a,Same H a->qT K H a v s->c s->Q v a)/\(∀C a,Same H a->d C->E (.ref C) none a)
noncomputable def Hg(G H a:Hp):Hp:=λb=>match H b with
 |none=>a b
 |some _=>G b
theorem mI(s:Sub G H)(h:Same H a):Ext G H (Hg G H a) a:=by
 refine⟨λb o z=>?_,h,λb=>?_,λb o z=>?_⟩
 ·unfold Hg;rw[s.same b o z];exact z
 ·unfold Hg;cases q:H b with
  |none=>exact .inl rfl
  |some o=>
   dsimp only;rw[h b o q];have:=s b;rw[q]at this;exact this
 ·unfold Hg at z;cases q:H b with
  |none=>exact .inr rfl
  |some u=>rw[q]at z;exact .inl z
theorem rL(s:Sub G H)(h:Same H a):∀b o,a b=γ o->(∀c,o≠ .lst c)->Hg G H a b=γ o:=λb o e n=>by
 unfold Hg;cases q:H b with
 |none=>exact e
 |some u=>
  dsimp only;have:=h b u q;rw[e]at this;cases this;exact s.other q n
def wF:(η->Prop)->Sl->Prop
 |Q,.dat d=>mH d=true/\Q d
 |Q,.own a=>cZ a=true/\Q (.list a)
 |_,.exc _=>Ε
 |_,.mon _=>Ε
 |_,.fz _ _=>Ε
 |_,.two _ _=>Ε
def Qm:(ε η->Prop)->Sl->Prop
 |_,.dat _=>Ε
 |Q,.own a=>cZ a=true/\Q a
 |_,.exc _=>Ε
 |_,.mon _=>Ε
 |_,.fz _ _=>Ε
 |_,.two _ _=>Ε
def jJ:(η->Prop)->Sl->Prop
 |Q,.dat d=>Q d
 |Q,.own a=>Q<|.list a
 |_,.exc _=>Ε
 |_,.mon _=>Ε
 |Q,.fz _ d=>Q d
 |Q,.two b c=>Q<|.tuple [.list b,.list c]
def Pq:(ε η->ε η->Prop)->Sl->Prop
 |_,.dat _=>Ε
 |_,.own _=>Ε
 |_,.exc _=>Ε
 |_,.mon _=>Ε
 |_,.fz _ _=>Ε
 |Q,.two a b=>cZ a=true/\cZ b=true/\Q a b
def aAi(w:DW)(dl:DL)(ex:DX)(a:bF)(Q:η->Prop):Prop:=dl ex a λb=>w b (wF Q) ex
def La(w:DW)(dl:DL)(ex:DX)(a:bF)(Q:η->Prop):Prop:=dl ex a λb=>w b (wF Q) λ_=>Ε
def Kz(w:DW)(dl:DL)(ex:DX)(a:bF)(Q:ε η->Prop):Prop:=dl ex a λb=>w b (Qm Q) ex
def Cs(w:DW)(dl:DL)(ex:DX)(a:bF)(Q:ε η->Prop):Prop:=dl ex a λb=>w b (Qm Q) λ_=>Ε
def aMx(w:DW)(dl:DL)(ex:DX)(a:bF)(Q:η->Prop):Prop:=dl ex a λb=>w b (jJ Q) ex
def Ct(w:DW)(dl:DL)(ex:DX)(a:bF)(Q:η->Prop):Prop:=dl ex a λb=>w b (jJ Q) λ_=>Ε
theorem jW:lJ H₀ E λ_=>Ε:=λ_ _ _ z=>z.elim
theorem uU(e:Sub G H)(h:Same H c)(r:qT K H c v s)(q:wF Q s):∃d g,Ext G H g c/\DV K g v d/\Q d:=by
 cases s with
 |exc C=>exact r.elim
 |mon n=>exact r.elim
 |fz _ _=>exact q.elim
 |two p u=>exact q.elim
 |dat d=>exact⟨d,_,mI e h,Ov (rL e h) r q.1,q.2⟩
 |own i=>
  obtain⟨a,j,rfl,k,l,m⟩:=r
  have f:DVs K c j i:=aU (λb o z=>by
   unfold rm at z
   split at z
   ·cases z
   ·exact z) m
  refine⟨.list i,_,mI e h,.lst (SqL.of ?_)<|mL (rL e h) f q.1,q.2⟩;unfold Hg;rw[k];exact l
theorem Mv(i:Sub G H)(h:Same H c)(r:qT K H c v s)(q:Qm Q s):
  ∃a f g j,v= .ref a/\Ext G H j c/\H a=none/\j a=none/\c a=γ (.lst f)/\DVs K j f g/\Q g:=by
 cases s with
 |exc C=>exact r.elim
 |mon w=>exact r.elim
 |fz _ _=>exact q.elim
 |two x y=>exact q.elim
 |dat d=>exact q.elim
 |own g=>
  refine q_ λwv=>?_;obtain⟨a,f,rfl,k,l,m⟩:=r;apply wv;have e:=mI i h;have p:G a=none:=i.same.free k;refine⟨a,f,g,rm (Hg G H c) a,rfl,⟨λb o z=>?_,h,λb=>?_,λb o z=>?_⟩,k,by unfold rm;rw[Α rfl],l,mL (λb o z n=>?_) m q.1,q.2⟩
  ·unfold rm;rw[χ<|bL z p];exact e.g b o z
  ·unfold rm;split
   ·rename_i z;subst z
    exact .inr ⟨rfl,f,l⟩
   ·exact e.s b
  ·unfold rm at z;split at z
   ·cases z
   ·exact e.n b o z
  ·unfold rm at z⊢;split at z
   ·cases z
   ·rename_i u
    rw[χ u];exact rL i h b o z n
theorem Vi:Same (rm (rm H a) b) H:=λc o z=>by
 unfold rm at z;split at z
 ·cases z
 ·split at z
  ·cases z
  ·exact z
theorem fC(r:qT K H c v s)(q:jJ Q s):∃d,DV K c v d/\Q d:=by
 cases s with
 |exc C=>exact r.elim
 |mon u=>exact r.elim
 |fz w d=>exact⟨d,r.2.2.dv,q⟩
 |two h i=>
  refine q_ λwv=>?_;obtain⟨t,a,b,j,x,rfl,k,l,y,A,e,m,f,n⟩:=r;apply wv;have g:Same (rm (rm c a) b) c:=Vi;exact⟨.tuple [.list h,.list i],.tup k<|.cons (.lst (SqL.of e)<|aU g f)<|.cons (.lst (SqL.of m)<|aU g n) .nil,q⟩
 |dat d=>exact⟨d,r,q⟩
 |own p=>
  obtain⟨a,j,rfl,B,e,f⟩:=r
  exact⟨.list p,.lst (SqL.of e) (aU (λb o z=>by
   unfold rm at z
   split at z
   ·cases z
   ·exact z) f),q⟩
section
variable{w:DW}
theorem mQ(m:oY K H₀ E t dl)(n:lJ H₀ E ex)(o:∀a,a=ex\/a=(λ_=>Ε)->lJ H₀ d a\/yk)(S:Sees K H₀ G e f H)(a:DX)(p:lJ H₀ d a)
  (q:dl ex e λh=>w h g a) (k:∀v s i c b,Ext G H i c->Same c b->qT K c b v s->g s->Q v b):iG (oV K w) [] d t f H Q:=
 m ex e f G H _ _ n S q λA h i c l u x=>by
  refine⟨h,g,a,by rw[eT];exact u,x,λv s b j r y=>k v s i c b l j r y,λC b j z=>p C b ((S.ext l).oldH.trans j) z⟩
theorem fH(c:oY K H₀ E t dl):gG K H₀ E (iG (oV K w) [] E t) (aAi w dl):=λex m n G H o Q a S q k=>
 mQ c a (λ_ _=>.inr trivial) S ex a q λv s p u e b f r g=>by
  obtain⟨d,h,i,j,l⟩:=uU b.s f r g;exact k v d h e (b.trans i) j l
theorem aC(b:oY K H₀ E t dl):gG K H₀ E (iG (oV K w) [] E0 t) (La w dl):=λex m n G H o Q c S q k=>
 mQ b c (λ_ _=>.inr trivial) S (λ_=>Ε) jW q λv s p u e a f r g=>by
  obtain⟨d,h,i,j,l⟩:=uU a.s f r g;exact k v d h e (a.trans i) j l
theorem aDl(d:oY K H₀ E t dl):xV K H₀ E (iG (oV K w) [] E t) (Kz w dl):=λex x y G H z Q c S q k=>
 mQ d c (λ_ _=>.inr trivial) S ex c q λv s A B e b f r g=>by
  obtain⟨a,h,i,j,rfl,l,m,n,o,p,u⟩:=Mv b.s f r g;exact k a h i j e (b.trans l) (b.h.free m) n o p u
theorem bB(c:oY K H₀ E t dl):xV K H₀ E (iG (oV K w) [] E0 t) (Cs w dl):=λex x y G H z Q d S q k=>
 mQ c d (λ_ _=>.inr trivial) S (λ_=>Ε) jW q λv s A B e b f r g=>by
  obtain⟨a,h,i,j,rfl,l,m,n,o,p,u⟩:=Mv b.s f r g;exact k a h i j e (b.trans l) (b.h.free m) n o p u
theorem aAy(b:oY K H₀ E t dl):jL K H₀ E (iG (oV K w) [] E0 t) (Ct w dl):=λex j l G H m Q c S q k=>
 mQ b c (λ_ _=>.inr trivial) S (λ_=>Ε) jW q λv s n o e a f r g=>by
  obtain⟨d,h,i⟩:=fC r g;exact k v d _ e (a.trans<|mI a.s f) h i
end
end
structure DEnds where
 nx:bF->Prop
 rt:Sl->Prop
 ex:DX
 bk:bF->Prop:=λ_=>Ε
 ct:bF->Prop:=λ_=>Ε
abbrev DS:=DEnds->bF->Prop
structure Lk(K:μ)(H₀ G:Hp)(e:DEnds)(D:Ends):Prop where
 nx:∀δ σ G' H,Same G G'->Sees K H₀ G' δ σ H->e.nx δ->D.nx σ H
 rt:∀v s H,Same H₀ H->qT K H₀ H v s->e.rt s->D.rt v H
 bk:∀δ σ G' H,Same G G'->Sees K H₀ G' δ σ H->e.bk δ->D.bk σ H
 ct:∀δ σ G' H,Same G G'->Sees K H₀ G' δ σ H->e.ct δ->D.ct σ H
theorem Lk.mono{K:μ}(L:Lk K a G e D)(s:Same G f):Lk K a f e D:=
 ⟨λb c d H t=>L.nx b c d H<|s.trans t,L.rt,λb c d H t=>L.bk b c d H<|s.trans t,λb c d H t=>L.ct b c d H<|s.trans t⟩
def iB(K:μ)(a:Hp)(E:XK)(d:TS)(f:DS):Prop:=∀b c G H e D,lJ a E e.ex->Sees K a G b c H->f e b->Lk K a G e D->d D c H
abbrev DG:=η->bF->(bF->Prop)->Prop
abbrev DGs:=ε η->bF->(bF->Prop)->Prop
def Kp(c:ε ν)(b a:L2.St):Prop:=a.length=b.length/\∀j,j∉c->a[j]? =b[j]?
def Ll(K:μ)(a:Hp)(g:TG)(i:ε ν)(j:DG):Prop:=∀v d f e G H h Q,Sees K a G f e H->DV K G v d->j d f h->(∀c b,Sees K a G c b H->Kp i e b->h c->Q b H)->g v e H Q
def aGc(K:μ)(a:Hp)(g:TGs)(j:ε ν)(k:DGs):Prop:=∀e f h d G H i Q,Sees K a G h d H->DVs K G e f->k f h i->(∀c b,Sees K a G c b H->Kp j d b->i c->Q b H)->g e d H Q
section
variable{K:μ}{H₀:Hp}{E:XK}{te ta tb:TE}{da db de:DE}{dl dk:DL}{t:TA}{tt tu:TT}{dt du:DT}{ts tz:TS}{ds dz:DS}{g:TG}{dg:DG}{gs:TGs}{dgs:DGs}{ns ms:ε ν}
def Zx(e:DEnds)(a:bF):Prop:=e.nx a
def Zq(a d2:DS)(e:DEnds)(b:bF):Prop:=a {e with nx:=d2 e} b
def aMv(b d2:DS)(e:DEnds)(c:bF):Prop:=∃I:bF->Prop,b {e with nx:=I} c/\∀a,I a->d2 e a
theorem aQ:iB K H₀ E Mh Zx:=λa b G H e D c S q L=>L.nx a b G H (Same.refl _) S q
theorem aG(d:iB K H₀ E ts ds)(f:iB K H₀ E tz dz):iB K H₀ E (sV ts tz) (Zq ds dz):=λh i G H e D c S q L=>
 d h i G H {e with nx:=dz e} {D with nx:=tz D} c S q ⟨λa b j k s l m=>f a b j k e D c l m<|L.mono s,L.rt,L.bk,L.ct⟩
theorem oB(d:iB K H₀ E ts ds)(f:iB K H₀ E tz dz):iB K H₀ E (sV ts tz) (aMv ds dz):=λh i G H e D c S ⟨I,q,j⟩ L=>
 d h i G H {e with nx:=I} {D with nx:=tz D} c S q ⟨λa b k l s m n=>f a b k l e D c m (j a n)<|L.mono s,L.rt,L.bk,L.ct⟩
def aMh(de:DE)(e:DEnds)(a:bF):Prop:=de e.ex a λd=>e.rt<|.dat d
def Zt(dl:DL)(e:DEnds)(a:bF):Prop:=dl e.ex a λds=>e.rt<|.own ds
def Ij(i:ν)(e:DEnds)(a:bF):Prop:=match slot a i with
 |some (.dat d)=>e.rt<|.dat d
 |some (.own ds)=>e.rt<|.own ds
 |_=>Ε
def aRk(e:DEnds)(a:bF):Prop:=e.rt<|.dat .none
theorem uT{ds:ε η}(d:H₀ a=none)(e:G a=none)(s:Sub G H)(f:H a=γ (.lst c))(h:DVs K G c ds):qT K H₀ H (.ref a) (.own ds):=
 ⟨a,c,rfl,d,f,aU (λb o z=>by
  unfold rm
  rw[χ<|bL z e]
  exact s.same b o z) h⟩
theorem aW(h:jL K H₀ E te de):iB K H₀ E (Je te) (aMh de):=λa b G H e D c S q L=>
 h e.ex a b G H _ _ c S q λv d k f x i j=>L.rt v (.dat d) f (S.ext x).oldH i j
theorem dN(h:xV K H₀ E te dl):iB K H₀ E (Je te) (Zt dl):=λb c G H e D d S q L=>
 h e.ex b c G H _ _ d S q λa n ds o f x i j k l m=>L.rt (.ref a) (.own ds) f (S.ext x).oldH (uT (S.oldH.free i) j x.s k l) m
theorem dM(i:ν):iB K H₀ E (Je<|fL i) (Ij i):=λl m G H e D n S q L=>by
 unfold Ij at q;split at q
 ·rename_i d b
  obtain⟨v,c,f⟩:=S.has i _ b;exact⟨v,c,L.rt v (.dat d) H S.oldH (cU S.sub.same f) q⟩
 ·rename_i ds b
  obtain⟨v,c,f⟩:=S.has i _ b;obtain⟨a,o,rfl,h,j,k⟩:=f;exact⟨_,c,L.rt _ (.own ds) H S.oldH (uT (S.old.free h) h S.sub j k) q⟩
 ·exact q.elim
def aAg(de:DE)(e:DEnds)(a:bF):Prop:=de e.ex a λ_=>e.nx a
theorem iT(h:jL K H₀ E te de):iB K H₀ E (yJ te) (aAg de):=λa b G H e D c S q L=>
 h e.ex a b G H _ _ c S q λv d f i x k j=>L.nx a b f i x.g (S.ext x) j
def aMt(dt:DT)(c d2:DS)(e:DEnds)(a:bF):Prop:=dt e.ex a λb=>if b=true then c e a else d2 e a
theorem bD(h:Ac K H₀ E tt dt)(k:iB K H₀ E ts ds)(l:iB K H₀ E tz dz):iB K H₀ E (aCe tt ts tz) (aMt dt ds dz):=λa c G H e D d S q L=>
 h e.ex a c G H _ _ d S q λb f i x j=>by
  cases b with
  |true=>exact k a c f i e D d (S.ext x) j<|L.mono x.g
  |false=>exact l a c f i e D d (S.ext x) j<|L.mono x.g
def wD(i:ν)(d:η)(a:bF)(Q:bF->Prop):Prop:=Q<|put (γ<|.dat d) i a
def Oi(ds:ε η)(a:bF)(Q:bF->Prop):Prop:=match ds with
 |[]=>Q a
 |_=>Ε
def Cd(dg:DG)(dgs:DGs)(ds:ε η)(b:bF)(Q:bF->Prop):Prop:=match ds with
 |d::r=>dg d b λa=>dgs r a Q
 |[]=>Ε
def Oh(n:ν)(dgs:DGs)(d:η)(a:bF)(Q:bF->Prop):Prop:=match d with
 | .tuple ds=>ds.length=n/\dgs ds a Q
 |_=>Ε
theorem aJ(i:ν):Ll K H₀ (jV i) [i] (wD i):=λv d c e G H f Q S a q k=>
 k _ _ (S.setD i a) ⟨ib,λj b=>by rw[dV λz=>b<|by simp[z]]⟩ q
theorem dY:aGc K H₀ aQq [] Oi:=λd ds a b G H e Q S c q k=>by
 unfold Oi at q;split at q
 ·cases c;exact⟨rfl,k a b S ⟨rfl,λ_ _=>rfl⟩ q⟩
 ·exact q.elim
theorem bH(l:Ll K H₀ g ns dg)(m:aGc K H₀ gs ms dgs):aGc K H₀ (aHo g gs) (ns++ms) (Cd dg dgs):=λw ds n o G H x Q S a q k=>by
 unfold Cd at q;split at q
 ·cases a with
  |cons a p=>
   refine⟨_,_,rfl,l _ _ n o G H _ _ S a q λb c r f s=>m _ _ b c G H _ _ r p s λd e u h v=>k d e u ⟨h.1.trans f.1,λj i=>?_⟩ v⟩;rw[h.2 j λz=>i<|cu _ z,f.2 j λz=>i<|je _ z]
 ·exact q.elim
theorem dW(h:aGc K H₀ gs ns dgs):Ll K H₀ (aLu K n gs) ns (Oh n dgs):=λv d c e G H l Q S f q k=>by
 unfold Oh at q;split at q
 ·obtain⟨a,i,rfl,j,b⟩:=mM f;exact⟨a,i,rfl,lN S.sub.same j,by rw[b.len];exact q.1,h _ _ c e G H _ _ S b q.2 k⟩
 ·exact q.elim
def aFh(de:DE)(dg:DG)(e:DEnds)(a:bF):Prop:=de e.ex a λd=>dg d a e.nx
theorem eY(h:gG K H₀ E te de)(k:Ll K H₀ g ns dg):iB K H₀ E (kW te g) (aFh de dg):=λc f G H e D l S q L=>
 h e.ex c f G H _ _ l S q λv d i j x m n=>k v d c f i j _ _ (S.ext x) m n λa b o _ p=>L.nx a b i j x.g o p
def Zp(dl:DL)(i:ν)(e:DEnds)(a:bF):Prop:=dl e.ex a λds=>e.nx<|put (γ<|.own ds) i a
theorem aR(i:ν)(h:xV K H₀ E te dl):iB K H₀ E (kW te<|jV i) (Zp dl i):=λb c G H e D d S q L=>
 h e.ex b c G H _ _ d S q λa p ds f j x k l m n o=>L.nx _ _ f j x.g (S.setO x i k l m n) o
noncomputable def gM:bF->Bool
 |[]=>true
 |some (.own _)::_=>false
 |_::r=>gM r
theorem fN:∀{δ:bF}{i:ν}{ds:ε η},gM δ=true->slot δ i≠γ (.own ds)
 |[],_,_,_,h=>by cases h
 |some (.own _)::_,_,_,h,_=>by cases h
 |some (.dat _)::_,0,_,_,h=>by cases h
 |some (.exc _)::_,0,_,_,h=>by cases h
 |some (.fz _ _)::_,0,_,_,h=>by cases h
 |some (.fz _ _)::r,i+1,ds,h,e=>fN (δ:=r) (i:=i) (ds:=ds) h e
 |some (.mon _)::_,0,_,_,h=>by cases h
 |some (.mon _)::r,i+1,ds,h,e=>fN (δ:=r) (i:=i) (ds:=ds) h e
 |some (.two _ _)::_,0,_,_,h=>by cases h
 |some (.two _ _)::r,i+1,ds,h,e=>fN (δ:=r) (i:=i) (ds:=ds) h e
 |none::_,0,_,_,h=>by cases h
 |some (.exc _)::r,i+1,ds,h,e=>fN (δ:=r) (i:=i) (ds:=ds) h e
 |some (.dat _)::r,i+1,ds,h,e=>fN (δ:=r) (i:=i) (ds:=ds) h e
 |none::r,i+1,ds,h,e=>fN (δ:=r) (i:=i) (ds:=ds) h e
theorem Sees.all2(S:Sees K H₀ G l m H)(h:gM l=true)(b:Same H k):Sees K H₀ k l m k:=
 ⟨S.oldH.trans b,.refl _,S.len,λi s e=>by
  obtain⟨v,f,c⟩:=S.has i s e
  cases s with
  |dat d=>exact⟨v,f,cU (S.sub.same.trans b) c⟩
  |two n o=>exact c.elim
  |fz u d=>exact⟨v,f,FzIs.same (S.sub.same.trans b) c⟩
  |mon w=>exact⟨v,f,λp q=>c p<|(S.sub.same.trans b).trans q⟩
  |exc C=>
   obtain⟨x,rfl,r⟩:=c
   exact⟨_,f,x,rfl,b _ _<|S.sub.same _ _ r⟩
  |own ds=>exact ς e (fN h),λi j n o a e=>ς e (fN h)⟩
def aAk(w:DW)(dl:DL)(dg:DG)(e:DEnds)(a:bF):Prop:=dl e.ex a λds=>gM a=true/\w ds (jJ λd=>dg d a e.nx) e.ex
def Lb(w:DW)(dl:DL)(dg:DG)(e:DEnds)(a:bF):Prop:=dl e.ex a λds=>gM a=true/\w ds (jJ λd=>dg d a e.nx) λ_=>Ε
theorem aCg(l:oY K H₀ E t dl)(m:Ll K H₀ g ns dg):iB K H₀ E (kW (iG (oV K w) [] E t) g) (aAk w dl dg):=λi j G H e D k S q L=>
 l e.ex i j G H _ _ k S q λI ds J M b n ⟨o,p⟩=>by
  refine⟨ds,_,e.ex,by rw[eT];exact n,p,λv s a c r u=>?_,λC a c x=>k C a ((S.ext b).oldH.trans c) x⟩;obtain⟨d,y,A⟩:=fC r u;exact m v d i j a a _ _ ((S.ext b).all2 o c) y A λf h B _ F=>L.nx f h a a ((S.ext b).sub.same.trans c|>λz=>b.g.trans z) B F
theorem iH(k:oY K H₀ E t dl)(l:Ll K H₀ g ns dg):iB K H₀ E (kW (iG (oV K w) [] E0 t) g) (Lb w dl dg):=λi j G H e D m S q L=>
 k e.ex i j G H _ _ m S q λI ds J M b n ⟨o,p⟩=>by
  refine⟨ds,_,λ_=>Ε,by rw[eT];exact n,p,λv s a c r u=>?_,λC a c x=>x.elim⟩;obtain⟨d,y,A⟩:=fC r u;exact l v d i j a a _ _ ((S.ext b).all2 o c) y A λf h B _ F=>L.nx f h a a ((S.ext b).sub.same.trans c|>λz=>b.g.trans z) B F
noncomputable def sR(i:ν)(a:bF):bF:=match slot a i with
 |some (.own ds)=>put (γ<|.dat<|.list ds) i a
 |_=>a
def Rw(i:ν)(d:DS)(e:DEnds)(a:bF):Prop:=d e<|sR i a
theorem gU(i:ν)(h:iB K H₀ E ts ds):iB K H₀ E ts (Rw i ds):=λc a G H e D b S q L=>by
 unfold Rw sR at q;split at q
 ·rename_i k d
  obtain⟨f,s,j⟩:=S.frz d;exact h _ a f H e D b j q<|L.mono s
 ·exact h c a G H e D b S q L
def aMj(i j:ν)(dl:DL)(e:DEnds)(a:bF):Prop:=dl e.ex a λds=>match ds with
 |[b,d2]=>e.nx<|put (γ<|.dat d2) j<|put (γ<|.dat b) i a
 |_=>Ε
theorem aJd(i j:ν)(h:AvE K H₀ E t n dl):iB K H₀ E (aOp i j t) (aMj i j dl):=λb c G H e D d S q L=>
 h e.ex b c G H _ _ d S q λp ds f k x l _ a=>by
  split at a
  ·obtain⟨v,w,rfl,m,o⟩:=aEz l;exact⟨v,w,rfl,L.nx _ _ f k x.g (((S.ext x).setD i m).setD j o) a⟩
  ·exact a.elim
def Kx(C:ο)(dl:DL)(e:DEnds)(a:bF):Prop:=dl e.ex a λ_=>e.ex C
theorem cL(h:AvE K H₀ E t n dl)(b:n<=1000:=by decide):iB K H₀ E (Uc E C t) (Kx C dl):=λc d G H e D a S q L=>
 h e.ex c d G H _ _ a S q λl ds m f x i j k=>⟨bu<|bQ (by rw[i.len,j];exact b),a C f (S.ext x).oldH k⟩
def aAp(i:ν)(de:DE)(e:DEnds)(a:bF):Prop:=match slot a i with
 |some (.own ds)=>de e.ex a λd=>ds.length<1000/\e.nx (put (γ<|.own<|ds++[d]) i a)
 |_=>Ε
theorem jY(i:ν)(h:gG K H₀ E te de):iB K H₀ E (yJ<|tBM K "list" Mx (fL i)<|dF te iS) (aAp i de):=λk l G H e D m S q L=>by
 unfold aAp at q;split at q
 ·rename_i ds b
  obtain⟨a,n,c,w,f,j⟩:=S.ownAt b;refine⟨_,c,.inl ⟨rfl,_,SqL.of f⟩,h e.ex k l G H _ _ m S q λv d o y x p r=>?_⟩;obtain⟨z,s⟩:=r;have u:=S.ext x;exact⟨a,n,v,rfl,rfl,x.h _ _ f,bQ (by rw[j.len];exact 0),L.nx _ _ o _ x.g (u.updO b c<|(aU x.g j).append<|.cons p .nil) s⟩
 ·exact q.elim
def Ky(i:ν)(de b:DE)(e:DEnds)(a:bF):Prop:=de e.ex a λd=>match slot a i with
 |some (.own ds)=>b e.ex a λy=>(match y with
  | .int k=>∃j,Kg ds.length k=γ j/\e.nx (put (γ<|.own<|ds.set j d) i a)
  |_=>Ε)
 |_=>Ε
theorem pH(i:ν)(h:gG K H₀ E te de)(u:jL K H₀ E ta da):iB K H₀ E (kW te<|aQp (fL i) ta aGv) (Ky i de da):=λm n G H e D o S q L=>
 h e.ex m n G H _ _ o S q λv d w z x A f=>by
  split at f
  ·rename_i ds p
   have l:=S.ext x;obtain⟨a,B,r,O,C,s⟩:=l.ownAt p;refine⟨_,r,u e.ex m n w z _ _ o l f λy F I P b J c=>?_⟩;cases F with
   |int k=>
    obtain⟨j,M,c⟩:=c;cases cF J;have N:=l.ext b;exact⟨a,B,k,j,rfl,rfl,b.h _ _ C,by rw[s.len];exact M,L.nx _ _ I _ (x.g.trans b.g) (N.updO p r<|(aU b.g s).set (cU b.g A) j) c⟩
   |_=>exact c.elim
  ·exact f.elim
def ItS(K:μ)(J:It)(G:Hp)(ds:ε η):Prop:=∀b a,Same G b->Sub b a->∀i,
 (∀d,ds[i]? =γ d->J.go i a/\∀x c,J.yld i a x c->∃e,Ext b a e c/\DV K e x d)/\(ds.length<=i->J.stop i a)
def ItE(K:μ)(J:It)(G H:Hp)(ds:ε η):Prop:=∀b a,Ext G H b a->∀i,
 (∀d,ds[i]? =γ d->J.go i a/\∀x c,J.yld i a x c->∃e,Ext b a e c/\DV K e x d)/\(ds.length<=i->J.stop i a)
theorem ItS.e{ds:ε η}(h:ItS K J G ds):ItE K J G H ds:=λa b e=>h a b e.g e.s
def IvS(K:μ)(H₀:Hp)(E:XK)(f:TI)(dl:DL):Prop:=∀ex a b G H c R,lJ H₀ E ex->Sees K H₀ G a b H->dl ex a c->(∀J ds d e,Ext G H d e->ItS K J d ds->c ds->R J e)->f b H R
def IvE(K:μ)(H₀:Hp)(E:XK)(f:TI)(dl:DL):Prop:=∀ex b c G H d R,lJ H₀ E ex->Sees K H₀ G b c H->dl ex b d->(∀J ds e a,Ext G H e a->ItE K J e a ds->d ds->R J a)->f c H R
theorem IvS.e(h:IvS K H₀ E a dl):IvE K H₀ E a dl:=λex b c G H d R f S q k=>h ex b c G H d R f S q λJ ds i j e l m=>k J ds i j e l.e m
theorem iE(h:gG K H₀ E te de):IvS K H₀ E (Of K te) (wO de):=λex p r G H F R s S q k=>
 h ex p r G H _ _ s S q λv d u A e B m=>by
  cases d with
  |list ds=>
   obtain⟨a,b,rfl,c,n⟩:=eG B;refine⟨a,rfl,⟨b,e.s.same.seq c⟩,k _ ds u A e (λC I f j i=>⟨λd l=>?_,λl=>⟨b,j.same.seq<|f.seq c,by rw[n.len];exact l⟩⟩) m⟩;obtain⟨x,o,D⟩:=n.at l;refine⟨⟨b,x,j.same.seq<|f.seq c,o⟩,λy J y_=>?_⟩;obtain⟨z,w⟩:=y_;subst z;have:=w b<|j.same.seq<|f.seq c;rw[o]at this;cases this;exact⟨C,.refl j,cU f D⟩
  |_=>exact m.elim
theorem cC(h:Sm K H₀ E te dl):IvE K H₀ E (Of K te) dl:=λex n o G H B R p S q k=>
 h ex n o G H _ _ p S q λa c ds r s e f l u=>by
  refine⟨a,rfl,⟨c,f⟩,k _ ds r s e (λv C b i=>⟨λd j=>?_,λj=>⟨c,b.h.seq f,by rw[l.len];exact j⟩⟩) u⟩;obtain⟨x,m,A⟩:=l.at j;refine⟨⟨c,x,b.h.seq f,m⟩,λy D y_=>?_⟩;obtain⟨z,w⟩:=y_;subst z;have:=w c<|b.h.seq f;rw[m]at this;cases this;exact⟨v,.refl b.s,cU b.g A⟩
noncomputable def pV(a:τ)(n:ν)(st:τ):ε η:=(range n).map λ(k:ν)=>bj<|a+(k:τ)*st
theorem An{a st:τ}(h:(pV a n st)[i]? =γ d):i<n/\d= .int (a+(i:τ)*st):=by
 unfold pV at h;rw[cw]at h;cases q:(range n)[i]? with
 |none=>rw[q]at h;cases h
 |some k=>
  rw[q]at h;obtain⟨b,c⟩:=ρ.mp q;simp only[ji]at c;subst c;simp only[ar]at b;simp only[x9,BQ]at h;exact⟨b,h.symm⟩
theorem uS{a st:τ}:(pV a n st).length=n:=by simp[pV]
def Zs(dl:DL)(ex:DX)(a:bF)(Q:ε η->Prop):Prop:=dl ex a λds=>match ds with
 |[.int j]=>(-(2^62)<=j/\j<2^62)/\Q (pV 0 j.toNat 1)
 |_=>Ε
def Zr(dl:DL)(ex:DX)(a:bF)(Q:ε η->Prop):Prop:=dl ex a λds=>match ds with
 |[.int i,.int j]=>(-(2^62)<=i/\i<2^62/\-(2^62)<=j/\j<2^62)/\Q (pV i (j-i).toNat 1)
 |_=>Ε
def aHy(dl:DL)(ex:DX)(a:bF)(Q:ε η->Prop):Prop:=dl ex a λds=>match ds with
 |[.int i,.int j,.int k]=>∃n:ν,(k≠0/\k.natAbs<1000000/\Builtin.Range.small i j k=true)/\eu i j k=(n:τ)/\Q (pV i n k)
 |_=>Ε
theorem aHh{b:τ}:ItS K (Itr b n) G (pV b n 1):=λc k l e i=>⟨λd a=>by
  obtain⟨f,rfl⟩:=An a
  refine⟨f,λx m y_=>?_⟩;obtain⟨h,j⟩:=y_
  subst h j
  rw[sh]
  exact⟨c,.refl e,.int _⟩,λa=>by rw[uS]at a;exact a⟩
theorem aQj{b st:τ}{n:ν}{G:Hp}:ItS K (Its b st n) G (pV b n st):=λc k l e i=>⟨λd a=>by
  obtain⟨f,rfl⟩:=An a
  refine⟨f,λx m y_=>?_⟩;obtain⟨h,j⟩:=y_
  subst h j
  exact⟨c,.refl e,.int _⟩,λa=>by rw[uS]at a;exact a⟩
theorem aTu(h:DVs K H a [d,e,f]):∃x y z,a=[x,y,z]/\DV K H x d/\DV K H y e/\DV K H z f:=by
 cases h with
 |cons h t=>cases t with
  |cons b t=>cases t with
   |cons c t=>cases t;exact⟨_,_,_,rfl,h,b,c⟩
theorem iD(h:oY K H₀ E t dl):IvS K H₀ E (Xy t) (Zs dl):=λex b c G H m R d S q k=>
 h ex b c G H _ _ d S q λn ds f i e j a=>by
  split at a
  ·obtain⟨x,rfl,l⟩:=xS j;cases cF l;exact⟨_,rfl,a.1.1,a.1.2,k _ _ f i e aHh a.2⟩
  ·exact a.elim
theorem aEq(h:oY K H₀ E t dl):IvS K H₀ E (aHm t) (Zr dl):=λex b c G H n R d S q k=>
 h ex b c G H _ _ d S q λo ds f i e j a=>by
  split at a
  ·refine q_ λwv=>?_;obtain⟨x,y,rfl,l,m⟩:=aEz j;apply wv;cases cF l;cases cF m;exact⟨_,_,rfl,a.1,k _ _ f i e aHh a.2⟩
  ·exact a.elim
theorem aEp(h:oY K H₀ E t dl):IvS K H₀ E (aHl t) (aHy dl):=λex b c G H w R d S q k=>
 h ex b c G H _ _ d S q λA ds f i e j a=>by
  split at a
  ·refine q_ λwv=>?_;obtain⟨x,y,z,rfl,l,m,o⟩:=aTu j;apply wv;cases cF l;cases cF m;cases cF o;refine q_ λwv=>?_;obtain⟨n,⟨p,r,s⟩,u,v⟩:=a;apply wv;exact⟨_,_,_,rfl,n,p,r,s,u,k _ _ f i e aQj v⟩
  ·exact a.elim
def aFg(dl:DL)(dg:DG)(db:DS)(e:DEnds)(c:bF):Prop:=dl e.ex c λds=>∃I:ν->bF->Prop,I 0 c/\
 (∀i d a,ds[i]? =γ d->I i a->dg d a λb=>db {e with nx:=I<|i+1,ct:=I<|i+1,bk:=e.nx} b)/\∀a,I ds.length a->e.nx a
theorem dU(U:IvS K H₀ E M dl)(W:Ll K H₀ g ns dg)(X:iB K H₀ E ts ds):iB K H₀ E (aJb M g ts) (aFg dl dg ds):=λN h G H e D O S q L=>
 U e.ex N h G H _ _ O S q λJ p r H1 u Y ⟨I,Z,step,v⟩=>by
  refine⟨λi m h H=>m=p.length-i/\i<=p.length/\∃a c,Same r c/\Sees K H₀ c a h H/\I i a,⟨_,rfl,hB _,N,r,Same.refl _,S.ext u,Z⟩,?_⟩;intro i m j P qQ0;refine q_ λwv=>?_;obtain⟨rfl,a0,a,c,sg,S',R⟩:=qQ0;obtain⟨t1,t2⟩:=Y c P sg S'.sub i;apply wv;by_cases d:i<p.length
  ·obtain⟨g1,g2⟩:=t1 _<|Ι d;refine .inr ⟨g1,λh H=>∃a c,Same r c/\Sees K H₀ c a h H/\I (i+1) a,λa1 s z=>⟨_,‹50›,rfl,d,z⟩,λx s y=>?_⟩;obtain⟨w,T,hd⟩:=g2 x s y;have S2:=S'.ext T;refine W x _ a j w s _ _ S2 hd (step i _ a (Ι d) R) λA B S3 _ q3=>?_;have C:Same r w:=sg.trans T.g;exact X A B w s {e with nx:=I<|i+1,ct:=I<|i+1,bk:=e.nx} _ O S3 q3 ⟨λb f k F l n o=>⟨b,k,C.trans l,n,o⟩,L.rt,λb f k F l n o=>L.nx b f k F (u.g.trans<|C.trans l) n o,λb f k F l n o=>⟨b,k,C.trans l,n,o⟩⟩
  ·have:i=p.length:=by lia
   subst this;exact .inl ⟨t2<|Η _,L.nx a j c P (u.g.trans sg) S'<|v a R⟩
def Co(dt:DT)(db:DS)(e:DEnds)(d:bF):Prop:=∃I:ν->bF->Prop,(∃m,I m d)/\∀m a,I m a ->
 dt e.ex a λb=>if b=true then db {e with nx:=λc=>∃k,k<m/\I k c,ct:=λc=>∃k,k<m/\I k c,bk:=e.nx} a else e.nx a
theorem kE(h:Ac K H₀ E tt dt)(F:iB K H₀ E ts ds):iB K H₀ E (Ua tt ts) (Co dt ds):=λJ u G H e D v S ⟨I,⟨M,N⟩,step⟩ L=>by
 refine⟨λm u H=>∃a f,Same G f/\Sees K H₀ f a u H/\I m a,⟨M,J,G,Same.refl _,S,N⟩,?_⟩;intro m i O qQ0;refine q_ λwv=>?_;obtain⟨a,f,sg,w,P⟩:=qQ0;apply wv;refine h e.ex a i f O _ _ v w (step m a P) λb o x y A=>?_;have B:=w.ext y;have p:Same G o:=sg.trans y.g;cases b with
 |true=>
  have C:∀d c n j,Same o n->Sees K H₀ n d c j->(∃k,k<m/\I k d)->∃k,k<m/\∃a f,Same G f/\Sees K H₀ f a c j/\I k a:=λd c n j q r ⟨k,R,s⟩=>⟨k,R,d,n,p.trans q,r,s⟩;exact⟨λc j=>∃k,k<m/\∃a f,Same G f/\Sees K H₀ f a c j/\I k a,λ_ _ z=>z,F a i o x {e with nx:=λl=>∃k,k<m/\I k l,ct:=λl=>∃k,k<m/\I k l,bk:=e.nx} _ v B A ⟨C,L.rt,λd c n j q r s=>L.nx d c n j (p.trans q) r s,C⟩⟩
 |false=>exact L.nx a i o x p B A
noncomputable def qR(a:ε<|υ ν)(b:bF):bF:=match a with
 |[]=>[]
 |none::r=>none::qR r b
 |some i::r=>slot b i::qR r b
theorem wS:∀(a:ε<|υ ν)(b:bF),(qR a b).length=a.length
 |[],_=>rfl
 |none::r,b=>by simp[qR,wS r b]
 |some i::r,b=>by simp[qR,wS r b]
theorem kR:∀{cap:ε<|υ ν}{δ:bF}{j:ν}{s:Sl},slot (qR cap δ) j=γ s->∃i,cap[j]? =γ (γ i)/\slot δ i=γ s
 |[],_,_,_,h=>by cases h
 |none::r,δ,0,s,h=>by cases h
 |some i::r,δ,0,s,h=>⟨i,rfl,h⟩
 |none::r,δ,j+1,s,h=>by
  obtain⟨i,a,b⟩:=kR (cap:=r) (δ:=δ) (j:=j) h;exact⟨i,by simpa using a,b⟩
 |some _::r,δ,j+1,s,h=>by
  obtain⟨i,a,b⟩:=kR (cap:=r) (δ:=δ) (j:=j) h;exact⟨i,by simpa using a,b⟩
theorem Ph{a:ε<|υ ν}{j i:ν}(h:a[j]? =γ (γ i)):i∈a.filterMap id:=jh.mpr ⟨γ i,ao h,rfl⟩
theorem Cv:∀{cap:ε<|υ ν}{j k i:ν},(cap.filterMap id).Nodup->cap[j]? =γ (γ i)->cap[k]? =γ (γ i)->j=k
 |[],_,_,_,_,h,_=>by simp at h
 |none::r,0,_,_,_,h,_=>by simp at h
 |none::r,_+1,0,_,_,_,h=>by simp at h
 |none::r,j+1,k+1,i,n,b,c=>bt (·+1) (Cv (cap:=r) (by simpa using n) (by simpa using b)<|by simpa using c)
 |some a::r,0,0,_,_,_,_=>rfl
 |some a::r,0,k+1,i,n,b,c=>by
  have e:a=i:=by simpa using b
  subst e;have:a∈r.filterMap id:=Ph (by simpa using c);simp only[fh,id,ki]at n;exact ς this n.1
 |some a::r,j+1,0,i,n,b,c=>by
  have e:a=i:=by simpa using c
  subst e;have:a∈r.filterMap id:=Ph (by simpa using b);simp only[fh,id,ki]at n;exact ς this n.1
 | γ a :: r,j + 1,k + 1,i,n,b,c=>bt (· + 1) (Cv (cap:=r) (by
   simp only[fh,id,ki]at n
   exact n.2) (by simpa using b) (by simpa using c))
def Iq(a:ε<|υ ν)(c b:L2.St):Prop:=b.length=a.length/\∀(j i:ν),a[j]? =γ (γ i)->b[j]? =γ ((c[i]?).bind id)
theorem aNd:Iq a b (capσ a b):=⟨by simp[capσ],λj i h=>by
 unfold capσ
 rw[cw,h]
 rfl⟩
theorem aFl(S:Sees K H₀ G q r H)(e:Ext G H o p)(F:(d.filterMap id).Nodup)(c:Iq d r l):Sees K H₀ o (qR d q) l p:=by
 have f:=S.ext e;refine⟨f.old,f.sub,by rw[wS,c.1];exact Η _,λj s h=>?_,λj k I J a m n u w=>?_⟩
 ·obtain⟨i,m,n⟩:=kR h;obtain⟨v,L,M⟩:=f.has i s n;refine⟨v,?_,M⟩;rw[c.2 j i m,L];rfl
 ·obtain⟨i,x,y⟩:=kR m;obtain⟨z,A,B⟩:=kR n;obtain⟨b,_,C,_⟩:=f.ownAt y;obtain⟨N,_,D,_⟩:=f.ownAt B;rw[c.2 j i x,C]at u;rw[c.2 k z A,D]at w;have O:b=a:=by cases u;rfl
  have P:N=a:=by cases w;rfl
  subst O;subst P;have:=f.sep i z I J _ y B C D;subst this;exact Cv F x A
def aFe(a:DX)(b:bF)(Q:Bool->Prop):Prop:=Q true
theorem bM:Ac K H₀ E aOo aFe:=λex a b G H c Q d S q k=>k true G H S.refl q
def dLC(dl:DL)(e:ε<|υ ν)(dg:DG)(dt:DT)(de:DE)(ex:DX)(f:bF)(Q:ε η->Prop):Prop:=dl ex f λds=>ds.length<=1000/\∃I:ν->ε η->Prop,I 0 []/\
 (∀i d a,ds[i]? =γ d->I i a->dg d (qR e f) λc=>dt (λ_=>Ε) c λb=>if b=true then de (λ_=>Ε) c λy=>I (i+1) (a++[y])else I (i+1) a)/\∀a,I ds.length a->Q a
theorem Ws(hi:IvE K H₀ E wi dl)(hg:Ll K H₀ g ns dg)(ht:Ac K H₀ E tt dt)(he:gG K H₀ E te de)(hn:(c.filterMap id).Nodup)(U:ns.all (λj=>(c[j]?.bind id).isNone)=true):xV K H₀ E (tLC wi c g tt te) (dLC dl c dg dt de):=λex δ N G H Qd Q hx S q k=>
 hi ex δ N G H _ _ hx S q λJ xs O W P it ⟨hlen,I,i0,step,X⟩=>by
  intro D Y;obtain⟨eD,gD⟩:=fY (xs:=[]) P.s Y
  refine⟨λi m f r=>m=xs.length-i/\i<=xs.length/\Iq c N f/\∃d a e,Ext O W d r/\d D=none/\r D=γ (.lst e)/\DVs K d e a/\a.length<=i/\I i a,
   ⟨_,rfl,hB _,aNd,O,[],[],eD,gD,aZ,.nil,Η _,i0⟩,?_⟩
  intro i m f r qQ0;refine q_ λwv=>?_;obtain⟨rfl,a2,Z,d,a,e,v,gd,A,R,B,hI⟩:=qQ0;obtain⟨t1,t2⟩:=it d r v i;apply wv;by_cases s:i<xs.length
  ·obtain⟨g1,g2⟩:=t1 _<|Ι s;refine .inr ⟨g1,λC p=>Iq c N C/\∃d a e,Ext O W d p/\d D=none/\p D=γ (.lst e)/\DVs K d e a/\a.length<=i+1/\I (i+1) a,λC p z=>⟨_,‹50›,rfl,s,z⟩,λx p y=>?_⟩;obtain⟨G2,e2,a0⟩:=g2 x p y;have S2:Sees K H₀ G2 (qR c δ) f p:=aFl S (P.trans<|v.trans e2) hn Z;refine hg x _ _ f G2 p _ _ S2 a0 (step i _ a (Ι s) hI) λF u S3 kp q3=>?_
   have L:Iq c N u:=⟨kp.1.trans Z.1,λj z hj=>by
    rw[kp.2 j (λhm=>by
     have:=oD.mp U j hm
     rw[hj]at this
     cases this)]
    exact Z.2 j z hj⟩
   refine ht (λ_=>Ε) F u G2 p _ _ jW S3 q3 λb G4 H4 e4 q4=>?_;cases b with
   |true=>
    refine he (λ_=>Ε) F u G4 H4 _ _ jW (S3.ext e4) q4 λy dy T H5 e5 hy q5=>?_;have h:Ext d r T H5:=e2.trans<|e4.trans e5;have M:T D=none:=h.keep gd A;have a1:H5 D=γ (.lst e):=h.h _ _ A;have l:Ext O W T H5:=v.trans h;refine⟨e,a1,bQ (by rw[R.len];lia),L,T,a++[dy],e++[y],⟨l.g,λb o z=>?_,λb=>?_,l.n⟩,M,aZ,(aU h.g R).append<|.cons hy .nil,by rw[Γ];simp;exact B,q5⟩
    ·rw[aV<|bL z Y];exact l.h b o z
    ·by_cases w:b=D
     ·subst w;exact .inr ⟨M,_,aZ⟩
     ·rw[aV w];exact l.s b
   |false=>
    have n:Ext d r G4 H4:=e2.trans e4;exact⟨L,G4,a,e,v.trans n,n.keep gd A,n.h _ _ A,aU n.g R,Nat.le_succ_of_le B,q4⟩
  ·have:i=xs.length:=by lia
   subst this;exact .inl ⟨t2<|Η _,k D e a d r (P.trans v) (P.h.free Y) gd A R<|X a hI⟩
end
noncomputable def gW:ε Ξ->ε η->bF
 |[],_=>[]
 |_::N,[]=>none::gW N []
 |_::N,d::a=>γ (.dat d)::gW N a
theorem oC:∀(N:ε Ξ)(a:ε η),(gW N a).length=N.length
 |[],_=>rfl
 |_::N,[]=>bt (·+1)<|oC N []
 |_::N,_::a=>bt (·+1)<|oC N a
theorem jQ:∀{N:ε Ξ}{ds:ε η}{i:ν}{s:Sl},slot (gW N ds) i=γ s->∃d,ds[i]? =γ d/\s= .dat d
 |[],_,_,_,h=>by cases h
 |_::N,[],0,_,h=>by cases h
 |_::N,[],i+1,s,h=>by
  obtain⟨d,a,_⟩:=jQ (N:=N) (ds:=[]) (i:=i) h;simp at a
 |_::N,d::ds,0,s,h=>by cases h;exact⟨d,rfl,rfl⟩
 |_::N,_::ds,i+1,s,h=>by
  obtain⟨d,a,b⟩:=jQ (N:=N) (ds:=ds) (i:=i) h;exact⟨d,by simpa using a,b⟩
theorem uL{K:μ}(h:DVs K H b c):Sees K H H (gW N c) (L2.start N b) H:=by
 refine⟨Same.refl _,.refl _,?_,λi s e=>?_,λi j l m a e=>?_⟩
 ·rw[oC];simp only[L2.start,Γ,θ,cf];lia
 ·obtain⟨d,g,rfl⟩:=jQ e;obtain⟨v,f,k⟩:=h.at g;refine⟨v,?_,k⟩;unfold L2.start;rw[dq (by rw[θ];exact(ρ.mp f).1),cw,f];rfl
 ·obtain⟨d,_,z⟩:=jQ e;cases z
section
variable{P:Program}{w:gb}{K:μ}{mg:Ξ->υ ξ}{base:ei}
theorem Nj{st:Stmt}(F:Fun K x qual st f o)(S:FnScope N g<|aM st)(i:∀b Q E,W b Q E->b.length=g.length)
  (c:∀(a:ξ)(A:Around)(outer:ε Env)(s:Ζ)(H:Hp)(E:XK),Room k (A.deeper (envOfC qual (aM st) s.heap.objs.size f a)) ->
   ∃t,Df (oS (iY P w) P w K mg base N qual (aM st) f a A outer s H E) (eP st) t/\∃d,iB K H E t d/\∀b Q X,W b Q X->d {nx:=λ_=>Q (.dat .none),rt:=Q,ex:=X} (gW N b)):FnOk P w K mg base (iY P w) (k+1) f o g (oV K W):=by
 refine okE F S (λu H Q E h=>?_) λa A outer s H u Q E y h=>?_
 ·obtain⟨b,e,j,l,m,_⟩:=h;rw[l.len];exact i _ _ _ m
 ·refine q_ λwv=>?_;obtain⟨b,e,j,l,m,p,B⟩:=h;obtain⟨t,C,d,D,I⟩:=c a A outer s H E y;apply wv;refine⟨t,C,D _ _ H H {nx:=λ_=>e<|.dat .none,rt:=e,ex:=j} _ B (uL l) (I b e j m) ⟨λL M G n _ S q=>?_,λv s n J r q=>p v s n J r q,λ_ _ _ _ _ _ z=>z.elim,λ_ _ _ _ _ _ z=>z.elim⟩⟩;exact p .non (.dat .none) n S.oldH .non q
end
noncomputable def kinds:ε String:=["int","bool","str","list","tuple"]
theorem aKz{K:μ}(d:η)(n:String)(a:kinds.contains n=true):W.kitOne K (.type<|Mb d) (.type n)=γ (isD n d):=by
 have c:n="int"\/n="bool"\/n="str"\/n="list"\/n="tuple":=by
  simpa[kinds]using a
 have b:Mb d="NoneType"\/Mb d="bool"\/Mb d="int"\/Mb d="str"\/Mb d="list"\/Mb d="tuple"\/Mb d="dict":=by
  cases d <;>simp[Mb]
 unfold isD;generalize Mb d=t at b;clear a;rcases b with rfl|rfl|rfl|rfl|rfl|rfl|rfl <;>rcases c with rfl|rfl|rfl|rfl|rfl <;>rfl
section
variable{X:Cx}{pins:ε (ο×Obj)}{σ:L2.St}{H:Hp}{s:Ζ}
theorem aLm(I:Inv X pins σ H s)(f:RelV x u)(h:DV X.K H x d)(e:W.kitOne X.K (.type<|Mb d) c=γ b)(g:∀tk,Q (.bool b) {s with toks:=tk}):
  Φ (model X.prog X.w) A (call (.builtin "isinstance") [u,c]) Q p s:=by
 cases h with
 |non=>exact jC I f .non e g
 |bl y=>exact jC I f (.bl y) e g
 |int y=>exact jC I f (.int y) e g
 |str y=>exact jC I f (.str y) e g
 |@lst a q t j i=>
  cases (show u=aw a from f);refine q_ λwv=>?_;obtain⟨k,r,⟨o,n,l,m,_,_⟩,_⟩:=I.list j;apply wv;exact ia xg I.kIn ⟨o,l,m⟩ e (λz=>nomatch z) g
 |@tup a q t j i=>
  cases (show u=aw a from f);obtain⟨k,r,⟨o,l,m,n,_⟩,_⟩:=I.tuple j;exact ia zu I.kIn ⟨o,l,m⟩ e (λz=>nomatch z) g
 |dct i=>exact jC I f (.dK i) e g
 |dc0 i=>exact jC I f (.dK i) e g
def aPh(K:μ):ε V->Hp->VK->Prop:=λa H Q=>∃x d n,a=[x,.ty n]/\kinds.contains n=true/\DV K H x d/\Q (.bl<|isD n d) H
theorem aHj{K:μ}(a:X.K=K):gS X (.builtin "isinstance") (aPh K):=by
 subst a;intro pins s σ H g i Q I r h;refine q_ λwv=>?_;obtain⟨x,d,n,rfl,b,c,q⟩:=h;obtain⟨u,v,rfl,e,f⟩:=uB r;apply wv;cases (show v=Value.type n from f);exact aLm I e c (aKz d n b) λtk=>⟨.bl _,H,I.tok tk,rfl,q⟩
end
section
variable{K:μ}{H₀:Hp}{E:XK}{te ta tb:TE}{da db de:DE}{dl dk:DL}{t:TA}
def aMr(n:String)(de:DE)(ex:DX)(a:bF)(Q:η->Prop):Prop:=de ex a λd=>Q<|.bool<|isD n d
theorem rP(a:kinds.contains n=true)(h:jL K H₀ E te de):gG K H₀ E (tCB (aPh K)<|dF te<|dF (tC<|.ty n) iS) (aMr n de):=λex b c G H m Q e S q k=>
 h ex b c G H _ _ e S q λx d f g i j l=>⟨x,d,n,rfl,a,j,k _ _ f g i (.bl _) l⟩
def MvD(K:μ)(H₀:Hp)(E:XK)(te:TE)(dl:DL):Prop:=∀ex c d G H e Q,lJ H₀ E ex->Sees K H₀ G c d H->dl ex c e->(∀a f g h b,Ext G H h b->b a=γ (.lst f)->DVs K h f g->e g->Q (.ref a) b)->te d H Q
theorem eA(h:xV K H₀ E te dl):MvD K H₀ E te dl:=λex b c G H o Q d S q k=>
 h ex b c G H _ Q d S q λa f g i j e p r l m n=>k a f g i j e l m n
def Ik(i:ν)(a:DX)(b:bF)(Q:ε η->Prop):Prop:=match slot b i with
 |some (.own c)=>Q c
 |_=>Ε
theorem Bu(i:ν):MvD K H₀ E (fL i) (Ik i):=λex h j G H l Q m S q k=>by
 unfold Ik at q;split at q
 ·rename_i b c
  obtain⟨a,d,e,n,f,g⟩:=S.ownAt c;exact⟨_,e,k a d b G H S.refl f g q⟩
 ·exact q.elim
def aMw(dl dk:DL)(ex:DX)(a:bF)(Q:ε η->Prop):Prop:=dl ex a λb=>dk ex a λc=>b.length+c.length<=1000/\Q (b++c)
theorem gY(n:MvD K H₀ E ta dl)(o:MvD K H₀ E tb dk):xV K H₀ E (wY aPj ta tb) (aMw dl dk):=λex d e G H B Q f S q k=>
 n ex d e G H _ _ f S q λa g C r s h u i v=>o ex d e r s _ _ f (S.ext h) v λb j D F I c w d2 ⟨x,y⟩=>
  ⟨a,b,g,j,rfl,rfl,c.h _ _ u,w,bu (bQ (by rw[i.len,d2.len];exact x)),λp l=>by
   obtain⟨z,A⟩:=fY (xs:=g++j) c.s l
   have m:=h.trans c
   exact k p _ _ _ _ (m.trans z) (m.h.free l) A aZ ((aU c.g i).append d2) y⟩
end
section
variable{dl:DL}{dg:DG}{db d1 d2:DS}{e:DEnds}{δ:bF}
theorem cV(h:d1 {e with nx:=d2 e} δ):Zq d1 d2 e δ:=h
theorem oU(I:bF->Prop)(h:d1 {e with nx:=I} δ)(k:∀a,I a->d2 e a):aMv d1 d2 e δ:=⟨I,h,k⟩
theorem eF{j:Type}(f:j->η)(c:ε j)(k:∀Q,Q (c.map f)->dl e.ex δ Q)(I:ν->bF->Prop)(l:I 0 δ)
  (m:∀i x a,c[i]? =γ x->I i a->dg (f x) a λh=>db {e with nx:=I<|i+1,ct:=I<|i+1,bk:=e.nx} h) (n:∀a,I c.length a->e.nx a):aFg dl dg db e δ:=
 k _ ⟨I,l,λi d a b g=>by
  rw[cw]at b
  cases q:c[i]? with
  |none=>rw[q]at b;cases b
  |some x=>
   rw[q]at b
   cases b
   exact m i x a q g,λa g=>n a (by rw[θ]at g;exact g)⟩
theorem nG{lo st:τ}(f:∀Q,Q (pV lo n st)->dl e.ex δ Q)(I:ν->bF->Prop)(g:I 0 δ)
  (h:∀i a,i<n->I i a->dg (.int<|lo+(i:τ)*st) a λc=>db {e with nx:=I<|i+1,ct:=I<|i+1,bk:=e.nx} c) (j:∀a,I n a->e.nx a):aFg dl dg db e δ:=
 f _ ⟨I,g,λi d a k b=>by
  obtain⟨l,rfl⟩:=An k
  exact h i a l b,λa b=>j a (by rw[uS]at b;exact b)⟩
variable{dt:DT}{de:DE}{cap:ε (υ ν)}{ex:DX}{Q:ε η->Prop}
theorem bJ{k m:Type}(f:k->η)(g:m->η)(F:k->ε m)(c:ε k)(hlen:c.length<=1000)(n:∀Q,Q (c.map f)->dl ex δ Q)
  (o:∀x∈c,∀N:ε η->Prop,∀a,N (a++(F x).map g)->dg (f x) (qR cap δ) λh=>dt (λ_=>Ε) h λb=>if b=true then de (λ_=>Ε) h λy=>N (a++[y])else N a)
  (p:Q<|(c.flatMap F).map g):dLC dl cap dg dt de ex δ Q:=
 n _ ⟨by rw[θ];exact hlen,λi a=>a=((c.take i).flatMap F).map g,by simp,λi d a j l=>by
  rw[cw]at j
  cases q:c[i]? with
  |none=>rw[q]at j;cases j
  |some x=>
   rw[q]at j
   cases j
   subst l
   refine o x (ao q) (λa=>a=((c.take<|i+1).flatMap F).map g) _ ?_
   have e:c.take (i+1)=c.take i++[x]:=by
    rw[ni,q];rfl
   rw[e]
   simp,λa l=>by
  subst l
  rw[θ,bg<|Η _]
  exact p⟩
end
abbrev DXS:=bF->ο->Prop
abbrev DSX:=DEnds->DXS->bF->Prop
structure LkX(K:μ)(H₀ G:Hp)(xd:DXS)(XE:XS):Prop where
 ex:∀δ σ C G' H,Same G G'->Sees K H₀ G' δ σ H->xd δ C->XE σ (.ref C) none H
def SxD(K:μ)(a:Hp)(tb:TSX)(d:DSX):Prop:=∀b c G H e D xd f,Sees K a G b c H->d e xd b->Lk K a G e D->LkX K a G xd f->tb D f c H
abbrev nox(e:DEnds):DEnds:={e with ex:=λ_=>Ε}
section
variable{K:μ}{H₀:Hp}{E:XK}{t:TA}{dl:DL}{ts:TS}{ds:DS}{tb tc:TSX}{db dc:DSX}
def Kj(i:ν)(e:DEnds):DEnds:={nx:=λa=>e.nx<|put none i a,rt:=e.rt,ex:=λ_=>Ε,bk:=λa=>e.bk<|put none i a,ct:=λa=>e.ct<|put none i a}
def Zm(M:ο->Prop)(db:DSX)(i:ν)(ds:DS)(e:DEnds)(b:bF):Prop:=db e (λa C=>M C/\ds (Kj i e) (put (γ<|.exc C) i a)) b
theorem Ui{p:ξ}{i:ν}(v:SxD K H₀ tb db)(w:iB K H₀ E0 ts ds):iB K H₀ E (Ub K p tb i ts) (Zm (λC=>W.exmOne K (.ref C) p=γ true) db i ds):=λy A G H e D M S q L=>
 v y A G H e D _ _ S q L ⟨λk l C B F s r ⟨m,I⟩=>⟨m,C,rfl,λx n=>by
  have u:=Ym (o:=.ext<|mS x C) r.sub n
  have J:Sees K H₀ (dP B x<|.ext<|mS x C) (put (γ<|.exc C) i k) (l.set i<|some<|.ref x) (dP F x<|.ext<|mS x C):=(r.ext u).setS i (s:=.exc C) ⟨x,rfl,aZ⟩ λ_ _ _ _ z=>nomatch z
  have j:=(L.mono s).mono u.g
  exact w _ _ _ _ (Kj i e) _ jW J I ⟨λa b c d f g h=>j.nx _ _ c d f (g.unset i) h,j.rt,λa b c d f g h=>j.bk _ _ c d f (g.unset i) h,λa b c d f g h=>j.ct _ _ c d f (g.unset i) h⟩⟩⟩
def aMs(i:ν)(C:ο)(b:Bool)(a:DX)(c:bF)(Q:η->Prop):Prop:=match slot c i with
 |some (.exc C')=>C'=C/\Q (.bool b)
 |_=>Ε
theorem Yr{i:ν}{C:ο}{c:V}{d:ξ}{b:Bool}{a:ε ξ}{newId:String}(f:∀u,RelV c u->u=d)(g:W.excIn K C a newId=true)(h:ExcK K C)(e:W.kitOne K (.ref C) d=γ b):
  gG K H₀ E (tCB (λj H Q=>∃x C c d b a newId,j=[.ref x,c]/\(∀u,RelV c u->u=d)/\H x=γ (.ext<|mS x C)/\W.excIn K C a newId=true/\ExcK K C/\W.kitOne K (.ref C) d=γ b/\Q (.bl b) H)<|dF (fL i)<|dF (tC c) iS) (aMs i C b):=λex r s G H w Q l S q k=>by
 unfold aMs at q;split at q
 ·rename_i m n
  refine q_ λwv=>?_;obtain⟨rfl,q⟩:=q;obtain⟨v,o,x,rfl,p⟩:=S.has i _ n;apply wv;exact⟨_,o,x,m,c,d,b,a,newId,rfl,f,S.sub.same _ _ p,g,h,e,k _ _ G H S.refl (.bl b) q⟩
 ·exact q.elim
end
def aTe:DW:=λb Q _=>∃a:ε τ,b=[.list<|a.map .int]/\a.length<=63/\(∀v∈a,az v<=1048576)/\Q (.dat<|.bool true)
theorem sT{K:μ}:∀a:ε τ,DVs K H (a.map V.int) (a.map bj)
 |[]=>.nil
 |n::a=>.cons (.int n)<|sT a
theorem aKx{K:μ}(F:FnOk P w K c base (iY P w) k f d g<|oV K aTe):FnOk P w K c base (iY P w) k f d g (Mo K):=
 F.imp λn H Q E ⟨a,b,e,h,i,j,_,q⟩=>by
  subst e;refine⟨[.list<|b.map .int],λs=>s= .dat (.bool true),λ_=>Ε,.cons (.lst h<|sT b) .nil,⟨b,rfl,i,j,rfl⟩,λv s l _ r m=>?_,λ_ _ _ z=>z.elim⟩;subst m;cases mO r;exact q l
section
variable{X:Cx}{pins:ε (ο×Obj)}{σ:L2.St}{H:Hp}{s:Ζ}{h':ei}
theorem dE{ws:ε ο}(I:Inv X pins σ H s)(k:∀b o,b∉ws->s.heap.get? b=γ o->h'.get? b=γ o)(f:∀b∈ws,lI X pins H b):Inv X pins σ H {s with heap:=h',toks:=t'}:=by
 have d:∀b u,H b=γ u->b∉ws:=λb u e z=>by rw[(f b z).1]at e;cases e
 refine I.step (g':=s.gens) (d':=s.drawn) (ch:=ws) (λb g=>⟨(f b g).2.2.2.1,(f b g).2.1,(f b g).2.2.2.2.1,(f b g).2.2.2.2.2⟩) (λb o _ _ a e _=>k b o a e) (λb o _ _ a e _=>⟨o.slots,k b o a e⟩) (λ_ _ _ _ n=>n)
  (λb o a e=>⟨o,k b o a e⟩) (λ_ _ e=>e) (λ_ _ _ e=>e) (λb p e=>⟨#[],by rw[e];simp⟩) (λm h=>?_) (λb u e=>?_) I.bare
 ·obtain⟨o,i,j,l,r⟩:=h;exact⟨o,i,j,k _ o (λz=>(f _ z).2.1 rfl) l,r⟩
 ·refine(I.hok b u e).stay (λc v a q=>k c v ?_ q) (λ_ q=>q) λ_ _ q=>q;rcases a with z|z
  ·rw[z];exact d b u e
  ·exact d c _ z
theorem Ca(I:Inv X pins σ H s)(f:lI X pins H T)(h:X.s₀.heap.objs.size<=T)(i:s.heap.IsTuple T its.toArray)(r:Vals xs its)(j:xs.length<=sizeLine):Inv X pins σ (dP H T<|.tup xs) s:=by
 obtain⟨k,l,A,B,t,w⟩:=f;have a:∀b o,H b=γ o->b≠T:=λb o e z=>by rw[z,k]at e;cases e
 refine⟨I.ok,I.os,I.bare,⟨I.base.keep,I.base.slot,λb o e n d=>?_,I.base.there,λb xs e=>?_,λb o u e=>?_,λb x e=>?_⟩,I.loc,I.cell,?_,λy c e=>?_,λp g=>?_,λb o e=>?_,I.len⟩
 ·rw[aV<|gq<|ah (bw e) h];exact I.base.free b o e n d
 ·have q:=I.base.tups b xs e;rw[aV<|a b _ q];exact q
 ·have q:=I.base.frzs b o u e;rw[aV<|a b _ q];exact q
 ·obtain⟨m,q⟩:=I.base.tbls b x e;exact⟨m,by rw[aV<|a b _ q];exact q⟩
 ·rw[aV<|Ne.symm l];exact I.free
 ·rw[aV<|t y c e];exact I.freeC y c e
 ·obtain⟨e,n,r⟩:=I.pin p g;exact⟨e,by rw[aV<|w p g];exact n,r⟩
 ·by_cases d:b=T
  ·subst d;rw[aZ]at e;cases e;exact⟨j,its,r,i⟩
  ·rw[aV d]at e;exact(I.hok b o e).stay (λc v _ q=>q) (λc q=>by rw[aV<|a c _ q];exact q) λc xs q=>by rw[aV<|a c _ q];exact q
end
def Itz(K:μ)(a b:ο):It:=
 ⟨λi H=>∃c d,SqL K H a c/\SqL K H b d/\i<c.length/\i<d.length,
  λi H x e=>∃T u v,x= .ref T/\H T=none/\e=dP H T (.tup [u,v])/\(∀c,SqL K H a c->c[i]? =γ u)/\∀d,SqL K H b d->d[i]? =γ v,
  λi H=>∃c d,SqL K H a c/\SqL K H b d/\(c.length<=i\/d.length<=i)⟩
theorem zq_{p:Prop}(h:¬¬p):p:=ik h
theorem Nt{d:Type}{a c b:d}{l:ε d}(h:b∈a::l):b∈a::c::l:=(Ω.1 h).elim (λe=>Ω.2<|.inl e) λh=>Θ _<|Θ _ h
theorem Ln{h:ei}{z TI TO c d g k:ο}{i j:ν}(st:IsZip h z TI TO .none/\IsPair h TI (.ref c) (.ref d)/\(∃a b,IsPair h TO a b)/\h.IsListIter c g i/\h.IsListIter d k j):∀b∈[z,TI,TO,c,d],∃o,h.get? b=γ o/\∀v,o.data≠ .cell v:=by
 obtain⟨l,e,⟨x,y,f⟩,⟨m,n,_,p⟩,⟨r,s,_,d2⟩⟩:=st;exact ax.2 ⟨⟨_,l,λv q=>nomatch q⟩,ax.2 ⟨⟨_,e,λv q=>nomatch q⟩,ax.2 ⟨⟨_,f,λv q=>nomatch q⟩,ax.2 ⟨⟨m,n,λv q=>nomatch p.symm.trans q⟩,ax.2 ⟨⟨r,s,λv q=>nomatch d2.symm.trans q⟩,λ_ h=>nomatch h⟩⟩⟩⟩⟩
theorem Tv{K:μ}{z TI TO t B R S:ο}(D:ZipApart z TI TO t B R S):
  Turn P w K (.Tuple elts k G) (Itz K R S) [z,TI,TO,t,B] z (λi h=>IsZip h z TI TO .none/\IsPair h TI (.ref t) (.ref B)/\(∃a b,IsPair h TO a b)/\h.IsListIter t R i/\h.IsListIter B S i) where
 mem:=by simp
 obj:=λ_ _ st=>Ln st
 keep:=λi h F st J=>by
  obtain⟨L,c,⟨x,y,d⟩,M,N⟩:=st;exact⟨J z (by simp) _ L,J TI (by simp) _ c,⟨x,y,J TO (by simp) _ d⟩,M.at λo e=>J t (by simp) o e,N.at λo e=>J B (by simp) o e⟩
 item:=by
  intro X hP hw hK hc i pins s σ H E I U st hg;subst hP hw hK;refine zq_ λkq=>?_;obtain⟨xs,ys,Y,Z,g1,g2⟩:=hg;obtain⟨f,n,p1,z1⟩:=I.list Y;obtain⟨j,p,p2,z2⟩:=I.list Z;have ho:=Ln st;obtain⟨L,c,⟨x0,y0,d⟩,M,N⟩:=st;have W:=WalksT.zip2 (prog:=X.prog) (w:=X.w) (A:=X.A) (I.ok.hd hc) z TI TO t B R S D f.toArray j.toArray;have L1:=n.length;have L2:=p.length;obtain⟨u,e1⟩:∃u,xs[i]? =γ u:=⟨xs[i],Ι g1⟩;obtain⟨v,e2⟩:∃v,ys[i]? =γ v:=⟨ys[i],Ι g2⟩;obtain⟨x',e3,r1⟩:=n.get e1;obtain⟨y',e4,r2⟩:=p.get e2;apply kq;refine W.item i s _ _ (by simp only[ae];lia) ⟨L,c,⟨_,_,d⟩,M,N,p1.isList,p2.isList⟩ λT vals F tk hv q hT C kk=>?_;obtain⟨x,y,hx,hy,rfl⟩:=hv;refine⟨_,rfl,W.go elts k G i T {s with heap:=F,toks:=tk} _ _ C λh3 l O=>?_⟩;have ex:x'=x:=by
   have:f[i]? =γ x:=by simpa using hx
   rw[e3]at this;exact ba this
  have ey:y'=y:=by
   have:j[i]? =γ y:=by simpa using hy
   rw[e4]at this;exact ba this
  subst ex;subst ey;have fw:∀b∈[z,TO,t,B],lI X pins H b:=λb m=>U b<|Nt m;have I1:Inv X pins σ H {s with heap:=F,toks:=tk}:=dE I kk fw;have I2:Inv X pins σ H {s with heap:=h3,toks:=tk}:=dE (s:={s with heap:=F,toks:=tk}) I1 O fw;have nT:=W.apart i T F C;have a0:h3.IsTuple T #[x',y']:=by
   obtain⟨o,ho,r⟩:=hT;exact⟨o,O T o nT ho,r⟩
  have fT:lI X pins H T:=I.fpOk q<|I.hok.fresh q;have I3:=Ca (xs:=[u,v]) (its:=[x',y']) I2 fT (Β I.sz q) a0 (.cons r1<|.cons r2 .nil)<|bu<|bQ (by show 2<=1000;decide);refine⟨.ref T,dP H T<|.tup [u,v],I3,rfl,⟨T,u,v,rfl,fT.1,rfl,λa1 h=>by rw[I.list_inj h Y];exact e1,λa2 h=>by rw[I.list_inj h Z];exact e2⟩,⟨l.1,l.2.1,l.2.2.1,l.2.2.2.1,l.2.2.2.2.1⟩,λb m=>?_⟩;rw[aV]
  ·exact(U b m).1
  ·intro e;obtain⟨o,g,_⟩:=ho b m;exact ς (bw g)<|ux.mpr<|e▸q
 done:=by
  intro X hP hw hK hc i pins s σ H E I U st hg;subst hP hw hK;refine zq_ λkq=>?_;obtain⟨xs,ys,Y,Z,g⟩:=hg;obtain⟨f,n,p1,z1⟩:=I.list Y;obtain⟨j,p,p2,z2⟩:=I.list Z;obtain⟨L,c,⟨x0,y0,d⟩,M,N⟩:=st;have L1:=n.length;have L2:=p.length;apply kq;refine wpAny_pyNext_zip_end (I.ok.hd hc) D L c d M N p1.isList p2.isList ?_ λF hk=>⟨rfl,?_⟩
  ·rcases g with g|g
   ·exact .inl (by simp;lia)
   ·exact .inr (by simp;lia)
  ·exact dE (t':=s.toks) (ws:=[z,TO,t,B]) I (λb o m e=>hk b o (λx=>m<|by simp[x]) (λx=>m<|by simp[x]) (λx=>m<|by simp[x]) (λx=>m<|by simp[x]) e) λb m=>U b<|Nt m
 self:=λ_ _ _ _ _ st h=>mh st.1 h
theorem Io:bootBuiltins "zip"=γ (.type "zip"):=by decide +kernel
theorem wU:bootBuiltins "enumerate"=γ (.type "enumerate"):=by decide +kernel
theorem xU:bootBuiltins "reversed"=γ (.type "reversed"):=by decide +kernel
section
variable{X:Cx}{K:μ}
def aLt(K:μ)(t:TA):TI:=λd H R=>t d H λe c=>∃a b,e=[.ref a,.ref b]/\(∃f,SqL K c a f)/\(∃g,SqL K c b g)/\R (Itz K a b) c
theorem aJy(B:X.K=K)(C:Gl X "zip")(D:X.mg "zip"=none)(E:PA X [a,b] r)(F:starEach [a,b] X.env=[(false,eval a X.env),(false,eval b X.env)]:=by rfl)(g:starEach [b] X.env=[(false,eval b X.env)]:=by rfl):
  PI X (.Tuple elts k d) (.Call (.Name "zip" p) [a,b] [] f) (aLt K r):=by
 subst B;intro pins s G H R I h;refine zo<|jH I C D Io<|dj (dQ (E f pins s G H _ I h) λus c y_=>?_) (by rw[F,g]) (by rw[g];rfl);refine q_ λW_=>?_;obtain⟨vs,J,i,L,M⟩:=y_;apply W_;refine q_ λwv=>?_;obtain⟨N,O,e,⟨xs,P⟩,⟨ys,S⟩,q⟩:=M;apply wv;subst e;refine q_ λwv=>?_;obtain⟨u,v,rfl,T,U⟩:=uB L;apply wv;cases T;cases U;refine q_ λwv=>?_;obtain⟨t,W,w,z1⟩:=i.list P;obtain⟨x,Y,y,z2⟩:=i.list S;apply wv;have Z:N<c.heap.objs.size:=by obtain⟨_,e,_⟩:=w.isList;exact bw e
 have a2:O<c.heap.objs.size:=by obtain⟨_,e,_⟩:=y.isList;exact bw e
 refine call_zip_2 w.isList y.isList λh' z l m n o _ hk=>mh z ?_;refine⟨c.heap.objs.size+4,[c.heap.objs.size+4,c.heap.objs.size+2,c.heap.objs.size+3,c.heap.objs.size,c.heap.objs.size+1],_,_,J,rfl,i.kept (t':=c.toks) hk,Tv<|zipApart_new Z a2,⟨z,l,⟨_,_,m⟩,n,o⟩,λb A=>?_,q⟩;have j:c.heap.objs.size<=b:=by
  simp only[Ω,cn,ft]at A;rcases A with rfl|rfl|rfl|rfl|rfl <;>exact 50
 exact i.fpOk j<|i.hok.fresh j
end
def Ite(K:μ)(a:ο):It:=
 ⟨λi H=>∃b,SqL K H a b/\i<b.length,
  λi H x c=>∃T u,x= .ref T/\H T=none/\c=dP H T (.tup [.int (i:τ),u])/\∀b,SqL K H a b->b[i]? =γ u,
  λi H=>∃b,SqL K H a b/\b.length<=i⟩
theorem Pv{P:Program}{w:gb}{K:μ}{elts:ε Expr}{k:ν}{B:Pos}{e it l:ο}(L:e≠it)(M:l≠e)(N:l≠it):
  Turn P w K (.Tuple elts k B) (Ite K l) [e,it] e (λi h=>(∃a,IsEnum h e it i a)/\h.IsListIter it l i) where
 mem:=by simp
 obj:=λi h st b m=>by
  obtain⟨⟨a,d⟩,⟨o1,G,_,d1⟩⟩:=st;simp only[Ω,cn,ft]at m;rcases m with rfl|rfl
  ·exact⟨_,d,λv q=>by cases q⟩
  ·exact⟨o1,G,λv q=>by rw[d1]at q;cases q⟩
 keep:=λi h p st kp=>by
  obtain⟨⟨a,d⟩,z⟩:=st;exact⟨⟨a,kp e (by simp) _ d⟩,z.at λo x=>kp it (by simp) o x⟩
 item:=by
  intro X O hw R S i pins s U H E I C st Y;subst O hw R;refine q_ λwv=>?_;obtain⟨xs,J,g1⟩:=Y;obtain⟨c,f,Z,z1⟩:=I.list J;obtain⟨⟨a,d⟩,z⟩:=st;apply wv;have W:=WalksT.enumerate (prog:=X.prog) (w:=X.w) (A:=X.A) (I.ok.hd S) e it l L M N c.toArray;have L1:=f.length;refine W.item i s _ _ (by simp only[ae];exact 38) ⟨⟨a,d⟩,z,Z.isList⟩ λT vals p tk hv j hT n kk=>?_;refine q_ λwv=>?_;obtain⟨t,x,hx,rfl⟩:=hv;apply wv;refine⟨_,rfl,W.go elts k B i T {s with heap:=p,toks:=tk} _ _ n λh3 D F=>?_⟩;refine q_ λwv=>?_;obtain⟨u,G⟩:∃u,xs[i]? =γ u:=⟨xs[i],Ι g1⟩;obtain⟨x',e3,r1⟩:=f.get G;apply wv;have ex:x'=x:=by
   have:c[i]? =γ x:=by simpa using hx
   rw[e3]at this;exact ba this
  subst ex;have I1:Inv X pins U H {s with heap:=p,toks:=tk}:=dE I kk C;have I2:Inv X pins U H {s with heap:=h3,toks:=tk}:=dE (s:={s with heap:=p,toks:=tk}) I1 F C;have nT:=W.apart i T p n;have a0:h3.IsTuple T #[.int i t,x']:=by
   obtain⟨o,ho,r⟩:=hT;exact⟨o,F T o nT ho,r⟩
  have fT:lI X pins H T:=I.fpOk j<|I.hok.fresh j;have I3:=Ca (xs:=[.int (i:τ),u]) (its:=[.int i t,x']) I2 fT (Β I.sz j) a0 (.cons ⟨t,rfl⟩<|.cons r1 .nil)<|bu<|bQ (by show 2<=1000;decide);refine⟨.ref T,dP H T<|.tup [.int (i:τ),u],I3,rfl,⟨T,u,rfl,fT.1,rfl,λa1 h=>by rw[I.list_inj h J];exact G⟩,⟨D.1,D.2.1⟩,λb m=>?_⟩;rw[aV]
  ·exact(C b m).1
  ·intro e';subst e';have:∃o,s.heap.get? b=γ o:=by
    simp only[Ω,cn,ft]at m;rcases m with rfl|rfl
    ·exact⟨_,d⟩
    ·obtain⟨o,e,_⟩:=z;exact⟨o,e⟩
   obtain⟨o,e⟩:=this;exact ς (bw e)<|ux.mpr j
 done:=by
  intro X O hw R S i pins s U H E I C st Y;subst O hw R;refine q_ λwv=>?_;obtain⟨xs,J,g⟩:=Y;obtain⟨c,f,Z,z1⟩:=I.list J;obtain⟨⟨a,d⟩,z⟩:=st;apply wv;have L1:=f.length;exact wpAny_pyNext_enum_end (I.ok.hd S) d z Z.isList (by simp;lia) λp hx=>⟨rfl,dE (t':=s.toks) (ws:=[e,it]) I (λb o m y=>hx b o (λe'=>m<|by simp[e']) y) C⟩
 self:=λ_ _ _ _ _ st h=>by
  obtain⟨⟨a,d⟩,_⟩:=st;exact vz d h
def Itv(K:μ)(a:ο)(n:ν):It:=
 ⟨λi H=>∃b,SqL K H a b/\b.length=n/\i<n,λi H x c=>c=H/\∀b,SqL K H a b->b[n-1-i]? =γ x,λi _=>n<=i⟩
theorem Tw{K:μ}:Turn P w K tg (Itv K l n) [f] f (λi h=>i<=n/\h.IsRevIter f l ((n:τ)-1-(i:τ))) where
 mem:=by simp
 obj:=λi h st b g=>by
  have e:b=f:=by simpa using g
  subst e;obtain⟨_,o,e,c,d⟩:=st;exact⟨o,e,λv z=>by rw[d]at z;cases z⟩
 keep:=λi h m st k=>⟨st.1,st.2.at λo e=>k f (by simp) o e⟩
 item:=by
  intro X r hw t J i pins s L H E I q st y;subst r hw t;refine q_ λwv=>?_;obtain⟨O,M,hn,hi⟩:=y;obtain⟨R,S,p,hz⟩:=I.list M;obtain⟨x,N⟩:∃x,O[n-1-i]? =γ x:=⟨_,Ι<|by lia⟩;obtain⟨u,T,U⟩:=S.get N;obtain⟨A,B,Y,C,D,F⟩:=q f (by simp);apply wv;have G:(n:τ)-1-(i:τ)=((n-1-i:ν):τ):=by lia
  have a:=st.2;rw[G]at a;refine wpAny_pyNext_rev_item a p.isList (x:=u) (by simpa using T) λm j Z=>?_;have I1:Inv X pins L H {s with heap:=m}:=I.turned (t':=s.toks) (λb o g e=>(Z.2 b g).trans e) A B C D F;refine q_ λwv=>?_;obtain⟨o,e,c,d⟩:=id j;apply wv;refine⟨u,rfl,zO (s:={s with heap:=m}) e c d (by decide) ⟨x,H,I1,U,⟨rfl,λys hy=>by rw[I.list_inj hy M];exact N⟩,⟨‹51›,?_⟩,λb g=>(q b g).1⟩⟩;have e2:(n:τ)-1-((i+1:ν):τ)=((n-1-i:ν):τ)-1:=by lia
  rw[e2];exact j
 done:=by
  intro X r hw t J i pins s L H E I q st y;subst r hw t;have a0:n<=i:=y;refine q_ λwv=>?_;obtain⟨A,B,Y,C,D,F⟩:=q f (by simp);apply wv;have G:(n:τ)-1-(i:τ)=-1:=by have:=st.1;lia
  have a:=st.2;rw[G]at a;exact wpAny_pyNext_rev_end (I.ok.hd J) a λm eb=>⟨rfl,I.turned (t':=s.toks) (λb o g e=>eb b o g e) A B C D F⟩
 self:=λ_ _ _ _ _ st h=>tj st.2 h
section
variable{X:Cx}{K:μ}
def aHn(K:μ)(t:TA):TI:=λc H R=>t c H λd b=>∃a,d=[.ref a]/\(∃e,SqL K b a e)/\R (Ite K a) b
theorem Bc{elts:ε Expr}{k:ν}{d:Pos}{a:Expr}{m:TA}{p f:Pos}(x:X.K=K)(y:Gl X "enumerate")(z:X.mg "enumerate"=none)(A:PA X [a] m)(B:starEach [a] X.env=[(false,eval a X.env)]:=by rfl):
  PI X (.Tuple elts k d) (.Call (.Name "enumerate" p) [a] [] f) (aHn K m):=by
 subst x;intro pins s C H R I h;refine zo (jH I y z wU<|dj (dQ (A f pins s C H _ I h) λN c y_=>?_) (by rw[B];rfl)<|by rfl);refine q_ λW_=>?_;obtain⟨O,D,i,E,F⟩:=y_;apply W_;obtain⟨n,e,⟨P,G⟩,q⟩:=F;subst e;obtain⟨u,rfl,J⟩:=kD E;cases J;obtain⟨o,L,r,S⟩:=i.list G;have t:n<c.heap.objs.size:=by obtain⟨_,e,_⟩:=r.isList;exact bw e
 refine call_enumerate_list r.isList λT v j _ M=>vz v ?_;refine⟨c.heap.objs.size+1,[c.heap.objs.size+1,c.heap.objs.size],_,_,D,rfl,i.kept (t':=c.toks) M,Pv (e:=c.heap.objs.size+1) (it:=c.heap.objs.size) (l:=n) (Nat.succ_ne_self _) (gq<|Nat.lt_succ_of_lt t)<|gq t,⟨⟨_,v⟩,j⟩,λb w=>?_,q⟩;have g:c.heap.objs.size<=b:=by
  simp only[Ω,cn,ft]at w;rcases w with rfl|rfl <;>exact 50
 exact i.fpOk g<|i.hok.fresh g
def aQm(K:μ)(t:TA):TI:=λd H R=>t d H λe b=>∃a c,e=[.ref a]/\SqL K b a c/\R (Itv K a c.length) b
theorem Fj(m:X.K=K)(n:Gl X "reversed")(r:X.mg "reversed"=none)(t:PA X [a] k)(v:starEach [a] X.env=[(false,eval a X.env)]:=by rfl):
  PI X tg (.Call (.Name "reversed" p) [a] [] d) (aQm K k):=by
 subst m;intro pins s w H R I h;refine zo (jH I n r xU<|dj (dQ (t d pins s w H _ I h) λG c y_=>?_) (by rw[v];rfl)<|by rfl);refine q_ λW_=>?_;obtain⟨J,x,i,y,z⟩:=y_;apply W_;obtain⟨l,A,e,B,q⟩:=z;subst e;obtain⟨u,rfl,C⟩:=kD y;cases C;obtain⟨f,j,D,L⟩:=i.list B;have E:=j.length;refine call_reversed_list D.isList ?_;have g:(c.heap.push<|revObj l<|(f.toArray.size:τ)-1).IsRevIter c.heap.objs.size l ((A.length:τ)-1-((0:ν):τ)):=by
  refine⟨_,aj _ rfl,rfl,?_⟩;simp only[revObj,ae];rw[E];simp
 refine tj g ?_;refine⟨c.heap.objs.size,[c.heap.objs.size],_,_,x,rfl,i.kept (t':=c.toks) λb o e=>Λ _ e,Tw,⟨hB _,g⟩,λb F=>?_,q⟩;have e:b=c.heap.objs.size:=by simpa using F
 subst e;exact i.fpOk (Η _)<|i.hok.fresh<|Η _
end
section
variable{K:μ}{H₀:Hp}{E:XK}{te ta tb:TE}{da db de:DE}{dl dk:DL}{t:TA}
noncomputable def pairD:ε η->ε η->ε η
 |x::a,y::b=>.tuple [x,y]::pairD a b
 |_,_=>[]
theorem zD:∀a b:ε η,(pairD a b).length=min a.length b.length
 |[],_=>by simp[pairD]
 |_::_,[]=>by simp[pairD]
 |x::a,y::b=>by simp[pairD,zD a b]
theorem Fo:∀{xs ys:ε η}{i:ν}{d:η},(pairD xs ys)[i]? =γ d->∃x y,xs[i]? =γ x/\ys[i]? =γ y/\d= .tuple [x,y]
 |[],_,_,_,h=>by simp[pairD]at h
 |_::_,[],_,_,h=>by simp[pairD]at h
 |x::xs,y::ys,0,d,h=>⟨x,y,rfl,rfl,by simpa[pairD]using h.symm⟩
 |x::xs,y::ys,i+1,d,h=>by
  refine q_ λwv=>?_;obtain⟨u,v,a,b,c⟩:=Fo (xs:=xs) (ys:=ys) (i:=i) (d:=d) (by simpa[pairD]using h);apply wv;exact⟨u,v,by simpa using a,by simpa using b,c⟩
def aFd(dl dk:DL)(ex:DX)(a:bF)(Q:ε η->Prop):Prop:=dl ex a λb=>dk ex a λc=>Q<|pairD b c
theorem Xu(s:Sub G H)(h:SqL K H a c)(j:SqL K H b f)(m:DVs K G c xs)(d2:DVs K G f g)(i:ν):
  (∀d,(pairD xs g)[i]? =γ d->(Itz K a b).go i H/\∀x k,(Itz K a b).yld i H x k->∃n,Ext G H n k/\DV K n x d)/\((pairD xs g).length<=i->(Itz K a b).stop i H):=by
 refine⟨λd l=>?_,λl=>⟨c,f,h,j,?_⟩⟩
 ·refine q_ λwv=>?_;obtain⟨x,y,w,A,rfl⟩:=Fo l;obtain⟨u,o,B⟩:=m.at w;obtain⟨v,p,C⟩:=d2.at A;apply wv;refine⟨⟨c,f,h,j,(ρ.mp o).1,(ρ.mp p).1⟩,λz k y_=>?_⟩;refine q_ λW_=>?_;obtain⟨T,M,N,D,F,I,J,L⟩:=y_;apply W_;subst D I;have q:=J c h;have r:=L f j;rw[o]at q;rw[p]at r;cases q;cases r;have e:=qJ (xs:=[u,v]) s F;exact⟨_,e,.tup (SqT.of aZ)<|.cons (cU e.g B)<|.cons (cU e.g C) .nil⟩
 ·rw[zD]at l;have:=m.len;have:=d2.len;lia
theorem Xv(s:gG K H₀ E ta da)(u:gG K H₀ E tb db):IvS K H₀ E (aLt K<|dF ta<|dF tb iS) (aFd (wO da)<|wO db):=λex j l G H I R m S q k=>
 s ex j l G H _ _ m S q λv d w x f y n=>by
  cases d with
  |list J=>
   refine u ex j l w x _ _ m (S.ext f) n λL d2 z A c g o=>?_;cases d2 with
   |list M=>
    refine q_ λwv=>?_;obtain⟨a,B,rfl,p,C⟩:=eG y;obtain⟨b,D,rfl,r,F⟩:=eG g;apply wv;refine⟨a,b,rfl,⟨B,c.h.seq<|f.s.same.seq p⟩,⟨D,c.s.same.seq r⟩,k _ _ z A (f.trans c) (λN O e h i=>?_) o⟩;exact Xu h (h.same.seq<|e.seq<|c.g.seq p) (h.same.seq<|e.seq r) (aU e<|aU c.g C) (aU e F) i
   |_=>exact o.elim
  |_=>exact n.elim
theorem fU(m:Sm K H₀ E ta dl)(n:Sm K H₀ E tb dk):IvE K H₀ E (aLt K<|dF ta<|dF tb iS) (aFd dl dk):=λex d f G H A R g S q k=>
 m ex d f G H _ _ g S q λa o B p r h j s u=>n ex d f p r _ _ g (S.ext h) u λb v C w x c l y z=>
  ⟨a,b,rfl,⟨o,c.h.seq j⟩,⟨v,l⟩,k _ _ w x (h.trans c) (λD F e i=>Xu e.s (e.h.seq<|c.h.seq j) (e.h.seq l) (aU e.g<|aU c.g s) (aU e.g y) i) z⟩
noncomputable def enumD:ν->ε η->ε η
 |_,[]=>[]
 |k,x::a=>.tuple [.int (k:τ),x]::enumD (k+1) a
theorem zT:∀(k:ν)(a:ε η),(enumD k a).length=a.length
 |_,[]=>rfl
 |k,x::a=>by simp[enumD,zT (k+1) a]
theorem Hz:∀{k:ν}{xs:ε η}{i:ν}{d:η},(enumD k xs)[i]? =γ d->∃x,xs[i]? =γ x/\d= .tuple [.int ((k+i:ν):τ),x]
 |_,[],_,_,h=>by simp[enumD]at h
 |k,x::xs,0,d,h=>⟨x,rfl,by simpa[enumD]using h.symm⟩
 |k,x::xs,i+1,d,h=>by
  obtain⟨u,a,b⟩:=Hz (k:=k+1) (xs:=xs) (i:=i) (d:=d) (by simpa[enumD]using h);refine⟨u,by simpa using a,?_⟩;rw[b];have e:k+1+i=k+(i+1):=‹48›
  rw[e]
def aAf(dl:DL)(ex:DX)(a:bF)(Q:ε η->Prop):Prop:=dl ex a λb=>Q<|enumD 0 b
theorem aLl{a:ο}{b:ε V}{xs:ε η}{G H:Hp}(s:Sub G H)(f:SqL K H a b)(h:DVs K G b xs)(i:ν):
  (∀d,(enumD 0 xs)[i]? =γ d->(Ite K a).go i H/\∀x g,(Ite K a).yld i H x g->∃j,Ext G H j g/\DV K j x d)/\((enumD 0 xs).length<=i->(Ite K a).stop i H):=by
 refine⟨λd c=>?_,λc=>⟨b,f,?_⟩⟩
 ·refine q_ λwv=>?_;obtain⟨x,m,rfl⟩:=Hz c;obtain⟨u,k,n⟩:=h.at m;apply wv;refine⟨⟨b,f,(ρ.mp k).1⟩,λz g y_=>?_⟩;refine q_ λW_=>?_;obtain⟨T,v,o,p,q,r⟩:=y_;apply W_;subst o q;have l:=r b f;rw[k]at l;cases l;have e:=qJ (xs:=[.int (i:τ),u]) s p;rw[AB];exact⟨_,e,.tup (SqT.of aZ)<|.cons (.int _)<|.cons (cU e.g n) .nil⟩
 ·rw[zT]at c;rw[h.len];exact c
theorem Od(h:gG K H₀ E ta da):IvS K H₀ E (aHn K<|dF ta iS) (aAf<|wO da):=λex j l G H u R m S q k=>
 h ex j l G H _ _ m S q λv d n o b p c=>by
  cases d with
  |list w=>
   refine q_ λwv=>?_;obtain⟨a,r,rfl,e,s⟩:=eG p;apply wv;exact⟨a,rfl,⟨r,b.s.same.seq e⟩,k _ _ n o b (λx y f g i=>aLl g (g.same.seq<|f.seq e) (aU f s) i) c⟩
  |_=>exact c.elim
def aMg(dl:DL)(ex:DX)(a:bF)(Q:ε η->Prop):Prop:=dl ex a λb=>Q b.reverse
theorem aLk(s:Sub G H)(h:SqL K H a b)(j:DVs K G b e)(i:ν):
  (∀d,e.reverse[i]? =γ d->(Itv K a b.length).go i H/\∀x f,(Itv K a b.length).yld i H x f->∃k,Ext G H k f/\DV K k x d)/\(e.reverse.length<=i->(Itv K a b.length).stop i H):=by
 have m:=j.len;refine⟨λd c=>?_,λc=>?_⟩
 ·have g:i<e.length:=by
   have:=(ρ.mp c).1;simpa using this
  rw[r8 g]at c;obtain⟨u,n,o⟩:=j.at c;refine⟨⟨b,h,rfl,‹48›⟩,λz f y_=>?_⟩;obtain⟨p,q⟩:=y_;subst p;have l:=q b h;rw[m,n]at l;cases l;exact⟨G,.refl s,o⟩
 ·show b.length<=i;rw[jt]at c;exact 48
theorem aLn(h:gG K H₀ E ta da):IvS K H₀ E (aQm K<|dF ta iS) (aMg<|wO da):=λex j l G H u R m S q k=>
 h ex j l G H _ _ m S q λv d n o b p c=>by
  cases d with
  |list w=>
   refine q_ λwv=>?_;obtain⟨a,r,rfl,e,s⟩:=eG p;apply wv;exact⟨a,r,rfl,b.s.same.seq e,k _ _ n o b (λx y f g i=>aLk g (g.same.seq<|f.seq e) (aU f s) i) c⟩
  |_=>exact c.elim
end
open PySem.W
def aUm(N:ν)(P:c->Prop):KasT c->Prop
 | .ret a=>P a
 | .ask i j k=>i<N/\j<N/\∀b,aUm N P<|k b
def Ord(N:ν)(p:Array ν):Prop:=p.Perm<|List.toArray<|range N
section
variable{K:μ}{H₀:Hp}{E:XK}{te ta:TE}{de da:DE}{dl:DL}
noncomputable abbrev pr(q:τ×τ):η:=.tuple [.int q.1,.int q.2]
end
section
variable{X:Cx}
def Mw:V->ε V->Hp->VK->Prop:=λx b H Q=>∃l a i y,x= .ref l/\b=[.int i,y]/\H l=γ (.lst a)/\0<=i/\i<=(a.length:τ)/\a.length<sizeLine/\Q .non (dP H l<|.lst<|a.take i.toNat++y::a.drop i.toNat)
theorem Qt:MtM X "list.insert" Mw:=by
 intro pins s m H x o v p Q I d f h;refine q_ λwv=>?_;obtain⟨l,w,i,y,rfl,rfl,b,A,B,C,q⟩:=h;apply wv;cases d;refine q_ λwv=>?_;obtain⟨u,c,rfl,⟨t,rfl⟩,g⟩:=uB f;obtain⟨z,a,n,r,D,e⟩:=I.lstM b;apply wv;have hlen:=r.length;have E:=oO;refine ic uR ⟨_,e,rfl⟩ F.entry_list_insert (F.args_list_insert_3 _ _ _) (rq l a.toArray n i t c (by simp[Builtin.List.listFitsIndex];lia) (by rw[ae];lia)) ⟨e,?_⟩;refine⟨.non,_,I.lset (its':=a.take i.toNat++c::a.drop i.toNat) b e ?_ ((r.take _).append<|.cons g<|r.drop _) ?_,rfl,q⟩
 ·have j:¬i<0:=by lia
  have k:min i.toNat a.length=i.toNat:=‹50›
  simp only[j,sj,ae,k];apply Array.ext';simp[bg]
 ·rw[Γ,Ρ,aA,bx];lia
end
section
variable{K:μ}{H₀:Hp}{E:XK}{te ta:TE}{de da:DE}{dl:DL}
def aAb(i:ν)(da de:DE)(e:DEnds)(a:bF):Prop:=match slot a i with
 |some (.own b)=>da e.ex a λx=>(match x with
  | .int k=>de e.ex a λd=>0<=k/\k<=(b.length:τ)/\b.length<1000/\e.nx (put (γ<|.own<|b.take k.toNat++d::b.drop k.toNat) i a)
  |_=>Ε)
 |_=>Ε
theorem Uj(i:ν)(s:jL K H₀ E ta da)(h:gG K H₀ E te de):iB K H₀ E (yJ<|tBM K "list" Mw (fL i)<|dF ta<|dF te iS) (aAb i da de):=λg j G H e D l S q L=>by
 unfold aAb at q;split at q
 ·rename_i N m
  obtain⟨a,t,n,O,o,c⟩:=S.ownAt m;refine⟨_,n,.inl ⟨rfl,_,SqL.of o⟩,s e.ex g j G H _ _ l S q λv d u w x y p=>?_⟩;cases d with
  |int k=>
   cases cF y;refine h e.ex g j u w _ _ l (S.ext x) p λz d2 A P B f C=>?_;obtain⟨F,I,R,J⟩:=C;have b:=x.trans B;have M:=S.ext b;have r:=c.len;exact⟨a,t,k,z,rfl,rfl,b.h _ _ o,F,by rw[r];exact I,bQ (by rw[r];exact 0),L.nx _ _ A _ b.g (M.updO m n<|((aU b.g c).take _).append<|.cons f<|(aU b.g c).drop _) J⟩
  |_=>exact p.elim
 ·exact q.elim
end
section
variable{K:μ}{H₀:Hp}{E:XK}{ta tb:TE}{db:DE}{dl:DL}
def aMi(dl:DL)(db:DE)(ex:DX)(a:bF)(Q:ε η->Prop):Prop:=dl ex a λb=>db ex a λy=>match y with
 | .int k=>(-(2^63)<=k/\k<2^63)/\b.length*k.toNat<=1000/\Q (cg k.toNat b).flatten
 |_=>Ε
theorem Oq(h:DVs K G a b):∀n:ν,DVs K G (cg n a).flatten (cg n b).flatten
 |0=>.nil
 |n+1=>by
  rw[i6,i6,gn,gn];exact h.append<|Oq h n
theorem oJ(n:MvD K H₀ E ta dl)(o:jL K H₀ E tb db):xV K H₀ E (wY aPe ta tb) (aMi dl db):=λex d e G H D Q f S q k=>
 n ex d e G H _ _ f S q λa g F r s h t i u=>o ex d e r s _ _ f (S.ext h) u λy v I J b w c=>by
  cases v with
  |int j=>
   cases cF w;obtain⟨⟨x,z⟩,c,A⟩:=c;refine⟨a,j,g,rfl,rfl,b.h _ _ t,x,z,bu<|bQ (by rw[i.len];exact c),λp l=>?_⟩;obtain⟨B,C⟩:=fY (xs:=(cg j.toNat g).flatten) b.s l;have m:=h.trans b;exact k p _ _ _ _ (m.trans B) (m.h.free l) C aZ (Oq (aU b.g i) _) A
  |_=>exact c.elim
end
theorem xK{K:μ}(h:K.lookup a=γ ⟨.type "tuple",e,.seq b n,f⟩)(g:b.size<=sizeLine)(r:Vals xs b.toList)(d:∀H,DVs K H xs c)(H:Hp):DV K H (.ref a) (.tuple c):=
 .tup (.inr ⟨_,b,n,h,rfl,rfl,g,r⟩) (d H)
def Yu:Enc {x:Ξ//PyData.strOk x=true}:=⟨λx=>.str x.1,0,by decide,λx=>x.2,λ_=>by simp[PyData.depth],λx y=>by simp[PyData.eqv,ya]⟩
def aPi(K:μ)(b:Bool):R2:=λx y H Q=>∃(c:Type)(e:Enc c)(a:c)(bs:ε c),DV K H x (e.d a)/\DV K H y (.tuple<|bs.map e.d)/\∀k:Bool,(k=true↔a∈bs)->Q (.bl<|if b then !k else k) H
section
variable{X:Cx}{K:μ}
theorem aDs(b:X.K=K)(k:X.A.units+64<cLine):lH X (compareOp .NotIn) (aPi K true):=by
 subst b;intro pins s l H x y v u Q I c d h;refine q_ λwv=>?_;obtain⟨m,e,a,bs,f,g,q⟩:=h;obtain⟨n,i⟩:=iJ I f c;obtain⟨o,j⟩:=iJ I g d;apply wv;have p:=e.depth a;have r:=e.small;exact xn j i (tW e bs).1 (e.lay a) (by lia) ⟨.bl _,H,I,rfl,q _<|Pl e a bs⟩
end
def aTn(x y:η)(Q:η->Prop):Prop:=∃(b:Type)(e:Enc b)(a:b)(bs:ε b),x=e.d a/\y= .tuple (bs.map e.d)/\∀k:Bool,(k=true↔a∈bs)->Q (.bool k)
def aHa(x y:η)(Q:η->Prop):Prop:=∃(b:Type)(e:Enc b)(a:b)(bs:ε b),x=e.d a/\y= .tuple (bs.map e.d)/\∀k:Bool,(k=true↔a∈bs)->Q (.bool !k)
section
variable{K:μ}
theorem yV:Iu K (aPi K true) aHa:=by
 rintro G H x y h i j Q b d ⟨f,e,a,bs,rfl,rfl,q⟩ k;exact⟨f,e,a,bs,b,d,λc g=>k _ _ (.bl _)<|q c g⟩
end
def Vs(K:μ)(f:ε Bool->Bool):ε V->Hp->VK->Prop:=λa H Q=>∃(p:ο)(bs:ε Bool),a=[.ref p]/\SqL K H p (bs.map V.bl)/\Q (.bl<|f bs) H
theorem wV:∀{bs:ε Bool}{a:ε ξ},Vals (bs.map V.bl) a->LSm.BoolsAre a bs
 |[],_,.nil=>.nil
 |b::bs,_,.cons r t=>by
  cases (show _=Value.bool b from r);exact .cons b<|wV t
section
variable{X:Cx}{K:μ}
theorem aUe(j:X.K=K)(k:X.calm=true):gS X (.builtin "all") (Vs K (·.all id)):=by
 subst j;intro pins s x H y z Q I r h;refine q_ λwv=>?_;obtain⟨p,bs,rfl,l,q⟩:=h;obtain⟨u,rfl,m⟩:=kD r;apply wv;cases m;obtain⟨a,n,o,B⟩:=I.list l;have f:=wV n;have c:s.heap.IsList p a.toArray:=o.isList;have d:p<s.heap.objs.size:=by obtain⟨_,e,_⟩:=c;exact bw e
 refine call_all_walk<|jl c ?_
 refine⟨s.heap.objs.size,[s.heap.objs.size,p],[s.heap.objs.size],a.toArray.size,_,_,λi=>(bs[i]?).getD true,rfl,Walks.list (A:=X.A.in1) (I.ok.hd k) _ p (gq d) a.toArray,
  ⟨⟨_,aj _ rfl,rfl,rfl⟩,c.push _⟩,λi v C D E t g=>?_,λF tk w=>?_⟩
 ·obtain⟨b,e,rfl⟩:=f.get i v (by simpa using t);simp only[e,wz]at g;exact hF g
 ·have e:((range a.toArray.size).all λi=>(bs[i]?).getD true)=bs.all id:=by
   rw[ae,f.length];exact LSm.range_all bs
  rw[e];exact⟨.bl _,H,I.kept (t':=tk)<|LSm.kept_iter w,rfl,q⟩
end
def aNk(b:ε η)(Q:η->Prop):Prop:=match b with
 |[.list bs]=>∃a:ε Bool,bs=a.map PyData.bool/\Q (.bool<|a.all id)
 |_=>Ε
section
variable{K:μ}
theorem zU:∀{a:ε Bool}{b:ε V},DVs K H b (a.map PyData.bool)->b=a.map V.bl
 |[],_,.nil=>rfl
 |k::a,_,.cons h t=>by rw[mO h,zU t];rfl
theorem Vm:RCb K (Vs K (·.all id)) aNk:=by
 intro G H g h i Q c q k;unfold aNk at q;split at q
 ·obtain⟨d,rfl,q⟩:=q;obtain⟨x,rfl,e⟩:=xS c;obtain⟨a,j,rfl,b,f⟩:=eG e;rw[zU f]at b;exact⟨a,d,rfl,b,k _ _ (.bl _) q⟩
 ·exact q.elim
end
theorem boot_all:bootBuiltins "all"=γ (.builtin "all"):=by decide +kernel
def aQo(n:ν)(a:DGs)(d:η)(c:bF)(Q:bF->Prop):Prop:=match d with
 | .list b=>b.length=n/\a b c Q
 |_=>Ε
def aOq:TS:=λ_ _ _=>Ε
theorem sG{st:Stmt}:PS X st aOq:=λ_ _ _ _ _ _ h=>h.elim
def aMl:DS:=λ_ _=>Ε
theorem yK{K:μ}:iB K a E aOq aMl:=λ_ _ _ _ _ _ _ _ q _=>q.elim
local macro_rules|`(tactic|walk_at"o")=>`(tactic|first|exact 50|(refine(λ(h:@Eq ν _ _)=>?_);lia))
abbrev eL(h:ei)(T:ο)(a b c:ξ):Prop:=h.get? T=γ {cls:=.type "tuple",data:=.seq #[a,b,c]}
theorem wZ(a b c:ξ):checkTypeCall "zip" ⟨[a,b,c],[]⟩=pure ():=by kernel_rfl
theorem Bt(a b c:ξ):checkBuiltinCall "zip.__new__" ⟨[.type "zip",a,b,c],[]⟩=pure ():=by kernel_rfl
theorem Lj(a b c d:ξ):argsOk "object.__init__" ⟨[a,b,c,d],[]⟩:=by
 unfold argsOk;rw[signature?_of (id:="object.__init__") (n:=['_','_','t','i','n','i','_','_']) (o:=['t','c','e','j','b','o']) (by kernel_rfl) F.owner_object];kernel_rfl
section
variable{prog:Program}{w:gb}{A:Around}{E:ξ->Ζ->Prop}{s:Ζ}
theorem pF(e:eL s.heap T a b c)
  (h:∀d,d.get? T=γ {cls:=.type "tuple",data:=.seq<|(#[a,b,c]:Array ξ).setIfInBounds k x}->SameBut T s.heap d->Q () {s with heap:=d}):
  Φ (model prog w) A (updateSeq T (·.setIfInBounds k x)) Q E s:=by
 refine yb e rfl<|h _ ?_<|SameBut.update ..;rw[qi _ e rfl];simp[Obj.mapSeq]
theorem Po{Q:ξ->Ζ->Prop}(L1:F<n)(L2:J<n)(L3:N<n)
  (P:IsZip s.heap (n+5) (n+3) (n+4) .none) (Z:eL s.heap (n+3) (.ref n) (.ref<|n+1)<|.ref<|n+2) (a0:eL s.heap (n+4) a b c)
  (h1:s.heap.IsListIter n F k) (h2:s.heap.IsListIter (n+1) J k) (h3:s.heap.IsListIter (n+2) N k) (g1:s.heap.IsList F xs) (g2:s.heap.IsList J ys) (g3:s.heap.IsList N zs)
  (hx:xs[k]? =γ x) (hy:ys[k]? =γ y) (hv:zs[k]? =γ v)
  (hQ:∀K,IsZip K (n+5) (n+3) (n+4) (rawInt s.heap.objs.size)->eL K (n+4) x y v->K.IsListIter n F (k+1)->K.IsListIter (n+1) J (k+1)->K.IsListIter (n+2) N (k+1)->eL K s.heap.objs.size x y v ->
   (∀(d:ν) o,d∉([n,n+1,n+2,n+4,n+5]:ε ν)->s.heap.get? d=γ o->K.get? d=γ o)->Q (.ref s.heap.objs.size) {s with heap:=K}):
  Φ (model prog w) A (Builtin.«zip.__next__» ⟨[.ref<|n+5],[]⟩) (λa6 s'=>∃v,a6= .done (.ret v)/\Q v s') E s:=by
 show Φ _ _ (field (.ref<|n+5) 2>>=_) _ _ _;refine π<|gu P rfl (x:=.bool false) rfl ?_;show Φ _ _ (field (.ref<|n+5) 3>>=_) _ _ _;refine π<|gu P rfl (x:=.ref<|n+3) rfl ?_;refine π<|ih Z rfl ?_;show Φ _ _ (Builtin.SmallTypes.ownedTupleIsFree (.ref<|n+5)>>=_) _ _ _;refine π ?_;unfold Builtin.SmallTypes.ownedTupleIsFree;refine π<|gu P rfl (x:=.none) rfl<|Ψ ?_;simp only[jz];refine π<|yo ?_;refine π<|gu P rfl (x:=.ref<|n+4) rfl ?_;refine π<|jc P (by simp) λL p B=>?_
 replace p:IsZip L (n+5) (n+3) (n+4) .ellipsis:=p
 have q1:∀(d:ν) o,d≠n+5->s.heap.get? d=γ o->L.get? d=γ o:=λd o G e=>B.extBut d o G e;refine π ?_;simp only[wR,yc,yd,y9];refine π<|π<|j9 ?_;show Φ _ _ (Builtin.SmallTypes.nextOf (.ref n)>>=_) _ _ _;refine π<|hX (h1.at λo e=>q1 n o (by walk_at"o") e) (g1.at λo e=>q1 F o (by walk_at"o") e) hx λC i1 q=>Ψ ?_;have q2:∀(d:ν) o,d≠n+5->d≠n->s.heap.get? d=γ o->C.get? d=γ o:=λd o H I e=>q.extBut d o I<|q1 d o H e;have z2:IsZip C (n+5) (n+3) (n+4) .ellipsis:=q.extBut _ _ (by walk_at"o") p;have t2:eL C (n+4) a b c:=q2 _ _ (by walk_at"o") (by walk_at"o") a0;refine π<|ih t2 rfl ?_;refine π<|pF t2 λr t3 l=>?_
 replace t3:eL r (n+4) x b c:=t3
 have q3:∀(d:ν) o,d≠n+5->d≠n->d≠n+4->s.heap.get? d=γ o->r.get? d=γ o:=λd o H I M e=>l.extBut d o M<|q2 d o H I e;have z3:IsZip r (n+5) (n+3) (n+4) .ellipsis:=l.extBut _ _ (by walk_at"o") z2;have j3:r.IsListIter n F (k+1):=i1.at λo e=>l.extBut n o (by walk_at"o") e;refine π<|pj<|Ψ ?_;refine π<|π<|j9 ?_;show Φ _ _ (Builtin.SmallTypes.nextOf (.ref<|n+1)>>=_) _ _ _;refine π<|hX (h2.at λo e=>q3 (n+1) o (by walk_at"o") (by walk_at"o") (by walk_at"o") e) (g2.at λo e=>q3 J o (by walk_at"o") (by walk_at"o") (by walk_at"o") e) hy λt i2 i=>Ψ ?_;have q4:∀(d:ν) o,d≠n+5->d≠n->d≠n+4->d≠n+1->s.heap.get? d=γ o->t.get? d=γ o:=λd o H I M O e=>i.extBut d o O<|q3 d o H I M e;have z4:IsZip t (n+5) (n+3) (n+4) .ellipsis:=i.extBut _ _ (by walk_at"o") z3;have j4:t.IsListIter n F (k+1):=j3.at λo e=>i.extBut n o (by walk_at"o") e;have t4:eL t (n+4) x b c:=i.extBut _ _ (by walk_at"o") t3;refine π<|ih t4 rfl ?_;refine π<|pF t4 λm t5 j=>?_
 replace t5:eL m (n+4) x y c:=t5
 have q5:∀(d:ν) o,d≠n+5->d≠n->d≠n+4->d≠n+1->s.heap.get? d=γ o->m.get? d=γ o:=λd o H I M O e=>j.extBut d o M<|q4 d o H I M O e;have z5:IsZip m (n+5) (n+3) (n+4) .ellipsis:=j.extBut _ _ (by walk_at"o") z4;have j5:m.IsListIter n F (k+1):=j4.at λo e=>j.extBut n o (by walk_at"o") e;have m5:m.IsListIter (n+1) J (k+1):=i2.at λo e=>j.extBut (n+1) o (by walk_at"o") e;refine π<|pj<|Ψ ?_;refine π<|π<|j9 ?_;show Φ _ _ (Builtin.SmallTypes.nextOf (.ref<|n+2)>>=_) _ _ _;refine π<|hX (h3.at λo e=>q5 (n+2) o (by walk_at"o") (by walk_at"o") (by walk_at"o") (by walk_at"o") e) (g3.at λo e=>q5 N o (by walk_at"o") (by walk_at"o") (by walk_at"o") (by walk_at"o") e) hv λu i3 g=>Ψ ?_;have z6:IsZip u (n+5) (n+3) (n+4) .ellipsis:=g.extBut _ _ (by walk_at"o") z5;have j6:u.IsListIter n F (k+1):=j5.at λo e=>g.extBut n o (by walk_at"o") e;have m6:u.IsListIter (n+1) J (k+1):=m5.at λo e=>g.extBut (n+1) o (by walk_at"o") e;have t6:eL u (n+4) x y c:=g.extBut _ _ (by walk_at"o") t5;refine π<|ih t6 rfl ?_;refine π<|pF t6 λf W h=>?_
 replace W:eL f (n+4) x y v:=W
 have z7:IsZip f (n+5) (n+3) (n+4) .ellipsis:=h.extBut _ _ (by walk_at"o") z6;have j7:f.IsListIter n F (k+1):=j6.at λo e=>h.extBut n o (by walk_at"o") e;have m7:f.IsListIter (n+1) J (k+1):=m6.at λo e=>h.extBut (n+1) o (by walk_at"o") e;have p7:f.IsListIter (n+2) N (k+1):=i3.at λo e=>h.extBut (n+2) o (by walk_at"o") e;have q7:∀(d:ν) o,d∉([n,n+1,n+2,n+4,n+5]:ε ν)->s.heap.get? d=γ o->f.get? d=γ o:=λd o G e=>by
  simp only[Ω,cn,ft,AC]at G;obtain⟨H,I,M,O,a5⟩:=G;exact h.extBut d o O<|g.extBut d o M<|q5 d o a5 H O I e
 refine π<|pj<|Ψ<|Ψ ?_;refine π<|ih W rfl ?_;refine π<|wpAny_newTuple ?_;have R:f.objs.size=s.heap.objs.size:=by rw[h.1,g.1,j.1,i.1,l.1,q.1,B.1]
 have lz:n+5<f.objs.size:=bw z7;show Φ _ _ (Builtin.SmallTypes.ownedTupleHandOut (.ref<|n+5) (.ref f.objs.size)>>=_) _ _ _;refine π ?_;unfold Builtin.SmallTypes.ownedTupleHandOut;have z8:IsZip (f.push {cls:=.type "tuple",data:=.seq #[x,y,v]}) (n+5) (n+3) (n+4) .ellipsis:=Λ _ z7;refine π<|jc z8 (by simp) λS z9 D=>?_
 replace z9:IsZip S (n+5) (n+3) (n+4) (rawInt f.objs.size):=z9
 refine jc z9 (by simp) λX Y T=>?_
 replace Y:IsZip X (n+5) (n+3) (n+4) (rawInt f.objs.size):=Y
 have U:∀(d:ν) o,d≠n+5->f.get? d=γ o->X.get? d=γ o:=λd o G e=>T.extBut d o G<|D.extBut d o G<|Λ _ e;have tA:eL X f.objs.size x y v:=T.extBut _ _ (by walk_at"o")<|D.extBut _ _ (by walk_at"o")<|aj _ rfl;rw[R]at Y tA;refine Ψ ⟨_,rfl,?_⟩;show Q (.ref f.objs.size) _;rw[R];exact hQ X Y (U _ _ (by walk_at"o") W) (j7.at λo e=>U n o (by walk_at"o") e) (m7.at λo e=>U (n+1) o (by walk_at"o") e) (p7.at λo e=>U (n+2) o (by walk_at"o") e) tA λd o G e=>U d o (λz=>G<|by simp[z])<|q7 d o G e
theorem Sq(W:A.handled=none)(L1:D<n)(L2:F<n)(L3:M<n)
  (H:IsZip s.heap (n+5) (n+3) (n+4) .none) (X:eL s.heap (n+3) (.ref n) (.ref<|n+1)<|.ref<|n+2) (Y:eL s.heap (n+4) a b c)
  (h1:s.heap.IsListIter n D k) (h2:s.heap.IsListIter (n+1) F k) (h3:s.heap.IsListIter (n+2) M k) (g1:s.heap.IsList D N) (g2:s.heap.IsList F O) (g3:s.heap.IsList M U)
  (I:N[k]? =none\/O[k]? =none\/U[k]? =none)
  (Z:∀h' e,(∀(d:ν) o,d∉([n,n+1,n+2,n+4,n+5]:ε ν)->s.heap.get? d=γ o->h'.get? d=γ o)->(∃o,h'.get? e=γ o/\o.cls= .type "StopIteration")->E (.ref e) {s with heap:=h'}):
  Φ (model prog w) A (Builtin.«zip.__next__» ⟨[.ref<|n+5],[]⟩) Q E s:=by
 show Φ _ _ (field (.ref<|n+5) 2>>=_) _ _ _;refine π<|gu H rfl (x:=.bool false) rfl ?_;show Φ _ _ (field (.ref<|n+5) 3>>=_) _ _ _;refine π<|gu H rfl (x:=.ref<|n+3) rfl ?_;refine π<|ih X rfl ?_;show Φ _ _ (Builtin.SmallTypes.ownedTupleIsFree (.ref<|n+5)>>=_) _ _ _;refine π ?_;unfold Builtin.SmallTypes.ownedTupleIsFree;refine π<|gu H rfl (x:=.none) rfl<|Ψ ?_;simp only[jz];refine π<|yo ?_;refine π<|gu H rfl (x:=.ref<|n+4) rfl ?_;refine π<|jc H (by simp) λr p z=>?_
 replace p:IsZip r (n+5) (n+3) (n+4) .ellipsis:=p
 have P:∀(d:ν) o,d≠n+5->s.heap.get? d=γ o->r.get? d=γ o:=λd o m e=>z.extBut d o m e;have stop:∀(g:ei)(e:ο),IsZip g (n+5) (n+3) (n+4) .ellipsis->(∀(d:ν) o,d∉([n,n+1,n+2,n+4,n+5]:ε ν)->s.heap.get? d=γ o->g.get? d=γ o)->(∃o,g.get? e=γ o/\o.cls= .type "StopIteration") ->
   ∀(R:Unit->Ζ->Prop),(∀f:ei,(∀(d:ν) o,d∉([n,n+1,n+2,n+4,n+5]:ε ν)->s.heap.get? d=γ o->f.get? d=γ o)->(∃o,f.get? e=γ o/\o.cls= .type "StopIteration")->R () {s with heap:=f})->∀E',Φ (model prog w) A (setField (.ref<|n+5) 0 .none) R E' {s with heap:=g}:=λg e S k2 ⟨oe,ho,hc⟩ R hR E'=>by
  have ne:e≠n+5:=λx=>by
   subst x;rw[S]at ho;cases ho;simp at hc
  refine jc S (by simp) λf _ j=>hR f (λd o m x=>j.extBut d o (λy=>m<|by simp[y])<|k2 d o m x) ⟨oe,j.extBut _ _ ne ho,hc⟩
 refine π ?_;simp only[wR,yc,yd,y9];refine π<|π<|j9 ?_;show Φ _ _ (Builtin.SmallTypes.nextOf (.ref n)>>=_) _ _ _;have b1:r.IsListIter n D k:=h1.at λo e=>P n o (by walk_at"o") e;have b2:r.IsList D N:=g1.at λo e=>P D o (by walk_at"o") e;cases hx:N[k]? with
 |none=>
  refine π<|ma W b1 b2 hx λg e l J=>?_;refine stop g e (l _ _ (by walk_at"o") p) (λd o m x=>?_) J _ (λf k3 e3=>Z f e k3 e3) _;simp only[Ω,cn,ft,AC]at m;exact l d o m.1<|P d o m.2.2.2.2 x
 |some x=>
  refine π<|hX b1 b2 hx λg i1 l=>Ψ ?_;have q2:∀(d:ν) o,d≠n+5->d≠n->s.heap.get? d=γ o->g.get? d=γ o:=λd o B C e=>l.extBut d o C<|P d o B e;have S:IsZip g (n+5) (n+3) (n+4) .ellipsis:=l.extBut _ _ (by walk_at"o") p;have t2:eL g (n+4) a b c:=q2 _ _ (by walk_at"o") (by walk_at"o") Y;refine π<|ih t2 rfl ?_;refine π<|pF t2 λf t3 j=>?_
  replace t3:eL f (n+4) x b c:=t3
  have T:∀(d:ν) o,d≠n+5->d≠n->d≠n+4->s.heap.get? d=γ o->f.get? d=γ o:=λd o B C G e=>j.extBut d o G<|q2 d o B C e;have z3:IsZip f (n+5) (n+3) (n+4) .ellipsis:=j.extBut _ _ (by walk_at"o") S;refine π<|pj<|Ψ ?_;refine π<|π<|j9 ?_;show Φ _ _ (Builtin.SmallTypes.nextOf (.ref<|n+1)>>=_) _ _ _;have c1:f.IsListIter (n+1) F k:=h2.at λo e=>T (n+1) o (by walk_at"o") (by walk_at"o") (by walk_at"o") e;have c2:f.IsList F O:=g2.at λo e=>T F o (by walk_at"o") (by walk_at"o") (by walk_at"o") e;cases hy:O[k]? with
  |none=>
   refine π<|ma W c1 c2 hy λq e i J=>?_;refine stop q e (i _ _ (by walk_at"o") z3) (λd o m x=>?_) J _ (λt k5 e5=>Z t e k5 e5) _;simp only[Ω,cn,ft,AC]at m;exact i d o m.2.1<|T d o m.2.2.2.2 m.1 m.2.2.2.1 x
  |some y=>
   have hv:U[k]? =none:=by
    rcases I with h|h|h
    ·rw[hx]at h;cases h
    ·rw[hy]at h;cases h
    ·exact h
   refine π<|hX c1 c2 hy λq i2 i=>Ψ ?_;have q4:∀(d:ν) o,d≠n+5->d≠n->d≠n+4->d≠n+1->s.heap.get? d=γ o->q.get? d=γ o:=λd o B C G a4 e=>i.extBut d o a4<|T d o B C G e;have z4:IsZip q (n+5) (n+3) (n+4) .ellipsis:=i.extBut _ _ (by walk_at"o") z3;have t4:eL q (n+4) x b c:=i.extBut _ _ (by walk_at"o") t3;refine π<|ih t4 rfl ?_;refine π<|pF t4 λt t5 u=>?_;have q5:∀(d:ν) o,d≠n+5->d≠n->d≠n+4->d≠n+1->s.heap.get? d=γ o->t.get? d=γ o:=λd o B C G a4 e=>u.extBut d o G<|q4 d o B C G a4 e;have z5:IsZip t (n+5) (n+3) (n+4) .ellipsis:=u.extBut _ _ (by walk_at"o") z4;refine π<|pj<|Ψ ?_;refine π<|π<|j9 ?_;show Φ _ _ (Builtin.SmallTypes.nextOf (.ref<|n+2)>>=_) _ _ _;refine π<|ma W (h3.at λo e=>q5 (n+2) o (by walk_at"o") (by walk_at"o") (by walk_at"o") (by walk_at"o") e) (g3.at λo e=>q5 M o (by walk_at"o") (by walk_at"o") (by walk_at"o") (by walk_at"o") e) hv λK e v J=>?_;refine stop K e (v _ _ (by walk_at"o") z5) (λd o m x=>?_) J _ (λL k7 e7=>Z L e k7 e7) _;simp only[Ω,cn,ft,AC]at m;exact v d o m.2.2.1<|q5 d o m.2.2.2.2 m.1 m.2.2.2.1 m.2.1 x
theorem vS(t:f<n)(u:g<n)(z:h<n)
  (q:IsZip s.heap (n+5) (n+3) (n+4) .none) (i:eL s.heap (n+3) (.ref n) (.ref<|n+1)<|.ref<|n+2) (j:eL s.heap (n+4) a b c)
  (B:s.heap.IsListIter n f k) (C:s.heap.IsListIter (n+1) g k) (D:s.heap.IsListIter (n+2) h k) (G:s.heap.IsList f l) (H:s.heap.IsList g m) (I:s.heap.IsList h p)
  (J:l[k]? =γ x) (K:m[k]? =γ y) (L:p[k]? =γ v)
  (M:∀e,IsZip e (n+5) (n+3) (n+4) (rawInt s.heap.objs.size)->eL e (n+4) x y v->e.IsListIter n f (k+1)->e.IsListIter (n+1) g (k+1)->e.IsListIter (n+2) h (k+1)->eL e s.heap.objs.size x y v ->
   (∀(d:ν) o,d∉([n,n+1,n+2,n+4,n+5]:ε ν)->s.heap.get? d=γ o->e.get? d=γ o)->Q (γ (.ref s.heap.objs.size)) {s with heap:=e}):
  Φ (model prog w) A (pyNext<|.ref<|n+5) Q E s:=by
 have r:s.TypeIs (.ref<|n+5) "zip":=⟨_,q,rfl⟩;unfold pyNext
 exact π (zh (qo (name:=ζ "__next__") r my
  (w4 my r w8
   (Po t u z q i j B C D G H I J K L λe N O P R S T U=>Ψ (M e N O P R S T U)) (vA _))))
theorem xI(v:A.handled=none)(x:g<n)(y:h<n)(z:i<n)
  (t:IsZip s.heap (n+5) (n+3) (n+4) .none) (j:eL s.heap (n+3) (.ref n) (.ref<|n+1)<|.ref<|n+2) (l:eL s.heap (n+4) a b c)
  (B:s.heap.IsListIter n g k) (C:s.heap.IsListIter (n+1) h k) (D:s.heap.IsListIter (n+2) i k) (G:s.heap.IsList g p) (H:s.heap.IsList h q) (I:s.heap.IsList i r)
  (f:p[k]? =none\/q[k]? =none\/r[k]? =none)
  (J:∀m,(∀(d:ν) o,d∉([n,n+1,n+2,n+4,n+5]:ε ν)->s.heap.get? d=γ o->m.get? d=γ o)->Q none {s with heap:=m}):Φ (model prog w) A (pyNext<|.ref<|n+5) Q E s:=by
 have u:s.TypeIs (.ref<|n+5) "zip":=⟨_,t,rfl⟩;unfold pyNext
 refine π (zh (qo (name:=ζ "__next__") u my
  (w4 my u w8 (Sq v x y z t j l B C D G H I f λm e K L=>?_) (vA _))))
 obtain⟨o,M,N⟩:=L;refine π<|wpAny_isInstance (T:="StopIteration") (b:=true) ⟨o,M,N⟩ isSubtype_stop ?_;exact Ψ<|J _ K
end
noncomputable abbrev z3a(h:ei)(a:ο):ei:=h.push {cls:=.type "list_iterator",data:=.fields #[.ref a,.int 0 0]}
noncomputable abbrev z3b(h:ei)(a b:ο):ei:=(z3a h a).push {cls:=.type "list_iterator",data:=.fields #[.ref b,.int 0 0]}
noncomputable abbrev z3c(h:ei)(a b c:ο):ei:=(z3b h a b).push {cls:=.type "list_iterator",data:=.fields #[.ref c,.int 0 0]}
noncomputable abbrev z3d(h:ei)(a b c:ο):ei:=(z3c h a b c).push {cls:=.type "tuple",data:=.seq #[.ref h.objs.size,.ref (z3a h a).objs.size,.ref (z3b h a b).objs.size]}
noncomputable abbrev z3e(h:ei)(a b c:ο):ei:=(z3d h a b c).push {cls:=.type "tuple",data:=.seq #[.none,.none,.none]}
noncomputable abbrev z3f(h:ei)(a b c:ο):ei:=(z3e h a b c).push {cls:=.type "zip",data:=.fields #[.none,.bool false,.bool false,.ref (z3c h a b c).objs.size,.ref (z3d h a b c).objs.size]}
theorem Jy(a b c:ο)(o p q:Array ξ):
  Meets (Builtin.«zip.__new__» ⟨[.type "zip",.ref a,.ref b,.ref c],[]⟩) (λ_ R s=>s.heap.IsList a o/\s.heap.IsList b p/\s.heap.IsList c q/\
   R (.ok (.ret (.ref (z3e s.heap a b c).objs.size))) {s with heap:=z3f s.heap a b c}):=
 .of_wp λprog w A R s h=>by
  refine q_ λwv=>?_;obtain⟨e,g,d,tk,f⟩:=s;obtain⟨i,j,k,h⟩:=h;apply wv;have r:=sub_zip;have l:IsList (Shared.heap ⟨e,g,d,tk,f⟩) a o:=i;have m:IsList (Shared.heap ⟨z3a e a,g,d,tk,f⟩) b p:=IsList.push j _;have n:IsList (Shared.heap ⟨z3b e a b,g,d,tk,f⟩) c q:=IsList.push (IsList.push k _) _
  wp_walk using jl l,jl m,jl n
  exact⟨_,rfl,h⟩
section
variable{prog:Program}{w:gb}{A:Around}{E:ξ->Ζ->Prop}{s:Ζ}
theorem Rz(i:s.heap.IsList b u)(j:s.heap.IsList d v)(k:s.heap.IsList f y)
  (h:∀(g:ei)(n:ν),n=s.heap.objs.size->IsZip g (n+5) (n+3) (n+4) .none->eL g (n+3) (.ref n) (.ref (n+1)) (.ref (n+2))->eL g (n+4) .none .none .none->g.IsListIter n b 0->g.IsListIter (n+1) d 0->g.IsListIter (n+2) f 0 ->
   (∀c o,s.heap.get? c=γ o->g.get? c=γ o)->Q (.ref (n+5)) {s with heap:=g}):
  Φ (model prog w) A (call (.type "zip") [.ref b,.ref d,.ref f]) Q E s:=by
 refine callType_new F.called_zip (by decide) (wZ _ _ _) (Bt _ _ _) (λl=>Lj l _ _ _) F.entry_zip_new (Jy b d f u v y) ⟨i,j,k,?_⟩;have m:(z3a s.heap b).objs.size=s.heap.objs.size+1:=nt ..;have p:(z3b s.heap b d).objs.size=s.heap.objs.size+2:=by rw[nt,m]
 have q:(z3c s.heap b d f).objs.size=s.heap.objs.size+3:=by rw[nt,p]
 have r:(z3d s.heap b d f).objs.size=s.heap.objs.size+4:=by rw[nt,q]
 have z:(z3e s.heap b d f).objs.size=s.heap.objs.size+5:=by rw[nt,r]
 have a:∀(h:ei)(o:Obj){c:ο}{x:Obj},h.get? c=γ x->(h.push o).get? c=γ x:=λh o c x e=>Λ _ e;have t:(z3f s.heap b d f).get? (z3e s.heap b d f).objs.size=γ _:=aj _ rfl;have B:(z3f s.heap b d f).get? (z3d s.heap b d f).objs.size=γ _:=a _ _<|aj _ rfl;have C:(z3f s.heap b d f).get? (z3c s.heap b d f).objs.size=γ _:=a _ _<|a _ _<|aj _ rfl;have D:(z3f s.heap b d f).get? (z3b s.heap b d).objs.size=γ _:=a _ _<|a _ _<|a _ _<|aj _ rfl;have G:(z3f s.heap b d f).get? (z3a s.heap b).objs.size=γ _:=a _ _<|a _ _<|a _ _<|a _ _<|aj _ rfl;have H:(z3f s.heap b d f).get? s.heap.objs.size=γ _:=a _ _<|a _ _<|a _ _<|a _ _<|a _ _<|aj _ rfl;show _/\_;rw[z,q,r]at t;rw[q,m,p]at C;rw[r]at B;rw[p]at D;rw[m]at G;rw[z];exact⟨⟨_,t,rfl⟩,h _ _ rfl t C B ⟨_,H,rfl,rfl⟩ ⟨_,G,rfl,rfl⟩ ⟨_,D,rfl,rfl⟩ λc o x=>a _ _<|a _ _<|a _ _<|a _ _<|a _ _<|a _ _ x⟩
end
def aBg(K:μ)(a b c:ο):It:=
 ⟨λi H=>∃d e f,SqL K H a d/\SqL K H b e/\SqL K H c f/\i<d.length/\i<e.length/\i<f.length,
  λi H x g=>∃T u v t,x= .ref T/\H T=none/\g=dP H T (.tup [u,v,t])/\(∀d,SqL K H a d->d[i]? =γ u)/\(∀e,SqL K H b e->e[i]? =γ v)/\∀f,SqL K H c f->f[i]? =γ t,
  λi H=>∃d e f,SqL K H a d/\SqL K H b e/\SqL K H c f/\(d.length<=i\/e.length<=i\/f.length<=i)⟩
theorem Ad(d:Vals a b)(h:i<a.length):∃u x,a[i]? =γ u/\b.toArray[i]? =γ x/\RelV u x:=by
 have c:a[i]? =γ a[i]:=Ι h;obtain⟨x,e,f⟩:=d.get c;exact⟨_,x,c,by simpa using e,f⟩
theorem aGd{n b:ν}:b∈[n,n+1,n+2,n+4,n+5]->b∈[n+5,n+3,n+4,n,n+1,n+2]:=by
 simp only[Ω,cn,ft];rintro(e|e|e|e|e) <;>simp only[e,true_or,or_true]
theorem aTa{n b:ν}(h:b∈[n+5,n+3,n+4,n,n+1,n+2]):b<=n+5:=by
 simp only[Ω,cn,ft]at h;rcases h with e|e|e|e|e|e <;>rw[e] <;>first|exact Η _|exact Nat.add_le_add_left (by decide) _|exact qp _ _
theorem z3n{n a b:ν}(h:a≠b:=by decide):n+a≠n+b:=λe=>h<|Nat.add_left_cancel e
theorem aSz{n:ν}:n+3∉[n,n+1,n+2,n+4,n+5]:=by simp
theorem Pt{K:μ}(L1:Z<n)(L2:l2<n)(L3:l3<n):
  Turn P w K (.Tuple elts k Y) (aBg K Z l2 l3) [n+5,n+3,n+4,n,n+1,n+2] (n+5) (λi h=>IsZip h (n+5) (n+3) (n+4) .none/\eL h (n+3) (.ref n) (.ref<|n+1) (.ref<|n+2)/\(∃a b c,eL h (n+4) a b c)/\h.IsListIter n Z i/\h.IsListIter (n+1) l2 i/\h.IsListIter (n+2) l3 i) where
 mem:=by simp
 obj:=λi h st=>by
  refine q_ λwv=>?_;obtain⟨m,d,⟨x,y,t,f⟩,⟨o1,e1,_,d1⟩,⟨o2,e2,_,d2⟩,⟨o3,e3,_,d3⟩⟩:=st;apply wv;exact ax.2 ⟨⟨_,m,λv q=>nomatch q⟩,ax.2 ⟨⟨_,d,λv q=>nomatch q⟩,ax.2 ⟨⟨_,f,λv q=>nomatch q⟩,ax.2 ⟨⟨o1,e1,λv q=>nomatch d1.symm.trans q⟩,ax.2 ⟨⟨o2,e2,λv q=>nomatch d2.symm.trans q⟩,ax.2 ⟨⟨o3,e3,λv q=>nomatch d3.symm.trans q⟩,λ_ h=>nomatch h⟩⟩⟩⟩⟩⟩
 keep:=λi h R st A=>by
  refine q_ λwv=>?_;obtain⟨m,d,⟨x,y,t,f⟩,B,C,D⟩:=st;apply wv;exact⟨A _ (by simp) _ m,A _ (by simp) _ d,⟨x,y,t,A _ (by simp) _ f⟩,B.at λo e=>A _ (by simp) o e,C.at λo e=>A _ (by simp) o e,D.at λo e=>A _ (by simp) o e⟩
 item:=by
  intro X hP hw hK hc i pins s σ H E I F st hg;subst hP hw hK;refine zq_ λkq=>?_;refine q_ λwv=>?_;obtain⟨xs,ys,zs,S,T,U,g1,g2,g3⟩:=hg;obtain⟨G,p,p1,z1⟩:=I.list S;obtain⟨J,r,p2,z2⟩:=I.list T;obtain⟨L,z,p3,z3⟩:=I.list U;obtain⟨m,d,⟨x0,y0,t0,f⟩,B,C,D⟩:=st;obtain⟨u,x,e1,f1,r1⟩:=Ad p g1;obtain⟨v,y,e2,f2,r2⟩:=Ad r g2;obtain⟨t,c,e3,f3,r3⟩:=Ad z g3;apply wv;apply kq;refine vS L1 L2 L3 m d f B C D p1.isList p2.isList p3.isList f1 f2 f3 λR a0 M i1 i2 i3 hT kk=>?_;refine⟨_,rfl,wpAny_letOwnedTupleGo_zip a0 λN a1 j=>?_⟩;have fw:∀b∈[n,n+1,n+2,n+4,n+5],lI X pins H b:=λb l=>F b<|aGd l;have I1:Inv X pins σ H {s with heap:=R}:=dE (t':=s.toks) I kk fw;have I2:Inv X pins σ H {s with heap:=N}:=dE (s:={s with heap:=R}) (t':=s.toks) (ws:=[n+5]) I1 (λb o l e=>j.extBut b o (λe=>l<|Υ.2 e) e) λb l=>F b<|Υ.1 l▸Κ;have O:n+5<s.heap.objs.size:=bw m;have a2:N.IsTuple s.heap.objs.size #[x,y,c]:=⟨_,j.extBut _ _ (wk O) hT,rfl,_,rfl⟩;have fT:lI X pins H s.heap.objs.size:=I.fpOk (Η _)<|I.hok.fresh<|Η _;have I3:=Ca (xs:=[u,v,t]) (its:=[x,y,c]) I2 fT I.sz a2 (.cons r1<|.cons r2<|.cons r3 .nil)<|bu<|bQ (by show 3<=1000;decide);refine⟨.ref s.heap.objs.size,dP H s.heap.objs.size<|.tup [u,v,t],I3,rfl,⟨_,u,v,t,rfl,fT.1,rfl,λa3 h=>by rw[I.list_inj h S];exact e1,λa4 h=>by rw[I.list_inj h T];exact e2,λa5 h=>by rw[I.list_inj h U];exact e3⟩,⟨a1,?_,⟨x,y,c,j.extBut _ _ z3n M⟩,i1.at λo e=>j.extBut _ o (z3n (a:=0)) e,i2.at λo e=>j.extBut _ o z3n e,i3.at λo e=>j.extBut _ o z3n e⟩,λb l=>?_⟩
  ·refine j.extBut _ _ z3n<|kk _ _ aSz d
  ·rw[aV]
   ·exact(F b l).1
   ·exact gq<|eh (aTa l) O
 done:=by
  intro X hP hw hK hc i pins s σ H E I F st hg;subst hP hw hK;refine zq_ λkq=>?_;refine q_ λwv=>?_;obtain⟨xs,ys,zs,S,T,U,g⟩:=hg;obtain⟨G,p,p1,z1⟩:=I.list S;obtain⟨J,r,p2,z2⟩:=I.list T;obtain⟨L,z,p3,z3⟩:=I.list U;obtain⟨m,d,⟨x0,y0,t0,f⟩,B,C,D⟩:=st;apply wv;have M1:=p.length;have M2:=r.length;have M3:=z.length;apply kq;refine xI (I.ok.hd hc) L1 L2 L3 m d f B C D p1.isList p2.isList p3.isList ?_ λR hk=>⟨rfl,?_⟩
  ·rcases g with g|g|g
   ·exact .inl (by simp;lia)
   ·exact .inr<|.inl (by simp;lia)
   ·exact .inr<|.inr (by simp;lia)
  ·exact dE (t':=s.toks) I hk λb l=>F b<|aGd l
 self:=λ_ _ _ _ _ st h=>mh st.1 h
section
variable{X:Cx}{K:μ}
def aHk(K:μ)(t:TA):TI:=λe H R=>t e H λf d=>∃a b c,f=[.ref a,.ref b,.ref c]/\(∃g,SqL K d a g)/\(∃h,SqL K d b h)/\(∃i,SqL K d c i)/\R (aBg K a b c) d
theorem aOm(h:Vals [x,y,z] d):∃a b c,d=[a,b,c]/\RelV x a/\RelV y b/\RelV z c:=by
 cases h with
 |cons r t=>
  refine q_ λwv=>?_;obtain⟨b,c,rfl,e,f⟩:=uB t;apply wv;exact⟨_,b,c,rfl,r,e,f⟩
theorem aDd(O:X.K=K)(P:Gl X "zip")(S:X.mg "zip"=none)(T:PA X [a,b,c] y)(U:starEach [a,b,c] X.env=[(false,eval a X.env),(false,eval b X.env),(false,eval c X.env)]:=by rfl)(i:starEach [b,c] X.env=[(false,eval b X.env),(false,eval c X.env)]:=by rfl):
  PI X (.Tuple elts k f) (.Call (.Name "zip" p) [a,b,c] [] g) (aHk K y):=by
 subst O;intro pins s W H R I h;refine zo<|jH I P S Io<|dj (dQ (T g pins s W H _ I h) λus j y_=>?_) (by rw[U,i]) (by rw[i];rfl);refine q_ λW_=>?_;obtain⟨vs,Y,d,Z,q1⟩:=y_;apply W_;refine q_ λwv=>?_;obtain⟨a',b',c',e,⟨xs,g1⟩,⟨ys,g2⟩,⟨zs,g3⟩,q⟩:=q1;apply wv;subst e;refine q_ λwv=>?_;obtain⟨u,v,t,rfl,ru,rv,rt⟩:=aOm Z;apply wv;cases ru;cases rv;cases rt;refine q_ λwv=>?_;obtain⟨z,a0,A,z1⟩:=d.list g1;obtain⟨B,a4,C,z2⟩:=d.list g2;obtain⟨D,a5,E,z3⟩:=d.list g3;apply wv;have F:a'<j.heap.objs.size:=by obtain⟨_,e,_⟩:=A.isList;exact bw e
 have G:b'<j.heap.objs.size:=by obtain⟨_,e,_⟩:=C.isList;exact bw e
 have J:c'<j.heap.objs.size:=by obtain⟨_,e,_⟩:=E.isList;exact bw e
 refine Rz A.isList C.isList E.isList λh' n L M m o r w x hk=>mh M ?_;rw[<-L]at F G J;refine⟨n+5,[n+5,n+3,n+4,n,n+1,n+2],_,_,Y,rfl,d.kept (t':=j.toks) hk,Pt F G J,⟨M,m,⟨_,_,_,o⟩,r,w,x⟩,λb N=>?_,q⟩;have l:j.heap.objs.size<=b:=by
  rw[<-L];simp only[Ω,cn,ft]at N;rcases N with rfl|rfl|rfl|rfl|rfl|rfl <;>first|exact qp _ _|exact Η _
 exact d.fpOk l<|d.hok.fresh l
end
section
variable{K:μ}{H₀:Hp}{E:XK}{ta tb tc:TE}{da db dc:DE}{dl dk dm:DL}
noncomputable def triD:ε η->ε η->ε η->ε η
 |x::a,y::b,z::c=>.tuple [x,y,z]::triD a b c
 |_,_,_=>[]
theorem yH:∀(e f g:ε η)(i:ν),(∀d,(triD e f g)[i]? =γ d->∃x y z,e[i]? =γ x/\f[i]? =γ y/\g[i]? =γ z/\d= .tuple [x,y,z])/\((triD e f g).length<=i->e.length<=i\/f.length<=i\/g.length<=i)
 |[],f,g,i=>⟨λd h=>by simp[triD]at h,λ_=>.inl<|hB _⟩
 |x::e,[],g,i=>⟨λd h=>by simp[triD]at h,λ_=>.inr<|.inl<|hB _⟩
 |x::e,y::f,[],i=>⟨λd h=>by simp[triD]at h,λ_=>.inr<|.inr<|hB _⟩
 |x::e,y::f,z::g,0=>⟨λd h=>⟨x,y,z,rfl,rfl,rfl,by simpa[triD]using h.symm⟩,λh=>by simp[triD]at h⟩
 |x::e,y::f,z::g,i+1=>by
  obtain⟨j,k⟩:=yH e f g i;refine⟨λd h=>?_,λh=>?_⟩
  ·refine q_ λwv=>?_;obtain⟨a,b,c,l,m,n,o⟩:=j d (by simpa[triD]using h);apply wv;exact⟨a,b,c,by simpa using l,by simpa using m,by simpa using n,o⟩
  ·have:=k (by simpa[triD]using h);simp only[Ρ];exact 48
def Zl(dl dk dm:DL)(ex:DX)(a:bF)(Q:ε η->Prop):Prop:=dl ex a λb=>dk ex a λc=>dm ex a λd=>Q<|triD b c d
theorem aEn(s:Sub G H)(l:SqL K H a f)(m:SqL K H b g)(n:SqL K H c h)(q:DVs K G f xs)(d2:DVs K G g j)(r:DVs K G h k)(i:ν):
  (∀d,(triD xs j k)[i]? =γ d->(aBg K a b c).go i H/\∀x o,(aBg K a b c).yld i H x o->∃w,Ext G H w o/\DV K w x d)/\((triD xs j k).length<=i->(aBg K a b c).stop i H):=by
 obtain⟨J,L⟩:=yH xs j k i;refine⟨λd p=>?_,λp=>⟨f,g,h,l,m,n,?_⟩⟩
 ·refine q_ λwv=>?_;obtain⟨x,y,z,M,N,O,rfl⟩:=J d p;obtain⟨u,A,P⟩:=q.at M;obtain⟨v,B,R⟩:=d2.at N;obtain⟨t,C,S⟩:=r.at O;apply wv;refine⟨⟨f,g,h,l,m,n,(ρ.mp A).1,(ρ.mp B).1,(ρ.mp C).1⟩,λz' o y_=>?_⟩;refine q_ λW_=>?_;obtain⟨T,u',v',t',U,W,X,Y,Z,m3⟩:=y_;apply W_;subst U X;have D:=Y f l;have F:=Z g m;have I:=m3 h n;rw[A]at D;rw[B]at F;rw[C]at I;cases D;cases F;cases I;have e:=qJ (xs:=[u,v,t]) s W;exact⟨_,e,.tup (SqT.of aZ)<|.cons (cU e.g P)<|.cons (cU e.g R)<|.cons (cU e.g S) .nil⟩
 ·have:=L p;have:=q.len;have:=d2.len;have:=r.len;exact 48
theorem aEo(y:gG K H₀ E ta da)(z:gG K H₀ E tb db)(A:gG K H₀ E tc dc):IvS K H₀ E (aHk K<|dF ta<|dF tb<|dF tc iS) (Zl (wO da) (wO db)<|wO dc):=λex l m G H X R n S q k=>
 y ex l m G H _ _ n S q λv d B C h D r=>by
  cases d with
  |list Y=>
   refine z ex l m B C _ _ n (S.ext h) r λZ d2 F I f o s=>?_;cases d2 with
   |list ys=>
    refine A ex l m F I _ _ n ((S.ext h).ext f) s λv3 J L M e p t=>?_;cases J with
    |list zs=>
     refine q_ λwv=>?_;obtain⟨a,N,rfl,u,O⟩:=eG D;obtain⟨b,P,rfl,w,T⟩:=eG o;obtain⟨c,U,rfl,x,W⟩:=eG p;apply wv;refine⟨a,b,c,rfl,⟨N,e.h.seq<|f.h.seq<|h.s.same.seq u⟩,⟨P,e.h.seq<|f.s.same.seq w⟩,⟨U,e.s.same.seq x⟩,k _ _ L M ((h.trans f).trans e) (λG' H' g j i=>?_) t⟩;exact aEn j (j.same.seq<|g.seq<|e.g.seq<|f.g.seq u) (j.same.seq<|g.seq<|e.g.seq w) (j.same.seq<|g.seq x) (aU g<|aU e.g<|aU f.g O) (aU g<|aU e.g T) (aU g W) i
    |_=>exact t.elim
   |_=>exact s.elim
  |_=>exact r.elim
end
theorem Qr(o:υ η)(a:bF):gM (o.map Sl.dat::a)=gM a:=by
 cases o <;>rfl
section
variable{K:μ}{H₀:Hp}{E:XK}{te ta tb:TE}{da db de:DE}{ts:TS}{ds:DS}
def aAd(i:ν)(d:DS)(e:DEnds)(b:bF):Prop:=d {e with nx:=λa=>e.nx<|sR i a} b
theorem tL(i:ν)(h:iB K H₀ E ts ds):iB K H₀ E ts (aAd i ds):=λg j G H e D k S q L=>
 h g j G H {e with nx:=λa=>e.nx (sR i a)} D k S q ⟨λa b l d t f c=>by
  change e.nx (sR i a)at c
  unfold sR at c
  split at c
  ·rename_i r m
   obtain⟨n,o,p⟩:=f.frz m
   exact L.nx _ b n d (t.trans o) p c
  ·exact L.nx _ b l d t f c,L.rt,L.bk,L.ct⟩
end
abbrev D2:=DX->bF->(ε η->ε η->Prop)->Prop
def O2D(K:μ)(c:Hp)(E:XK)(t:TA)(d:D2):Prop:=∀ex g h G H i Q,lJ c E ex->Sees K c G g h H->d ex g i ->
 (∀a b j k l m e f,Ext G H e f->a≠b->c a=none->c b=none->e a=none->e b=none->f a=γ (.lst j)->f b=γ (.lst k)->DVs K e j l->DVs K e k m->i l m->Q [.ref a,.ref b] f)->t h H Q
def dOV(i:ν)(a:DX)(b:bF)(Q:ε η->Prop):Prop:=match slot b i with
 |some (.own c)=>Q c
 |_=>Ε
def d2(b c:DL)(ex:DX)(a:bF)(Q:ε η->ε η->Prop):Prop:=b ex a λd=>c ex a λe=>Q d e
section
variable{K:μ}{H₀:Hp}{E:XK}{ta tb:TE}{dl dk:DL}{t:TA}
theorem Wr(q:dOV i ex b Q):∃a,slot b i=γ (.own a)/\Q a:=by
 unfold dOV at q;split at q
 ·rename_i a c
  exact⟨a,c,q⟩
 ·exact q.elim
theorem aPx(j:xV K H₀ E ta dl)(l:xV K H₀ E tb dk):O2D K H₀ E (dF ta<|dF tb iS) (d2 dl dk):=λex g h G H I Q i S q k=>
 j ex g h G H _ _ i S q λa m n o p d r s e u v=>l ex g h o p _ _ i (S.ext d) v λb w x y A c f B C D F=>
  k a b m w n x y A (d.trans c) (λz=>by subst z;rw[e]at f;cases f) (S.oldH.free r) ((S.ext d).oldH.free f) (c.keep s e) B (c.h _ _ e) C (aU c.g u) D F
theorem Gk(i:ν)(g:xV K H₀ E tb dk):O2D K H₀ E (dF (fL i)<|dF tb iS) (d2 (dOV i) dk):=λex h j G H C Q l S q k=>by
 obtain⟨m,n,q⟩:=Wr q;obtain⟨a,o,p,f,d,r⟩:=S.ownAt n;refine⟨_,p,g ex h j G H _ _ l S q λb s u v w c e x y A B=>?_⟩;exact k a b o s m u v w c (λz=>by subst z;rw[d]at e;cases e) (S.old.free f) (S.oldH.free e) (c.keep f d) x (c.h _ _ d) y (aU c.g r) A B
theorem aHb(i j:ν)(d:i≠j):O2D K H₀ E (dF (fL i)<|dF (fL j) iS) (d2 (dOV i)<|dOV j):=λex w x G H y Q A S q k=>by
 refine q_ λwv=>?_;obtain⟨e,f,q⟩:=Wr q;obtain⟨g,c,q⟩:=Wr q;obtain⟨a,o,h,l,p,r⟩:=S.ownAt f;obtain⟨b,s,m,n,u,v⟩:=S.ownAt c;apply wv;exact⟨_,h,_,m,k a b o s e g G H S.refl (λz=>by subst z;exact d<|S.sep i j e g _ f c h m) (S.old.free l) (S.old.free n) l n p u r v q⟩
def Zu(d:D2)(e:DEnds)(a:bF):Prop:=d e.ex a λb c=>e.rt<|.two b c
theorem jP(h:O2D K H₀ E t d):iB K H₀ E (Je<|aIy t) (Zu d):=λn r G H e D s S q L=>
 h e.ex n r G H _ _ s S q λa b u v w x y A i g B C F I j k J M N=>by
  refine⟨bu<|bQ<|by simp,λp f=>?_⟩;have O:a≠p:=bL j f;have P:b≠p:=bL k f;have l:Same y (rm (rm (dP A p<|.tup [.ref a,.ref b]) a) b):=λc o z=>by
   have m:=i.s.same c o z;unfold rm;rw[χ<|bL z I,χ<|bL z F,aV<|bL m f];exact m
  refine L.rt (.ref p) (.two w x) _ (((S.ext i).oldH).trans λc o z=>by rw[aV<|bL z f];exact z) ⟨p,a,b,u,v,rfl,SqT.of aZ,g,B,C,?_,?_,aU l J,aU l M⟩ N
  ·rw[aV O];exact j
  ·rw[aV P];exact k
def aRj(w:DW)(dl:DL)(i j:ν)(e:DEnds)(a:bF):Prop:=dl e.ex a λb=>w b (Pq λc d=>e.nx<|put (γ<|.own d) j<|put (γ<|.own c) i a) e.ex
def aMf(w:DW)(dl:DL)(i j:ν)(e:DEnds)(a:bF):Prop:=dl e.ex a λb=>w b (Pq λc d=>e.nx<|put (γ<|.own d) j<|put (γ<|.own c) i a) λ_=>Ε
end
end Dl
namespace Lx
open PySem PySem.Spec PyProof.Rows L2
structure LcOk1(X:Cx)(scope:Scope)(x:Ξ)(cl:ε<|Ξ×ο)(cap:ε<|υ ν)(NC:ε Ξ):Prop where
 clos:closureFor scope X.env=pure cl
 kind:scope.kind= .function
 one:∀n,cellsFrom n scope.names cl=(x,n)::cl
 push:∀h,pushCells h scope.names=h.push {cls:=.type "cell",data:=.cell none}
 fresh:cl.lookup x=none
 names:∀x∈scope.names,x.2= .local->scope.names.lookup x.1=γ .local
 caps:CapsOk X scope cl cap NC
 cells:∀p∈cl,X.env.cells.lookup p.1=γ p.2
 has:∀c:ο,((relabel scope X.env).names.all λp=>(p.2 != .cell && p.2 != .free)||(((x,c)::cl).lookup p.1).isSome)=true
end Lx
namespace Dl
open PySem PySem.Spec PyProof.Rows L2 Lx
theorem Vj(r:Reads h y (.tuple [.int n,.int d]) c)(e:Reads h y (.tuple [.int a,.int b]) bs):n=a/\d=b:=by
 cases (BM r _ _ e).1;exact⟨rfl,rfl⟩
theorem sF:∀{a:ε ξ}{b:ε η}{c:ε ο}{j:ν}{u:ξ},ReadsAll h a b c->a[j]? =γ u->∃d bs,b[j]? =γ d/\Reads h u d bs
 |_,_,_,0,_,.cons r _,e=>by
  simp at e;subst e;exact⟨_,_,rfl,r⟩
 |_,_,_,j+1,_,.cons _ t,e=>by
  obtain⟨d,bs,f,g⟩:=sF (j:=j) t (by simpa using e);exact⟨d,bs,by simpa using f,g⟩
theorem pX:∀{a:ε ξ}{b:ε η}{c:ε ο},ReadsAll h a b c->a.length=b.length
 |_,_,_,.nil=>rfl
 |_,_,_,.cons _ t=>bt (·+1)<|pX t
section
variable{X:Cx}
def Aq(K:μ):V->ε V->Hp->VK->Prop:=λx c H Q=>∃(l:ο)(y:V)(b:ε V)(q:ψ)(a:ε ψ)(j:ν),x= .ref l/\c=[y]/\SqL K H l b/\DVs K H b (a.map eRat.d)/\DV K H y (eRat.d q)/\a[j]? =γ q/\(∀m,m<j->a[m]?≠γ q)/\a.length<=1000/\Q (.int (j:τ)) H
theorem Xg(hu:X.A.units+64<cLine):MtM X "list.index" (Aq X.K):=by
 intro pins s σ H x vs v us Q I S T h;refine q_ λwv=>?_;obtain⟨l,y,ws,q,t,j,rfl,rfl,U,W,Y,P,D,hlen,k⟩:=h;apply wv;cases S;refine q_ λwv=>?_;obtain⟨u,rfl,Z⟩:=T.one;obtain⟨f,r,⟨o,n,E,R,a0,g⟩,_⟩:=I.list U;obtain⟨a1,dd,data,sl⟩:=o;apply wv;simp only at R g;subst R g;obtain⟨as,G⟩:=nH I W r;obtain⟨a,hits⟩:∃a:Array ξ,f.toArray=a:=⟨_,rfl⟩;have J:a.toList=f:=by rw[<-hits]
 rw[<-J]at G;rw[hits]at E;obtain⟨bs,hY⟩:=iJ I Y Z;have hl:a.toList.length=t.length:=by rw[pX G,θ]
 have K:a.size=t.length:=by rw[<-uk];exact hl
 have L:∀m (c:m<a.size),∃p bs,t[m]? =γ p/\Reads s.heap a[m] (eRat.d p) bs:=λm c=>by
  obtain⟨d,bs,b,i⟩:=sF (j:=m) G (by rw[ry,oy c]);rw[cw]at b;cases e:t[m]? with
  |none=>rw[e]at b;cases b
  |some p=>
   rw[e]at b;cases b;exact⟨p,bs,rfl,i⟩
 have A:j<a.size:=by rw[K];exact(ρ.mp P).1
 have M:∃e:ξ->Bool,∀z,e z=true↔∃bs,Reads s.heap z (eRat.d q) bs:=by
  have:=Classical.propDecidable;exact⟨λz=>@decide (∃bs,Reads s.heap z (eRat.d q) bs) (Classical.propDecidable _),λz=>by simp⟩
 obtain⟨e,he⟩:=M;have N:∀m (c:m<a.size) p,t[m]? =γ p->(e a[m]=true↔p=q):=λm c p hp=>by
  obtain⟨p',B,b,i⟩:=L m c;rw[hp]at b;cases b;rw[he];constructor
  ·rintro⟨a2,C⟩;obtain⟨z1,z2⟩:=Vj i C;exact As z1 (by lia)
  ·rintro rfl;exact⟨_,i⟩
 refine ic v5 ⟨_,E,rfl⟩ F.entry_list_index (F.args_list_index_2 _ _)
  (SeqAt.list_indexAt l a n dd sl u e j A (by lia) ((N j A q P).mpr rfl) λm c O=>?_) ⟨E,λz hz=>?_,⟨.int (j:τ),H,I.tok _,⟨_,rfl⟩,k⟩⟩
 ·obtain⟨p,B,b,i⟩:=L m c;have:=D m O;rw[b]at this;exact vt.mpr λw=>this (by rw[(N m c p b).mp w])
 ·obtain⟨m,c,rfl⟩:=Array.getElem_of_mem hz;obtain⟨p,B,b,i⟩:=L m c
  have C:=SeqAt.eqAt_reads (eRat.d p) (eRat.d q) (X.A.in1) s a[m] u _ _ i hY (eRat.lay p) (eRat.lay q) (by
   have:=eRat.depth p
   have e1:(X.A.in1).units=X.A.units+1:=rfl
   rw[e1]
   have e2:min (eRat.d p).depth (eRat.d q).depth<=(eRat.d p).depth:=Nat.min_le_left _ _
   have e3:eRat.dep=1:=rfl
   lia)
  have e4:PyData.eqv (eRat.d p) (eRat.d q)=e a[m]:=by
   rw[ip,eRat.eqv,N m c p b]
  rw[e4]at C;exact C
end
theorem Qu{K:μ}(a:X.K=K)(b:X.A.units+64<cLine):MtM X "list.index" (Aq K):=by subst a;exact Xg b
section
variable{K:μ}{H₀:Hp}{E:XK}{te:TE}{de:DE}{dl:DL}{t:TA}{tt:TT}{dt:DT}{ts tz:TS}{ds dz:DS}
def Cr(i:ν)(de:DE)(ex:DX)(b:bF)(Q:η->Prop):Prop:=wL i ex b λc=>de ex b λd=>∃(q:ψ)(a:ε ψ)(j:ν),c=a.map eRat.d/\d=eRat.d q/\a[j]? =γ q/\(∀m,m<j->a[m]?≠γ q)/\a.length<=1000/\Q (.int (j:τ))
theorem Hy(i:ν)(h:jL K H₀ E te de):gG K H₀ E (tBM K "list" (Aq K) (fL i)<|dF te iS) (Cr i de):=λex e f G H D Q g S q k=>
 aL i ex e f G H _ _ g S q λa n F o p l m r s=>⟨.inl ⟨rfl,_,m⟩,h ex e f o p _ _ g (S.ext l) s λy d u v b w x=>by
  refine q_ λwv=>?_;obtain⟨q,z,j,rfl,rfl,A,c,B,C⟩:=x;apply wv
  exact⟨a,y,n,q,z,j,rfl,rfl,b.h.seq m,aU b.s.same (aU b.g r),w,A,c,B,k _ _ u v (l.trans b) (.int _) C⟩⟩
def Cp(w:DW)(dl:DL)(e:DEnds)(a:bF):Prop:=dl e.ex a λds=>w ds (λs=>match s with
 | .two b c=>e.rt<|.two b c
 |_=>Ε) λ_=>Ε
theorem gT(g:oY K H₀ E t dl):iB K H₀ E (Je<|iG (oV K w) [] E0 t) (Cp w dl):=λl m G H e D n S q L=>
 g e.ex l m G H _ _ n S q λi ds O P o p u=>by
  refine⟨ds,_,λ_=>Ε,by rw[eT];exact p,u,λv s j k r f=>?_,λC j k x=>x.elim⟩;have c:=(S.ext o).oldH;cases s with
  |two y z=>
   obtain⟨t,a,b,i,A,rfl,B,h,F,I,g,J,M,N⟩:=r;exact L.rt _ (.two y z) j (c.trans k) ⟨t,a,b,i,A,rfl,B,h,c.free F,c.free I,g,J,M,N⟩ f
  |dat d=>exact f.elim
  |own ds=>exact f.elim
  |exc C=>exact f.elim
  |mon R=>exact f.elim
  |fz _ _=>exact f.elim
end
abbrev IsZ(h:ei)(z TI TO:ο)(a b:ξ):Prop:=h.get? z=γ {cls:=.type "zip",dict:=none,data:=.fields #[a,b,.bool false,.ref TI,.ref TO],slots:=#[]}
section
variable{prog:Program}{w:gb}{A:Around}{E:ξ->Ζ->Prop}{s:Ζ}
structure ZSt(h:ei)(z TI TO i1 i2 l1 l2 base:ο)(i:ν)(xs ys:Array ξ):Prop where
 z:IsZ h z TI TO .none (.bool false)\/∃(T:ο)(b:Bool)(o:Obj),IsZ h z TI TO (rawInt (T:τ)) (.bool b)/\base<=T/\h.get? T=γ o
 ti:IsPair h TI (.ref i1)<|.ref i2
 to:∃a b,IsPair h TO a b
 i1:h.IsListIter i1 l1 i
 i2:h.IsListIter i2 l2 i
 l1:h.IsList l1 xs
 l2:h.IsList l2 ys
end
theorem Qz(l:ο)(items:Array ξ)(n:ν)(b:ο)(a:Array ξ)(j:ν)(c:Array<|υ ξ)(m:¬(!items.isEmpty && Builtin.List.listTooLong (items.size+a.size))=true)(hz:items.size<=sizeLine)(e:items.size+a.size<=sizeLine+1):
  Meets (Builtin.«list.extend» ⟨[.ref l,.ref b],[]⟩) (λ_ R s=>s.heap.get? l=γ {cls:=.type "list",dict:=none,data:=.seq items n,slots:=#[]}/\s.heap.get? b=γ {cls:=.type "list",dict:=none,data:=.seq a j,slots:=c}/\
   R (.ok (.ret Value.none)) {s with heap:=s.heap.update l (Obj.mapSeq λx=>x++a),toks:=s.toks}):=
 .of_wp λprog w A R s h=>by
  refine q_ λwv=>?_;obtain⟨o,g,d,tk,p⟩:=s;obtain⟨i,k,h⟩:=h;apply wv;have q:=BZ;have r:=zi;have t:=AD;have u:=zp;have v:=zq;have f:(items++a).size<=sizeLine+1:=by rw[Array.size_append];exact e
  wp_walk using(yb i rfl (hz:=hz) (_hz':=f)),ye i,ye k
  exact⟨_,rfl,h⟩
section
variable{X:Cx}{K:μ}
def Vr(K:μ):R2:=λx y H Q=>∃l b a c,x= .ref l/\y= .ref b/\SqL K H l a/\SqL K H b c/\a.length+c.length<=sizeLine/\∀p,H p=none->Q (.ref p) (dP H p<|.lst<|a++c)
theorem aDm:lH X (binaryOp .Add) (Vr X.K):=by
 intro pins s M H x y v u Q I t w h;refine q_ λwv=>?_;obtain⟨l,b,N,O,rfl,rfl,A,B,P,q⟩:=h;apply wv;cases t;cases w;refine q_ λwv=>?_;obtain⟨c,r,⟨⟨C,R,data,D⟩,n,e,f,g,i⟩,z⟩:=I.list A;obtain⟨a,j,⟨⟨k,E,data2,d⟩,G,m,o,d2,p⟩,S⟩:=I.list B;apply wv;simp only at f g i o d2 p;subst f g i o d2 p;have T:=r.length;have J:=j.length;refine concat_meets ⟨_,e,rfl⟩ ⟨_,m,rfl⟩ noFill_list_add seq_list_add F.slot_list_add F.entry_list_add (F.args_list_add_2 _ _) (list_addW l b c.toArray a.toArray n G none none D d (by simp;lia)) ⟨e,m,?_⟩;have L:c.toArray++a.toArray=(c++a).toArray:=by simp
 rw[L];exact⟨.ref _,_,I.lnew (t':=s.toks) (r.append j) (by rw[Γ];assumption),rfl,q _ I.fresh⟩
theorem aRq(h:X.K=K):lH X (binaryOp .Add) (Vr K):=by subst h;exact aDm
def Vq(K:μ):V->ε V->Hp->VK->Prop:=λx d H Q=>∃l b a c,x= .ref l/\d=[.ref b]/\H l=γ (.lst a)/\SqL K H b c/\a.length+c.length<=sizeLine/\Q .non (dP H l<|.lst<|a++c)
theorem aDw:MtM X "list.extend" (Vq X.K):=by
 intro pins s E H x G v J Q I p t h;refine q_ λwv=>?_;obtain⟨l,b,L,M,rfl,rfl,i,w,N,q⟩:=h;apply wv;cases p;obtain⟨u,rfl,y⟩:=t.one;cases y;refine q_ λwv=>?_;obtain⟨z,c,n,r,O,e⟩:=I.lstM i;obtain⟨a,j,⟨⟨k,A,data2,f⟩,B,C,m,d2,o⟩,P⟩:=I.list w;apply wv;simp only at m d2 o;subst m d2 o;have D:=j.length;have g:c.toArray.size+a.toArray.size<=sizeLine:=by rw[ae,ae];lia
 have d:¬(!c.toArray.isEmpty && Builtin.List.listTooLong (c.toArray.size+a.toArray.size))=true:=by
  rw[Gm g,Bool.and_false];exact ag
 refine ic u0 ⟨_,e,rfl⟩ F.entry_list_extend (F.args_list_extend_2 _ _) (Qz l c.toArray n b a.toArray B f d (by rw[ae];lia)<|‹50›) ⟨e,C,?_⟩;refine⟨.non,_,I.lset (its':=c++a) i e (by simp) (r.append j) ?_,rfl,q⟩;rw[Γ];exact 50
theorem aQt(h:X.K=K):MtM X "list.extend" (Vq K):=by subst h;exact aDw
end
section
variable{K:μ}{H₀:Hp}{E:XK}{te ta tb:TE}{da de:DE}{dl dk:DL}
theorem aNe(m:ν)(c:jL K H₀ E ta da):jL K H₀ E (wY (Jm K) ta<|tC<|.int (m:τ)) (aAa m da):=λex e f G H u Q g S q k=>
 c ex e f G H _ _ g S q λx h i j l n b=>by
  cases h with
  |tuple w=>
   dsimp only at b;split at b
   ·rename_i d z
    obtain⟨a,o,rfl,p,r⟩:=mM n;obtain⟨v,s,t⟩:=tY r<|dR<|Br z;exact⟨a,o,_,v,rfl,rfl,p,s,k v _ i j l t b⟩
   ·exact b.elim
  |_=>exact b.elim
def aAe(i:ν)(de:DE)(e:DEnds)(a:bF):Prop:=match slot a i with
 |some (.own c)=>de e.ex a λd=>(match d with
  | .list b=>cZ b=true/\c.length+b.length<=1000/\e.nx (put (γ<|.own<|c++b) i a)
  |_=>Ε)
 |_=>Ε
theorem Ul(i:ν)(h:jL K H₀ E te de):iB K H₀ E (yJ<|tBM K "list" (Vq K) (fL i)<|dF te iS) (aAe i de):=λr s G H e D t S q L=>by
 unfold aAe at q;split at q
 ·rename_i N f
  obtain⟨a,u,g,O,j,k⟩:=S.ownAt f;refine⟨_,g,.inl ⟨rfl,_,SqL.of j⟩,h e.ex r s G H _ _ t S q λv d l P x w m=>?_⟩;cases d with
  |list y=>
   refine q_ λwv=>?_;obtain⟨z,A,B⟩:=m;obtain⟨b,n,rfl,C,p⟩:=eG w;apply wv;have F:DVs K l n y:=mL (λc o I J=>x.s.other I J) p z;have M:=S.ext x;exact⟨a,b,u,n,rfl,rfl,x.h _ _ j,C,bu<|bQ (by rw[k.len,p.len];exact A),L.nx _ _ l _ x.g (M.updO f g<|(aU x.g k).append F) B⟩
  |_=>exact m.elim
 ·exact q.elim
def qN(i j:ν)(e:DEnds)(a:bF):Prop:=match slot a i,slot a j with
 |some (.own d),γ (.dat<|.list bs)=>∃c b,d=c++[.list b]/\b.length+bs.length<=1000/\e.nx (put (γ<|.own<|b++bs) j<|put (γ<|.own c) i a)
 |_,_=>Ε
theorem Yy{G:Hp}{b:ε V}{a:ε η}{d:η}(h:DVs K G b<|a++[d]):∃c u,b=c++[u]/\DVs K G c a/\DV K G u d:=by
 have f:=h.take a.length;have g:=h.drop a.length;rw[yf]at f
 ·rw[yg]at g
  ·obtain⟨u,e,i⟩:=xS g;exact⟨_,u,by rw[<-e,mi],f,i⟩
  ·rfl
 ·rfl
theorem Pw(i j:ν)(t:i≠j):iB K H₀ E (kW (wY (Vr K) (aOs K "list" aPf<|fL i)<|fL j)<|jV j) (qN i j):=λP R G H e D T S q L=>by
 unfold qN at q;split at q
 ·rename_i U bs h w
  refine q_ λwv=>?_;obtain⟨x,es,rfl,y,z⟩:=q;obtain⟨a,vs,k,W,l,A⟩:=S.ownAt h;obtain⟨d,u,rfl,B,C⟩:=Yy A;obtain⟨c,m,rfl,F,n⟩:=eG C;obtain⟨v,I,J⟩:=S.has j _ w;obtain⟨b,o,rfl,M,r⟩:=eG J;apply wv;have f:=S.updO (vs:=d) (es:=x) h k B;have g:(d++[V.ref c]).dropLast=d:=by simp
  refine⟨_,k,.inl ⟨rfl,_,SqL.of l⟩,a,d++[.ref c],.ref c,rfl,rfl,l,by simp,?_⟩;rw[g];refine⟨_,I,c,b,m,o,rfl,rfl,f.sub.same.seq F,f.sub.same.seq M,bu<|bQ (by rw[n.len,r.len];exact y),λp s=>?_⟩;obtain⟨N,O⟩:=fY (xs:=m++o) (p:=p) f.sub s;exact L.nx _ _ G _ (Same.refl _) (f.setO N j s O aZ<|n.append r) z
 ·exact q.elim
end
def aRg(w:DW):DW:=λa Q X=>w a (λs=>match s with
 | .two b c=>Q<|.dat<|.tuple [.list b,.list c]
 |s=>Q s) X
theorem rm_same:Same (rm H a) H:=λb o z=>by
 unfold rm at z;split at z
 ·cases z
 ·exact z
theorem Rt{K:μ}(F:FnOk P w K j base l k f m n<|oV K W):FnOk P w K j base l k f m n (oV K<|aRg W):=
 F.imp λN H Q E h=>by
  obtain⟨i,O,p,u,x,e,y⟩:=h;refine⟨i,_,p,u,x,λv s c g r q=>?_,y⟩;cases s with
  |two z A=>
   obtain⟨t,a,b,R,S,rfl,B,D,T,U,G,I,J,d2⟩:=r;have o:Same (rm (rm c a) b) c:=rm_same.trans rm_same;exact e _ (.dat<|.tuple [.list z,.list A]) c g (.tup B<|.cons (.lst (SqL.of G)<|aU o J)<|.cons (.lst (SqL.of I)<|aU o d2) .nil) q
  |dat d=>exact e v (.dat d) c g r q
  |own i=>exact e v (.own i) c g r q
  |exc C=>exact e v (.exc C) c g r q
  |mon L=>exact e v (.mon L) c g r q
  |fz M d=>exact e v (.fz M d) c g r q
section
variable{K:μ}{H₀:Hp}{E:XK}{dl:DL}{t:TA}{g:TG}{dg:DG}{ns:ε ν}
def Pf(w:DW)(dl:DL)(m:ν)(dg:DG)(e:DEnds)(a:bF):Prop:=dl e.ex a λb=>gM a=true/\w b (jJ λd=>match d with
 | .tuple c=>(match nth c m with
  |some d=>dg d a e.nx
  |none=>Ε)
 |_=>Ε) λ_=>Ε
theorem yM{w:DW}(m:ν)(n:oY K H₀ E t dl)(o:Ll K H₀ g ns dg):iB K H₀ E (kW (wY (Jm K) (iG (oV K w) [] E0 t)<|tC<|.int (m:τ)) g) (Pf w dl m dg):=λk l G H e D p S q L=>
 n e.ex k l G H _ _ p S q λY x Z H1 f y ⟨A,B⟩=>by
  refine⟨x,_,λ_=>Ε,by rw[eT];exact y,B,λv s b h r F=>?_,λC b h I=>I.elim⟩;obtain⟨d,J,c⟩:=fC r F;have M:=(S.ext f).all2 A h;cases d with
  |tuple xs=>
   dsimp only at c;split at c
   ·rename_i N z
    obtain⟨a,O,rfl,P,R⟩:=mM J;obtain⟨u,T,U⟩:=tY R<|dR<|Br z;refine⟨a,O,_,u,rfl,rfl,P,T,?_⟩;exact o u N k l b b _ _ M U c λi j W _ X=>L.nx i j b b (f.g.trans<|(S.ext f).sub.same.trans h) W X
   ·exact c.elim
  |_=>exact c.elim
end
section
variable{K:μ}{H₀:Hp}{E:XK}{te ta tb:TE}{da db:DE}{dl:DL}
def aRn(da db:DE)(ex:DX)(c:bF)(Q:ε η->Prop):Prop:=da ex c λx=>db ex c λy=>∃a b,x= .list a/\y= .list b/\cZ a=true/\cZ b=true/\a.length+b.length<=1000/\Q (a++b)
end
section
variable{K:μ}{H₀:Hp}{E:XK}{ta tb tc:TE}{da db dc:DE}{f g:τ->τ->Bool}
def aAh(f g:τ->τ->Bool)(da db dc:DE)(ex:DX)(a:bF)(Q:η->Prop):Prop:=da ex a λx=>db ex a λy=>match x,y with
 | .int i,.int j=>if f i j=true then dc ex a λz=>(match z with
  | .int l=>Q<|.bool<|g j l
  |_=>Ε)else Q (.bool false)
 |_,_=>Ε
theorem Yt(s:jL K H₀ E ta da)(t:jL K H₀ E tb db)(w:jL K H₀ E tc dc):gG K H₀ E (Ug (Si λi j=>.bl<|f i j) (Si λi j=>.bl<|g i j) ta tb tc) (aAh f g da db dc):=λex b d G H L Q e S q k=>
 s ex b d G H _ _ e S q λv M x y n A B=>t ex b d x y _ _ e (S.ext n) B λu d2 o p C r a=>by
  have h:=n.trans C;split at a
  ·rename_i i j
   refine⟨i,j,cF A,cF r,f i j,rfl,?_⟩;split at a
   ·rename_i c
    rw[Α c];refine w ex b d o p _ _ e (S.ext h) a λz N D F I J m=>?_;split at m
    ·rename_i l
     exact⟨j,l,cF r,cF J,k _ _ D F (h.trans I) (.bl _) m⟩
    ·exact m.elim
   ·rename_i c
    rw[χ c];exact k _ _ o p h (.bl _) a
  ·exact a.elim
end
theorem Lg(n:ν):sliceRange ((n:τ)-1) (-1) (-1)=(range n).map λk=>n-1-k:=by
 unfold sliceRange;rw[χ<|by decide];by_cases h:n=0
 ·subst h;rfl
 ·have e:(((n:τ)-1- -1- -1-1)/(- -1))=(n:τ):=by
   rw[show(- -1:τ)=1 by decide,Int.ediv_one];exact 48
  simp only[show(n:τ)-1>-1 by lia,jz,e,cy];refine fu λk a=>?_;have:=bA.mp a;lia
theorem Sf(a:ε ξ):slicePick a.toArray none none (γ<|-1)=a.reverse.toArray:=by
 have e:sliceBounds none none (γ<|-1) a.toArray.size=((a.length:τ)-1,-1,-1):=by simp[sliceBounds]
 unfold slicePick;rw[e];dsimp only;rw[Lg]
 congr 1
 have h:∀k,k∈range a.length->a.toArray[a.length-1-k]? =a.reverse[k]?:=λk d=>by
  have:=bA.mp d;rw[r9,r8<|‹51›]
 rw[u3];have f:((range a.length).filterMap λk=>a.reverse[k]?)=a.reverse:=by
  have g:∀(b:ε ξ),(range b.length).filterMap (λk=>b[k]?)=b:=λb=>by
   induction b with
   |nil=>rfl
   |cons x b i=>
    rw[Ρ,List.range_succ_eq_map,fh];simp only[List.getElem?_cons_zero,u3]
    congr 1
  have:=g a.reverse
  rwa [jt]at this
 rw[<-f];have g:∀c:ε ν,(∀k∈c,a.toArray[a.length-1-k]? =a.reverse[k]?)->c.filterMap ((λx=>a.toArray[x]?)∘λk=>a.length-1-k)=c.filterMap λk=>a.reverse[k]?:=λc=>by
  induction c with
  |nil=>intro _;rfl
  |cons k c i=>
   intro d;rw[fh,fh,i λk h=>d k<|Θ _ h];have:=d k Κ;dsimp only[Function.comp];rw[this]
 rw[f];exact(g _ h).trans f
section
variable{X:Cx}{e es:Expr}{te:TE}{ts:TO}{pos p2:Pos}
def aPk(K:μ):V->Hp->VK->Prop:=λx H Q=>∃a b,x= .ref a/\SqL K H a b/\∀p,H p=none->Q (.ref p) (dP H p<|.lst b.reverse)
def aGq(K:μ)(te:TE)(ts:TO):TE:=λa H Q=>te a H λx b=>ts a b λi c=>i=γ (-1)/\aPk K x c Q
theorem aDi{K:μ}(j:X.K=K)(k:PE X e te)(l:PO X (γ es) ts):PE X (.Subscript e (.Slice none none (γ es) p2) pos) (aGq K te ts):=by
 subst j;intro pins s d H Q I h;refine rg<|dQ (k pins s d H _ I h) λv m y_=>?_;refine q_ λW_=>?_;obtain⟨x,n,p,t,u⟩:=y_;apply W_;refine xh ?_;rw[p5];refine Ψ<|Ψ<|dQ (l pins m d n _ p u) λw c y_=>?_;refine q_ λW_=>?_;obtain⟨i,y,z,A,B⟩:=y_;apply W_;refine q_ λwv=>?_;obtain⟨rfl,a,C,rfl,D,q⟩:=B;apply wv;cases t;have f:Inv X pins d y {c with heap:=c.heap.push {cls:=.type "slice",data:=.fields #[.none,.none,w]}}:=z.kept (t':=c.toks) λb E q=>Λ _ q;obtain⟨F,r,g,G⟩:=f.list D;have hlen:=r.length;refine vo (ops:=[.ref a,.ref c.heap.objs.size]) g.isList.typeIs slot_list_getitem.lookup ?_ (by with_unfolding_all rfl);refine j8 g.isList (IsSliceOf.new ..) .none .none A (by simp) ?_ (by rw[ae] <;>lia);rw[Sf];refine⟨.ref _,_,f.laid (t':=c.toks) (o:=.lst C.reverse) (λb E q=>Λ _ q) (Η _) ?_,rfl,q _<|f.hok.fresh<|Η _⟩;exact⟨by rw[jt];exact G,_,0,r.reverse,aj _ rfl⟩
end
section
variable{K:μ}{H₀:Hp}{E:XK}{te:TE}{dl:DL}{t1:TO}{d1:DO}
def aAj(dl:DL)(d1:DO)(ex:DX)(a:bF)(Q:ε η->Prop):Prop:=dl ex a λb=>d1 ex a λi=>i=γ (-1)/\Q b.reverse
theorem Bf(m:Sm K H₀ E te dl)(n:OvP K H₀ E t1 d1):xV K H₀ E (aGq K te t1) (aAj dl d1):=λex c d G H x Q e S q k=>
 m ex c d G H _ _ e S q λa f y o r g s t u=>n ex c d o r _ _ e (S.ext g) u λi z A b h=>
  ⟨h.1,a,f,rfl,b.h.seq s,λp j=>by
   obtain⟨v,w⟩:=fY (xs:=f.reverse) b.s j
   have l:=g.trans b
   exact k p _ _ _ _ (l.trans v) (l.h.free j) w aZ (aU b.g t).rev h.2⟩
end
section
variable{K:μ}{H₀:Hp}{E:XK}
def dMv(i j:ν)(e:DEnds)(a:bF):Prop:=match slot a j with
 |some (.own b)=>e.nx<|put (γ<|.own b) i<|put none j a
 |_=>Ε
theorem aOt(i j:ν)(N:i≠j):iB K H₀ E (kW (fL j)<|jV i) (dMv i j):=λl X G H e D Y S q L=>by
 unfold dMv at q;split at q
 ·rename_i m o
  obtain⟨v,p,O⟩:=S.has j _ o;refine⟨v,p,L.nx _ _ G H (Same.refl _) ?_ q⟩;have r:∀k s,slot (put (γ<|.own m) i<|put none j l) k=γ s->(k=i/\s= .own m/\i<l.length)\/(k≠i/\k≠j/\slot l k=γ s):=λk s h=>by
   rw[iI,jR]at h;by_cases c:k=i/\i<l.length
   ·rw[Α c]at h;exact .inl ⟨c.1,(ba h).symm,c.2⟩
   ·rw[χ c,iI]at h;by_cases d:k=j/\j<l.length
    ·rw[Α d]at h;cases h
    ·rw[χ d]at h;have b:=mT h;refine .inr ⟨λz=>c ⟨z,by rw[<-z];exact b⟩,λz=>d ⟨z,by rw[<-z];exact b⟩,h⟩
  refine⟨S.old,S.sub,by rw[jR,jR,ib];exact S.len,λk s h=>?_,λt w y A a P R f g=>?_⟩
  ·rcases r k s h with⟨rfl,rfl,b⟩|⟨n,B,h⟩
   ·exact⟨v,by rw[gh<|ah b S.len],O⟩
   ·obtain⟨u,T,U⟩:=S.has k s h;exact⟨u,by rw[dV λz=>n z.symm];exact T,U⟩
  ·rcases r t _ P with⟨C,Z,b⟩|⟨n,B,F⟩ <;>rcases r w _ R with⟨I,s2,x⟩|⟨J,W,M⟩
   ·rw[C,I]
   ·rw[C,gh<|ah b S.len]at f;rw[dV λz=>J z.symm]at g;have e:v= .ref a:=ba<|ba f;exact ς (S.sep j w m A a o M (by rw[p,e]) g) λz=>W z.symm
   ·rw[I,gh<|ah x S.len]at g;rw[dV λz=>n z.symm]at f;have e:v= .ref a:=ba<|ba g;exact ς (S.sep j t m y a o F (by rw[p,e]) f) λz=>B z.symm
   ·rw[dV λz=>n z.symm]at f;rw[dV λz=>J z.symm]at g;exact S.sep t w y A a F M f g
 ·exact q.elim
end
theorem boot_str:bootBuiltins "str"=γ (.type "str"):=by decide +kernel
theorem Dq(h:n<=100000):n<sizeLine:=eh h (by decide)
section
variable{X:Cx}
def aPd:V->υ τ->υ τ->Hp->VK->Prop:=λx a b H Q=>∃z,x= .str z/\z.length<=sizeLine/\Q (.str<|hV z a b) H
theorem aJf:SlR X aPd:=by
 intro pins s n H x v o p r w y Q I g a m e h;refine q_ λwv=>?_;obtain⟨z,rfl,b,q⟩:=h;obtain⟨t,rfl⟩:=g;apply wv;refine⟨"str",_,slot_str_getitem.lookup,kj _ _ _,?_⟩;cases m with
 |none=>
  cases e with
  |none=>exact i7 (l:=none) (u:=none) (st:=none) a rfl<|m1 ⟨Β (gx z none none) b,λc k=>⟨.str _,H,I.tok _,⟨_,rfl⟩,q⟩⟩
  |int j d=>exact i7 (l:=none) (u:=γ (j,d)) (st:=none) a rfl<|m1 ⟨Β (gx z none<|some j) b,λc k=>⟨.str _,H,I.tok _,⟨_,rfl⟩,q⟩⟩
 |int i f=>
  cases e with
  |none=>exact i7 (l:=γ (i,f)) (u:=none) (st:=none) a rfl<|m1 ⟨Β (gx z (γ i) none) b,λc k=>⟨.str _,H,I.tok _,⟨_,rfl⟩,q⟩⟩
  |int j d=>exact i7 (l:=γ (i,f)) (u:=γ (j,d)) (st:=none) a rfl<|m1 ⟨Β (gx z (γ i)<|some j) b,λc k=>⟨.str _,H,I.tok _,⟨_,rfl⟩,q⟩⟩
def uW:V->ε V->Hp->VK->Prop:=λx a H Q=>∃z y,x= .str z/\a=[.str y]/\z.length<=sizeLine/\(y.length==0)=false/\
 ∀p,H p=none->Q (.ref p) (dP H p<|.tup [.str (Δ z y).1,.str (Δ z y).2.1,.str (Δ z y).2.2])
theorem Bw:MtR X "str.partition" uW:=by
 intro pins s j H x k v l Q I c d h;refine q_ λwv=>?_;obtain⟨z,y,rfl,rfl,e,f,q⟩:=h;obtain⟨t,rfl⟩:=c;obtain⟨u,rfl,t',rfl⟩:=kD d;apply wv;refine ic tm (kj _ _ _) F.entry_str_partition (F.args_str_partition_2 _ _) (meets_str_partition z y t t' f e) ?_;have a:=q _<|I.hok.fresh<|Η _;unfold Δ at a;revert a;cases bh z y 0 z.length 1 with
 |nil=>
  intro a
  exact⟨.ref s.heap.objs.size,_,I.laid (t':=s.toks+1) (o:=.tup [.str z,.str Str.empty,.str Str.empty]) (λb g q=>Λ _ q) (Η _)
   ⟨bu (bQ (show 3<=1000 by decide)),_,.cons ⟨_,rfl⟩ (.cons ⟨_,rfl⟩ (.cons ⟨_,rfl⟩ .nil)),zm _ _⟩,rfl,a⟩
 |cons i r=>
  intro a
  exact⟨.ref s.heap.objs.size,_,I.laid (t':=s.toks+1+1) (o:=.tup [.str (Builtin.Str.strSub z 0 i),.str y,.str (Builtin.Str.strSub z (i+y.length) z.length)]) (λb g q=>Λ _ q) (Η _)
   ⟨bu (bQ (show 3<=1000 by decide)),_,.cons ⟨_,rfl⟩ (.cons ⟨_,rfl⟩ (.cons ⟨_,rfl⟩ .nil)),zm _ _⟩,rfl,a⟩
theorem Se:gS X (.type "int") (λa H Q=>∃z n,a=[.str z]/\z.length<=640/\PySem.intText? z=γ n/\Q (.int n) H):=by
 intro pins s d H a e Q I r h;refine q_ λwv=>?_;obtain⟨z,n,rfl,b,c,q⟩:=h;obtain⟨u,rfl,t,rfl⟩:=kD r;apply wv;exact W.KIN.call_text c b ⟨.int n,H,I.tok _,⟨_,rfl⟩,q⟩
def Its(z:Ξ):It:=⟨λi _=>i<z.cps.size,λi H x a=>a=H/\∃c,z.cps[i]? =γ c/\x= .str ⟨#[c]⟩,λi _=>z.cps.size<=i⟩
theorem Du{K:μ}(j:ο)(z:Ξ)(t:ui)(ty:String)(l:ty="str_ascii_iterator"\/ty="str_iterator"):
  Turn P w K tg (Its z) [j] j (λi h=>h.IsStrIter j ty z t i) where
 mem:=by simp
 obj:=λi h st b a=>by
  have e:b=j:=by simpa using a
  subst e;obtain⟨o,e,c,d⟩:=st;exact⟨o,e,λv z=>by rw[d]at z;cases z⟩
 keep:=λi h g st k=>let⟨o,N,r⟩:=st;⟨o,k j (by simp) o N,r⟩
 item:=by
  intro X A hw B C i pins s D H E I n st F;subst A hw B;refine q_ λwv=>?_;obtain⟨p,q,O,u,x,y⟩:=n j (by simp);obtain⟨c,m⟩:∃c,z.cps[i]? =γ c:=⟨_,oy F⟩;apply wv;rcases l with rfl|rfl
  ·refine wpAny_pyNext_ascii_item st m λg f G=>?_;have J:Inv X pins D H {s with heap:=g,toks:=s.toks+1}:=I.turned (λb o a e=>(G.2 b a).trans e) p q u x y;refine q_ λwv=>?_;obtain⟨o,e,L,d⟩:=id f;apply wv;exact⟨_,rfl,zO (s:={s with heap:=g,toks:=s.toks+1}) e L d (by decide) ⟨.str ⟨#[c]⟩,H,J,⟨_,rfl⟩,⟨rfl,c,m,rfl⟩,f,λb a=>(n b a).1⟩⟩
  ·refine wpAny_pyNext_wide_item st m λg f G=>?_;have J:Inv X pins D H {s with heap:=g,toks:=s.toks+1}:=I.turned (λb o a e=>(G.2 b a).trans e) p q u x y;refine q_ λwv=>?_;obtain⟨o,e,L,d⟩:=id f;apply wv;exact⟨_,rfl,zO (s:={s with heap:=g,toks:=s.toks+1}) e L d (by decide) ⟨.str ⟨#[c]⟩,H,J,⟨_,rfl⟩,⟨rfl,c,m,rfl⟩,f,λb a=>(n b a).1⟩⟩
 done:=by
  intro X A hw B C i pins s D H E I n st F;subst A hw B;obtain⟨p,q,O,u,x,y⟩:=n j (by simp);have m:z.cps[i]? =none:=Array.getElem?_eq_none F;rcases l with rfl|rfl
  ·exact wpAny_pyNext_ascii_end (I.ok.hd C) st m λg M=>⟨rfl,I.turned (t':=s.toks) (λb o a e=>M b o a e) p q u x y⟩
  ·exact wpAny_pyNext_wide_end (I.ok.hd C) st m λg M=>⟨rfl,I.turned (t':=s.toks) (λb o a e=>M b o a e) p q u x y⟩
 self:=λ_ _ _ _ _ st h=>by
  rcases l with rfl|rfl
  ·exact wpAny_pyIter_striter_ascii st h
  ·exact wpAny_pyIter_striter_wide st h
def aQl(a:TE):TI:=λb H R=>a b H λx c=>∃z,x= .str z/\R (Its z) c
theorem aJz(j:PE X l f):PI X tg l (aQl f):=by
 intro pins s k H R I h;refine dQ (j pins s k H _ I h) λv a y_=>?_;refine q_ λW_=>?_;obtain⟨x,d,c,m,n⟩:=y_;apply W_;obtain⟨z,e,q⟩:=n;subst e;obtain⟨t,rfl⟩:=m;have g:∀b∈[a.heap.objs.size],lI X pins d b:=λb p=>by
  have e:b=a.heap.objs.size:=by simpa using p
  subst e;exact c.fpOk (Η _)<|c.hok.fresh<|Η _
 cases i:z.cps.all (·<128)
 ·refine wpAny_pyIter_wide i ?_;exact⟨a.heap.objs.size,[a.heap.objs.size],_,_,d,rfl,c.kept (t':=a.toks) λb o e=>Λ _ e,Du _ z t _<|.inr rfl,⟨_,aj _ rfl,rfl,rfl⟩,g,q⟩
 ·refine wpAny_pyIter_ascii i ?_;exact⟨a.heap.objs.size,[a.heap.objs.size],_,_,d,rfl,c.kept (t':=a.toks) λb o e=>Λ _ e,Du _ z t _<|.inl rfl,⟨_,aj _ rfl,rfl,rfl⟩,g,q⟩
end
section
variable{K:μ}{H₀:Hp}{E:XK}{te ta tb:TE}{de da db:DE}{t1 t2:TO}{d1 d2:DO}
def sgD(c:ν):η:=.str ⟨#[c]⟩
def aMy(de:DE)(ex:DX)(a:bF)(Q:ε η->Prop):Prop:=de ex a λd=>match d with
 | .str z=>Q<|z.cps.toList.map sgD
 |_=>Ε
theorem Xw(h:gG K H₀ E te de):IvS K H₀ E (aQl te) (aMy de):=λex j l G H w R m S q k=>
 h ex j l G H _ _ m S q λv d n o e p f=>by
  cases d with
  |str z=>
   cases cT p;refine⟨z,rfl,k _ _ n o e (λr y A s i=>⟨λd a=>?_,λa=>?_⟩) f⟩
   ·rw[cw]at a;obtain⟨c,b,rfl⟩:=rj.mp a;rw[ry]at b;refine⟨(fo.mp b).1,λx B y_=>?_⟩;obtain⟨t,C,g,u⟩:=y_;subst t;rw[b]at g;cases g;subst u;exact⟨r,.refl s,.str _⟩
   ·show z.cps.size<=i;simpa using a
  |_=>exact f.elim
def aKm(x y:η)(Q:η->Prop):Prop:=match x,y with
 | .str z,.int i=>z.length<=100000/\∃c,kC z.cps.toList i=γ c/\Q (.str ⟨#[c]⟩)
 |_,_=>Ε
theorem aJp:Iu K aPg aKm:=by
 intro G H x y f g h Q a b q k;unfold aKm at q;split at q
 ·cases cT a;cases cF b;obtain⟨d,c,e,q⟩:=q;exact⟨_,_,c,rfl,rfl,bu<|Dq d,e,k _ _ (.str _) q⟩
 ·exact q.elim
def Xa(x y:η)(Q:η->Prop):Prop:=match x,y with
 | .str a,.str b=>a.length+b.length<=100000/\Q (.str<|a++b)
 |_,_=>Ε
theorem bY:Iu K (λx y H Q=>∃i j,x= .str i/\y= .str j/\i.length+j.length<=sizeLine/\Q (.str<|i++j) H) Xa:=by
 intro G H x y c d e Q a b q k;unfold Xa at q;split at q
 ·cases cT a;cases cT b;exact⟨_,_,rfl,rfl,bu<|Dq q.1,k _ _ (.str _) q.2⟩
 ·exact q.elim
def aDq(x y:η)(Q:η->Prop):Prop:=match x,y with
 | .str a,.str b=>Q<|.bool<|av b a
 |_,_=>Ε
def Wz(x y:η)(Q:η->Prop):Prop:=match x,y with
 | .str a,.str b=>Q<|.bool<|!av b a
 |_,_=>Ε
theorem Vh:Iu K (λx y H Q=>∃i j,x= .str i/\y= .str j/\Q (.bl<|!(bh j i 0 j.length 1).isEmpty) H) aDq:=by
 intro G H x y c d e Q a b q k;unfold aDq at q;split at q
 ·cases cT a;cases cT b;exact⟨_,_,rfl,rfl,k _ _ (.bl _) q⟩
 ·exact q.elim
theorem Qa:Iu K (λx y H Q=>∃i j,x= .str i/\y= .str j/\Q (.bl<|!(!(bh j i 0 j.length 1).isEmpty)) H) Wz:=by
 intro G H x y c d e Q a b q k;unfold Wz at q;split at q
 ·cases cT a;cases cT b;exact⟨_,_,rfl,rfl,k _ _ (.bl _) q⟩
 ·exact q.elim
def aBb(a:ε η)(Q:η->Prop):Prop:=match a with
 |[.str z]=>z.length<=100000/\Q (.int z.length)
 |_=>Ε
theorem pY:RCb K (λa H Q=>∃z,a=[.str z]/\z.length<=sizeLine/\Q (.int z.length) H) aBb:=by
 intro G H a d e Q b q k;unfold aBb at q;split at q
 ·obtain⟨x,rfl,c⟩:=xS b;cases cT c;exact⟨_,rfl,bu<|Dq q.1,k _ _ (.int _) q.2⟩
 ·exact q.elim
def aBc(a:ε η)(Q:η->Prop):Prop:=match a with
 |[.str z]=>z.length<=640/\∃n,PySem.intText? z=γ n/\Q (.int n)
 |_=>Ε
theorem aCw:RCb K (λa H Q=>∃z n,a=[.str z]/\z.length<=640/\PySem.intText? z=γ n/\Q (.int n) H) aBc:=by
 intro G H a f g Q b q k;unfold aBc at q;split at q
 ·obtain⟨x,rfl,c⟩:=xS b;cases cT c;obtain⟨d,n,e,q⟩:=q;exact⟨_,n,rfl,d,e,k _ _ (.int _) q⟩
 ·exact q.elim
def aNj(a:ε η)(Q:η->Prop):Prop:=match a with
 |[.int i]=>i.natAbs.log2<1920/\Q (.str<|toString i)
 |_=>Ε
theorem iM:RCb K (λa H Q=>∃i,a=[.int i]/\i.natAbs.log2<1920/\Q (.str<|toString i) H) aNj:=by
 intro G H a d e Q b q k;unfold aNj at q;split at q
 ·obtain⟨x,rfl,c⟩:=xS b;cases cF c;exact⟨_,rfl,q.1,k _ _ (.str _) q.2⟩
 ·exact q.elim
def aRi(de:DE)(d1 d2:DO)(ex:DX)(a:bF)(Q:η->Prop):Prop:=de ex a λd=>d1 ex a λb=>d2 ex a λc=>match d with
 | .str z=>z.length<=100000/\Q (.str<|hV z b c)
 |_=>Ε
theorem Yp(h:jL K H₀ E te de)(i:OvP K H₀ E t1 d1)(j:OvP K H₀ E t2 d2):gG K H₀ E (tSl aPd te t1 t2) (aRi de d1 d2):=λex b c G H x Q e S q k=>
 h ex b c G H _ _ e S q λv d l m f n o=>i ex b c l m _ _ e (S.ext f) o λy p r g s=>j ex b c p r _ _ e (S.ext<|f.trans g) s λz t u w a=>by
  split at a
  ·cases cT n;exact⟨_,rfl,bu<|Dq a.1,k _ _ t u ((f.trans g).trans w) (.str _) a.2⟩
  ·exact a.elim
def Zv(da db:DE)(ex:DX)(a:bF)(Q:η->Prop):Prop:=da ex a λx=>match x with
 | .str z=>db ex a λy=>match y with
  | .str y=>z.length<=100000/\(y.length==0)=false/\Q (.tuple [.str (Δ z y).1,.str (Δ z y).2.1,.str (Δ z y).2.2])
  |_=>Ε
 |_=>Ε
theorem wI(j:jL K H₀ E ta da)(l:jL K H₀ E tb db):gG K H₀ E (tBM K "str" uW ta<|dF tb iS) (Zv da db):=λex e f G H t Q g S q k=>
 j ex e f G H _ _ g S q λx d1 m n h b c=>by
  split at c
  ·rename_i z
   cases cT b;refine⟨rfl,l ex e f m n _ _ g (S.ext h) c λy d2 u v i o a=>?_⟩;split at a
   ·rename_i d
    cases cT o;refine⟨_,_,rfl,rfl,bu<|Dq a.1,a.2.1,λp r=>?_⟩;have s:=qJ (xs:=[.str (Δ z d).1,.str (Δ z d).2.1,.str (Δ z d).2.2]) i.s r;exact k _ _ _ _ ((h.trans i).trans s) (.tup (SqT.of aZ)<|.cons (.str _)<|.cons (.str _)<|.cons (.str _) .nil) a.2.2
   ·exact a.elim
  ·exact c.elim
end
section
variable{K:μ}{G H G' H':Hp}
theorem Rws.len:∀{bs:ε ο}{a:ε<|ε η},Rws K G H bs a->bs.length=a.length
 |_,_,.nil=>rfl
 |_,_,.cons _ _ r=>bt (·+1) r.len
theorem Rws.at:∀{bs:ε ο}{a:ε<|ε η}{j:ν}{d:ε η},Rws K G H bs a->a[j]? =γ d->∃b c,bs[j]? =γ b/\H b=γ (.lst c)/\DVs K G c d
 |_,_,_,_,.nil,e=>by simp at e
 |_,_,0,_,.cons f g _,e=>by
  simp at e;subst e;exact⟨_,_,rfl,f,g⟩
 |_,_,j+1,_,.cons _ _ r,e=>by
  obtain⟨b,c,i,h⟩:=r.at (j:=j) (by simpa using e);exact⟨b,c,by simpa using i,h⟩
end
structure Gst(K:μ)(H₀ G:Hp)(t:ν)(δ:bF)(σ:L2.St)(H:Hp)(a:ο)(bs:ε ο)(dss:ε<|ε η):Prop where
 un:Sees K H₀ G (put none t δ) σ H
 dt:∀i s,slot δ i=γ s->(∃d,s= .dat d)\/∃xs c,s= .own xs/\σ[i]? =γ (γ<|.ref c)/\c∉a::bs
 sl:slot δ t=γ (.dat<|.list<|dss.map gv)
 pl:σ[t]? =γ (γ<|.ref a)
 ga:∀c∈a::bs,G c=none
 nd:(a::bs).Nodup
 ha:H a=γ (.lst<|bs.map V.ref)
 rw:Rws K G H bs dss
def aBi(K:μ)(b G:Hp)(t:ν)(d:bF)(e:L2.St)(H:Hp):Prop:=∃a bs c,Gst K b G t d e H a bs c
structure LkG(K:μ)(H₀ G:Hp)(t:ν)(e:DEnds)(D:Ends):Prop where
 nx:∀δ σ G' H,Same G G'->aBi K H₀ G' t δ σ H->e.nx δ->D.nx σ H
 rt:∀v s H,Same H₀ H->qT K H₀ H v s->e.rt s->D.rt v H
 bk:∀δ σ G' H,Same G G'->aBi K H₀ G' t δ σ H->e.bk δ->D.bk σ H
 ct:∀δ σ G' H,Same G G'->aBi K H₀ G' t δ σ H->e.ct δ->D.ct σ H
section
variable{K:μ}{H₀:Hp}{E:XK}{te1 te2 te3 te4:TE}{dl d1 d2 d4:DL}{d3:DE}
structure RwI(K:μ)(H₀:Hp)(tb:ν)(δ:bF)(σ:L2.St)(G H:Hp)(a:ο)(cs:ε ο)(dss:ε<|ε η):Prop where
 sl:slot δ tb=γ (.own<|dss.map gv)
 rw:Rws K G G cs dss
 pl:σ[tb]? =γ (γ<|.ref a)
 ha:H a=γ (.lst<|cs.map V.ref)
 nd:cs.Nodup
 fr:∀c∈cs,H₀ c=none/\∃zs,G c=γ (.lst zs)
end
section
variable{K:μ}{H₀:Hp}{E:XK}{t:TA}{teA teB teC teD teX:TE}{dl dA:DL}{dB dC:DX->bF->(ε (ε η)->Prop)->Prop}{dD dX:DE}{tz:TS}{dz:DS}{w:DW}
theorem Sees.nil(S:Sees K H₀ G c d H):Sees K H₀ G [] b H:=⟨S.old,S.sub,hB _,(λi s h=>by cases h),(λi j e f a h=>by cases h)⟩
end
theorem yC:∀{c:ε Ξ}{a:ε ξ},Vals (c.map V.str) a->∃b:ε<|Ξ×ui,b.map (·.1)=c/\a=strValues b
 |[],_,.nil=>⟨[],rfl,rfl⟩
 |z::c,_,.cons h t=>by
  obtain⟨tk,rfl⟩:=h;obtain⟨b,d,e⟩:=yC t;exact⟨(z,tk)::b,by rw[ak,d],by rw[e];rfl⟩
theorem yE:∀(tk:ν)(a:ε Ξ),Vals (a.map V.str) (strsFrom tk a)
 |_,[]=>.nil
 |tk,z::a=>.cons ⟨tk,rfl⟩<|yE (tk+1) a
section
variable{X:Cx}
def Vo(K:μ):V->ε V->Hp->VK->Prop:=λx c H Q=>∃(a:Ξ)(l:ο)(b:ε Ξ),x= .str a/\c=[.ref l]/\SqL K H l (b.map V.str)/\Builtin.Str.tooLong (b.toArray.foldl (·+·.length+a.length) 0)=false/\Q (.str<|Txt.join a b) H
theorem aDv:MtR X "str.join" (Vo X.K):=by
 intro pins s n H x o v w Q I d e h;refine q_ λwv=>?_;obtain⟨a,l,y,rfl,rfl,f,c,q⟩:=h;obtain⟨t,rfl⟩:=d;obtain⟨u,rfl,g⟩:=kD e;apply wv;cases g;obtain⟨i,r,j,z⟩:=I.list f;obtain⟨b,k,m⟩:=yC r;subst k m;refine ic yh (kj _ _ _) F.entry_str_join (F.args_str_join_2 _ _) (meets_str_join_list a t l b c) ⟨j.isList,?_⟩;have hlen:=joinFit_length c
 match b,q,hlen with
 |[],q,hlen=>exact⟨hlen,.str _,H,I.tok _,⟨_,rfl⟩,q⟩
 |[p],q,hlen=>exact⟨.str _,H,I,⟨_,rfl⟩,q⟩
 |p::A::b,q,hlen=>exact⟨hlen,.str _,H,I.tok _,⟨_,rfl⟩,q⟩
def Vn:V->ε V->Hp->VK->Prop:=λx a H Q=>∃z y,x= .str z/\a=[.str y]/\z.length<=sizeLine/\(y.length==0)=false/\(Txt.split z y).length<=sizeLine/\∀l,H l=none->Q (.ref l) (dP H l<|.lst<|(Txt.split z y).map V.str)
theorem Xe:MtR X "str.split" Vn:=by
 intro pins s g H x m v n Q I i j h;refine q_ λwv=>?_;obtain⟨z,y,rfl,rfl,k,f,d,q⟩:=h;obtain⟨t,rfl⟩:=i;obtain⟨u,rfl,t',rfl⟩:=kD j;apply wv;have self:Txt.split z y=[z]->EP X pins g Q (.ref s.heap.objs.size) {s with heap:=s.heap.push {cls:=.type "list",data:=.seq [Value.str z t].toArray}}:=λe=>by
  rw[e]at q;refine⟨.ref s.heap.objs.size,_,I.laid (t':=s.toks) (o:=.lst [.str z]) (λb l q=>Λ _ q) (Η _) ?_,rfl,q _<|I.hok.fresh<|Η _⟩;exact⟨bu<|bQ<|show 1<=1000 by decide,_,0,.cons ⟨_,rfl⟩ .nil,aj _ rfl⟩
 cases a:(decide (z.length<y.length)||decide (Builtin.Str.strKind z<Builtin.Str.strKind y))with
 |true=>
  refine ic mj (kj _ _ _) pk (oa _ _) (meets_str_split_cannot_occur z y t t' a)<|self ?_;unfold Txt.split;rw[Α a]
 |false=>
  cases c:(bh z y 0 z.length<|z.length+1).isEmpty with
  |true=>
   refine ic mj (kj _ _ _) pk (oa _ _) (meets_str_split_not_found z y t t' a f c)<|self ?_;unfold Txt.split;rw[χ (by rw[a];decide),Α c]
  |false=>
   have e:Txt.split z y=Builtin.Str.partsBetween z (bh z y 0 z.length<|z.length+1) y.length:=by
    unfold Txt.split;rw[χ (by rw[a];decide),χ (by rw[c];decide)]
   rw[e]at q d;refine ic mj (kj _ _ _) pk (oa _ _) (meets_str_split_sep z y t t' a f c k d) ?_;refine⟨.ref s.heap.objs.size,_,I.laid (t':=s.toks+_) (o:=.lst<|(Builtin.Str.partsBetween z (bh z y 0 z.length<|z.length+1) y.length).map V.str) (λb l q=>Λ _ q) (Η _) ?_,rfl,q _<|I.hok.fresh<|Η _⟩;exact⟨by rw[θ];exact d,_,0,yE _ _,aj _ rfl⟩
end
theorem Xf{K:μ}(a:X.K=K):MtR X "str.join" (Vo K):=by subst a;exact aDv
theorem Ri{a:Ξ}{b:ε Ξ}(h:(b.map (·.length)).sum+b.length*a.length<=100000):Builtin.Str.tooLong (b.toArray.foldl (·+·.length+a.length) 0)=false:=by
 rw[BS];unfold Builtin.Str.tooLong;exact Τ (by have:=Dq h;lia)
theorem Ic{K:μ}:∀{b:ε V}{a:ε Ξ},DVs K H b (a.map br)->b=a.map V.str
 |_,[],.nil=>rfl
 |_,z::a,.cons h t=>by
  cases cT h;rw[Ic t];rfl
theorem Ec{K:μ}:∀a:ε Ξ,DVs K H (a.map V.str) (a.map br)
 |[]=>.nil
 |z::a=>.cons (.str z)<|Ec a
section
variable{K:μ}{H₀:Hp}{E:XK}{ta tb:TE}{da db:DE}{dl:DL}
def aIb(da:DE)(dl:DL)(ex:DX)(c:bF)(Q:η->Prop):Prop:=da ex c λx=>match x with
 | .str a=>dl ex c λd=>∃b:ε Ξ,d=b.map br/\(b.map (·.length)).sum+b.length*a.length<=100000/\Q (.str<|Txt.join a b)
 |_=>Ε
theorem qM(h:jL K H₀ E ta da)(i:Sm K H₀ E tb dl):gG K H₀ E (tBM K "str" (Vo K) ta<|dF tb iS) (aIb da dl):=λex d e G H w Q f S q k=>
 h ex d e G H _ _ f S q λx y j l g b c=>by
  split at c
  ·cases cT b;refine⟨rfl,i ex d e j l _ _ f (S.ext g) c λa z A m n o p r s=>?_⟩;obtain⟨t,rfl,u,v⟩:=s;have:=Ic r;subst this;exact⟨_,a,t,rfl,rfl,p,Ri u,k _ _ m n (g.trans o) (.str _) v⟩
  ·exact c.elim
def Zn(da db:DE)(ex:DX)(a:bF)(Q:ε η->Prop):Prop:=da ex a λx=>match x with
 | .str z=>db ex a λy=>match y with
  | .str y=>z.length<=90000/\(y.length==0)=false/\Q ((Txt.split z y).map br)
  |_=>Ε
 |_=>Ε
theorem Wq(m:jL K H₀ E ta da)(n:jL K H₀ E tb db):xV K H₀ E (tBM K "str" Vn ta<|dF tb iS) (Zn da db):=λex d e G H v Q f S q k=>
 m ex d e G H _ _ f S q λx w o r g b c=>by
  split at c
  ·rename_i z
   cases cT b;refine⟨rfl,n ex d e o r _ _ f (S.ext g) c λy d2 A B h s a=>?_⟩;split at a
   ·rename_i i
    cases cT s;have C:=split_le z i;refine⟨_,_,rfl,rfl,bu<|Dq<|by lia,a.2.1,bu<|Dq<|by lia,λp j=>?_⟩;obtain⟨t,u⟩:=fY (xs:=(Txt.split z i).map V.str) h.s j;have l:=g.trans h;exact k p _ _ _ _ (l.trans t) (l.h.free j) u aZ (Ec _) a.2.2
   ·exact a.elim
  ·exact c.elim
end
end Dl
namespace Lx
open PySem PySem.Spec PyProof.Rows L2
def ExcG(a h:ei)(H:Hp)(x:ο)(C:ξ):Prop:=
 ∃b c,h.get? x=γ b/\b.cls=C/\b.data= .fields c/\H x=none/\a.get? x=none/\
  (c[1]? =γ Value.none\/∃T d e,c[1]? =γ (aw T)/\T≠x/\h.get? T=γ d/\d.data= .fields e/\3<e.size/\H T=none/\a.get? T=none)
def ExcF(a h:ei)(H:Hp)(x:ο)(C:ξ):Prop:=
 ∃b c T d e,h.get? x=γ b/\b.cls=C/\b.data= .fields c/\H x=none/\a.get? x=none/\
  c[1]? =γ (aw T)/\T≠x/\h.get? T=γ d/\d.data= .fields e/\3<e.size/\H T=none/\a.get? T=none
def KeptO(a:ei)(H:Hp)(c:ε ο)(h d:ei):Prop:=
 (∀b o,h.get? b=γ o->(a.get? b≠none\/H b≠none)->b∉c->d.get? b=γ o)/\∀b o,h.get? b=γ o->b∈c->∃e,d.get? b=γ {o with slots:=e}
theorem KeptO.trans(x:KeptO a H c h d)(y:KeptO a H c d g):KeptO a H c h g:=
 ⟨λb o e n f=>y.1 b o (x.1 b o e n f) n f,λb o e f=>by
  obtain⟨l,i⟩:=x.2 b o e f
  obtain⟨j,k⟩:=y.2 b _ i f
  exact⟨j,k⟩⟩
end Lx
namespace Dl
open PySem PySem.Spec PyProof.Rows L2 Lx
mutual
def Gn:η->Bool
 | .dict _=>false
 | .list a=>rG a
 | .tuple a=>rG a
 |_=>true
def rG:ε η->Bool
 |[]=>true
 |d::a=>Gn d && rG a
end
mutual
theorem Kv{K:μ}{G H:Hp}(s:∀b o,H b=γ o->(∀a,o≠ .dK a)->G b=γ o):∀{x:V}{d:η},DV K H x d->Gn d=true->DV K G x d
 |_,_,.non,_=>.non
 |_,_,.bl b,_=>.bl b
 |_,_,.int i,_=>.int i
 |_,_,.str x,_=>.str x
 | _,_,.tup h c,f=>.tup (by
   rcases h with(h|⟨o,h⟩)|h
   ·exact .inl<|.inl<|s _ _ h (by intro e z;cases z)
   ·exact .inl<|.inr ⟨o,s _ _ h (by intro e z;cases z)⟩
   ·exact .inr h) (tX s c f)
 | _,_,.lst h c,f=>.lst (by
   rcases h with(h|⟨o,h⟩)|h
   ·exact .inl<|.inl<|s _ _ h (by intro e z;cases z)
   ·exact .inl<|.inr ⟨o,s _ _ h (by intro e z;cases z)⟩
   ·exact .inr h) (tX s c f)
 |_,_,.dct h,f=>by cases f
 |_,_,.dc0 h,f=>by cases f
theorem tX{K:μ}{G H:Hp}(s:∀b o,H b=γ o->(∀a,o≠ .dK a)->G b=γ o):∀{d:ε V}{c:ε η},DVs K H d c->rG c=true->DVs K G d c
 |_,_,.nil,_=>.nil
 |_,_,.cons h t,f=>by
  simp only[rG,h9]at f;exact .cons (Kv s h f.1)<|tX s t f.2
end
abbrev DKs(K:μ)(G:Hp)(a:ε<|fB×V)(b:ε<|Ξ×η):Prop:=Paired (λ(p:fB×V)(q:Ξ×η)=>p.1=Sum.inr q.1/\DV K G p.2 q.2) a b
theorem DKs.same{K:μ}(s:Same G b)(h:DKs K G a c):DKs K b a c:=Paired.mapP h λ_ _ z=>⟨z.1,cU s z.2⟩
def dskP(C:ο)(f:Ξ)(b:ε<|Ξ×η):μ->Hp->V->Prop:=λK G v=>∃p c d a,v= .ref p/\G p=γ (.ins C c [(f,V.ref d)])/\G d=γ (.dK a)/\DKs K G a b
theorem dskP.same{K:μ}(s:Same G c)(h:dskP C f b K G v):dskP C f b K c v:=by
 obtain⟨p,e,d,a,g,i,j,k⟩:=h;exact⟨p,e,d,a,g,s _ _ i,s _ _ j,k.same s⟩
def Oe(p:ο):μ->Hp->V->Prop:=λ_ _ v=>v= .ref p
theorem pE{K:μ}:∀{a:ε<|fB×V}{b:ε<|Ξ×η},DKs K G a b->b.lookup x=γ d->∃v,nK a (Sum.inr x:fB)=γ v/\DV K G v d
 |_,_,.nil,h=>by simp at h
 |p::a,q::b,.cons i t,h=>by
  obtain⟨k,v⟩:=p;obtain⟨y,e⟩:=q;obtain⟨f,g⟩:=i;dsimp only at f g;subst f;by_cases c:x=y
  ·subst c;rw[dr,gf]at h;cases h;exact⟨v,pD rfl,g⟩
  ·rw[dr,bb.mpr c]at h;obtain⟨w,j,l⟩:=pE t h;exact⟨w,by rw[lK (by intro z;injection z with z;exact c z.symm)];exact j,l⟩
def Ag(C:ο)(f:Ξ):Sp:=λe H Q _=>∃(p c:ο),e=[.ref p]/\H p=γ (.ins C c [])/\∀(d:ο)(a:Hp),H d=none->a p=γ (.ins C c [(f,V.ref d)])->a d=γ (.dK [])->(∀b o,H b=γ o->b≠p->a b=γ o)->Q .non a
abbrev Ip:=ε (Ξ×η)->DW
def uH(K:μ)(C:ο)(f:Ξ)(w:Ip):Sp:=λi H Q E=>∃(c:V)(b:ε V)(d:ε<|Ξ×η)(e:ε η)(g:Sl->Prop)(h:DX),i=c::b/\dskP C f d K H c/\DVs K H b e/\w d e g h/\
 (∀v s a,Same H a->qT K H a v s->g s->Q v a)/\(∀C a,Same H a->h C->E (.ref C) none a)
section
variable{K:μ}{H₀:Hp}{E:XK}{te ta tb:TE}{da db de:DE}{dl:DL}{t:TA}{g:TG}{dg:DG}{ns:ε ν}{ts tz:TS}{ds dz:DS}{C:ο}{f m:Ξ}{w:Ip}
def Zy(C:ο)(f:Ξ)(i:ν)(w:Ip)(dl:DL)(ex:DX)(a:bF)(Q:η->Prop):Prop:=∃b,slot a i=γ (.mon<|dskP C f b)/\dl ex a λds=>w b ds (wF Q) λ_=>Ε
theorem rH(h:f≠m):([(f,v)]:ε<|Ξ×V).lookup m=none:=by
 rw[dr,bb.mpr<|Ne.symm h];rfl
theorem Hx(i:ν)(n:f≠m)(o:oY K H₀ E t dl):gG K H₀ E (yI C m (uH K C f w) [] E0 (fL i) t) (Zy C f i w dl):=λex u x G H U Q y S ⟨z,A,q⟩ k=>by
 obtain⟨v,B,D⟩:=S.has i _ A;obtain⟨p,e,d,b,rfl,h,F,I⟩:=D G<|Same.refl _;refine⟨_,B,p,e,_,rfl,S.sub.same _ _ h,rH n,o ex u x G H _ _ y S q λJ ds W X a L M=>?_⟩;refine⟨.ref p,J,z,ds,_,λ_=>Ε,by rw[eT],(dskP.same (a.g.trans a.s.same) ⟨p,e,d,b,rfl,h,F,I⟩),L,M,λv s j l r N=>?_,λC j l O=>O.elim⟩;obtain⟨d2,P,R,c,T⟩:=uU a.s l r N;exact k v d2 P j (a.trans R) c T
def aAm(C:ο)(f:Ξ)(i:ν)(w:Ip)(dl:DL)(dg:DG)(e:DEnds)(a:bF):Prop:=∃b,slot a i=γ (.mon<|dskP C f b)/\dl e.ex a λds=>gM a=true/\w b ds (jJ λd=>dg d a e.nx) λ_=>Ε
theorem Uo(i:ν)(y:f≠m)(A:oY K H₀ E t dl)(B:Ll K H₀ g ns dg):iB K H₀ E (kW (yI C m (uH K C f w) [] E0 (fL i) t) g) (aAm C f i w dl dg):=λn o G H e D F S ⟨I,J,q⟩ L=>by
 obtain⟨v,M,N⟩:=S.has i _ J;obtain⟨p,u,d,c,rfl,x,O,P⟩:=N G<|Same.refl _;refine⟨_,M,p,u,_,rfl,S.sub.same _ _ x,rH y,A e.ex n o G H _ _ F S q λR ds G1 H1 a T y_=>?_⟩;obtain⟨U,W⟩:=y_;refine⟨.ref p,R,I,ds,_,λ_=>Ε,by rw[eT],(dskP.same (a.g.trans a.s.same) ⟨p,u,d,c,rfl,x,O,P⟩),T,W,λv s b h r X=>?_,λC b h Y=>Y.elim⟩;obtain⟨d2,j,Z⟩:=fC r X;exact B v d2 n o b b _ _ ((S.ext a).all2 U h) j Z λk l S' _ q'=>L.nx k l b b ((S.ext a).sub.same.trans h|>λz=>a.g.trans z) S' q'
theorem rT{ds:ε η}(p:∀k,Same H k->φ K k b)(h:DVs K H d ds):Sees K H H (γ (.mon φ)::gW N ds) (L2.start (x::N)<|b::d) H:=by
 have S:=uL (K:=K) (N:=N) h;have e:L2.start (x::N) (b::d)=γ b::L2.start N d:=by
  simp[L2.start]
 refine⟨S.old,S.sub,?_,λi s c=>?_,λi j q r a c l=>?_⟩
 ·rw[e];exact qq S.len
 ·rw[e];cases i with
  |zero=>cases c;exact⟨b,rfl,p⟩
  |succ i=>exact S.has i s c
 ·intro n o;rw[e]at n o;cases i with
  |zero=>cases c
  |succ i=>
   cases j with
   |zero=>cases l
   |succ j=>exact bt (·+1)<|S.sep i j q r a c l n o
end
theorem hu1(h:n+64<m):n+1<m:=by lia
abbrev Tab:=ε<|Ξ×V×η
def qS(w:gb)(K:μ)(g:ο)(tb:Tab):Prop:=(g==sysModules)=false/\∃(a:Array DictEntry)(n:ν),K.lookup g=γ ⟨.type "dict",none,.dict a n,#[]⟩/\W.KeysLit w.params a.toList/\
 Paired (λ(e:DictEntry)(p:Ξ×V×η)=>(∃t,e.key= .str p.1 t)/\RelV p.2.1 e.val) a.toList tb/\∀p∈tb,∀H,DV K H p.2.1 p.2.2
theorem uE:∀{a:ε DictEntry}{tb:Tab},Paired (λ(e:DictEntry)(p:Ξ×V×η)=>(∃t,e.key= .str p.1 t)/\RelV p.2.1 e.val) a tb->RelO ((tb.lookup x).map (·.1)) ((a.find? λe=>Value.isStrOf x e.key).map (·.val))
 |_,_,.nil=>trivial
 |e::a,(y,v,d)::tb,.cons ⟨⟨t,b⟩,c⟩ r=>by
  have f:=uE (x:=x) r;dsimp only at b c;by_cases h:x=y
  ·subst h;rw[dr,gf,List.find?_cons_of_pos (by rw[b];simp[Value.isStrOf])];exact c
  ·rw[dr,bb.mpr h,List.find?_cons_of_neg (by rw[b];simp[Value.isStrOf];exact λz=>h z.symm)];exact f
theorem vX{a:Type}{y:a}:∀{l:ε<|Ξ×a},l.lookup x=γ y->(x,y)∈l
 |[],h=>by simp at h
 |(z,u)::l,h=>by
  by_cases e:x=z
  ·subst e;rw[dr,gf]at h;cases h;exact Κ
  ·rw[dr,bb.mpr e]at h;exact Θ _<|vX h
section
variable{X:Cx}{g:ο}{tb:Tab}
def yW(g:ο)(tb:Tab):R2:=λx y H Q=>∃s,x= .str s/\y= .ref g/\Q (.bl<|!(tb.lookup s).isSome) H
def Vp(g:ο)(tb:Tab):R2:=λx y H Q=>∃s p,x= .ref g/\y= .str s/\tb.lookup s=γ p/\Q p.1 H
theorem Fq{K:μ}(d:X.K=K)(hw:X.w=w)(c:qS w K g tb):lH X (compareOp .NotIn) (yW g tb):=by
 rintro pins s p H x y v u Q I f h ⟨a,rfl,rfl,q⟩;subst d;subst hw;obtain⟨t,rfl⟩:=(show ∃t,v=Value.str a t from f);cases (show u=aw g from h);refine q_ λwv=>?_;obtain⟨i,b,n,j,k,m,_⟩:=c;apply wv;have r:=uE (x:=a) m;refine yx (BN X.prog X.w a t) i (B0 (prog:=X.prog) I.kIn j k) ?_;have e:=RelO.isSome_eq r;rw[yw]at e;have o:findBy Value.isStrOf b a=(b.toList.find? λe=>Value.isStrOf a e.key).map (·.val):=by
  obtain⟨l⟩:=b;unfold findBy;rw[u4]
 rw[o,<-e];exact⟨.bl _,H,I.tok _,rfl,q⟩
theorem aLi{K:μ}(i:X.K=K)(hw:X.w=w)(c:qS w K g tb):IxR X (Vp g tb):=by
 rintro value slice pins s C H x y v u Q I j k ⟨a,p,rfl,rfl,b,q⟩ m;subst i;subst hw;cases (show v=aw g from j);refine q_ λwv=>?_;obtain⟨t,rfl⟩:=(show ∃t,u=Value.str a t from k);obtain⟨D,d,n,o,z,A,_⟩:=c;apply wv;have r:=uE (x:=a) A;rw[b]at r;have h:=B0 (prog:=X.prog) I.kIn o z;have B:findBy Value.isStrOf d a=(d.toList.find? λe=>Value.isStrOf a e.key).map (·.val):=by
  obtain⟨l⟩:=d;unfold findBy;rw[u4]
 obtain⟨E,hw,f⟩:=RelO.some_of r;exact vo h.typeIs slot_dict_getitem.lookup (wu (BN X.prog X.w a t) h (B.trans hw) ⟨p.1,H,I.tok _,f,q⟩) m
end
section
variable{K:μ}{w:gb}{H₀:Hp}{E:XK}{te ta tb:TE}{da db de:DE}{g:ο}{T:Tab}
def zV(T:Tab)(da:DE)(ex:DX)(a:bF)(Q:η->Prop):Prop:=da ex a λx=>match x with
 | .str s=>Q<|.bool<|!(T.lookup s).isSome
 |_=>Ε
theorem Hw(b:jL K H₀ E ta da):gG K H₀ E (wY (yW g T) ta<|tC<|.ref g) (zV T da):=λex c d G H m Q e S q k=>
 b ex c d G H _ _ e S q λx f h i j l a=>by
  cases f with
  |str s=>cases cT l;exact⟨_,rfl,rfl,k _ _ h i j (.bl _) a⟩
  |_=>exact a.elim
def Zz(T:Tab)(da:DE)(ex:DX)(a:bF)(Q:η->Prop):Prop:=da ex a λx=>match x with
 | .str s=>∃p,T.lookup s=γ p/\Q p.2
 |_=>Ε
theorem Yq(c:qS w K g T)(e:jL K H₀ E ta da):gG K H₀ E (wY (Vp g T) (tC<|.ref g) ta) (Zz T da):=λex f h G H r Q i S q k=>
 e ex f h G H _ _ i S q λx j b l m n a=>by
  cases j with
  |str s=>
   cases cT n;obtain⟨p,d,a⟩:=a;obtain⟨_,_,_,_,_,_,o⟩:=c;exact⟨s,p,rfl,rfl,d,k _ _ b l m (o _ (vX d) b) a⟩
  |_=>exact a.elim
end
section
variable{P:Program}{w:gb}{K:μ}{mg:Ξ->υ ξ}{base:ei}{C:ο}{f:Ξ}
theorem okR{st:Stmt}(F:Fun K x qual st a B)(S:FnScope (s0::N) j<|aM st)(l:∀e c Q E,W e c Q E->c.length+1=j.length)
  (g:∀(b:ξ)(A:Around)(outer:ε Env)(s:Ζ)(H:Hp)(E:XK),Room k (A.deeper (envOfC qual (aM st) s.heap.objs.size a b)) ->
   ∃t,Df (oS (iY P w) P w K mg base (s0::N) qual (aM st) a b A outer s H E) (eP st) t/\∃d,iB K H E t d/\∀e c Q X,W e c Q X->d {nx:=λ_=>Q (.dat .none),rt:=Q,ex:=X} (γ (.mon (dskP C f e))::gW N c)):
  FnOk P w K mg base (iY P w) (k+1) a B j (uH K C f W):=by
 refine okE F S (λJ H Q E h=>?_) λb A outer s H J Q E L h=>?_
 ·obtain⟨M,m,e,c,i,n,rfl,D,o,p,_⟩:=h;rw[Ρ,o.len];exact l _ _ _ _ p
 ·refine q_ λwv=>?_;obtain⟨M,m,e,c,i,n,rfl,D,o,p,I,O⟩:=h;obtain⟨t,R,d,T,U⟩:=g b A outer s H E L;apply wv;refine⟨t,R,T _ _ H H {nx:=λ_=>i<|.dat .none,rt:=i,ex:=n} _ O (rT (λY u=>D.same u) o) (U e c i n p) ⟨λZ σ G y _ S q=>?_,λv s y u r q=>I v s y u r q,λ_ _ _ _ _ _ z=>z.elim,λ_ _ _ _ _ _ z=>z.elim⟩⟩;exact I .non (.dat .none) y S.oldH .non q
def Pe(C:ο)(f:Ξ)(i:ν)(c:DE)(ex:DX)(a:bF)(Q:Bool->Prop):Prop:=∃b,slot a i=γ (.mon<|dskP C f b)/\c ex a λx=>match x with
 | .str s=>Q<|!(b.lookup s).isSome
 |_=>Ε
theorem yF{K:μ}:∀{a:ε<|fB×V}{b:ε<|Ξ×η},DKs K G a b->b.lookup x=none->nK a (Sum.inr x:fB)=none
 |_,_,.nil,h=>rfl
 |p::a,q::b,.cons g t,h=>by
  obtain⟨k,v⟩:=p;obtain⟨y,e⟩:=q;obtain⟨d,i⟩:=g;dsimp only at d i;subst d;by_cases c:x=y
  ·subst c;rw[dr,gf]at h;cases h
  ·rw[dr,bb.mpr c]at h;rw[lK (by intro z;injection z with z;exact c z.symm)];exact yF t h
theorem Dm{K:μ}(h:DKs K G a b):(nK a (Sum.inr x:fB)).isSome=(b.lookup x).isSome:=by
 cases e:b.lookup x with
 |none=>rw[yF h e];rfl
 |some d=>obtain⟨v,c,_⟩:=pE h e;rw[c];rfl
variable{H₀:Hp}{E:XK}{te ta tb:TE}{da db de:DE}{dl:DL}{t:TA}{tt:TT}{dt:DT}{ts tz:TS}{ds dz:DS}
theorem Ps(i:ν)(g:Cls K C)(h:NoAttr K C f)(j:jL K H₀ E ta da):Ac K H₀ E (tB<|Mi ta<|aCf K (fL i) f) (Pe C f i da):=λex l m G H J Q n S ⟨L,o,q⟩ k=>
 j ex l m G H _ _ n S q λx r c u a y e=>by
  refine q_ λwv=>?_;obtain⟨v,z,A⟩:=S.has i _ o;obtain⟨p,b,d,B,rfl,D,F,I⟩:=A c a.g;apply wv;cases r with
  |str s=>
   cases cT y;refine⟨_,z,p,C,b,_,_,rfl,a.s.same _ _ D,g,h,by rw[dr,gf],d,_,rfl,DGet.k (k:=Sum.inr s)<|a.s.same _ _ F,_,rfl,k _ c u a ?_⟩;rw[Dm I];exact e
  |_=>exact e.elim
def aIc(C:ο)(f:Ξ)(i:ν)(da:DE)(ex:DX)(a:bF)(Q:η->Prop):Prop:=∃b,slot a i=γ (.mon<|dskP C f b)/\da ex a λx=>match x with
 | .str s=>∃d,b.lookup s=γ d/\Q d
 |_=>Ε
theorem aFm(i:ν)(e:Cls K C)(g:NoAttr K C f)(h:jL K H₀ E ta da):gG K H₀ E (aGp (aCf K (fL i) f) ta) (aIc C f i da):=λex j l G H R Q m S ⟨T,n,q⟩ k=>by
 obtain⟨v,o,y⟩:=S.has i _ n;obtain⟨p,b,d,z,rfl,A,B,D⟩:=y G<|Same.refl _;refine⟨_,o,p,C,b,_,_,rfl,S.sub.same _ _ A,e,g,by rw[dr,gf],?_⟩;refine h ex j l G H _ _ m S q λx F I J c L a=>?_;cases F with
 |str s=>
  cases cT L;obtain⟨r,M,a⟩:=a;obtain⟨u,N,O⟩:=pE D M;exact⟨d,u,rfl,N▸DGet.k (k:=Sum.inr s) (c.h _ _<|S.sub.same _ _ B),k u r I J c (cU c.g O) a⟩
 |_=>exact a.elim
structure EndM(K:μ)(H₀:Hp)(d:ο)(R:Ξ->ε η->Prop)(D:Ends):Prop where
 rt:∀(x:Ξ)(ms:ε η)(a:ο)(us:ε V)(H':Hp),R x ms->cZ ms=true->(∀b o,b≠d->H₀ b=γ o->H' b=γ o)->H' d=γ (.dK [(Sum.inr x,V.ref a)])->H₀ a=none->H' a=γ (.lst us)->DVs K H' us ms->D.rt (.str "ok") H'
abbrev DMS:=(Ξ->ε η->Prop)->DX->bF->Prop
variable{p dx d:ο}{dm dm2:DMS}
theorem aKl{st:Stmt}(F:Fun K x qual st a l)(S:FnScope ["self"] g<|aM st)(q:g.length=1)(r:Cls K C)(u:NoAttr K C f)
  (e:∀(c:ξ)(A:Around)(outer:ε Env)(s:Ζ)(H:Hp)(E:XK),Room k (A.deeper (envOfC qual (aM st) s.heap.objs.size a c)) ->
   Df (oS (iY P w) P w K mg base ["self"] qual (aM st) a c A outer s H E) (eP st) (aPb K (fL 0) Uf f)):
  FnOk P w K mg base (iY P w) (k+1) a l g (Ag C f):=by
 refine okE F S (λv H Q E h=>?_) λc A outer s H v Q E y h=>?_
 ·obtain⟨p,dx,rfl,_⟩:=h;rw[q];rfl
 ·refine q_ λwv=>?_;obtain⟨p,dx,rfl,i,B⟩:=h;apply wv;refine⟨_,e c A outer s H E y,λd j=>?_⟩;have m:p≠d:=λz=>by rw[z,j]at i;cases i
  refine⟨_,rfl,p,C,dx,[],rfl,by rw[aV m];exact i,r,u,by decide,?_⟩;refine B d _ j (by rw[aZ];rfl) (by rw[aV<|Ne.symm m,aZ]) λb o n D=>?_;rw[aV D,aV<|bL n j];exact n
end
abbrev fI:=ε<|Ξ×η
noncomputable def putP(a:fI)(x:Ξ)(e:η):fI:=if (a.any λq=>decide (q.1=x))=true then a.map (λq=>if q.1=x then(q.1,e)else q)else a++[(x,e)]
noncomputable def dropP(a:fI)(x:Ξ):fI:=a.filter λq=>decide (q.1≠x)
section
variable{K:μ}{G H H':Hp}{kvs:ε (fB×V)}{kv:fI}{x:Ξ}{v:V}{e:η}
theorem vF{d f:Type}{R:d->f->Prop}:∀{g b:ε d}{i c:ε f},Paired R g i->Paired R b c->Paired R (g++b) (i++c)
 |_,_,_,_,.nil,h=>h
 |_,_,_,_,.cons a t,h=>.cons a<|vF t h
theorem Oz:∀{kvs:ε<|fB×V}{kv:fI},DKs K G kvs kv->(kvs.any λq=>decide (q.1=(Sum.inr x:fB)))=kv.any λq=>decide (q.1=x)
 |_,_,.nil=>rfl
 |p::kvs,q::kv,.cons h t=>by
  rw[qj,qj,Oz t]
  congr 1
  rw[h.1];by_cases z:q.1=x
  ·rw[z];simp
  ·rw[Τ z,Τ (by intro w;injection w with w;exact z w)]
theorem Oy:∀{kvs:ε<|fB×V}{kv:fI},DKs K G kvs kv->DV K G v e->DKs K G (kvs.map λq=>if q.1=(Sum.inr x:fB)then(q.1,v)else q) (kv.map λq=>if q.1=x then(q.1,e)else q)
 |_,_,.nil,_=>.nil
 |p::kvs,q::kv,.cons h t,b=>by
  refine .cons ?_<|Oy t b;by_cases z:q.1=x
  ·have a:p.1=(Sum.inr x:fB):=by rw[h.1,z]
   dsimp only;rw[Α a,Α z];exact⟨h.1,b⟩
  ·have a:¬p.1=(Sum.inr x:fB):=by rw[h.1];intro w;injection w with w;exact z w
   dsimp only;rw[χ a,χ z];exact h
theorem DKs.putP(h:DKs K G kvs kv)(a:DV K G v e):DKs K G (lX kvs (Sum.inr x:fB) v) (Dl.putP kv x e):=by
 unfold lX Dl.putP;rw[Oz h];split
 ·exact Oy h a
 ·exact vF h<|.cons ⟨rfl,a⟩ .nil
theorem DKs.dropP:∀{kvs:ε<|fB×V}{kv:fI},DKs K G kvs kv->DKs K G (nY kvs (Sum.inr x:fB)) (Dl.dropP kv x)
 |_,_,.nil=>.nil
 |p::kvs,q::kv,.cons h t=>by
  have a:=DKs.dropP t;unfold nY Dl.dropP at a⊢;by_cases z:q.1=x
  ·rw[gy (by rw[h.1,z];simp),gy (by rw[z];simp)];exact a
  ·rw[fv (by rw[ir,h.1];intro w;injection w with w;exact z w),fv (by rw[ir];exact z)];exact .cons h a
abbrev NdP(kv:fI):Prop:=∀q∈kv,Gn q.2=true
theorem NdP.put{kv:fI}{x:Ξ}{e:η}(h:NdP kv)(b:Gn e=true):NdP (putP kv x e):=by
 intro q a;unfold putP at a;split at a
 ·obtain⟨r,c,rfl⟩:=Ν.mp a;split
  ·exact b
  ·exact h r c
 ·rcases eg.mp a with a|a
  ·exact h q a
  ·rw[Υ.mp a];exact b
theorem NdP.drop(h:NdP kv):NdP (dropP kv x):=λq a=>h q (yl.mp a).1
theorem DKs.noD(s:∀b o,H b=γ o->(∀kvs,o≠ .dK kvs)->H' b=γ o):∀{kvs:ε<|fB×V}{kv:fI},DKs K H kvs kv->NdP kv->DKs K H' kvs kv
 |_,_,.nil,_=>.nil
 |_,q::_,.cons h t,n=>.cons ⟨h.1,Kv s h.2<|n q<|Κ ..⟩<|DKs.noD s t λq a=>n q<|Θ _ a
structure IsK(K:μ)(H:Hp)(d:ο)(kv:fI):Prop where
 at_:∃kvs,H d=γ (.dK kvs)/\DKs K H kvs kv
 nd:NdP kv
theorem IsK.same{d:ο}(s:Same H H')(h:IsK K H d kv):IsK K H' d kv:=let⟨kvs,a,b⟩:=h.at_;⟨⟨kvs,s _ _ a,b.same s⟩,h.nd⟩
theorem IsK.other{d c:ο}(n:c≠d)(s:∀b o,b≠d->H b=γ o->H' b=γ o)(g:∃kvs,H d=γ (.dK kvs))(h:IsK K H c kv):IsK K H' c kv:=by
 obtain⟨kvs,a,b⟩:=h.at_;obtain⟨k,i⟩:=g;exact⟨⟨kvs,s _ _ n a,b.noD (λb o f j=>s b o (by rintro rfl;rw[i]at f;cases f;exact j _ rfl) f) h.nd⟩,h.nd⟩
structure Chg(K:μ)(H:Hp)(d:ο)(kv':fI)(H':Hp):Prop where
 keep:∀b o,b≠d->H b=γ o->H' b=γ o
 is:IsK K H' d kv'
theorem Chg.of_same{d:ο}(s:Same H H')(h:IsK K H d kv):Chg K H d kv H':=⟨λb o _ e=>s b o e,h.same s⟩
theorem Chg.pre{f:Hp}{d:ο}{a:fI}(s:Same f H)(c:Chg K H d a H'):Chg K f d a H':=⟨λb o n e=>c.keep b o n<|s b o e,c.is⟩
theorem Chg.post{f:Hp}{d:ο}{a:fI}(c:Chg K H d a H')(s:Same H' f):Chg K H d a f:=⟨λb o n e=>s b o<|c.keep b o n e,c.is.same s⟩
theorem Chg.dv{d:ο}{a:fI}{y:V}{t:η}(c:Chg K H d a H')(g:∃kvs,H d=γ (.dK kvs))(h:DV K H y t)(n:Gn t=true):DV K H' y t:=
 Kv (λb o f i=>c.keep b o (by obtain⟨k,j⟩:=g;rintro rfl;rw[j]at f;cases f;exact i _ rfl) f) h n
end
noncomputable def wA:υ Sl->υ Sl
 |some (.dat d)=>if Gn d=true then γ (.dat d)else none
 |_=>none
noncomputable def sQ:bF->bF
 |[]=>[]
 |s::a=>wA s::sQ a
theorem zJ:∀a:bF,(sQ a).length=a.length
 |[]=>rfl
 |_::a=>bt (·+1)<|zJ a
theorem Ke{s0:υ Sl}{s:Sl}(h:wA s0=γ s):∃d,s= .dat d/\Gn d=true/\s0=γ (.dat d):=by
 cases s0 with
 |none=>cases h
 |some x=>
  cases x with
  |dat t=>
   by_cases n:Gn t=true
   ·rw[show wA (γ<|.dat t)=γ (.dat t)from Α n]at h;cases h;exact⟨t,rfl,n,rfl⟩
   ·rw[show wA (γ<|.dat t)=none from χ n]at h;cases h
  |_=>cases h
theorem oE:∀(a:bF)(i:ν)(s:Sl),slot (sQ a) i=γ s->∃d,s= .dat d/\Gn d=true/\slot a i=γ (.dat d)
 |[],_,_,h=>by cases h
 |_::a,i+1,s,h=>oE a i s h
 |s0::a,0,s,h=>Ke (s0:=s0) h
section
variable{K:μ}{H₀:Hp}{E:XK}
theorem Sees.chg{G H b:Hp}{e:bF}{l:L2.St}{d:ο}{f:fI}(S:Sees K H₀ G e l H)(c:Chg K H d f b)(m:∃g,H d=γ (.dK g)):Sees K b b (sQ e) l b:=by
 refine⟨Same.refl _,Sub.refl _,by rw[zJ];exact S.len,λi s k=>?_,λi j q r a k=>?_⟩
 ·obtain⟨t,rfl,n,h⟩:=oE e i s k;obtain⟨v,o,p⟩:=S.has i _ h;exact⟨v,o,c.dv m (cU S.sub.same p) n⟩
 ·obtain⟨t,z,_⟩:=oE e i _ k;cases z
abbrev RG:=fI->η->Prop
structure EndG(K:μ)(H₀:Hp)(d:ο)(R:RG)(D:Ends):Prop where
 rt:∀(v:V)(t:η)(kv':fI)(H':Hp),R kv' t->Chg K H₀ d kv' H'->DV K H' v t->D.rt v H'
abbrev DMG:=RG->DX->bF->Prop
def MuG(K:μ)(H₀:Hp)(E:XK)(c:ν)(e:μ->Hp->V->Prop)(d:ο)(h:fI)(f:TS)(g:DMG):Prop:=∀R ex a b G H D,lJ H₀ E ex->Sees K H₀ G a b H->slot a c=γ (.mon e)->g R ex a->EndG K H₀ d R D->f D b H
variable{i0:ν}{φ:μ->Hp->V->Prop}{p d dx C:ο}{f:Ξ}{kv:fI}{ts tz tw:TS}{ds dz:DS}{dm dm2:DMG}{tt:TT}{dt:DT}{te ta tb td:TE}{da db:DE}{dl:DL}
def aRd(c:RG)(a:DX)(b:bF):Prop:=Ε
theorem aHd:MuG K H₀ E i0 φ d kv ts aRd:=λ_ _ _ _ _ _ _ _ _ _ q _=>q.elim
def aHu(i0:ν)(kv:fI)(ds:DS)(dm:DMG)(R:RG)(ex:DX)(b:bF):Prop:=ds {nx:=λa=>slot a i0=slot b i0/\dm R ex a,rt:=jJ<|R kv,ex:=ex} b
theorem Jx(h:IsK K H₀ d kv)(i:iB K H₀ E ts ds)(j:MuG K H₀ E i0 φ d kv tz dm):MuG K H₀ E i0 φ d kv (sV ts tz) (aHu i0 kv ds dm):=λR ex k l G H D e S m q L=>
 i k l G H _ {D with nx:=tz D} e S q ⟨λa b n c s o g=>j R ex a b n c D e o (g.1.trans m) g.2 L,λv s c u r z=>by
  obtain⟨t,w,x⟩:=fC r z
  exact L.rt v t kv c x (Chg.of_same u h) w,λ_ _ _ _ _ _ z=>z.elim,λ_ _ _ _ _ _ z=>z.elim⟩
def aRe(dt:DT)(dm dm2:DMG)(R:RG)(ex:DX)(a:bF):Prop:=dt ex a λb=>if b=true then dm R ex a else dm2 R ex a
theorem Xk(h:Ac K H₀ E tt dt)(m:MuG K H₀ E i0 φ d kv ts dm)(n:MuG K H₀ E i0 φ d kv tz dm2):MuG K H₀ E i0 φ d kv (sV (aCe tt ts Mh) tz) (aRe dt dm dm2):=λR ex a c G H D e S g q L=>
 h ex a c G H _ _ e S q λb i j k l=>by
  cases b with
  |true=>exact aQh<|m R ex a c i j _ e (S.ext k) g l ⟨L.rt⟩
  |false=>exact aQi<|n R ex a c i j D e (S.ext k) g l L
def aBh(K:μ)(H₀:Hp)(i0:ν)(φ:μ->Hp->V->Prop)(d:ο)(td:TE):Prop:=∀(G H:Hp)(a:bF)(b:L2.St)(Q:VK),Sees K H₀ G a b H->slot a i0=γ (.mon φ)->Q (.ref d) H->td b H Q
theorem Pd(a:∀G v,φ K G v->v= .ref p)(c:H₀ p=γ (.ins C dx [(f,V.ref d)]))(e:Cls K C)(g:NoAttr K C f):aBh K H₀ i0 φ d (aCf K (fL i0) f):=λG H j k Q S h q=>by
 obtain⟨v,i,b⟩:=S.has i0 _ h;cases a G v (b G<|Same.refl _);exact⟨_,i,p,C,dx,_,_,rfl,S.oldH _ _ c,e,g,by rw[dr,gf],q⟩
def aHv(kv:fI)(i:ν)(dl:DL)(dz:DS)(R:RG)(ex:DX)(a:bF):Prop:=∃x,slot a i=γ (.dat<|.str x)/\dl ex a λb=>rG b=true/\kv.length<1000/\dz {nx:=λ_=>Ε,rt:=jJ<|R<|putP kv x<|.list b,ex:=λ_=>Ε} (sQ a)
theorem aKp(i:ν)(m:IsK K H₀ d kv)(P:aBh K H₀ i0 φ d td)(T:xV K H₀ E te dl)(U:∀H,iB K H E tz dz):MuG K H₀ E i0 φ d kv (sV (aGt td (fL i) te) tz) (aHv kv i dl dz):=λR ex B F G H D W S X ⟨x,Y,q⟩ L=>
 T ex B F G H _ _ W S q λa us n Z g I a0 hg u hD ⟨J,hl,q1⟩=>by
  have h:=S.ext I;refine P Z g B F _ h X ?_;obtain⟨y,hy,w⟩:=h.has i _ Y;cases cT w;obtain⟨e,l,M⟩:=(m.same h.oldH).at_;have ad:a≠d:=by
   rintro rfl;rw[l]at u;cases u
  have hlen:e.length=kv.length:=pz M;refine⟨_,hy,d,_,rfl,DPut.k (k:=Sum.inr x) l (by rw[hlen];exact bQ<|bu hl),?_⟩;have N:∀b o,b≠d->g b=γ o->dP g d (.dK<|lX e (Sum.inr x:fB)<|.ref a) b=γ o:=λb o nb j=>by rw[aV nb];exact j
  have O:∀b o,g b=γ o->(∀e,o≠ .dK e)->dP g d (.dK<|lX e (Sum.inr x:fB)<|.ref a) b=γ o:=λb o j no=>N b o (by rintro rfl;rw[l]at j;cases j;exact no _ rfl) j;have A:DV K (dP g d<|.dK<|lX e (Sum.inr x:fB)<|.ref a) (.ref a) (.list n):=.lst (SqL.of (by rw[aV ad];exact u))<|tX O (aU I.s.same hD) J;have c:Chg K g d (putP kv x<|.list n) (dP g d<|.dK<|lX e (Sum.inr x:fB)<|.ref a):=
   ⟨N,⟨⟨_,aZ,(M.noD O m.nd).putP A⟩,m.nd.put J⟩⟩
  refine U _ _ _ _ _ {nx:=λ_=>Ε,rt:=jJ<|R<|putP kv x<|.list n,ex:=λ_=>Ε} _ (λ_ _ _ z=>z.elim) (h.chg c ⟨_,l⟩) q1 ⟨λ_ _ _ _ _ _ z=>z.elim,λv s H' sm r z=>?_,λ_ _ _ _ _ _ z=>z.elim,λ_ _ _ _ _ _ z=>z.elim⟩;obtain⟨t,ht,hR⟩:=fC r z;exact L.rt v t _ H' hR ((c.post sm).pre h.oldH) ht
def aHw(kv:fI)(da:DE)(dz:DS)(R:RG)(ex:DX)(a:bF):Prop:=da ex a λy=>match y with
 | .str x=>(kv.lookup x).isSome=true/\dz {nx:=λ_=>Ε,rt:=jJ<|R<|dropP kv x,ex:=λ_=>Ε} (sQ a)
 |_=>Ε
theorem aKq(h:IsK K H₀ d kv)(F:aBh K H₀ i0 φ d td)(I:jL K H₀ E ta da)(J:∀H,iB K H E tz dz):MuG K H₀ E i0 φ d kv (sV (yJ<|Ue td ta) tz) (aHw kv da dz):=λR ex m n G H D M S N q L=>by
 obtain⟨u,O,_⟩:=(h.same S.oldH).at_;refine F G H m n _ S N ⟨d,rfl,.inl ⟨_,.inl O⟩,I ex m n G H _ _ M S q λy P G1 e T U w=>?_⟩;have i:=S.ext T;cases P with
 |str x=>
  cases cT U;refine q_ λwv=>?_;obtain⟨a,j,A⟩:=(h.same i.oldH).at_;obtain⟨W,X⟩:=w;obtain⟨t0,k⟩:=kz.mp W;obtain⟨Y,l,_⟩:=pE A k;apply wv;refine⟨a,Sum.inr x,Y,j,rfl,l,?_⟩;have B:∀b o,b≠d->e b=γ o->dP e d (.dK<|nY a (Sum.inr x:fB)) b=γ o:=λb o Z g=>by rw[aV Z];exact g
  have kn:∀b o,e b=γ o->(∀a,o≠ .dK a)->dP e d (.dK<|nY a (Sum.inr x:fB)) b=γ o:=λb o g no=>B b o (by rintro rfl;rw[j]at g;cases g;exact no _ rfl) g;have c:Chg K e d (dropP kv x) (dP e d<|.dK<|nY a (Sum.inr x:fB)):=⟨B,⟨⟨_,aZ,(A.noD kn h.nd).dropP⟩,h.nd.drop⟩⟩;refine J _ _ _ _ _ {nx:=λ_=>Ε,rt:=jJ<|R<|dropP kv x,ex:=λ_=>Ε} _ (λ_ _ _ z=>z.elim) (i.chg c ⟨_,j⟩) X ⟨λ_ _ _ _ _ _ z=>z.elim,λv s H' sm r z=>?_,λ_ _ _ _ _ _ z=>z.elim,λ_ _ _ _ _ _ z=>z.elim⟩;obtain⟨t,ht,hR⟩:=fC r z;exact L.rt v t _ H' hR ((c.post sm).pre i.oldH) ht
 |_=>exact w.elim
abbrev LG:=fI->ε η->RG->DX->Prop
def spG(K:μ)(C:ο)(f:Ξ)(L:LG):Sp:=λg H Q E=>∃(p dx d:ο)(b:ε V)(ds:ε η)(kv:fI)(R:RG)(ex:DX),g= .ref p::b/\H p=γ (.ins C dx [(f,V.ref d)])/\IsK K H d kv/\DVs K H b ds/\L kv ds R ex/\
 (∀(v:V)(t:η)(c:fI)(a:Hp),R c t->Chg K H d c a->DV K a v t->Q v a)/\(∀e a,Same H a->ex e->E (.ref e) none a)
def Zi(kv:fI)(L:LG)(dl:DL)(R:RG)(ex:DX)(a:bF):Prop:=dl ex a λds=>L kv ds R ex
theorem aEa{L:LG}{m:Ξ}{t:TA}(b:∀G v,φ K G v->v= .ref p)(k:H₀ p=γ (.ins C dx [(f,V.ref d)]))(n:IsK K H₀ d kv)(o:f≠m)(r:oY K H₀ E t dl):MuG K H₀ E i0 φ d kv (Je<|yI C m (spG K C f L) [] E (fL i0) t) (Zi kv L dl):=λR ex s u G H D l S w q x=>by
 obtain⟨v,e,g⟩:=S.has i0 _ w;cases b G v (g G<|Same.refl _);refine⟨_,e,p,dx,_,rfl,S.oldH _ _ k,rH o,r ex s u G H _ _ l S q λy ds M N z h A=>?_⟩;have a:=(S.ext z).oldH;exact⟨p,dx,d,y,ds,kv,R,ex,by rw[eT],a _ _ k,n.same a,h,A,λv t i j B c e=>x.rt v t i j B (c.pre a) e,λF j I J=>l F j (a.trans I) J⟩
def Ze(p C:ο)(f:Ξ)(kv:fI):μ->Hp->V->Prop:=λK G v=>v= .ref p/\dskP C f kv K G v
variable{P:Program}{w:gb}{mg:Ξ->υ ξ}{base:ei}
theorem okG{x qual s0:Ξ}{st:Stmt}{a:ο}{u:FuncData}{N g:ε Ξ}{k:ν}{L:LG}(F:Fun K x qual st a u)(S:FnScope (s0::N) g<|aM st)(i:∀kv ds R ex,L kv ds R ex->ds.length+1=g.length)
  (e:∀(b:ξ)(A:Around)(outer:ε Env)(s:Ζ)(H:Hp)(E:XK),Room k (A.deeper (envOfC qual (aM st) s.heap.objs.size a b)) ->
   ∃t,Df (oS (iY P w) P w K mg base (s0::N) qual (aM st) a b A outer s H E) (eP st) t/\∀p dx d kv,H p=γ (.ins C dx [(f,V.ref d)])->IsK K H d kv->∃dm,MuG K H E 0 (Ze p C f kv) d kv t dm/\∀ds R ex,L kv ds R ex->dm R ex (γ (.mon (Ze p C f kv))::gW N ds)):
  FnOk P w K mg base (iY P w) (k+1) a u g (spG K C f L):=by
 refine okE F S (λB H Q E h=>?_) λb A outer s H B Q E D h=>?_
 ·obtain⟨p,dx,d,j,ds,kv,R,ex,rfl,_,_,l,m,_⟩:=h;rw[Ρ,l.len];exact i _ _ _ _ m
 ·refine q_ λwv=>?_;obtain⟨p,dx,d,j,ds,kv,R,ex,rfl,y,z,l,m,G,I⟩:=h;obtain⟨t,J,M⟩:=e b A outer s H E D;obtain⟨dm,n,O⟩:=M p dx d kv y z;obtain⟨o,T,U⟩:=z.at_;apply wv;exact⟨t,J,n R ex _ _ H H _ I (rT (φ:=Ze p C f kv) (λZ q=>⟨rfl,p,dx,d,o,rfl,q _ _ y,q _ _ T,U.same q⟩) l) rfl (O ds R ex m) ⟨λv t r W X c Y=>G v t r W X c Y⟩⟩
def aAl(i0:ν)(φ:μ->Hp->V->Prop)(kv:fI)(w:Ip)(dl:DL)(b:DG)(e:DEnds)(a:bF):Prop:=slot a i0=γ (.mon φ)/\dl e.ex a λds=>gM a=true/\w kv ds (jJ λt=>b t a e.nx) e.ex
theorem Um{w:Ip}{m:Ξ}{t:TA}{g:TG}{n:DG}{A:ε ν}(h:∀G v,φ K G v->dskP C f kv K G v)(B:f≠m)(F:oY K H₀ E t dl)(I:Ll K H₀ g A n):iB K H₀ E (kW (yI C m (uH K C f w) [] E (fL i0) t) g) (aAl i0 φ kv w dl n):=λo u G H e D x S ⟨J,q⟩ L=>by
 obtain⟨v,M,N⟩:=S.has i0 _ J;obtain⟨p,dx,d,i,rfl,y,O,R⟩:=h G v<|N G<|Same.refl _;refine⟨_,M,p,dx,_,rfl,S.sub.same _ _ y,rH B,F e.ex o u G H _ _ x S q λT ds G1 H1 a U y_=>?_⟩;obtain⟨W,X⟩:=y_;refine⟨.ref p,T,kv,ds,_,e.ex,by rw[eT],(dskP.same (a.g.trans a.s.same) ⟨p,dx,d,i,rfl,y,O,R⟩),U,X,λv s b c r Y=>?_,λZ b c hc=>x Z b ((S.ext a).oldH.trans c) hc⟩;obtain⟨d2,j,q2⟩:=fC r Y;exact I v d2 o u b b _ _ ((S.ext a).all2 W c) j q2 λk l S' _ q'=>L.nx k l b b ((S.ext a).sub.same.trans c|>λz=>a.g.trans z) S' q'
end
section
variable{X:Cx}{k:ν}{f C:ο}{fd:FuncData}{ps:ε Ξ}{sp:Sp}{m x:Ξ}{apos pos spos pos':Pos}{o e:Expr}{es:ε Expr}{ta:TE}{t:TA}{i:ν}
theorem aCu{pins:ε<|ο×Obj}{s:Ζ}{c:L2.St}{H:Hp}{Q:VK}{E:XS}{us:ε ξ}{vs:ε V}(F:FnOk X.prog X.w X.K X.mg X.base (iY X.prog X.w) k f fd ps sp)(d:Room k X.A)(g:Binds X.K fd ps [])(I:Inv X pins c H s)(r:Vals vs us)(h:sp vs H Q<|E c):
  Φ (model X.prog X.w) X.A (call (.ref f) us) (EP X pins c Q) (Up X pins E) s:=by
 have j:(us++[]).length=ps.length:=by rw[eT,<-r.length];exact F.len _ _ _ _ h
 have a:=g s us I.kIn j;rw[eT]at a;refine yt<|m9 (F.run X.A X.stack s H ⟨us,[]⟩ us vs Q (E c) d I.env0 a r h) λr l b=>?_
 match r,b with
 | .error e,b=>exact aOn I b
 | .ok (.ret u),b=>exact I.after b
def aGe(C:ο)(m:Ξ)(sp:Sp)(i:ν)(ta:TE)(t:TA):TSX:=λD E b H=>ta b H λx c=>∃a g d,x= .ref a/\c a=γ (.ins C g d)/\d.lookup m=none/\t b c λh j=>sp (x::h) j (λv l=>D.nx (b.set i<|some v) l)<|E b
theorem Vv{pl:Sem Bool}(R:X.N.Nodup)(S:X.N[i]? =γ x)(T:Loc X.env.scope x)(U:PE X.nox o ta)(c:Cls X.K C)(M:Meth X.K C m f)(F:FnOk X.prog X.w X.K X.mg X.base (iY X.prog X.w) k f fd ps sp)(Y:Room k X.A)(Z:Binds X.K fd ps [])(ha:PA X.nox (e::es) t)
  (hs:swapsWith (.Call (.Attribute o m apos) (e::es) [] pos) (γ<|.Name x pos') spos.line X.env=pure false:=by rfl) (hf:X.fn x=true\/X.env.scope.names.lookup x=γ .local:=by first|exact .inl rfl|exact .inr rfl|assumption)
  (w:starEach (e::es) X.env=(false,eval e X.env)::starEach es X.env:=by rfl) (A:(backTo pos<|starEach es X.env).any (·.1)=false:=by rfl)
  (ht:eval (.Call (.Attribute o m apos) (e::es) [] pos) X.env=(do
   let N <-eval o X.env
   standAt apos.atName
   let(f,first) <-holding [N] (getMethod N m pl)
   callWith pos f first (backTo pos (starEach (e::es) X.env)) (backToKw pos (keywordEach [] X.env))):=by rfl):
  PSX X (.Assign [.Name x pos'] (.Call (.Attribute o m apos) (e::es) [] pos) spos) (aGe C m sp i ta t):=by
 intro pins s b H D E I h;have main:Φ (model X.prog X.w) X.A (eval (.Call (.Attribute o m apos) (e::es) [] pos) X.env) (EP X pins b λv g=>D.nx (b.set i<|some v) g) (Up X pins E) s:=by
  have B:=ed (U pins s b H _ (I.wish _) h) (Q':=EP X pins b λx d=>∃a O G,x= .ref a/\d a=γ (.ins C O G)/\G.lookup m=none/\t b d λvs j=>sp (x::vs) j (λv g=>D.nx (b.set i<|some v) g)<|E b) (E':=Up X pins E)
   (λ_ _ ⟨y,J,K,r,q⟩=>⟨y,J,K.unwish,r,q⟩) λ_ _ z=>ee z
  refine xt (pl:=pl) (dQ B λu P y_=>?_) ht;refine q_ λW_=>?_;obtain⟨y,d,n,rx,a,O,G,ey,ea,l,q⟩:=y_;apply W_;subst ey;obtain rfl:u=aw a:=rx;refine wE n ea c M l ?_;have L:=ed (ha pos pins P b d _ (n.wish _) q) (Q':=AP X pins b λvs j=>sp (.ref a::vs) j (λv g=>D.nx (b.set i<|some v) g)<|E b) (E':=Up X pins E) (λ_ _ ⟨vs,J,K,r,q⟩=>⟨vs,J,K.unwish,r,q⟩) λ_ _ z=>ee z;refine vn (first:=[.ref a]) (h₀:=X.base) I.ok.mod.kin M.kp (dQ L λus s2 ⟨vs,j,p,r,q2⟩=>⟨p.kIn,?_⟩) w A;exact aCu (us:=.ref a::us) (vs:=.ref a::vs) F Y Z p (.cons rfl r) q2
 refine vj (dQ main λv P y_=>?_) hs;refine q_ λW_=>?_;obtain⟨y,d,n,r1,q1⟩:=y_;apply W_;exact kG n R S T r1 (λs2 p=>⟨_,d,p,q1⟩) hf
end
structure Store(K:μ)(as:ε ο)(ks:ε fI)(H:Hp):Prop where
 len:as.length=ks.length
 is:∀(i:ν)(a:ο)(kv:fI),as[i]? =γ a->ks[i]? =γ kv->IsK K H a kv
theorem Store.same{K:μ}{b:ε ο}{c:ε fI}{H d:Hp}(s:Same H d)(h:Store K b c H):Store K b c d:=⟨h.len,λi a e f g=>(h.is i a e f g).same s⟩
theorem Store.chg{K:μ}{g:ε ο}{k:ε fI}{H o:Hp}{j:ν}{d:ο}{e:fI}(w:g.Nodup)(h:Store K g k H)(f:g[j]? =γ d)(c:Chg K H d e o):Store K g (k.set j e) o:=by
 obtain⟨b,n⟩:∃b,k[j]? =γ b:=by
  have:j<k.length:=by rw[<-h.len];exact(ρ.mp f).1
  exact⟨_,Ι this⟩
 obtain⟨p,x,_⟩:=(h.is j d b f n).at_;refine⟨by rw[ib];exact h.len,λi a y l m=>?_⟩;by_cases z:i=j
 ·subst z;rw[f]at l;cases l;rw[gh (by rw[<-h.len];exact(ρ.mp f).1)]at m;cases m;exact c.is
 ·rw[dV<|Ne.symm z]at m;have A:a≠d:=by
   rintro rfl;obtain⟨r,s⟩:=ρ.mp l;obtain⟨t,u⟩:=ρ.mp f;have v:=fx.mp w;rcases og z with q|q
   ·exact v i j r t q<|s.trans u.symm
   ·exact v j i t r q<|u.trans s.symm
  exact(h.is i a y l m).other A c.keep ⟨_,x⟩
noncomputable def Gy(b:ε<|ν×ο)(a:bF):bF:=b.foldl (λa m=>put (γ<|.mon<|Oe m.2) m.1 a)<|sQ a
structure WEnds where
 nx:bF->ε fI->Prop
 rt:η->Prop
section
variable{K:μ}{as:ε ο}{Fx:Hp->Prop}{ts tz tb:TS}{ds:DS}
structure LkW(K:μ)(as:ε ο)(Fx:Hp->Prop)(e:WEnds)(D:Ends):Prop where
 nx:∀δ ks σ H,Sees K H H δ σ H->Fx H->Store K as ks H->e.nx δ ks->D.nx σ H
 rt:∀v t H,Fx H->DV K H v t->e.rt t->D.rt v H
abbrev DWS:=WEnds->bF->ε fI->Prop
def Iv(K:μ)(as:ε ο)(Fx:Hp->Prop)(ts:TS)(d:DWS):Prop:=∀e a b c H D,Sees K H H a c H->Fx H->Store K as b H->d e a b->LkW K as Fx e D->ts D c H
variable{dw dw2:DWS}
def aHq(dw dw2:DWS)(e:WEnds)(a:bF)(b:ε fI):Prop:=dw {e with nx:=dw2 e} a b
theorem Kc(d:Iv K as Fx ts dw)(f:Iv K as Fx tz dw2):Iv K as Fx (sV ts tz) (aHq dw dw2):=λe g h i H D S j k q L=>
 d {e with nx:=dw2 e} g h i H {D with nx:=tz D} S j k q ⟨λa b c l m n o p=>f e a b c l D m n o p L,L.rt⟩
def Yw(ds:DS)(e:WEnds)(b:bF)(c:ε fI):Prop:=ds {nx:=λa=>gM a=true/\e.nx a c,rt:=jJ e.rt,ex:=λ_=>Ε} b
theorem Sees.fresh{a H:Hp}{b:bF}{c:L2.St}(S:Sees K a H b c H):Sees K H H b c H:=⟨Same.refl _,S.sub,S.len,S.has,S.sep⟩
theorem tS(f:∀H a,Same H a->Fx H->Fx a)(h:∀H,iB K H E0 ts ds):Iv K as Fx ts (Yw ds):=λe i j k H D S g l q L=>
 h H i k H H _ D jW S q ⟨λb c u a s d ⟨m,z⟩=>L.nx b j c a (d.all2 m (Same.refl _)).fresh (f H a d.oldH g) (l.same d.oldH) z,λv s a n r z=>by
  obtain⟨t,o,p⟩:=fC r z
  exact L.rt v t a (f H a n g) o p,λ_ _ _ _ _ _ z=>z.elim,λ_ _ _ _ _ _ z=>z.elim⟩
structure GoodF(K:μ)(as:ε ο)(Fx:Hp->Prop):Prop where
 mono:∀H H',Same H H'->Fx H->Fx H'
 chg:∀H H' d kv',d∈as->(∃kvs,H d=γ (.dK kvs))->Chg K H d kv' H'->Fx H->Fx H'
theorem Ek{a:L2.St}{i:ν}{v:V}(h:a[i]? =γ (γ v)):a.set i (γ v)=a:=by
 refine List.ext_getElem? λj=>?_;by_cases z:j=i
 ·subst z;rw[gh (ρ.mp h).1,h]
 ·rw[dV<|Ne.symm z]
theorem uM{H:Hp}{c:L2.St}:∀(b:ε<|ν×ο){a:bF},(∀m∈b,c[m.1]? =γ (γ<|.ref m.2))->Sees K H H a c H->Sees K H H (b.foldl (λa m=>put (γ<|.mon<|Oe m.2) m.1 a) a) c H
 |[],_,_,S=>S
 |m::b,a,h,S=>by
  refine uM b (λq e=>h q<|Θ _ e) ?_;have d:=S.setS (v:=.ref m.2) (s:=.mon<|Oe m.2) m.1 (λ_ _=>rfl) λ_ _ _ _ z=>nomatch z;rw[Ek<|h m<|Κ ..]at d;exact d
theorem Sees.chgM{a G H b:Hp}{e:bF}{j:L2.St}{d:ο}{f:fI}{g:ε<|ν×ο}(S:Sees K a G e j H)(c:Chg K H d f b)(k:∃i,H d=γ (.dK i))(l:∀m∈g,slot e m.1=γ (.mon<|Oe m.2)):Sees K b b (Gy g e) j b:=
 uM g (λm h=>by
  obtain⟨v,n,o⟩:=S.has m.1 _<|l m h
  cases (show v= .ref m.2 from o G (Same.refl _))
  exact n) (S.chg c k)
variable{g:TG}{ns:ε ν}{dg:DG}{t:TA}{dl:DL}{ta:TE}{da:DE}
def Op(d:τ)(n:ν)(dg:DG)(dw:DWS)(e:WEnds)(f:bF)(h:ε fI):Prop:=∃I:ν->bF->ε fI->Prop,I 0 f h/\
 (∀i a b,i<n->I i a b->dg (.int<|d+i) a λc=>dw {e with nx:=I<|i+1} c b)/\∀a b,I n a b->e.nx a b
theorem Xn{l:τ}{n:ν}{e:WEnds}{o:bF}{p:ε fI}{d:L2.St}{H:Hp}{D:Ends}(F:∀H,Ll K H g ns dg)(G:Iv K as Fx tb dw)(S:Sees K H H o d H)(J:Fx H)(M:Store K as p H)(q:Op l n dg dw e o p)(L:LkW K as Fx e D):
  ∃W:ν->ν->L2.St->Hp->Prop,(∃m,W 0 m d H)/\∀i m d H,W i m d H->((Itr l n).stop i H/\D.nx d H)\/((Itr l n).go i H/\∃N:L2.St->Hp->Prop,(∀c f,N c f->∃A,A<m/\W (i+1) A c f)/\∀x f,(Itr l n).yld i H x f->g x d f λk h=>tb {D with nx:=N,ct:=N,bk:=D.nx} k h):=by
 refine q_ λwv=>?_;obtain⟨I,O,step,r⟩:=q;apply wv;refine⟨λi m d H=>m=n-i/\i<=n/\∃a b,Sees K H H a d H/\Fx H/\Store K as b H/\I i a b,⟨_,rfl,hB _,o,p,S,J,M,O⟩,?_⟩;intro i m c f qQ0;refine q_ λwv=>?_;obtain⟨rfl,P,a,b,S',B,C,E⟩:=qQ0;apply wv;by_cases j:i<n
 ·refine .inr ⟨j,λd H=>∃a b,Sees K H H a d H/\Fx H/\Store K as b H/\I (i+1) a b,λk h z=>⟨_,‹50›,rfl,j,z⟩,λx h y=>?_⟩;obtain⟨rfl,rfl⟩:=y;refine F h _ _ a c h h _ _ S' (.int _) (step i a b j E) λs u R _ T=>?_;exact G {e with nx:=I<|i+1} s b u h _ R B C T ⟨λv w U H4 X Y Z q4=>⟨v,w,X,Y,Z,q4⟩,L.rt⟩
 ·have:i=n:=by lia
  subst this;exact .inl ⟨Η _,L.nx a b c f S' B C<|r a b E⟩
theorem Os{H:Hp}:∀{a:ε V}{ds:ε η},DVs K H a ds->∀{i:ν}{v:V},a[i]? =γ v->∃x,ds[i]? =γ x/\DV K H v x
 |_,_,.nil,i,v,h=>by simp at h
 |_::a,_::ds,.cons h t,i,v,e=>by
  cases i with
  |zero=>cases e;exact⟨_,rfl,h⟩
  |succ i=>exact Os t (i:=i) (v:=v) e
theorem aEx{H:Hp}{b:ε V}{a:η}(h:DVs K H b [a]):∃x,b=[x]/\DV K H x a:=by
 cases h with
 |cons h t=>cases t;exact⟨_,rfl,h⟩
def aLz(dl:DL)(dg:DG)(dw:DWS)(e:WEnds)(a:bF)(c:ε fI):Prop:=gM a=true/\dl (λ_=>Ε) a λds=>∃b:τ,ds=[.int b]/\-(2^62)<=b/\b<2^62/\Op 0 b.toNat dg dw e a c
theorem aEc(d:GoodF K as Fx)(f:∀H,oY K H E0 t dl)(h:∀H,Ll K H g ns dg)(i:Iv K as Fx tb dw):Iv K as Fx (aJb (Xy t) g tb) (aLz dl dg dw):=λe j y k H D S l m ⟨n,q⟩ L=>
 f H _ j k H H _ _ jW S q λz ds A o p a ⟨b,r,s,u,v⟩=>by
  subst r;refine q_ λwv=>?_;obtain⟨x,rfl,w⟩:=aEx a;apply wv;cases cF w;have c:=S.ext p;exact⟨b,rfl,s,u,Xn h i (c.all2 n<|Same.refl _).fresh (d.mono H o c.oldH l) (m.same c.oldH) v L⟩
theorem Sees.all2'{H a:Hp}{c:bF}{d:L2.St}(S:Sees K H H c d H)(s:Same H a):Sees K a a c d a:=⟨Same.refl _,Sub.refl _,S.len,λi u e=>by
 obtain⟨v,f,h⟩:=S.has i u e
 refine⟨v,f,?_⟩
 have x:Ext H H a a:=⟨s,s,Sub.refl _,λb o j=>by
  cases q:H b with
  |none=>exact .inr rfl
  |some w=>exact .inl ((s b w q).symm.trans j)⟩
 exact h.ext x,S.sep⟩
theorem aDy{C:ο}{f:Ξ}{m:L2.St}{H:Hp}{Q:VK}(k:∀(x a d:ο)(i:Hp),Same H i->H d=none->i x=γ (.ins C a [(f,V.ref d)])->i d=γ (.dK [])->Q (.ref x) i):Ud C (Ag C f) [] E0 iS m H Q:=by
 intro x a e l n;refine⟨x,a,rfl,aZ,λd p c q r s=>⟨rfl,?_⟩⟩;have xd:x≠d:=by
  rintro rfl;rw[aZ]at c;cases c
 have h:H d=none:=by
  have:dP (dP H a<|.own x) x (.ins C a []) d=none:=c;rw[aV<|Ne.symm xd]at this;by_cases z:d=a
  ·rw[z,aZ]at this;cases this
  ·rw[aV z]at this;exact this
 exact k x a d p (λb o j=>s b o (by rw[aV<|bL j e,aV<|bL j l];exact j)<|bL j e) h q r
structure Begun(K:μ)(C:ο)(f:Ξ)(as ps es:ε ο)(aD aK:ο)(Fx:Hp->Prop):Prop where
 good:GoodF K as Fx
 nd:as.Nodup
 lp:ps.length=2
 le:es.length=2
 hD:∀H,Fx H->H aD=γ (.lst<|ps.map V.ref)
 hp:∀H,Fx H->∀w p,ps[w]? =γ p->∃dx d,H p=γ (.ins C dx [(f,V.ref d)])/\as[0+w]? =γ d
 hK:∀H,Fx H->H aK=γ (.lst<|es.map V.ref)
 he:∀w d,es[w]? =γ d->as[2+w]? =γ d
end
section
variable{K:μ}{H₀:Hp}{E:XK}{i0:ν}{φ:μ->Hp->V->Prop}{d:ο}{kv:fI}{ts tz:TS}{ds:DS}{dm:DMG}
theorem wK{p C:ο}{f:Ξ}:∀G v,Ze p C f kv K G v->v= .ref p:=λ_ _ h=>h.1
theorem aMb{p C:ο}{f:Ξ}:∀G v,Ze p C f kv K G v->dskP C f kv K G v:=λ_ _ h=>h.2
end
section
variable{K:μ}{as:ε ο}{Fx F:Hp->Prop}{tt tu:TT}{ts tz tb:TS}{ds:DS}{dt:DT}
abbrev DTW:=bF->ε fI->(Bool->bF->ε fI->Prop)->Prop
def TwD(K:μ)(as:ε ο)(Fx:Hp->Prop)(tt:TT)(d:DTW):Prop:=∀g h f H i Q,Sees K H H g f H->Fx H->Store K as h H->d g h i->(∀b c e a,Sees K a a c f a->Fx a->Store K as e a->i b c e->Q b a)->tt f H Q
variable{d1 d2:DTW}{dw dw2:DWS}
def Zd(dt:DT)(a:bF)(c:ε fI)(Q:Bool->bF->ε fI->Prop):Prop:=gM a=true/\dt (λ_=>Ε) a λb=>Q b a c
theorem Md(f:∀H c,Same H c->Fx H->Fx c)(h:∀H,Ac K H E0 tt dt):TwD K as Fx tt (Zd dt):=λd g i H p Q S j l ⟨m,q⟩ k=>
 h H _ d i H H _ _ jW S q λb r e n o=>by
  have a:=S.ext n;exact k b d g e (a.all2 m<|Same.refl _).fresh (f H e a.oldH j) (l.same a.oldH) o
def aHr(d1:DTW)(d:bF)(e:ε fI)(Q:Bool->bF->ε fI->Prop):Prop:=d1 d e λb a c=>Q (!b) a c
theorem aIx(d:TwD K as Fx tt d1):TwD K as Fx (aIz tt) (aHr d1):=λe f g H p Q S h i q k=>
 d e f g H _ _ S h i q λb a c j l m n o=>k (!b) a c j l m n o
def aQx(d1:DTW)(dw dw2:DWS)(e:WEnds)(d:bF)(f:ε fI):Prop:=d1 d f λb a c=>if b=true then dw e a c else dw2 e a c
theorem Nw(h:TwD K as Fx tt d1)(l:Iv K as Fx ts dw)(m:Iv K as Fx tz dw2):Iv K as Fx (aCe tt ts tz) (aQx d1 dw dw2):=λe n o d H D S p r q L=>
 h n o d H _ _ S p r q λb a c f g i j k=>by
  cases b with
  |true=>exact aQh<|l e a c d f D g i j k L
  |false=>exact aQi<|m e a c d f D g i j k L
def Yx(e:WEnds)(a:bF)(b:ε fI):Prop:=e.nx a b
theorem tT:Iv K as Fx Mh Yx:=λe a b c H D S d f q L=>L.nx a b c H S d f q
structure Beg1(K:μ)(C:ο)(f:Ξ)(as:ε ο)(p:ο)(Fx:Hp->Prop):Prop where
 good:GoodF K as Fx
 nd:as.Nodup
 hp:∀H,Fx H->∃dx d,H p=γ (.ins C dx [(f,V.ref d)])/\as[0]? =γ d
variable{C p:ο}{f m:Ξ}{t:TA}{dl:DL}{te:TE}{de:DE}{L:LG}{iO:ν}
def aRb(iO:ν)(p:ο)(d:ε<|ν×ο)(L:LG)(dl:DL)(de:DE)(c:bF)(g:ε fI)(Q:Bool->bF->ε fI->Prop):Prop:=slot c iO=γ (.mon<|Oe p)/\(∀m∈d,slot c m.1=γ (.mon<|Oe m.2))/\dl (λ_=>Ε) c λds=>∃h,g[0]? =γ h/\
 L h ds (λe t=>∃a,t= .str a/\gM (Gy d c)=true/\de (λ_=>Ε) (Gy d c) λz=>∃b,z= .str b/\Q (!decide (a=b)) (Gy d c) (g.set 0 e)) (λ_=>Ε)
theorem aCi{a b:Ξ}:decide (V.str a=V.str b)=decide (a=b):=by
 by_cases h:a=b
 ·rw[h];simp
 ·rw[Τ h,Τ λz=>h<|by injection z]
theorem Ts(P:ε<|ν×ο)(e:Beg1 K C f as p Fx)(R:f≠m)(T:∀H,oY K H E0 t dl)(U:∀H,gG K H E0 te de):TwD K as Fx (Mf<|wY rNe (yI C m (spG K C f L) [] E0 (fL iO) t) te) (aRb iO p P L dl de):=λW ks x H Qd Q S A X ⟨Y,Z,q⟩ k=>by
 obtain⟨v,hv,i⟩:=S.has iO _ Y;cases (show v= .ref p from i H (Same.refl _));obtain⟨B,d,D,j⟩:=e.hp H A;refine⟨_,hv,p,B,_,rfl,D,rH R,T H _ W x H H _ _ jW S q λvs ds G1 E e1 l y_=>?_⟩;obtain⟨kv,n,q1⟩:=y_;have G:=S.ext e1;have o:=G.oldH;have f1:=e.good.mono H E o A;have g:=X.same o;have I:=g.is _ _ _ j n;obtain⟨J,M,_⟩:=I.at_;refine⟨p,B,d,vs,ds,kv,_,_,by rw[eT],o _ _ D,I,l,q1,λv t r h ⟨a,et,no,qe⟩ c s=>?_,λ_ _ _ z=>z.elim⟩;subst et;cases cT s;have N:=G.chgM c ⟨_,M⟩ Z;have f2:=e.good.chg E h _ r (ao j) ⟨_,M⟩ c f1;have u:=g.chg e.nd j c;refine U h _ _ x h h _ _ jW N qe λy dy G3 O e3 hy y_=>?_;obtain⟨b,ey,qb⟩:=y_;subst ey;cases cT hy;have w:=N.ext e3;refine⟨rfl,_,rfl,?_⟩;rw[aCi];exact k _ _ _ O (w.all2 no<|Same.refl _).fresh (e.good.mono h O w.oldH f2) (u.same w.oldH) qb
def aAc(iO:ν)(a:ο->DWS)(e:DEnds)(b:bF):Prop:=gM b=true/\∀p,a p {nx:=λ_ _=>Ε,rt:=λt=>e.rt<|.dat t} (put (γ<|.mon<|Oe p) iO b) [[]]
theorem Uk{n:Hp}{E:XK}{dwA:ο->DWS}(O:∀as p Fx,Beg1 K C f as p Fx->Iv K as Fx tz (dwA p)):iB K n E (sV (kW (Ud C (Ag C f) [] E0 iS)<|jV iO) tz) (aAc iO dwA):=λZ σ G H e D hx S ⟨B,q⟩ L=>by
 have P:=(S.all2 B<|Same.refl _).fresh;unfold sV kW;refine aDy λx M d H1 N R I J=>?_
 let Fx:Hp->Prop:=λg=>Same H g/\g x=γ (.ins C M [(f,V.ref d)])
 have j:∀{H g:Hp}{d:ο}{r:fI}{b:ο}{o:HO},Chg K H d r g->(∃k,H d=γ (.dK k))->(∀k,o≠ .dK k)->H b=γ o->g b=γ o:=λc u B l=>c.keep _ _ (by rintro rfl;obtain⟨k2,u⟩:=u;rw[u]at l;cases l;exact B _ rfl) l
 have T:Beg1 K C f [d] x Fx:={
  good:=⟨λH g s z=>⟨z.1.trans s,s _ _ z.2⟩,λHa Hb d' r U u c z=>⟨λb o l=>c.keep b o (bL l (by rw[Υ.mp U];exact R))<|z.1 b o l,j c u (by intro _ w;cases w) z.2⟩⟩
  nd:=oh _ _
  hp:=λg z=>⟨M,d,z.2,rfl⟩}
 have W:=(P.all2' N).setS (v:=.ref x) (s:=.mon<|Oe x) iO (λ_ _=>rfl) λ_ _ _ _ z=>nomatch z;refine O _ _ _ T {nx:=λ_ _=>Ε,rt:=λt=>e.rt<|.dat t} _ [[]] _ _ D W ⟨N,I⟩ ⟨rfl,λi a kv y A=>?_⟩ (q x) ⟨λ_ _ _ _ _ _ _ z=>z.elim,λv t g f X Y=>L.rt v (.dat t) g (S.oldH.trans f.1) X Y⟩
 match i,y,A with
 |0,y,A=>cases y;cases A;exact⟨⟨[],J,.nil⟩,λ_ h=>nomatch h⟩
 |i+1,y,A=>simp at y
variable{g:TG}{ns:ε ν}{dg:DG}{ta tb':TE}{da db:DE}
end
section
variable{K:μ}{H₀:Hp}{E:XK}{dl:DL}{t:TA}{g:TG}{dg:DG}{ns:ε ν}{C:ο}{f:Ξ}{w:Ip}
def aAn(C:ο)(f:Ξ)(i:ν)(w:Ip)(dl:DL)(dg:DG)(e:DEnds)(a:bF):Prop:=∃b,slot a i=γ (.mon<|dskP C f b)/\dl e.ex a λc=>gM a=true/\w b c (jJ λd=>dg d a e.nx) λ_=>Ε
theorem Uq(i:ν)(o:oY K H₀ E t dl)(u:Ll K H₀ g ns dg):iB K H₀ E (kW (iG (uH K C f w) [] E0<|dF (fL i) t) g) (aAn C f i w dl dg):=λm n G H e D x S ⟨y,A,q⟩ L=>by
 obtain⟨v,B,F⟩:=S.has i _ A;obtain⟨p,I,d,c,rfl,J,M,N⟩:=F G<|Same.refl _;refine⟨_,B,o e.ex m n G H _ _ x S q λO P G1 H1 a R y_=>?_⟩;obtain⟨T,U⟩:=y_;refine⟨.ref p,O,y,P,_,λ_=>Ε,by rw[eT],(dskP.same (a.g.trans a.s.same) ⟨p,I,d,c,rfl,J,M,N⟩),R,U,λv s b h r W=>?_,λC b h X=>X.elim⟩;obtain⟨d2,j,Y⟩:=fC r W;exact u v d2 m n b b _ _ ((S.ext a).all2 T h) j Y λk l Z _ q'=>L.nx k l b b ((S.ext a).sub.same.trans h|>λz=>a.g.trans z) Z q'
end
universe u
def Dt{d:Type}(T:DX->(d->Prop)->Prop):Prop:=∀X P,T X P->(∃a,P a/\∀b c,c a->T b c)\/∃C,X C/\∀b c,b C->T b c
section
variable{α β:Type}{T:DX->(α->Prop)->Prop}
theorem Dt.bind{U:α->DX->(β->Prop)->Prop}(h:Dt T)(k:∀a,Dt<|U a):Dt (λX P=>T X λa=>U a X P):=λX P q=>by
 rcases h _ _ q with⟨a,d,c⟩|⟨C,d,c⟩
 ·rcases k a _ _ d with⟨b,e,f⟩|⟨C,e,f⟩
  ·exact .inl ⟨b,e,λg i p=>c _ _<|f _ _ p⟩
  ·exact .inr ⟨C,e,λg i p=>c _ _<|f _ _ p⟩
 ·exact .inr ⟨C,d,λg i p=>c _ _ p⟩
theorem Dt.pure(a:α):Dt (λ_ (P:α->Prop)=>P a):=λ_ _ q=>.inl ⟨a,q,λ_ _ p=>p⟩
theorem Dt.no:Dt (λ_ (_:α->Prop)=>Ε):=λ_ _ q=>q.elim
theorem Dt.and{c:Prop}(h:Dt T):Dt (λX P=>c/\T X P):=λX P q=>by
 rcases h _ _ q.2 with⟨a,b,d⟩|⟨C,b,d⟩
 ·exact .inl ⟨a,b,λe f p=>⟨q.1,d _ _ p⟩⟩
 ·exact .inr ⟨C,b,λe f p=>⟨q.1,d _ _ p⟩⟩
theorem Dt.ex{d:Sort u}{T:d->DX->(α->Prop)->Prop}(h:∀i,Dt<|T i):Dt (λX P=>∃i,T i X P):=λX P ⟨i,q⟩=>by
 rcases h i _ _ q with⟨a,b,c⟩|⟨C,b,c⟩
 ·exact .inl ⟨a,b,λe f p=>⟨i,c _ _ p⟩⟩
 ·exact .inr ⟨C,b,λe f p=>⟨i,c _ _ p⟩⟩
theorem Dt.bl{p:Prop}(f:Bool->α):Dt (λ_ P=>∀k:Bool,(k=true↔p)->P (f k)):=λX P q=>by
 have:=Classical.propDecidable p;have e:decide p=true↔p:=decide_eq_true_iff;refine .inl ⟨f<|decide p,q _ e,λb c h k a=>?_⟩;have:k=decide p:=by rw[ip,a,e]
 rw[this];exact h
theorem Dt.none(h:Dt T):Dt (λ_ P=>T (λ_=>Ε) P):=λX P q=>by
 rcases h _ _ q with⟨a,b,c⟩|⟨C,b,_⟩
 ·exact .inl ⟨a,b,λd e p=>c _ _ p⟩
 ·exact b.elim
theorem Dt.via{f:(β->Prop)->α->Prop}(g:∀P a,f P a->∃b,P b/\∀c,c b->f c a)(h:Dt T):Dt (λX P=>T X<|f P):=λX P q=>by
 rcases h _ _ q with⟨a,d,e⟩|⟨C,d,e⟩
 ·obtain⟨b,i,j⟩:=g _ _ d;exact .inl ⟨b,i,λk c p=>e _ _<|j _ p⟩
 ·exact .inr ⟨C,d,λk c p=>e _ _ p⟩
theorem Dt.ite{c:Prop}[Decidable c]{U:DX->(α->Prop)->Prop}(h:Dt T)(k:Dt U):Dt (λX P=>if c then T X P else U X P):=by
 by_cases e:c
 ·simp only[e,jz];exact h
 ·simp only[e,sj];exact k
theorem Dt.alt{c d:Prop}{C:ο}{a:α}(b:c->¬d)(e:¬c->d):Dt λX P=>(c->X C)/\(d->P a):=λX P q=>by
 by_cases h:c
 ·exact .inr ⟨C,q.1 h,λf g p=>⟨λ_=>p,λz=>ς z<|b h⟩⟩
 ·exact .inl ⟨a,q.2<|e h,λf g p=>⟨λz=>ς z h,λ_=>p⟩⟩
theorem Dt.alt'{c d:Prop}{C:ο}{a:α}(b:c->¬d)(e:¬c->d):Dt λX P=>(d->P a)/\(c->X C):=λX P q=>by
 by_cases h:c
 ·exact .inr ⟨C,q.2 h,λf g p=>⟨λz=>ς z<|b h,λ_=>p⟩⟩
 ·exact .inl ⟨a,q.1<|e h,λf g p=>⟨λ_=>p,λz=>ς z h⟩⟩
end
class DtE{α:Type}(t:DX->bF->(α->Prop)->Prop):Prop where h:∀δ,Dt λX P=>t X δ P
class DtR(rd:RD2):Prop where h:∀x y,Dt λ_ P=>rd x y P
class DtC(rd:RDc):Prop where h:∀ds,Dt λ_ P=>rd ds P
class DtW(w:DW):Prop where h:∀ds,Dt λX Q=>w ds Q X
class DtG(dg:DG):Prop where h:∀d δ,Dt λ_ Q=>dg d δ Q
class DtGs(dg:DGs):Prop where h:∀ds δ,Dt λ_ Q=>dg ds δ Q
inductive Ou where
 |nx (δ:bF)
 |rt (s:Sl)
 |ex (C:ο)
 |bk (δ:bF)
 |ct (δ:bF)
def DEnds.sat(e:DEnds):Ou->Prop
 | .nx a=>e.nx a
 | .rt s=>e.rt s
 | .ex C=>e.ex C
 | .bk a=>e.bk a
 | .ct a=>e.ct a
def Ds(U:DEnds->Prop):Prop:=∀e,U e->∃o,e.sat o/\∀a:DEnds,a.sat o->U a
class DtS(d:DS):Prop where h:∀δ,Ds λe=>d e δ
section
variable{α β:Type}{T:DX->(α->Prop)->Prop}
theorem Ds.bind{U:α->DEnds->Prop}(h:Dt T)(k:∀a,Ds<|U a):Ds (λe=>T e.ex λa=>U a e):=λe q=>by
 rcases h _ _ q with⟨a,b,c⟩|⟨C,b,c⟩
 ·obtain⟨o,d,f⟩:=k a _ b;exact⟨o,d,λg p=>c _ _<|f _ p⟩
 ·exact⟨.ex C,b,λg p=>c _ _ p⟩
theorem Ds.nx(a:bF):Ds (λe=>e.nx a):=λ_ q=>⟨.nx a,q,λ_ p=>p⟩
theorem Ds.rt(s:Sl):Ds (λe=>e.rt s):=λ_ q=>⟨.rt s,q,λ_ p=>p⟩
theorem Ds.exc(C:ο):Ds (λe=>e.ex C):=λ_ q=>⟨.ex C,q,λ_ p=>p⟩
theorem Ds.no:Ds (λ_=>Ε):=λ_ q=>q.elim
theorem Ds.and{c:Prop}{U:DEnds->Prop}(h:Ds U):Ds (λe=>c/\U e):=λe q=>by
 obtain⟨o,a,b⟩:=h _ q.2;exact⟨o,a,λd p=>⟨q.1,b _ p⟩⟩
theorem Ds.ex{a:Sort u}{U:a->DEnds->Prop}(h:∀i,Ds<|U i):Ds (λe=>∃i,U i e):=λe ⟨i,q⟩=>by
 obtain⟨o,b,c⟩:=h i _ q;exact⟨o,b,λd p=>⟨i,c _ p⟩⟩
theorem Ds.ite{c:Prop}[Decidable c]{U V:DEnds->Prop}(h:Ds U)(k:Ds V):Ds (λe=>if c then U e else V e):=by
 by_cases e:c
 ·simp only[e,jz];exact h
 ·simp only[e,sj];exact k
theorem Ds.st{T:DX->(bF->Prop)->Prop}(h:Dt T):Ds (λe=>T e.ex e.nx):=Ds.bind h λa=>Ds.nx a
theorem Ds.seq{d:DS}{U:bF->DEnds->Prop}{f:bF}(h:Ds λe=>d e f)(k:∀f,Ds<|U f):Ds (λe=>d {e with nx:=λa=>U a e} f):=λe q=>by
 obtain⟨o,b,c⟩:=h _ q;cases o with
 |nx a=>
  obtain⟨o,i,j⟩:=k a e b;exact⟨o,i,λg p=>c _<|j _ p⟩
 |rt s=>exact⟨.rt s,b,λg p=>c _ p⟩
 |ex C=>exact⟨.ex C,b,λg p=>c _ p⟩
 |bk a=>exact⟨.bk a,b,λg p=>c _ p⟩
 |ct a=>exact⟨.ct a,b,λg p=>c _ p⟩
end
section
variable{α:Type}{da db de dx dy:DE}{dl dk dm:DL}{dt du:DT}{d1 d2:DO}{dg:DG}{dgs:DGs}{rd:RD2}{rc:RDc}{w:DW}
instance(i:ν):DtE (Kw i):=⟨λδ=>by
 unfold Kw;generalize slot δ i=s;rcases s with _|s;exact Dt.no;cases s <;>first|exact Dt.pure _|exact Dt.no⟩
instance(i:ν):DtE (wM i):=⟨λδ=>by
 unfold wM;generalize slot δ i=s;rcases s with _|s;exact Dt.no;cases s <;>first|exact Dt.pure _|exact Dt.no⟩
instance(i:ν):DtE (wL i):=⟨λδ=>by
 unfold wL;generalize slot δ i=s;rcases s with _|s;exact Dt.no;cases s with
 |dat d=>cases d <;>first|exact Dt.pure _|exact Dt.no
 |own ds=>exact Dt.pure _
 |_=>exact Dt.no⟩
instance(i:ν):DtE (Ik i):=⟨λδ=>by
 unfold Ik;generalize slot δ i=s;rcases s with _|s;exact Dt.no;cases s <;>first|exact Dt.pure _|exact Dt.no⟩
instance(i:ν):DtE (dOV i):=⟨λδ=>by
 unfold dOV;generalize slot δ i=s;rcases s with _|s;exact Dt.no;cases s <;>first|exact Dt.pure _|exact Dt.no⟩
instance(d:η):DtE (dC d):=⟨λ_=>Dt.pure _⟩
instance[h:DtE dl]:DtE (dFz dl):=⟨λδ=>(h.h δ).bind λ_=>Dt.pure _⟩
instance[h:DtE de]:DtE (wO de):=⟨λδ=>(h.h δ).bind λx=>by cases x <;>first|exact Dt.pure _|exact Dt.no⟩
instance[h:DtE de]:DtE (aUc de):=⟨λδ=>(h.h δ).bind λx=>by cases x <;>first|exact Dt.pure _|exact Dt.no⟩
instance:DtE aFf:=⟨λ_=>Dt.pure _⟩
instance[h:DtE de][k:DtE dl]:DtE (zW de dl):=⟨λδ=>(h.h δ).bind λ_=>(k.h δ).bind λ_=>Dt.pure _⟩
instance[h:DtE dl]:DtE (aMe dl):=⟨λδ=>(h.h δ).bind λ_=>Dt.pure _⟩
instance[h:DtE dl]:DtE (aMp dl):=⟨h.h⟩
instance[h:DtE dl]:DtE (Cq dl):=⟨h.h⟩
instance[r:DtR rd][h:DtE da][k:DtE db]:DtE (dOp rd da db):=⟨λδ=>(h.h δ).bind λ_=>(k.h δ).bind λ_=>r.h _ _⟩
instance(C f):DtR (oI C f):=⟨λx y=>by cases x <;>cases y <;>first|exact Dt.and (Dt.pure _)|exact Dt.no⟩
instance(f):DtR (oI0 f):=⟨λx y=>by cases x <;>cases y <;>first|exact Dt.pure _|exact Dt.no⟩
instance(f):DtR (oB0 f):=⟨λx y=>by cases x <;>cases y <;>first|exact Dt.pure _|exact Dt.no⟩
instance:DtR oEq:=⟨λx y=>by cases x <;>cases y <;>first|exact Dt.pure _|exact Dt.no⟩
instance:DtR oNe:=⟨λx y=>by cases x <;>cases y <;>first|exact Dt.pure _|exact Dt.no⟩
instance:DtR aPw:=⟨λ_ _=>Dt.ex λ_=>Dt.ex λ_=>Dt.ex λ_=>Dt.ex λ_=>Dt.and<|Dt.and<|Dt.bl PyData.bool⟩
instance:DtR aPu:=⟨λ_ _=>Dt.ex λ_=>Dt.ex λ_=>Dt.ex λ_=>Dt.ex λ_=>Dt.and<|Dt.and<|Dt.bl λk=>PyData.bool !k⟩
instance:DtR aTn:=⟨λ_ _=>Dt.ex λ_=>Dt.ex λ_=>Dt.ex λ_=>Dt.ex λ_=>Dt.and<|Dt.and<|Dt.bl PyData.bool⟩
instance:DtR aHa:=⟨λ_ _=>Dt.ex λ_=>Dt.ex λ_=>Dt.ex λ_=>Dt.ex λ_=>Dt.and<|Dt.and<|Dt.bl λk=>PyData.bool !k⟩
instance(n:String)[h:DtE de]:DtE (aMr n de):=⟨λδ=>(h.h δ).bind λ_=>Dt.pure _⟩
instance[h:DtE da]:DtE (aMn da):=⟨λδ=>(h.h δ).bind λx=>by cases x <;>first|exact Dt.pure _|exact Dt.no⟩
instance[h:DtE dl][k:DtE db]:DtE (aMq dl db):=⟨λδ=>(h.h δ).bind λ_=>(k.h δ).bind λy=>by cases y <;>first|exact Dt.no|exact Dt.ex λ_=>Dt.and<|Dt.pure _⟩
instance[h:DtE da][k:DtE db]:DtE (aTz da db):=⟨λδ=>(h.h δ).bind λx=>(k.h δ).bind λy=>by cases x <;>cases y <;>first|exact Dt.no|exact Dt.ex λ_=>Dt.and<|Dt.pure _⟩
instance(k:ν)[h:DtE da]:DtE (aAa k da):=⟨λδ=>(h.h δ).bind λx=>by
 cases x with
 |tuple ds=>show Dt λX P=>(match nth ds k with |some d=>P d|none=>Ε);cases nth ds k <;>first|exact Dt.no|exact Dt.pure _
 |_=>exact Dt.no⟩
instance[r:DtC rc][h:DtE dl]:DtE (dCb rc dl):=⟨λδ=>(h.h δ).bind λ_=>r.h _⟩
instance:DtC aFt:=⟨λds=>by
 match ds with
 |[]=>exact Dt.no
 |[x]=>cases x <;>first|exact Dt.pure _|exact Dt.no
 |x::_::_=>cases x <;>exact Dt.no⟩
instance:DtC aFs:=⟨λds=>by
 match ds with
 |[]=>exact Dt.no
 |[x]=>cases x <;>first|exact Dt.pure _|exact Dt.no
 |x::_::_=>cases x <;>exact Dt.no⟩
instance:DtC aUd:=⟨λds=>by
 match ds with
 |[]=>exact Dt.no
 |[x]=>cases x <;>first|exact Dt.pure _|exact Dt.no
 |x::_::_=>cases x <;>exact Dt.no⟩
instance:DtC aFp:=⟨λds=>by
 match ds with
 |[]=>exact Dt.no
 |[x]=>cases x <;>first|exact Dt.ex λ_=>Dt.and (Dt.pure _)|exact Dt.no
 |x::_::_=>cases x <;>exact Dt.no⟩
instance:DtC aFq:=⟨λds=>by
 match ds with
 |[]=>exact Dt.no
 |[x]=>cases x <;>exact Dt.no
 |[x,y]=>cases x <;>cases y <;>first|exact Dt.pure _|exact Dt.no
 |x::y::_::_=>cases x <;>cases y <;>exact Dt.no⟩
instance:DtC aFr:=⟨λds=>by
 match ds with
 |[]=>exact Dt.no
 |[x]=>cases x <;>exact Dt.no
 |[x,y]=>cases x <;>cases y <;>first|exact Dt.pure _|exact Dt.no
 |x::y::_::_=>cases x <;>cases y <;>exact Dt.no⟩
instance:DtE aMm:=⟨λ_=>Dt.pure _⟩
instance[h:DtE de]:DtE (Zw de):=⟨λδ=>(h.h δ).bind λx=>by cases x <;>first|exact Dt.pure _|exact Dt.no⟩
instance[h:DtE dl][k:DtE d1][m:DtE d2]:DtE (dSl dl d1 d2):=⟨λδ=>(h.h δ).bind λ_=>(k.h δ).bind λ_=>(m.h δ).bind λ_=>Dt.pure _⟩
instance[h:DtE dl][k:DtE d1]:DtE (aAj dl d1):=⟨λδ=>(h.h δ).bind λ_=>(k.h δ).bind λ_=>Dt.and<|Dt.pure _⟩
instance[h:DtE de]:DtE (aAo de):=⟨λδ=>(h.h δ).bind λx=>by cases x <;>first|exact Dt.pure _|exact Dt.no⟩
instance[h:DtE dt][k:DtE du]:DtE (aMz dt du):=⟨λδ=>(h.h δ).bind λ_=>Dt.ite (k.h δ)<|Dt.pure _⟩
instance[h:DtE dt][k:DtE du]:DtE (dOr dt du):=⟨λδ=>(h.h δ).bind λ_=>Dt.ite (Dt.pure _)<|k.h δ⟩
instance[h:DtE dt]:DtE (aMk dt):=⟨λδ=>(h.h δ).bind λ_=>Dt.pure _⟩
instance[h:DtE dt][k:DtE da][m:DtE db]:DtE (aMu dt da db):=⟨λδ=>(h.h δ).bind λ_=>Dt.ite (k.h δ)<|m.h δ⟩
instance[h:DtE da][k:DtE db]:DtE (aAq da db):=⟨λδ=>(h.h δ).bind λx=>by cases x <;>first|exact Dt.no|exact Dt.ite (k.h δ) (Dt.pure _)⟩
instance[h:DtE da][k:DtE db]:DtE (aTx da db):=⟨λδ=>(h.h δ).bind λx=>by cases x <;>first|exact Dt.no|exact Dt.ite (Dt.pure _) (k.h δ)⟩
instance:DtE aFe:=⟨λ_=>Dt.pure _⟩
theorem Hh(P:η->Prop)(s:Sl)(q:wF P s):∃d,P d/\∀a,a d->wF a s:=by
 cases s <;>first|exact⟨_,q.2,λ_ p=>⟨q.1,p⟩⟩|exact q.elim
theorem Ng(P:ε η->Prop)(s:Sl)(q:Qm P s):∃d,P d/\∀a,a d->Qm a s:=by
 cases s <;>first|exact⟨_,q.2,λ_ p=>⟨q.1,p⟩⟩|exact q.elim
theorem tZ(P:η->Prop)(s:Sl)(q:jJ P s):∃d,P d/\∀a,a d->jJ a s:=by
 cases s <;>first|exact⟨_,q,λ_ p=>p⟩|exact q.elim
instance[h:DtE dl][k:DtW w]:DtE (aAi w dl):=⟨λδ=>(h.h δ).bind λds=>Dt.via Hh<|k.h ds⟩
instance[h:DtE dl][k:DtW w]:DtE (La w dl):=⟨λδ=>(h.h δ).bind λds=>Dt.via Hh<|Dt.none<|k.h ds⟩
instance[h:DtE dl][k:DtW w]:DtE (Kz w dl):=⟨λδ=>(h.h δ).bind λds=>Dt.via Ng<|k.h ds⟩
instance[h:DtE dl][k:DtW w]:DtE (Cs w dl):=⟨λδ=>(h.h δ).bind λds=>Dt.via Ng<|Dt.none<|k.h ds⟩
instance[h:DtE dl][k:DtW w]:DtE (aMx w dl):=⟨λδ=>(h.h δ).bind λds=>Dt.via tZ<|k.h ds⟩
instance[h:DtE dl][k:DtW w]:DtE (Ct w dl):=⟨λδ=>(h.h δ).bind λds=>Dt.via tZ<|Dt.none<|k.h ds⟩
instance[h:DtE dl][k:DtE dk]:DtE (aMw dl dk):=⟨λδ=>(h.h δ).bind λ_=>(k.h δ).bind λ_=>Dt.and<|Dt.pure _⟩
instance[h:DtE dl][k:DtE dk]:DtE (aFd dl dk):=⟨λδ=>(h.h δ).bind λ_=>(k.h δ).bind λ_=>Dt.pure _⟩
instance[h:DtE dl][k:DtE dk][m:DtE dm]:DtE (Zl dl dk dm):=⟨λδ=>(h.h δ).bind λ_=>(k.h δ).bind λ_=>(m.h δ).bind λ_=>Dt.pure _⟩
instance[h:DtE dl]:DtE (aAf dl):=⟨λδ=>(h.h δ).bind λ_=>Dt.pure _⟩
instance[h:DtE dl]:DtE (aMg dl):=⟨λδ=>(h.h δ).bind λ_=>Dt.pure _⟩
instance[h:DtE dl][k:DtE db]:DtE (aMi dl db):=⟨λδ=>(h.h δ).bind λ_=>(k.h δ).bind λy=>by cases y <;>first|exact Dt.no|exact Dt.and (Dt.and<|Dt.pure _)⟩
instance[h:DtE da][k:DtE db]:DtE (aRn da db):=⟨λδ=>(h.h δ).bind λ_=>(k.h δ).bind λ_=>Dt.ex λ_=>Dt.ex λ_=>Dt.and<|Dt.and<|Dt.and<|Dt.and<|Dt.and<|Dt.pure _⟩
instance[h:DtE dl]:DtE (Zs dl):=⟨λδ=>(h.h δ).bind λds=>by
 match ds with
 |[]=>exact Dt.no
 |[x]=>cases x <;>first|exact Dt.and (Dt.pure _)|exact Dt.no
 |x::_::_=>cases x <;>exact Dt.no⟩
instance[h:DtE dl]:DtE (Zr dl):=⟨λδ=>(h.h δ).bind λds=>by
 match ds with
 |[]=>exact Dt.no
 |[x]=>cases x <;>exact Dt.no
 |[x,y]=>cases x <;>cases y <;>first|exact Dt.and (Dt.pure _)|exact Dt.no
 |x::y::_::_=>cases x <;>cases y <;>exact Dt.no⟩
instance(i:ν)[h:DtE de]:DtE (Cr i de):=⟨λδ=>((inferInstance:DtE<|wL i).h δ).bind λ_=>(h.h δ).bind λ_=>Dt.ex λ_=>Dt.ex λ_=>Dt.ex λ_=>Dt.and<|Dt.and<|Dt.and<|Dt.and<|Dt.and<|Dt.pure _⟩
instance(i:ν):DtG (wD i):=⟨λ_ _=>Dt.pure _⟩
instance:DtGs Oi:=⟨λds _=>by cases ds <;>first|exact Dt.pure _|exact Dt.no⟩
instance[h:DtG dg][k:DtGs dgs]:DtGs (Cd dg dgs):=⟨λds δ=>by
 cases ds with
 |nil=>exact Dt.no
 |cons d r=>exact(h.h d δ).bind λ_=>k.h _ _⟩
instance(n:ν)[k:DtGs dgs]:DtG (Oh n dgs):=⟨λd δ=>by cases d <;>first|exact Dt.no|exact Dt.and (k.h _ _)⟩
instance(n:ν)[k:DtGs dgs]:DtG (aQo n dgs):=⟨λd δ=>by cases d <;>first|exact Dt.no|exact Dt.and (k.h _ _)⟩
def lcR(dg:DG)(dt:DT)(de:DE)(e:bF):ε η->ε η->(ε η->Prop)->Prop
 |[],a,Q=>Q a
 |d::r,a,Q=>dg d e λc=>dt (λ_=>Ε) c λb=>if b=true then de (λ_=>Ε) c λy=>lcR dg dt de e r (a++[y]) Q else lcR dg dt de e r a Q
theorem Kd[h:DtG dg][k:DtE dt][m:DtE de](e:bF):∀(f a:ε η),Dt λ_ Q=>lcR dg dt de e f a Q
 |[],a=>Dt.pure _
 |d::r,a=>(h.h d e).bind λc=>(Dt.none<|k.h c).bind λb=>Dt.ite ((Dt.none<|m.h c).bind λy=>Kd e r _)<|Kd e r _
theorem Dt.one{T:DX->(α->Prop)->Prop}(h:Dt T){P:α->Prop}(q:T (λ_=>Ε) P):∃a,P a/\∀c b,b a->T c b:=by
 rcases h _ _ q with r|⟨C,z,_⟩
 ·exact r
 ·exact z.elim
theorem Dt.mono{T:DX->(α->Prop)->Prop}(h:Dt T){P b:α->Prop}(q:T (λ_=>Ε) P)(m:∀a,P a->b a):T (λ_=>Ε) b:=by
 obtain⟨a,c,d⟩:=h.one q;exact d _ _<|m a c
def lcI(dg:DG)(dt:DT)(de:DE)(f:bF)(e:ε η)(Q:ε η->Prop):Prop:=∃I:ν->ε η->Prop,I 0 []/\
 (∀i d a,e[i]? =γ d->I i a->dg d f λc=>dt (λ_=>Ε) c λb=>if b=true then de (λ_=>Ε) c λy=>I (i+1) (a++[y])else I (i+1) a)/\∀a,I e.length a->Q a
theorem aEj[h:DtG dg][k:DtE dt][m:DtE de](f:bF)(c:ε η)(Q:ε η->Prop):lcI dg dt de f c Q↔lcR dg dt de f c [] Q:=by
 constructor
 ·rintro⟨I,p,r,s⟩;have:∀n i a,i+n=c.length->I i a->lcR dg dt de f (c.drop i) a Q:=by
   intro n
   induction n with
   |zero=>intro i a e l;rw[ph<|by lia];exact s a (by rw[<-e];exact l)
   |succ n o=>
    intro i a e l;have j:i<c.length:=by lia
    rw[ju j];refine(h.h _ f).mono (r i _ a (Ι j) l) λg q=>?_;refine(k.h g).mono q λb q=>?_;cases b with
    |true=>exact(m.h g).mono q λy q=>o (i+1) _ (by lia) q
    |false=>exact o (i+1) _ (by lia) q
  simpa using this c.length 0 [] ‹48› p
 ·intro q;refine⟨λi a=>lcR dg dt de f (c.drop i) a Q,by simpa using q,λi d a e q=>?_,λa q=>?_⟩
  ·obtain⟨j,rfl⟩:=ρ.mp e;dsimp only at q;rw[ju j]at q;exact q
  ·dsimp only at q;rw[xm]at q;exact q
instance(cap)[h:DtE dl][hg:DtG dg][k:DtE dt][m:DtE de]:DtE (dLC dl cap dg dt de):=⟨λδ=>(h.h δ).bind λds=>Dt.and (by
 have:(λ(_:DX)(Q:ε η->Prop)=>lcI dg dt de (qR cap δ) ds Q)=λ_ Q=>lcR dg dt de (qR cap δ) ds [] Q:=by
  funext _ Q;exact propext<|aEj _ ds Q
 show Dt λ_ Q=>lcI dg dt de (qR cap δ) ds Q
 rw[this]
 exact Kd _ _ _)⟩
end
section
variable{α:Type}{da db de dx dy:DE}{dl dk dm:DL}{dt du:DT}{dg:DG}{w:DW}{s1 s2 s3:DS}
theorem DtG.g[h:DtG dg](d:η)(a:bF):Ds λe=>dg d a e.nx:=Ds.st (T:=λ_ Q=>dg d a Q)<|h.h d a
instance:DtS Zx:=⟨λδ=>Ds.nx δ⟩
instance[h:DtS s1][k:DtS s2]:DtS (Zq s1 s2):=⟨λδ=>Ds.seq (U:=λδ' e=>s2 e δ') (h.h δ) k.h⟩
instance[h:DtS s1][k:DtS s2]:DtS (aMv s1 s2):=⟨λδ e ⟨I,q,r⟩=>by
 obtain⟨o,q1,h1⟩:=h.h δ _ q
 cases o with
 |nx δ'=>
  obtain⟨o,q2,h2⟩:=k.h δ' e<|r δ' q1
  exact⟨o,q2,λe' p=>⟨λx=>x=δ',h1 _ rfl,λx hx=>by rw[hx];exact h2 _ p⟩⟩
 |rt s=>exact⟨.rt s,q1,λe' p=>⟨λ_=>Ε,h1 _ p,λ_ z=>z.elim⟩⟩
 |ex C=>exact⟨.ex C,q1,λe' p=>⟨λ_=>Ε,h1 _ p,λ_ z=>z.elim⟩⟩
 |bk δ'=>exact⟨.bk δ',q1,λe' p=>⟨λ_=>Ε,h1 _ p,λ_ z=>z.elim⟩⟩
 |ct δ'=>exact⟨.ct δ',q1,λe' p=>⟨λ_=>Ε,h1 _ p,λ_ z=>z.elim⟩⟩⟩
instance[h:DtE de]:DtS (aMh de):=⟨λδ=>Ds.bind (h.h δ) λ_=>Ds.rt _⟩
instance[h:DtE dl]:DtS (Zt dl):=⟨λδ=>Ds.bind (h.h δ) λ_=>Ds.rt _⟩
instance(i:ν):DtS (Ij i):=⟨λδ=>by
 unfold Ij;generalize slot δ i=s;rcases s with _|s;exact Ds.no;cases s <;>first|exact Ds.rt _|exact Ds.no⟩
instance:DtS aRk:=⟨λ_=>Ds.rt _⟩
instance:DtS aMl:=⟨λ_=>Ds.no⟩
instance[h:DtE de]:DtS (aAg de):=⟨λδ=>Ds.bind (h.h δ) λ_=>Ds.nx _⟩
instance[h:DtE dt][k:DtS s1][m:DtS s2]:DtS (aMt dt s1 s2):=⟨λδ=>Ds.bind (h.h δ) λ_=>Ds.ite (k.h δ)<|m.h δ⟩
instance[h:DtE de][k:DtG dg]:DtS (aFh de dg):=⟨λδ=>Ds.bind (h.h δ) λ_=>k.g _ _⟩
instance(i:ν)[h:DtE dl]:DtS (Zp dl i):=⟨λδ=>Ds.bind (h.h δ) λ_=>Ds.nx _⟩
instance[h:DtE dl][k:DtW w][m:DtG dg]:DtS (aAk w dl dg):=⟨λδ=>Ds.bind (h.h δ) λds=>Ds.and<|Ds.bind (T:=λX P=>w ds (jJ P) X) (Dt.via tZ<|k.h ds) λ_=>m.g _ _⟩
instance[h:DtE dl][k:DtW w][m:DtG dg]:DtS (Lb w dl dg):=⟨λδ=>Ds.bind (h.h δ) λds=>Ds.and<|Ds.bind (T:=λX P=>w ds (jJ P) λ_=>Ε) (Dt.via tZ<|Dt.none<|k.h ds) λ_=>m.g _ _⟩
instance(i:ν)[h:DtS s1]:DtS (Rw i s1):=⟨λδ=>h.h _⟩
instance(i:ν)[h:DtS s1]:DtS (aAd i s1):=⟨λδ=>Ds.seq (U:=λδ' e=>e.nx<|sR i δ') (h.h δ) λ_=>Ds.nx _⟩
instance(i j:ν)[h:DtE dl]:DtS (aMj i j dl):=⟨λδ=>Ds.bind (h.h δ) λds=>by
 match ds with
 |[]=>exact Ds.no
 |[_]=>exact Ds.no
 |[_,_]=>exact Ds.nx _
 |_::_::_::_=>exact Ds.no⟩
instance(C:ο)[h:DtE dl]:DtS (Kx C dl):=⟨λδ=>Ds.bind (h.h δ) λ_=>Ds.exc _⟩
instance(i:ν)[h:DtE de]:DtS (aAp i de):=⟨λδ=>by
 unfold aAp;generalize slot δ i=s;rcases s with _|s;exact Ds.no;cases s <;>first|exact Ds.no|exact Ds.bind (h.h δ) λ_=>Ds.and (Ds.nx _)⟩
instance(i:ν)[h:DtE de][k:DtE dx]:DtS (Ky i de dx):=⟨λδ=>Ds.bind (h.h δ) λd=>by
 generalize slot δ i=s;rcases s with _|s;exact Ds.no;cases s <;>first|exact Ds.no|exact Ds.bind (k.h δ) λy=>by cases y <;>first|exact Ds.no|exact Ds.ex λ_=>Ds.and (Ds.nx _)⟩
instance(i:ν)[h:DtE da][k:DtE de]:DtS (aAb i da de):=⟨λδ=>by
 unfold aAb;generalize slot δ i=s;rcases s with _|s;exact Ds.no;cases s <;>first|exact Ds.no|exact Ds.bind (h.h δ) λy=>by cases y <;>first|exact Ds.no|exact Ds.bind (k.h δ) λ_=>Ds.and (Ds.and (Ds.and (Ds.nx _)))⟩
instance(i:ν)[h:DtE de]:DtS (aAe i de):=⟨λδ=>by
 unfold aAe;generalize slot δ i=s;rcases s with _|s;exact Ds.no;cases s <;>first|exact Ds.no|exact Ds.bind (h.h δ) λy=>by cases y <;>first|exact Ds.no|exact Ds.and (Ds.and (Ds.nx _))⟩
instance(i j:ν):DtS (qN i j):=⟨λδ=>by
 unfold qN;generalize slot δ i=s;generalize slot δ j=t
 rcases s with _|s;exact Ds.no
 rcases t with _|t;cases s <;>exact Ds.no
 cases s <;>cases t <;>first|exact Ds.no|(rename_i d;cases d <;>first|exact Ds.no|exact Ds.ex λ_=>Ds.ex λ_=>Ds.and (Ds.and (Ds.nx _)))⟩
instance(i j:ν):DtS (dMv i j):=⟨λδ=>by
 unfold dMv;generalize slot δ j=s;rcases s with _|s;exact Ds.no;cases s <;>first|exact Ds.no|exact Ds.nx _⟩
instance[h:DtE dl][k:DtE dk]:DtS (Zu<|d2 dl dk):=⟨λδ=>Ds.bind (h.h δ) λxs=>Ds.bind (k.h δ) λys=>Ds.rt _⟩
theorem Mc(P:ε η×ε η->Prop)(s:Sl)(q:Pq (λa b=>P (a,b)) s):∃d,P d/\∀c:ε η×ε η->Prop,c d->Pq (λa b=>c (a,b)) s:=by
 cases s <;>first|exact⟨(_,_),q.2.2,λ_ p=>⟨q.1,q.2.1,p⟩⟩|exact q.elim
instance(i j:ν)[h:DtE dl][k:DtW w]:DtS (aRj w dl i j):=⟨λδ=>Ds.bind (h.h δ) λds=>Ds.bind (T:=λX P=>w ds (Pq λxs ys=>P (xs,ys)) X) (Dt.via Mc<|k.h ds) λa=>Ds.nx<|put (γ<|.own a.2) j<|put (γ<|.own a.1) i δ⟩
instance(i j:ν)[h:DtE dl][k:DtW w]:DtS (aMf w dl i j):=⟨λδ=>Ds.bind (h.h δ) λds=>Ds.bind (T:=λX P=>w ds (Pq λxs ys=>P (xs,ys)) λ_=>Ε) (Dt.via Mc<|Dt.none<|k.h ds) λa=>Ds.nx<|put (γ<|.own a.2) j<|put (γ<|.own a.1) i δ⟩
instance[h:DtE dl][k:DtW w]:DtS (Cp w dl):=⟨λδ=>Ds.bind (h.h δ) λds=>Ds.bind (T:=λX (P:Sl->Prop)=>w ds (λs=>match s with
 | .two xs ys=>P<|.two xs ys
 |_=>Ε) λ_=>Ε) (Dt.via (λP s q=>by cases s <;>first|exact⟨_,q,λ_ p=>p⟩|exact q.elim) (Dt.none (k.h ds))) λs=>Ds.rt s⟩
def Kk(dg:DG)(db:DS):ε η->DEnds->bF->Prop
 |[],e,a=>e.nx a
 |d::r,e,a=>dg d a λb=>db {e with nx:=Kk dg db r e,ct:=Kk dg db r e,bk:=e.nx} b
theorem Ds.to{d:DS}[h:DtS d]{e a:DEnds}{g:bF}(q:d e g)(n:∀x,e.nx x->a.nx x)(r:∀x,e.rt x->a.rt x)(x:∀x,e.ex x->a.ex x)(b:∀x,e.bk x->a.bk x)(c:∀x,e.ct x->a.ct x):d a g:=by
 obtain⟨o,f,i⟩:=h.h g _ q;refine i _ ?_;cases o
 ·exact n _ f
 ·exact r _ f
 ·exact x _ f
 ·exact b _ f
 ·exact c _ f
theorem Cg[h:DtG dg][k:DtS s1]:∀(n:ε η)(b:bF),Ds λe=>Kk dg s1 n e b
 |[],b=>Ds.nx b
 |d::r,b=>λe q=>by
  obtain⟨j,t,c⟩:=(h.h d b).one q;obtain⟨o,f,g⟩:=k.h j _ t;cases o with
  |nx a=>
   obtain⟨o,l,m⟩:=Cg r a e f;exact⟨o,l,λi p=>c (λ_=>Ε) _<|g _<|m _ p⟩
  |ct a=>
   obtain⟨o,l,m⟩:=Cg r a e f;exact⟨o,l,λi p=>c (λ_=>Ε) _<|g _<|m _ p⟩
  |rt s=>exact⟨.rt s,f,λi p=>c (λ_=>Ε) _<|g _ p⟩
  |ex C=>exact⟨.ex C,f,λi p=>c (λ_=>Ε) _<|g _ p⟩
  |bk a=>exact⟨.nx a,f,λi p=>c (λ_=>Ε) _<|g _ p⟩
def aLv(dg:DG)(db:DS)(c:ε η)(e:DEnds)(f:bF):Prop:=∃I:ν->bF->Prop,I 0 f/\
 (∀i d a,c[i]? =γ d->I i a->dg d a λb=>db {e with nx:=I<|i+1,ct:=I<|i+1,bk:=e.nx} b)/\∀a,I c.length a->e.nx a
theorem Yg[h:DtG dg][k:DtS s1](b:ε η)(e:DEnds)(a:bF):aLv dg s1 b e a↔Kk dg s1 b e a:=by
 constructor
 ·rintro⟨I,m,o,r⟩;have:∀n i a,i+n=b.length->I i a->Kk dg s1 (b.drop i) e a:=by
   intro n
   induction n with
   |zero=>intro i a z f;rw[ph<|by lia];exact r a (by rw[<-z];exact f)
   |succ n l=>
    intro i a z f;have c:i<b.length:=by lia
    rw[ju c];exact(h.h _ a).mono (o i _ a (Ι c) f) λs q=>Ds.to q (λx g=>l _ _ (by lia) g) (λ_ p=>p) (λ_ p=>p) (λ_ p=>p) λx g=>l _ _ (by lia) g
  simpa using this b.length 0 a ‹48› m
 ·intro q;refine⟨λi a=>Kk dg s1 (b.drop i) e a,by simpa using q,λi d j z q=>?_,λj q=>?_⟩
  ·obtain⟨c,rfl⟩:=ρ.mp z;dsimp only at q;rw[ju c]at q;exact q
  ·dsimp only at q;rw[xm]at q;exact q
instance[h:DtE dl][hg:DtG dg][k:DtS s1]:DtS (aFg dl dg s1):=⟨λδ=>Ds.bind (h.h δ) λds=>by
 have:(λe=>aLv dg s1 ds e δ)=λe=>Kk dg s1 ds e δ:=by
  funext e;exact propext<|Yg ds e δ
 show Ds λe=>aLv dg s1 ds e δ
 rw[this]
 exact Cg _ _⟩
def wN(dt:DT)(db:DS):ν->DEnds->bF->Prop
 |0,_,_=>Ε
 |n+1,e,a=>dt e.ex a λb=>if b=true then db {e with nx:=wN dt db n e,ct:=wN dt db n e,bk:=e.nx} a else e.nx a
theorem Tf[h:DtE dt][k:DtS s1]:∀(n:ν)(f:bF),Ds λe=>wN dt s1 n e f
 |0,_=>Ds.no
 | n + 1,f=>Ds.bind (h.h f) fun b=>Ds.ite (fun e q=>by
   obtain⟨o,c,d⟩:=k.h f _ q
   cases o with
   |nx a=>
    obtain⟨o,i,j⟩:=Tf n a e c
    exact⟨o,i,λg p=>d _<|j _ p⟩
   |ct a=>
    obtain⟨o,i,j⟩:=Tf n a e c
    exact⟨o,i,λg p=>d _<|j _ p⟩
   |rt s=>exact⟨.rt s,c,λg p=>d _ p⟩
   |ex C=>exact⟨.ex C,c,λg p=>d _ p⟩
   |bk a=>exact⟨.nx a,c,λg p=>d _ p⟩) (Ds.nx _)
theorem Te[h:DtE dt][k:DtS s1]{n:ν}{e:DEnds}{a:bF}(q:wN dt s1 n e a):Co dt s1 e a:=by
 refine⟨λm a=>wN dt s1 m e a,⟨n,q⟩,λm d q=>?_⟩;cases m with
 |zero=>exact q.elim
 |succ m=>
  rcases h.h d _ _ q with⟨b,c,f⟩|⟨C,c,f⟩
  ·refine f _ _ ?_;cases b with
   |false=>exact c
   |true=>exact Ds.to c (λx g=>⟨m,rf _,g⟩) (λ_ p=>p) (λ_ p=>p) (λ_ p=>p) λx g=>⟨m,rf _,g⟩
  ·exact f _ _ c
theorem Sx[h:DtE dt][k:DtS s1]{e:DEnds}{c:bF}(q:Co dt s1 e c):∃n,wN dt s1 n e c:=by
 obtain⟨I,⟨m,u⟩,v⟩:=q
 induction m using Nat.strongRecOn generalizing c with
 |ind m t=>
  rcases h.h c _ _ (v m c u)with⟨b,i,a⟩|⟨C,i,a⟩
  ·cases b with
   |false=>exact⟨1,a _ _ i⟩
   |true=>
    obtain⟨o,d,f⟩:=k.h c _ i;cases o with
    |nx g=>
     obtain⟨j,l,p⟩:=d;obtain⟨n,r⟩:=t j l p;exact⟨n+1,a _ _<|f {e with nx:=wN dt s1 n e,ct:=wN dt s1 n e,bk:=e.nx} r⟩
    |ct g=>
     obtain⟨j,l,p⟩:=d;obtain⟨n,r⟩:=t j l p;exact⟨n+1,a _ _<|f {e with nx:=wN dt s1 n e,ct:=wN dt s1 n e,bk:=e.nx} r⟩
    |rt s=>exact⟨1,a _ _<|f {e with nx:=wN dt s1 0 e,ct:=wN dt s1 0 e,bk:=e.nx} d⟩
    |ex C=>exact⟨1,a _ _<|f {e with nx:=wN dt s1 0 e,ct:=wN dt s1 0 e,bk:=e.nx} d⟩
    |bk g=>exact⟨1,a _ _<|f {e with nx:=wN dt s1 0 e,ct:=wN dt s1 0 e,bk:=e.nx} d⟩
  ·exact⟨1,a _ _ i⟩
instance[h:DtE dt][k:DtS s1]:DtS (Co dt s1):=⟨λδ e q=>by
 obtain⟨n,hn⟩:=Sx q
 obtain⟨o,q1,h1⟩:=Tf n δ e hn
 exact⟨o,q1,λe' p=>Te (h1 _ p)⟩⟩
end
def wFn{b:Type}(c:b->Prop)(d:b->ε η)(f:b->Sl):DW:=λe Q _=>∃a,e=d a/\c a/\Q (f a)
instance{ι:Type}(pre:ι->Prop)(enc:ι->ε η)(f:ι->Sl):DtW (wFn pre enc f):=⟨λ_=>Dt.ex λa=>Dt.and<|Dt.and<|Dt.pure _⟩
section
variable{P:Program}{w:gb}{K:μ}{mg:Ξ->υ ξ}{base:ei}
def Ex(P:Program)(w:gb)(K:μ)(mg:Ξ->υ ξ)(base:ei)(k:ν)(f:ο)(e:FuncData)(h:ε Ξ){c:Type}(d:c->ε η)(b:c->Prop)(R:c->Sl->Prop):Prop:=
 ∃g:c->Sl,(∀a,b a->R a (g a))/\FnOk P w K mg base (iY P w) k f e h (oV K<|wFn b d g)
theorem oK{l:Type}{b:l->Prop}{c:l->ε η}{R:l->Sl->Prop}{x qual:Ξ}{st:Stmt}{f:ο}{y:FuncData}{N m:ε Ξ}{k:ν}(F:Fun K x qual st f y)(S:FnScope N m<|aM st)(n:∀a,(c a).length=m.length)
  {d:DS} (g:∀(e:ξ)(A:Around)(outer:ε Env)(s:Ζ)(H:Hp)(E:XK),Room k (A.deeper (envOfC qual (aM st) s.heap.objs.size f e)) ->
   ∃t,Df (oS (iY P w) P w K mg base N qual (aM st) f e A outer s H E) (eP st) t/\iB K H E t d) (h:DtS d)
  (u:∀a,b a->∀(Q:Sl->Prop)(X:DX),(∀s,R a s->Q s)->d {nx:=λ_=>Q<|.dat .none,rt:=Q,ex:=X} (gW N<|c a)):
  Ex P w K mg base (k+1) f y m c b R:=by
 have v:∀a,∃r,b a->R a r/\∀Q X,Q r->d {nx:=λ_=>Q<|.dat .none,rt:=Q,ex:=X} (gW N<|c a):=λa=>by
  by_cases i:b a
  ·obtain⟨o,j,B⟩:=h.h _ _<|u a i (R a) (λ_=>Ε) λ_ p=>p;cases o with
   |nx D=>exact⟨.dat .none,λ_=>⟨j,λQ X q=>B {nx:=λ_=>Q<|.dat .none,rt:=Q,ex:=X} q⟩⟩
   |rt s=>exact⟨s,λ_=>⟨j,λQ X q=>B {nx:=λ_=>Q<|.dat .none,rt:=Q,ex:=X} q⟩⟩
   |ex C=>exact j.elim
   |bk D=>exact j.elim
   |ct D=>exact j.elim
  ·exact⟨.dat .none,λz=>ς z i⟩
 refine⟨λa=>Classical.choose<|v a,λa i=>(se (v a) i).1,Nj F S (λG Q E h=>?_) λe A outer s H E I=>?_⟩
 ·obtain⟨a,rfl,_⟩:=h;exact n a
 ·obtain⟨t,J,L⟩:=g e A outer s H E I;refine⟨t,J,d,L,λG Q X hw=>?_⟩;obtain⟨a,rfl,i,u⟩:=hw;exact(se (v a) i).2 Q X u
end
section
variable{K:μ}{H₀:Hp}{E:XK}{t:TA}{dl:DL}{C:ο}{f m:Ξ}{w:Ip}{i0 i:ν}
def Su(C:ο)(f:Ξ)(i0 i:ν)(w:Ip)(dl:DL)(e:DEnds)(xd:DXS)(a:bF):Prop:=∃b,slot a i0=γ (.mon<|dskP C f b)/\dl (λ_=>Ε) a λc=>gM a=true/\w b c (jJ λd=>e.nx<|put (γ<|.dat d) i a) (λg=>xd a g)
theorem Uh(u:f≠m)(x:oY K H₀ E0 t dl):SxD K H₀ (aGe C m (uH K C f w) i (fL i0) t) (Su C f i0 i w dl):=λj k G H e D xd Z S ⟨y,A,q⟩ L B=>by
 obtain⟨v,F,I⟩:=S.has i0 _ A;obtain⟨p,l,d,g,rfl,n,J,M⟩:=I G<|Same.refl _;refine⟨_,F,p,l,_,rfl,S.sub.same _ _ n,rH u,x (λ_=>Ε) j k G H _ _ jW S q λN O G1 H1 a P y_=>?_⟩;obtain⟨R,T⟩:=y_;refine⟨.ref p,N,y,O,_,_,rfl,(dskP.same (a.g.trans a.s.same) ⟨p,l,d,g,rfl,n,J,M⟩),P,T,λv s b c r U=>?_,λC b c W=>?_⟩
 ·obtain⟨d2,h,X⟩:=fC r U;have Y:=(S.ext a).all2 R c;exact L.nx _ _ b b ((S.ext a).sub.same.trans c|>λz=>a.g.trans z) (Y.setS (s:=.dat d2) i h λ_ _ _ _ z=>nomatch z) X
 ·have o:=a.trans<|mI a.s c;exact B.ex j k C _ b o.g (S.ext o) W
end
section
variable{K:μ}{as:ε ο}{Fx:Hp->Prop}{ts:TS}{ds:DS}{tt tu:TT}{d1 d2:DTW}{C p:ο}{f m:Ξ}{t:TA}{dl:DL}{w:Ip}{iO:ν}
def aHs(d1 d2:DTW)(d:bF)(e:ε fI)(Q:Bool->bF->ε fI->Prop):Prop:=d1 d e λb a c=>if b=true then d2 a c Q else Q false a c
theorem Tu(l:TwD K as Fx tt d1)(n:TwD K as Fx tu d2):TwD K as Fx (aJc tt tu) (aHs d1 d2):=λo r d H s Q S u v q k=>
 l o r d H _ _ S u v q λb a c e g h i j=>by
  cases b with
  |true=>exact n a c d e s Q g h i j k
  |false=>exact k false a c e g h i j
def aQy(d c:DWS)(e:WEnds)(g:bF)(h:ε fI):Prop:=∃I:bF->ε fI->Prop,d {e with nx:=I} g h/\∀a b,I a b->c e a b
theorem aKr{d:TS}{h a:DWS}(i:Iv K as Fx ts h)(j:Iv K as Fx d a):Iv K as Fx (sV ts d) (aQy h a):=λe k l n H D S o r ⟨I,q,s⟩ L=>
 i {e with nx:=I} k l n H {D with nx:=d D} S o r q ⟨λb c g u v x y z=>j e b c g u D v x y (s b c z) L,L.rt⟩
def Ox(iO:ν)(p:ο)(w:Ip)(dl:DL)(a:bF)(c:ε fI)(Q:Bool->bF->ε fI->Prop):Prop:=slot a iO=γ (.mon<|Oe p)/\dl (λ_=>Ε) a λds=>gM a=true/\∃d,c[0]? =γ d/\
 w d ds (jJ λt=>∃b,t= .bool b/\Q b a c) (λ_=>Ε)
theorem Tt(e:Beg1 K C f as p Fx)(B:∀H,oY K H E0 t dl):TwD K as Fx (tB<|iG (uH K C f w) [] E0<|dF (fL iO) t) (Ox iO p w dl):=λo D E H Qd Q S u F ⟨G,q⟩ k=>by
 obtain⟨v,I,g⟩:=S.has iO _ G;cases (show v= .ref p from g H (Same.refl _));obtain⟨J,d,L,M⟩:=e.hp H u;refine⟨_,I,B H _ o E H H _ _ jW S q λN ds G1 x O h y_=>?_⟩;obtain⟨P,R,i,T⟩:=y_;have y:=S.ext O;have j:=y.oldH;have U:=e.good.mono H x j u;have a:=F.same j;have W:=a.is _ _ _ M i;obtain⟨c,X,l⟩:=W.at_;refine⟨.ref p,N,R,ds,_,λ_=>Ε,by rw[eT],⟨p,J,d,c,rfl,j _ _ L,X,l⟩,h,T,λv s A n r Y=>?_,λ_ _ _ z=>z.elim⟩;obtain⟨t,Z,b,et,qb⟩:=fC r Y;subst et;cases mO Z;exact⟨b,rfl,k b o D A (y.all2 P n).fresh (e.good.mono x A n U) (a.same n) qb⟩
def Oo(C:ο)(f:Ξ)(iO:ν)(p:ο)(ds:DS)(e:WEnds)(a:bF)(c:ε fI):Prop:=slot a iO=γ (.mon<|Oe p)/\∃b,c[0]? =γ b/\ds {nx:=λ_=>Ε,rt:=jJ e.rt,ex:=λ_=>Ε} (put (γ<|.mon<|dskP C f b) iO a)
theorem Xm(j:Beg1 K C f as p Fx)(h:∀H,iB K H E0 ts ds):Iv K as Fx ts (Oo C f iO p ds):=λe N O u H D S k x ⟨y,l,b,q⟩ L=>by
 obtain⟨v,A,c⟩:=S.has iO _ y;cases (show v= .ref p from c H (Same.refl _));obtain⟨B,d,E,F⟩:=j.hp H k;obtain⟨a,G,g⟩:=(x.is _ _ _ F b).at_;have I:dskP C f l K H (.ref p):=⟨p,B,d,a,rfl,E,G,g⟩;have n:=S.setS (v:=.ref p) (s:=.mon<|dskP C f l) iO (λ_ i=>I.same i) λ_ _ _ _ z=>nomatch z;rw[Ek A]at n
 exact h H _ u H H _ D jW n q ⟨λ_ _ _ _ _ _ z=>z.elim,λv s o i r z=>by
  obtain⟨t,J,M⟩:=fC r z
  exact L.rt v t o (j.good.mono H o i k) J M,λ_ _ _ _ _ _ z=>z.elim,λ_ _ _ _ _ _ z=>z.elim⟩
end
noncomputable def Fi(n:ν)(a st:υ τ):ε ν:=sliceRange (sliceBounds a none st n).1 (sliceBounds a none st n).2.1 (sliceBounds a none st n).2.2
noncomputable def fD{a:Type}(b:ε a)(c st:υ τ):ε a:=(Fi b.length c st).filterMap λi:ν=>b[i]?
theorem Wc(a:ε ξ)(b st:υ τ):slicePick a.toArray b none st=(fD a b st).toArray:=by
 unfold slicePick fD Fi
 congr 1
 simp only[ae,r9]
theorem Fh{a d:Type}(g:a->d)(b:ε a)(c st:υ τ):fD (b.map g) c st=(fD b c st).map g:=by
 unfold fD;rw[θ,List.map_filterMap];simp only[cw]
theorem zB{c d:Type}{R:c->d->Prop}:∀{a:ε c}{b:ε d},Paired R a b->∀i:ν,(a[i]? =none/\b[i]? =none)\/∃x y,a[i]? =γ x/\b[i]? =γ y/\R x y
 |_,_,.nil,i=>.inl ⟨rfl,rfl⟩
 |_,_,.cons h _,0=>.inr ⟨_,_,rfl,rfl,h⟩
 |_,_,.cons _ t,i+1=>zB t i
theorem lY{d e:Type}{R:d->e->Prop}{f:ε d}{g:ε e}(h:Paired R f g):∀a:ε ν,Paired R (a.filterMap λi:ν=>f[i]?) (a.filterMap λi:ν=>g[i]?)
 |[]=>.nil
 |i::a=>by
  rw[fh,fh];rcases zB h i with⟨b,c⟩|⟨x,y,b,c,r⟩
  ·rw[b,c];exact lY h a
  ·rw[b,c];exact .cons r<|lY h a
theorem Yz{K:μ}{H:Hp}{a:ε V}{b:ε η}(h:DVs K H a b)(j st:υ τ):DVs K H (fD a j st) (fD b j st):=by
 have l:∀{a:ε V}{b:ε η},DVs K H a b->∀i:ν,(a[i]? =none/\b[i]? =none)\/∃x d,a[i]? =γ x/\b[i]? =γ d/\DV K H x d:=λ{a b} h i=>by
  cases e:a[i]? with
  |none=>exact .inl ⟨rfl,by rw[oz]at e⊢;rw[<-h.len];exact e⟩
  |some x=>obtain⟨d,c,m⟩:=Os h e;exact .inr ⟨x,d,rfl,c,m⟩
 have n:∀f:ε ν,DVs K H (f.filterMap λi:ν=>a[i]?) (f.filterMap λi:ν=>b[i]?):=λf=>by
  induction f with
  |nil=>exact .nil
  |cons i f k=>
   rw[fh,fh];rcases l h i with⟨g,c⟩|⟨x,y,g,c,r⟩
   ·rw[g,c];exact k
   ·rw[g,c];exact .cons r k
 unfold fD;rw[h.len];exact n _
theorem We{c:Type}(a:ε c)(b:υ τ):(fD a b<|some 2).length<=a.length:=by
 unfold fD Fi;refine Β (qc _ _)<|sliceRange_length_le _ _ _ _ (λ_=>?_) λz=>ς (show(2:τ)>0 by decide) z;refine⟨?_,by simp[sliceBounds]⟩;cases b with
 |none=>simp[sliceBounds]
 |some i=>simp only[sliceBounds,wz];lia
section
variable{X:Cx}{e es:Expr}{lo:υ Expr}{te:TE}{tl ts:TO}{pos p2:Pos}
def aPc(K:μ):V->υ τ->υ τ->Hp->VK->Prop:=λx lo st H Q=>∃a b,x= .ref a/\SqL K H a b/\∀p,H p=none->Q (.ref p) (dP H p<|.lst<|fD b lo st)
def aGm(K:μ)(te:TE)(tl ts:TO):TE:=λa H Q=>te a H λx b=>tl a b λl c=>ts a c λi d=>i=γ 2/\aPc K x l i d Q
theorem Nd{K:μ}(j:X.K=K)(k:PE X e te)(m:PO X lo tl)(n:PO X (γ es) ts):PE X (.Subscript e (.Slice lo none (γ es) p2) pos) (aGm K te tl ts):=by
 subst j;intro pins s d H Q I h;refine rg<|dQ (k pins s d H _ I h) λv p y_=>?_;refine q_ λW_=>?_;obtain⟨x,t,u,w,y⟩:=y_;apply W_;refine xh<|dQ (m pins p d t _ u y) λz A y_=>?_;refine q_ λW_=>?_;obtain⟨l,B,C,D,E⟩:=y_;apply W_;rw[p5];refine Ψ<|dQ (n pins A d B _ C E) λF c y_=>?_;refine q_ λW_=>?_;obtain⟨i,G,J,L,M⟩:=y_;apply W_;refine q_ λwv=>?_;obtain⟨rfl,a,N,rfl,O,q⟩:=M;apply wv;cases w;have f:Inv X pins d G {c with heap:=c.heap.push {cls:=.type "slice",data:=.fields #[z,.none,F]}}:=J.kept (t':=c.toks) λb P q=>Λ _ q;obtain⟨R,r,g,S⟩:=f.list O;have hlen:=r.length;refine vo (ops:=[.ref a,.ref c.heap.objs.size]) g.isList.typeIs slot_list_getitem.lookup ?_ (by with_unfolding_all rfl);refine j8 g.isList (IsSliceOf.new ..) D .none L (by simp) ?_ (by rw[ae] <;>lia);rw[Wc];refine⟨.ref _,_,f.laid (t':=c.toks) (o:=.lst<|fD N l<|some 2) (λb P q=>Λ _ q) (Η _) ?_,rfl,q _<|f.hok.fresh<|Η _⟩;refine⟨Β (We _ _) S,_,0,?_,aj _ rfl⟩;unfold fD;rw[hlen];exact lY r _
end
section
variable{K:μ}{H₀:Hp}{E:XK}{te:TE}{dl:DL}{t1 t2:TO}{d1 d2:DO}
def aHx(dl:DL)(d1 d2:DO)(ex:DX)(a:bF)(Q:ε η->Prop):Prop:=dl ex a λb=>d1 ex a λl=>d2 ex a λi=>i=γ 2/\Q (fD b l i)
theorem Nh(o:Sm K H₀ E te dl)(r:OvP K H₀ E t1 d1)(s:OvP K H₀ E t2 d2):xV K H₀ E (aGm K te t1 t2) (aHx dl d1 d2):=λex d e G H D Q f S q k=>
 o ex d e G H _ _ f S q λa h F t u g v w x=>r ex d e t u _ _ f (S.ext g) x λl y z b A=>s ex d e y z _ _ f ((S.ext g).ext b) A λi I J c j=>
  ⟨j.1,a,h,rfl,c.h.seq (b.h.seq v),λp m=>by
   obtain⟨B,C⟩:=fY (xs:=fD h l i) c.s m
   have n:=(g.trans b).trans c
   exact k p _ _ _ _ (n.trans B) (n.h.free m) C aZ (Yz (aU (b.g.trans c.g) w) l i) j.2⟩
end
end Dl
namespace My
open PySem PySem.Spec PyProof.Rows L2 Lx Dl
local macro_rules|`(tactic|walk_at"c")=>`(tactic|exact⟨rfl,rfl,rfl,by decide +kernel,rfl,by decide +kernel,by decide +kernel⟩)
section
variable{K:μ}{H₀:Hp}{E:XK}{te ta tb:TE}{t:TA}{ts:TS}{de da db:DE}{dl:DL}{ds:DS}{r:R2}{rd:RD2}
theorem vN(i:ν)(h:oY K H₀ E t dl):oY K H₀ E (dF (fL i) t) (zW (wM i) dl):=Pj (aI i) h
theorem vE(h:gG K H₀ E te de)(k:oY K H₀ E t dl):oY K H₀ E (dF te t) (zW de dl):=Pj (aE h) k
theorem bI{n:τ}:jL K H₀ E (tC<|.int n) (dC<|.int n):=aE aX
theorem eX(i j:ν):gG K H₀ E (wY (Jm K) (fL j)<|tC<|.int (i:τ)) (aAa i<|Kw j):=oQ i<|aY j
theorem bO(h:Iu K r rd)(a:jL K H₀ E ta da)(b:jL K H₀ E tb db):jL K H₀ E (wY r ta tb) (dOp rd da db):=aE<|cB h a b
theorem tO(h:Iu K r rd)(a:jL K H₀ E ta da)(b:jL K H₀ E tb db):Ac K H₀ E (Mf<|wY r ta tb) (aAo<|dOp rd da db):=Me<|bO h a b
theorem sA(i:ν)(h:gG K H₀ E te de)(k:iB K H₀ E ts ds):iB K H₀ E (sV (kW te<|jV i) ts) (Zq (aFh de<|wD i) ds):=aG (eY h<|aJ i) k
end
structure Fg(K:μ)(n:Ξ)(st:Stmt)(f:ο)(d:FuncData):Prop where
 a:W.nsIn K mainGlobals n=γ (γ<|.ref f)
 F:Fun K n n st f d
theorem fg_mk{K:μ}{x:Ξ}{st:Stmt}{f:ο}{i:ξ}{j g:υ ο}{e:Array<|υ ξ}{kV d h b ct:ξ}(a:W.nsIn K mainGlobals x=γ (γ<|.ref f))(l:K.lookup f=γ ⟨i,j,.func<|W.fnOf x x (jX st) (eP st) (aM st) .none kV d h g b ct,e⟩)(c:W.codeIn K b x=true)(k:W.keepIn K (.ref f)=true):Fg K x st f (W.fnOf x x (jX st) (eP st) (aM st) .none kV d h g b ct):=⟨a,fun_mk l c k⟩
structure Fd(K:μ)(mg:Ξ->υ ξ)(n:Ξ)(st:Stmt)(a:ο)(d:FuncData)(ps:ε Ξ):Prop where
 F:Fun K n n st a d
 m:mg n=γ (.ref a)
 b:Binds K d ps []
theorem Fg.fd{K:μ}{i:Ξ->υ ξ}{n:Ξ}{st:Stmt}{f:ο}{d:FuncData}{a:ε Ξ}{h:ei}(F:Fg K n st f d)(X:K.In h)(G:h.Ns mainGlobals i)(b:∀(kV c j:ξ)(k:υ ο)(e ct:ξ)(g:ε ξ),g.length=a.length->bindArgs (W.fnOf n n (jX st) (eP st) (aM st) .none kV c j k e ct) ⟨g,[]⟩=pure (a.zip g)):Fd K i n st f d a:=⟨F.F,gw X G F.a,F.F.binds b⟩
theorem kB{X:Cx}{g:Lm}{k h:ν}{f:ο}{i:FuncData}{j:ε Ξ}{l:Sp}{x:Ξ}{p a:Pos}{st:Stmt}{e:Expr}{b:ε Expr}{t:TA}{E:XK}(F:FnOk X.prog X.w X.K X.mg X.base g k f i j l)(m:Room h X.A)(T:Fd X.K X.mg x st f i j)(n:iP g X E)
  (o:PA X (e::b) t) (q:k<=h:=by decide) (r:Gl X x:=by exact rfl) (c:(x==("__debug__":Ξ))=false:=by decide) (s:starEach (e::b) X.env=(false,eval e X.env)::starEach b X.env:=by rfl) (d:(backTo a<|starEach b X.env).any (·.1)=false:=by rfl):
  PE X (.Call (.Name x p) (e::b) [] a) (iG l [] E t):=aDh F (m.mono q) r T.m T.F.kp T.b .nil n o c s d
noncomputable def top(i:ν):Stmt:=PySem.Challenge.pw_leastmiss_k74_desk_answers.main.body.getD i<|.Pass ⟨0,0,0,0⟩
noncomputable def tb:ε (Ξ×ν×ε Ξ):=("common_divisor",12,["one","other"])::("fraction",13,["top","bottom"])::("plus",14,["one","other"])::("minus",15,["one","other"])::("product",16,["one","other"])::("quotient",17,["one","other"])::("is_less",18,["one","other"])::("size_of",19,["one"])::("total_of",20,["some"])::("greatest_of",21,["some"])::("least_of",22,["some"])::("solved",24,["table","right"])::("cleared",25,["rows","column"])::("leading_spot",26,["rows","column"])::("without",27,["row","leader","column"])::("height_at",30,["numbers","x"])::("row_of",31,["numbers","marks"])::("powers_of",32,["x","count"])::("bent_through",33,["marks"])::("moments_of",34,["marks","terms","count"])::("count_ahead",37,["marks","place"])::("marks_of",38,["some"])::("misses_of",39,["marks","row"])::("check_kind",42,["kind"])::("weighed_misses",43,["marks","row"])::("measured",44,["kind","marks","row"])::("least_level",46,["kind","marks"])::("middle_of",47,["some","weights"])::("in_order",48,["some","weights"])::("level_sum",49,["marks"])::("line_sum",50,["marks"])::("line_at",51,["marks","mark"])::("line_pulls",52,["marks","line"])::("turn_of",53,["marks","pulls"])::("early_pulls",54,["marks","misses"])::("bend_least",57,["kind","marks","bend"])::("is_bend",58,["bend"])::("through_all",59,["marks","bend"])::("bend_square",60,["marks","bend"])::("bend_far",61,["marks","bend"])::("spread_spots",62,["count","wanted"])::("even_shares",63,["chosen"])::("with_sign_of",64,["one","other"])::("moved_by",65,["chosen","shares","level"])::("pulls_at",66,["spots","shares","level","count"])::("exchanged",67,["spots","misses","spot"])::("rise_least",69,["kind","marks"])::("pooled",70,["kind","marks"])::("rise_far",71,["marks"])::("peaks_of",72,["heights"])::("stretch_cost",74,["kind","marks","first","last"])::("joined",75,["kind","one","other"])::("costs_to",78,["kind","marks","last"])::("all_costs",79,["kind","marks"])::("is_above",80,["kind","entry","one","other"])::("step_least",81,["kind","marks","k"])::("best_entry",82,["kind","costs","entries_ahead"])::("laid_row",83,["kind","marks","starts"])::("check_text",87,["text"])::("is_figures",88,["text"])::("read_whole",89,["text"])::("read_fraction",90,["text"])::("read_mark",91,["text"])::("show_fraction",92,["x"])::("show_fractions",93,["some"])::("show_mark",94,["mark"])::("show_marks",95,["some"])::("words_of",100,["row"])::("check_name",101,["word"])::("bent_fit",102,["kind","marks","bend"])::("parted",103,["parts"])::("bend_answer",104,["kind","marks","bend"])::("rise_answer",105,["kind","marks"])::("steps_answer",106,["kind","marks","k"])::("judge_answer",107,["kind","marks","words"])::("asked",108,["words","marks"])::("_law_cell",111,["script","k"])::("_law_lowest",112,["top","bottom"])::("_law_some",115,["script","start","most"])::("_law_written",116,["x"])::("_law_word",117,["mark"])::("_law_shown",118,["some"])::("_law_row",119,["row"])::("_law_bend",120,["kind","some","bend"])::("_law_due",121,["way","kind","some","bend","k","row"])::("_law_said",122,["desk","row"])::("_law_asks",123,["desk","script","some"])::[]
abbrev tr(i:ν):Ξ×ν×ε Ξ:=tb.getD i ("",0,[])
noncomputable abbrev nm(i:ν):Ξ:=(tr i).1
abbrev st(i:ν):Stmt:=top (tr i).2.1
abbrev pr(i:ν):ε Ξ:=(tr i).2.2
theorem lU:FnScope ["top","bottom","divisor"] (pr 1) (aM<|st 1):=by walk_at"c"
theorem yS:FnScope ["table","right","rows","column"] (pr 11) (aM<|st 11):=by walk_at"c"
theorem uQ:FnScope ["rows","column","spot","found","leader","others"] (pr 12) (aM<|st 12):=by walk_at"c"
theorem lE:FnScope ["rows","column","spots"] (pr 13) (aM<|st 13):=by walk_at"c"
theorem lF:FnScope ["marks","table"] (pr 18) (aM<|st 18):=by walk_at"c"
theorem lT:FnScope ["kind","marks","heights","weights","weighed"] (pr 26) (aM<|st 26):=by walk_at"c"
theorem pR:FnScope ["some","weights","pairs","whole","spot","reached"] (pr 27) (aM<|st 27):=by walk_at"c"
theorem sB:FnScope ["some","weights","pairs","one","weight","spot"] (pr 28) (aM<|st 28):=by walk_at"c"
theorem pS:FnScope ["marks","numbers","misses"] (pr 29) (aM<|st 29):=by walk_at"c"
theorem rX:FnScope ["marks","best","least","mark","line","measure"] (pr 30) (aM<|st 30):=by walk_at"c"
theorem uO:FnScope ["marks","mark","others","ways","slopes","weights","slope"] (pr 31) (aM<|st 31):=by walk_at"c"
theorem nR:FnScope ["marks","line","misses","early","late","least","greatest","part"] (pr 32) (aM<|st 32):=by walk_at"c"
theorem uN:FnScope ["marks","pulls"] (pr 33) (aM<|st 33):=by walk_at"c"
theorem lV:FnScope ["marks","misses","fixed","left","pulls","mark","miss","pull","raised"] (pr 34) (aM<|st 34):=by walk_at"c"
theorem nU:FnScope ["kind","marks","bend"] (pr 35) (aM<|st 35):=by walk_at"c"
theorem lR:FnScope ["marks","bend","numbers","behind"] (pr 37) (aM<|st 37):=by walk_at"c"
theorem lW:FnScope ["marks","bend","weights","weighed","moments","table","numbers"] (pr 38) (aM<|st 38):=by walk_at"c"
theorem sE:FnScope ["marks","bend","spots","chosen","shares","level","numbers","misses","sizes","greatest"] (pr 39) (aM<|st 39):=by walk_at"c"
theorem lD:FnScope ["count","wanted"] (pr 40) (aM<|st 40):=by walk_at"c"
theorem pT:FnScope ["spots","misses","spot","ahead","beside"] (pr 45) (aM<|st 45):=by walk_at"c"
theorem nQ:FnScope ["kind","marks","blocks","row","block","pulls"] (pr 46) (aM<|st 46):=by walk_at"c"
theorem kK:FnScope ["kind","marks","blocks","mark","block"] (pr 47) (aM<|st 47):=by walk_at"c"
theorem rV:FnScope ["marks","heights","peaks","drops","deepest","half","row","pulls","spot"] (pr 48) (aM<|st 48):=by walk_at"c"
theorem rW:FnScope ["heights","peaks","peak","spot","height"] (pr 49) (aM<|st 49):=by walk_at"c"
theorem lB:FnScope ["kind","marks","first","last","stretch"] (pr 50) (aM<|st 50):=by walk_at"c"
theorem yU:FnScope ["kind","one","other"] (pr 51) (aM<|st 51):=by walk_at"c"
theorem sC:FnScope ["kind","marks","last"] (pr 52) (aM<|st 52):=by walk_at"c"
theorem pU:FnScope ["kind","marks"] (pr 53) (aM<|st 53):=by walk_at"c"
theorem Ep:FnScope ["kind","entry","one","other"] (pr 54) (aM<|st 54):=by walk_at"c"
theorem nP:FnScope ["kind","marks","k","costs","table","starts","entries","spot","found"] (pr 55) (aM<|st 55):=by walk_at"c"
theorem nS:FnScope ["kind","costs","entries_ahead","best","start","spot","one"] (pr 56) (aM<|st 56):=by walk_at"c"
theorem rZ:FnScope ["kind","marks","starts","row","count","spot","first","stretch"] (pr 57) (aM<|st 57):=by walk_at"c"
theorem kJ:FnScope ["text","parts","top","bottom"] (pr 61) (aM<|st 61):=by walk_at"c"
theorem pQ:FnScope ["text","parts","others","place","height","weight"] (pr 62) (aM<|st 62):=by walk_at"c"
theorem lQ:FnScope ["row","words","bounds"] (pr 67) (aM<|st 67):=by walk_at"c"
theorem sD:FnScope ["kind","marks","bend"] (pr 69) (aM<|st 69):=by walk_at"c"
theorem jG:FnScope ["kind","marks","bend","fit","measure"] (pr 71) (aM<|st 71):=by walk_at"c"
theorem lS:FnScope ["kind","marks","fit"] (pr 72) (aM<|st 72):=by walk_at"c"
theorem lC:FnScope ["kind","marks","k","row"] (pr 73) (aM<|st 73):=by walk_at"c"
theorem Er:FnScope ["words","marks","kind"] (pr 75) (aM<|st 75):=by walk_at"c"
theorem rY:FnScope ["kind","some","bend","found","missed"] (pr 83) (aM<|st 83):=by walk_at"c"
theorem uP:FnScope ["way","kind","some","bend","k","row","found","pulls"] (pr 84) (aM<|st 84):=by walk_at"c"
theorem sc_law_said:FnScope ["desk","row","found","e"] (pr 85) (aM<|st 85):=by walk_at"c"
theorem sc_law_asks:FnScope ["desk","script","some","kind","bend","k","row","first","rows","j","way","due","found"] (pr 86) (aM<|st 86):=by walk_at"c"
abbrev aJm:Stmt:=tV (top 109) 0
theorem aPa:FnScope ["self"] ["self"] (aM aJm):=by walk_at"c"
abbrev aJl:Stmt:=tV (top 109) 1
theorem yT:FnScope ["self","row","words","marks"] ["self","row"] (aM aJl):=by walk_at"c"
abbrev aJk:Stmt:=tV (top 109) 2
theorem aOz:FnScope ["self","name","words"] ["self","name","words"] (aM aJk):=by walk_at"c"
abbrev aJj:Stmt:=tV (top 109) 3
theorem aOy:FnScope ["self","name"] ["self","name"] (aM aJj):=by walk_at"c"
abbrev aJi:Stmt:=top 124
theorem Eo:FnScope ["script","both","lands","desk","k"] ["script"] (aM aJi):=by walk_at"c"
theorem Sj{X:Cx}{K:μ}{a:Expr}{c:TE}{i j p b}(h:X.K=K)(d:PE X a c):PE X (.Subscript a (.Constant (.int i) j p) b) (wY (Jm K) c<|tC<|.int i):=nV (aTr h) d bS λ_ _=>rfl
theorem uX{X:Cx}{K:μ}{a:Expr}{c:TE}{i j p b}(h:X.K=K)(d:PE X a c):PE X (.Subscript a (.Constant (.int i) j p) b) (wY (aCx K) c<|tC<|.int i):=nV (Hd h) d bS λ_ _=>rfl
theorem oW{X:Cx}{c:ε Ξ}{d:Scope}{x:Ξ}{e:Expr}{b:TE}{a pos':Pos}(i:ν)(S:FnScope X.N c d)(f:PE X e b)(g:X.N[i]? =γ x:=by exact rfl)(h:Loc X.env.scope x:=by exact Or.inl rfl)(j:swapsWith e (γ<|.Name x pos') a.line X.env=pure false:=by rfl)(k:X.fn x=true\/X.env.scope.names.lookup x=γ .local:=by first|exact .inl rfl|exact .inr rfl|assumption):PS X (.Assign [.Name x pos'] e a) (kW b<|jV i):=Vy S.nd g h f j k
theorem pgS{X:Cx}{b:ε Ξ}{c:Scope}{x:Ξ}{a:Pos}(i:ν)(S:FnScope X.N b c)(d:X.N[i]? =γ x:=by exact rfl)(e:Loc X.env.scope x:=by exact Or.inl rfl)(f:X.fn x=true\/X.env.scope.names.lookup x=γ .local:=by first|exact .inl rfl|exact .inr rfl|assumption):PG X (.Name x a) (jV i):=tP S.nd d e f
theorem pgN{X:Cx}{x:Ξ}{a:Pos}(i:ν)(N:ε Ξ)(e:X.N=N:=by exact rfl)(b:N.Nodup:=by decide)(c:X.N[i]? =γ x:=by exact rfl)(d:Loc X.env.scope x:=by exact Or.inl rfl)(f:X.fn x=true\/X.env.scope.names.lookup x=γ .local:=by first|exact .inl rfl|exact .inr rfl|assumption):PG X (.Name x a) (jV i):=tP (e▸b) c d f
theorem lcO{X:Cx}{scope:Scope}{i:ε<|Ξ×ο}{j:ε<|υ ν}{k:ε Ξ}(a:closureFor scope X.env=pure i)(b:scope.kind= .function:=by exact rfl)(c:∀x∈scope.names,x.2≠ .cell:=by decide +kernel)(d:∀x∈scope.names,x.2= .local->scope.names.lookup x.1=γ .local:=by decide +kernel)(e:CapsOk X scope i j k:=by exact trivial)(f:∀p∈i,X.env.cells.lookup p.1=γ p.2:=by exact λ_ h=>nomatch h)(g:((relabel scope X.env).names.all λp=>(p.2 != .cell && p.2 != .free)||(i.lookup p.1).isSome)=true:=by exact rfl):LcOk X scope i j k:=⟨a,b,c,d,e,f,g⟩
local macro_rules|`(tactic|walk_at"l")=>`(tactic|(intro _ _ _ h;repeat (first|(obtain⟨e,_⟩:=h;subst e;rfl)|obtain⟨_,h⟩:=h)))
set_option genInjectivity false in
structure Adr where
 a:ν->ο
 d:ν->FuncData
 a_qa:ο
 d_qa:FuncData
 a_qb:ο
 d_qb:FuncData
 a_qc:ο
 d_qc:FuncData
 a_qd:ο
 d_qd:FuncData
 a_qe:ο
 d_qe:FuncData
 x_MissError:ο
 x_NoNumber:ο
 x_NoMarks:ο
 x_NoKind:ο
 x_NoBend:ο
 x_NoAnswer:ο
 x_NoText:ο
 x_NoName:ο
 x_NoRow:ο
 g_KINDS:ο
 g_NOUGHT:ο
 c_Desk:ο
 g_COUNTS:ο
 g_COUNTS_0:ο
 g_COUNTS_1:ο
 g_COUNTS_2:ο
 g_COUNTS_3:ο
 g_COUNTS_4:ο
 g_COUNTS_5:ο
 g_COUNTS_6:ο
 g_COUNTS_7:ο
noncomputable def fK(A:Adr):Tab:=[("marks",.ref A.g_COUNTS_0,(.tuple [(.int 3),(.int 62)])),("drop",.ref A.g_COUNTS_1,(.tuple [(.int 2),(.int 2)])),("names",.ref A.g_COUNTS_2,(.tuple [(.int 1),(.int 1)])),("show",.ref A.g_COUNTS_3,(.tuple [(.int 2),(.int 2)])),("bend",.ref A.g_COUNTS_4,(.tuple [(.int 4),(.int 4)])),("rise",.ref A.g_COUNTS_5,(.tuple [(.int 3),(.int 3)])),("steps",.ref A.g_COUNTS_6,(.tuple [(.int 4),(.int 4)])),("judge",.ref A.g_COUNTS_7,(.tuple [(.int 4),(.int 63)]))]
structure Txt(K:μ)(mg:Ξ->υ ξ)(A:Adr):Prop where
 F:∀i,i<87->Fd K mg (nm i) (st i) (A.a i) (A.d i) (pr i)
 F_qa:Fun K "__init__" "Desk.__init__" aJm A.a_qa A.d_qa
 M_qa:Meth K A.c_Desk "__init__" A.a_qa
 b_qa:Binds K A.d_qa ["self"] []
 F_qb:Fun K "say" "Desk.say" aJl A.a_qb A.d_qb
 M_qb:Meth K A.c_Desk "say" A.a_qb
 b_qb:Binds K A.d_qb ["self","row"] []
 F_qc:Fun K "lay" "Desk.lay" aJk A.a_qc A.d_qc
 M_qc:Meth K A.c_Desk "lay" A.a_qc
 b_qc:Binds K A.d_qc ["self","name","words"] []
 F_qd:Fun K "marks_by" "Desk.marks_by" aJj A.a_qd A.d_qd
 M_qd:Meth K A.c_Desk "marks_by" A.a_qd
 b_qd:Binds K A.d_qd ["self","name"] []
 F_qe:Fd K mg "law" aJi A.a_qe A.d_qe ["script"]
 x_MissError:ExcCl K mg "MissError" A.x_MissError
 x_NoNumber:ExcCl K mg "NoNumber" A.x_NoNumber
 x_NoMarks:ExcCl K mg "NoMarks" A.x_NoMarks
 x_NoKind:ExcCl K mg "NoKind" A.x_NoKind
 x_NoBend:ExcCl K mg "NoBend" A.x_NoBend
 x_NoAnswer:ExcCl K mg "NoAnswer" A.x_NoAnswer
 x_NoText:ExcCl K mg "NoText" A.x_NoText
 x_NoName:ExcCl K mg "NoName" A.x_NoName
 x_NoRow:ExcCl K mg "NoRow" A.x_NoRow
 xk_NoKind:ExcK K A.x_NoKind
 e_NoKind_MissError:W.exmOne K (.ref A.x_NoKind) (.ref A.x_MissError)=γ true
 k_NoKind_NoKind:W.kitOne K (.ref A.x_NoKind) (.ref A.x_NoKind)=γ true
 k_NoKind_NoBend:W.kitOne K (.ref A.x_NoKind) (.ref A.x_NoBend)=γ false
 n_abs:mg "abs"=none
 n_all:mg "all"=none
 n_bool:mg "bool"=none
 n_enumerate:mg "enumerate"=none
 n_int:mg "int"=none
 n_isinstance:mg "isinstance"=none
 n_len:mg "len"=none
 n_list:mg "list"=none
 n_max:mg "max"=none
 n_min:mg "min"=none
 n_range:mg "range"=none
 n_reversed:mg "reversed"=none
 n_sorted:mg "sorted"=none
 n_str:mg "str"=none
 n_sum:mg "sum"=none
 n_zip:mg "zip"=none
 m_Desk:mg "Desk"=γ (.ref A.c_Desk)
 cl_Desk:Cls K A.c_Desk
 mk_Desk:Mk K A.c_Desk A.a_qa
 nA_Desk:NoAttr K A.c_Desk "kept"
 c_COUNTS:mg "COUNTS"=γ (.ref A.g_COUNTS)
 c_FIGURES:∃t,mg "FIGURES"=γ (.str "0123456789" t)
 c_KINDS:mg "KINDS"=γ (.ref A.g_KINDS)
 k_KINDS:∀H:Hp,DV K H (.ref A.g_KINDS)<|.tuple [(.str "far"),(.str "sum"),(.str "square")]
 c_LETTERS:∃t,mg "LETTERS"=γ (.str "abcdefghijklmnopqrstuvwxyz" t)
 c_MOST_BEND:∃t,mg "MOST_BEND"=γ (.int 3 t)
 c_MOST_FIGURES:∃t,mg "MOST_FIGURES"=γ (.int 40 t)
 c_MOST_LETTERS:∃t,mg "MOST_LETTERS"=γ (.int 8 t)
 c_MOST_MARKS:∃t,mg "MOST_MARKS"=γ (.int 60 t)
 c_MOST_NUMBERS:∃t,mg "MOST_NUMBERS"=γ (.int 4 t)
 c_MOST_STEPS:∃t,mg "MOST_STEPS"=γ (.int 59 t)
 c_NOUGHT:mg "NOUGHT"=γ (.ref A.g_NOUGHT)
 k_NOUGHT:∀H:Hp,DV K H (.ref A.g_NOUGHT)<|.tuple [(.int 0),(.int 1)]
abbrev Lf:=AN
abbrev iF:=yi
abbrev aBa:=AO
abbrev aFo:=AE
abbrev aFn:=AF
abbrev aNg:=AQ
abbrev aNh:=AR
theorem aNf:bootBuiltins "sum"=γ (.builtin "sum"):=by decide +kernel
set_option synthInstance.maxSize 100000
set_option synthInstance.maxHeartbeats 0
local macro_rules|`(tactic|walk_at"d")=>do
 let a<-("Su aHs Ox Oo aHx aAn Zd aHr aQx Yx aRb aAc aAl aRd aHu aRe aHv aHw Zi sQ wA Gy aHq Yw zV Zz Pe aIc Zy aAm gW slot put Kw wM wL dC dFz wO aFf zW aMe aMp dOp oI oI0 oB0 oEq oNe aPv aMn aAa nth aMo aKm Xa aDq Wz aBb aBc aNj aRi Zv aMy dCb aFt aFq aFr aFp aFs Cq aIb Zn aMm Zw dSl aAj dMv aAo aMz dOr aMk aAq aIa aMu aAi La Kz Cs Ct Zx aMh Zt Ij aAg aMt wD Oi Cd Oh aFh Zp aAk Lb gM sR Rw aMj Kx aAp Ky Zs Zr aHy qR aFe aMr isD Mb aMw Ik aMq nox aFd aAf aMg aAb aMi Zm Kj aMs aAd dOV d2 Zu Cr Cp aAe qN aRg Pf aAh Zl Qr aNk aMl wF Qm jJ mH cZ qd uq jj Bool.not_true oi true_and y3 ir rk kr jz sj ite_true ite_false Bool.false_eq_true Bool.true_eq_false not_true_eq_false not_false_eq_true reduceCtorEq Ρ km θ".splitOn " ").toArray.mapM λn=>`(Lean.Parser.Tactic.simpLemma|$(Lean.mkIdent n.toName):ident)
 `(tactic|(try simp only[$a,*]))
local macro_rules|`(tactic|walk_at"s")=>`(tactic|(walk_at"d";refine cV ?_;walk_at"d"))
local macro_rules|`(tactic|ext)=>`(tactic|walk_at"d")
local macro_rules|`(tactic|ac_nf)=>`(tactic|walk_at"s")
local macro_rules|`(tactic|walk_at"w")=>`(tactic|(refine⟨λ_=>?_⟩;repeat (first|exact Dt.pure _|refine Dt.and ?_|refine Dt.ex λ_=>?_)))
theorem aAz:bootBuiltins "str"=γ (.type "str"):=by decide +kernel
noncomputable abbrev fr(q:ψ):η:=.tuple [.int q.num,.int (q.den:τ)]
theorem Lr{b:τ}(h:g<=b.natAbs)(a:Wee b):Wee (g:τ):=by
 unfold Wee at *
 exact 4
theorem Lq(a:Wee b):Wee (-b):=by
 unfold Wee at *
 exact 49
theorem aRo(h:decide (0<=j/\j<=1000000/\i.natAbs<2^64)=true):aSh i j:=(lq h:0<=j/\j<=1000000/\i.natAbs<2^64)
theorem Sy(h:decide (i.natAbs<2^8000)=true:=by decide +kernel):Wee i:=(lq h:i.natAbs<2^8000)
theorem fJ(h:i.natAbs<=n)(a:decide (n<2^8000)=true:=by decide +kernel):Wee i:=eh h<|lq a
theorem Le(h:decide (0<j/\j.natAbs<2^8000)=true:=by decide +kernel):Pn i j:=(lq h:0<j/\j.natAbs<2^8000)
structure Ok(q:ψ):Prop where
 n:Wee q.num
 d:Wee (q.den:τ)
theorem iZ{g b:ν}(h:g<=b)(a:Wee (b:τ)):Wee (g:τ):=by
 unfold Wee at *
 exact 4
theorem aMc(q:ψ):(0:τ)<(q.den:τ):=by have:=q.den_nz;lia
theorem okS(h:Fm.Sz N q)(a:decide (N<2^8000)=true):Ok q:=⟨fJ h.n a,fJ (n:=N) (by have:=h.d;assumption) a⟩
theorem aEv(q:ψ):mH (fr q)=true:=rfl
theorem bP:∀a:ε ψ,cZ (a.map fr)=true
 |[]=>rfl
 |q::a=>by
  have:=bP a;simp only[ak,cZ,aEv,this,jj]
variable{P:Program}{w:gb}{K:μ}{mg:Ξ->υ ξ}{base:ei}{A:Adr}
def aTf:DW:=λc Q _=>∃a b:τ,c=[.int a,.int b]/\0<=a/\0<=b/\Q (.dat<|.int ((bq a b:ν):τ))
structure CtR(X:Cx)(P:Program)(w:gb)(K:μ)(mg:Ξ->υ ξ)(base:ei)(A:Around)(x:Ξ)(e:Expr)(es:ε Expr)(pos:Pos)(k k':ν):Prop where
 p:X.prog=P
 w:X.w=w
 K:X.K=K
 mg:X.mg=mg
 b:X.base=base
 A:X.A=A
 hk:k<=k'
 hg:Gl X x
 hdb:(x==("__debug__":Ξ))=false
 he:starEach (e::es) X.env=(false,eval e X.env)::starEach es X.env
 hpl:(backTo pos<|starEach es X.env).any (·.1)=false
theorem nM{X:Cx}{P:Program}{w:gb}{K:μ}{mg:Ξ->υ ξ}{base:ei}{A:Around}{d:Lm}{k g:ν}{f:ο}{h:FuncData}{i:ε Ξ}{j:Sp}{x:Ξ}{p a:Pos}{st:Stmt}{e:Expr}{b:ε Expr}{t:TA}{E:XK}(T:Fd K mg x st f h i)(F:FnOk P w K mg base d k f h i j)(l:Room g A)(c:CtR X P w K mg base A x e b a k g)(m:iP d X E)(n:PA X (e::b) t):PE X (.Call (.Name x p) (e::b) [] a) (iG j [] E t):=by
 cases c.p;cases c.w;cases c.K;cases c.mg;cases c.b;cases c.A;exact kB F l T m n c.hk c.hg c.hdb c.he c.hpl
theorem pgC{X:Cx}{scope:Scope}{d:ε<|Ξ×ο}{c:ε Ξ}{C:ο}{a:Ζ}{b:Hp}{e:ε ο}{x:Ξ}{f:Pos}{i:ν}(g:c.Nodup:=by decide)(h:c[i]? =γ x:=by exact rfl)(j:Loc (kN X scope d c C a b e).env.scope x:=by exact Or.inl rfl)(k:(kN X scope d c C a b e).fn x=true\/(kN X scope d c C a b e).env.scope.names.lookup x=γ .local:=by first|exact .inl rfl|exact .inr rfl|assumption):PG (kN X scope d c C a b e) (.Name x f) (jV i):=tP g h j k
def aJa(e:ε Ξ)(b:TI)(a:ε<|υ ν)(g:TG)(c:TT)(d:TE):TE:=tLC b a g c d
theorem bK{K:μ}{a:Hp}{E:XK}{d:TI}{e}{g:TG}{f}{h}{i:TT}{k}{l:TE}{m}(b:ε<|υ ν)(n:ε Ξ)(o:IvE K a E d e)(p:Ll K a g f h)(q:Ac K a E i k)(r:gG K a E l m)(s:(b.filterMap id).Nodup:=by decide)(c:f.all (λj=>(b[j]?.bind id).isNone)=true:=by decide):xV K a E (aJa n d b g i l) (dLC e b h k m):=Ws o p q r s c
section
variable{X:Cx}{scope:Scope}{cl:ε (Ξ×ο)}{cap:ε (υ ν)}{NC:ε Ξ}{target iter elt:Expr}{ifs:ε Expr}{wi:TI}{g:TG}{tt:TT}{te:TE}{pos pos' spos:Pos}{i:ν}{x:Ξ}{ps:ε Ξ}{sc:Scope}
theorem aKd(L:LcOk X scope cl cap NC)(d:PI X target iter wi)(e:∀C a b c,PG (kN X scope cl NC C a b c) target g)(f:∀C a b c,PTs (kN X scope cl NC C a b c) ifs tt)(j:∀C a b c,PE (kN X scope cl NC C a b c) elt te)(h:X.calm=true/\∀x,foldedSetIterable iter X.env x=pure x):PE X (.ListComp elt [⟨target,iter,ifs,0⟩] scope pos) (aJa NC wi cap g tt te):=aGy h.1 L d e f j h.2
theorem Qf(S:FnScope X.N ps sc)(L:LcOk X scope cl cap NC)(d:PI X target iter wi)(f:∀C a b c,PG (kN X scope cl NC C a b c) target g)(h:∀C a b c,PTs (kN X scope cl NC C a b c) ifs tt)(j:∀C a b c,PE (kN X scope cl NC C a b c) elt te)(k:X.N[i]? =γ x:=by exact rfl)(l:X.env.scope.names.lookup x=γ .local:=by exact rfl)(m:X.calm=true:=by exact rfl)(e:swapsWith (.ListComp elt [⟨target,iter,ifs,0⟩] scope pos) (γ<|.Name x pos') spos.line X.env=pure true:=by rfl)(n:∀x,foldedSetIterable iter X.env x=pure x:=by intro _;rfl):PS X (.Assign [.Name x pos'] (.ListComp elt [⟨target,iter,ifs,0⟩] scope pos) spos) (kW (aJa NC wi cap g tt te)<|jV i):=Ew S.nd k l m L d f h j e n
end
theorem Txt.G(T:Txt K mg A)(i:ν)(h:i<87:=by decide):Fd K mg (nm i) (st i) (A.a i) (A.d i) (pr i):=T.F i h
def Q(k i:ν)(V:Adr->DW):Prop:=∀(A:Adr){P:Program}{w:gb}{K:μ}{mg:Ξ->υ ξ}{base:ei},Txt K mg A->FnOk P w K mg base (iY P w) k (A.a i) (A.d i) (pr i) (oV K<|V A)
local macro_rules|`(tactic|walk_at"m")=>`(tactic|(intro _;walk_at"l"))
theorem jU{k:ν}{V:Adr->DW}(i:ν)(N:ε Ξ)(f:∀{P:Program}{w:gb}{K:μ}{mg:Ξ->υ ξ}{base:ei}{a:ξ}{e:Around}{outer:ε Env}{s:Ζ}{H:Hp}{E:XK}(A:Adr),Txt K mg A->Room k (e.deeper (envOfC (nm i) (aM (st i)) s.heap.objs.size (A.a i) a))->FnScope N (pr i) (aM (st i)) ->
   ∃t,Df (oS (iY P w) P w K mg base N (nm i) (aM (st i)) (A.a i) a e outer s H E) (eP (st i)) t/\∃d,iB K H E t d/\∀b Q X,V A b Q X->d {nx:=λ_=>Q (.dat .none),rt:=Q,ex:=X} (gW N b)) (c:∀A b Q E,V A b Q E->b.length=(pr i).length:=by walk_at"m") (S:FnScope N (pr i) (aM (st i)):=by walk_at"c") (g:i<87:=by decide):Q (k+1) i V:=by
 intro A _ _ _ _ _ T;exact Nj (T.F i g).F S (c A) λ_ _ _ _ _ _ R=>f A T R S
theorem kS{i k d:ν}{V:Adr->DW}{X:Cx}{P:Program}{w:gb}{K:μ}{mg:Ξ->υ ξ}{base:ei}{A:Adr}{f:Around}{x:Ξ}{p a:Pos}{e:Expr}{b:ε Expr}{t:TA}{E:XK}(F:Q k i V)(T:Txt K mg A)(R:Room d f)(g:nm i=x)(c:CtR X P w K mg base f x e b a k d/\i<87)(h:iP (iY P w) X E)(j:PA X (e::b) t):PE X (.Call (.Name x p) (e::b) [] a) (iG (oV K<|V A) [] E t):=by
 subst g;exact nM (T.F i c.2) (F A T) R c.1 h j
set_option hygiene false in
local macro_rules|`(tactic|walk_at"t")=>do
 let q:=#[<-`(?_),<-`(_),<-`(⟨_,rfl⟩)]
 let E:Array (Lean.TSyntax `tactic):=#[<-`(tactic|(refine' nV ?_ ?_ ?_ λ_ _=>rfl)),<-`(tactic|refine' nM (T.G 26) (by assumption) R ?_ ?_ ?_),<-`(tactic|refine' nM (T.G 34) (by assumption) R ?_ ?_ ?_),<-`(tactic|refine' nM (T.G 29) (by assumption) R ?_ ?_ ?_),<-`(tactic|refine' nM (T.G 11) (by assumption) R ?_ ?_ ?_),<-`(tactic|refine' nM (T.G 18) (by assumption) R ?_ ?_ ?_),<-`(tactic|refine' nM (T.G 27) (by assumption) R ?_ ?_ ?_),<-`(tactic|refine' nM (T.G 33) (by assumption) R ?_ ?_ ?_),<-`(tactic|refine' nM (T.G 31) (by assumption) R ?_ ?_ ?_),<-`(tactic|refine' nM (T.G 35) (by assumption) R ?_ ?_ ?_),<-`(tactic|refine' nM (T.G 30) (by assumption) R ?_ ?_ ?_),<-`(tactic|refine' nM (T.G 46) (by assumption) R ?_ ?_ ?_),<-`(tactic|refine' nM (T.G 55) (by assumption) R ?_ ?_ ?_),<-`(tactic|refine' nM (T.G 83) (by assumption) R ?_ ?_ ?_),<-`(tactic|refine' nM (T.G 13) (by assumption) R ?_ ?_ ?_),<-`(tactic|refine' nM (T.G 12) (by assumption) R ?_ ?_ ?_),<-`(tactic|refine' nM (T.G 40) (by assumption) R ?_ ?_ ?_),<-`(tactic|refine' nM (T.G 45) (by assumption) R ?_ ?_ ?_),<-`(tactic|refine' nM (T.G 37) (by assumption) R ?_ ?_ ?_),<-`(tactic|refine' nM (T.G 39) (by assumption) R ?_ ?_ ?_),<-`(tactic|refine' nM (T.G 38) (by assumption) R ?_ ?_ ?_),<-`(tactic|refine' nM (T.G 28) (by assumption) R ?_ ?_ ?_),<-`(tactic|refine' nM (T.G 32) (by assumption) R ?_ ?_ ?_),<-`(tactic|refine' nM (T.G 49) (by assumption) R ?_ ?_ ?_),<-`(tactic|refine' nM (T.G 48) (by assumption) R ?_ ?_ ?_),<-`(tactic|refine' nM (T.G 47) (by assumption) R ?_ ?_ ?_),<-`(tactic|refine' nM (T.G 54) (by assumption) R ?_ ?_ ?_),<-`(tactic|refine' nM (T.G 51) (by assumption) R ?_ ?_ ?_),<-`(tactic|refine' nM (T.G 50) (by assumption) R ?_ ?_ ?_),<-`(tactic|refine' nM (T.G 52) (by assumption) R ?_ ?_ ?_),<-`(tactic|refine' nM (T.G 53) (by assumption) R ?_ ?_ ?_),<-`(tactic|refine' nM (T.G 56) (by assumption) R ?_ ?_ ?_),<-`(tactic|refine' nM (T.G 57) (by assumption) R ?_ ?_ ?_),<-`(tactic|(refine' aKd ?_ ?_ (λ_ _ _ _=>?_) (λ_ _ _ _=>?_) (λ_ _ _ _=>?_) ⟨rfl,λ_=>rfl⟩)),<-`(tactic|((with_reducible show PS _ (.Assign _ (.ListComp _ _ _ _) _) _);refine' Qf Z ?_ ?_ (λ_ _ _ _=>?_) (λ_ _ _ _=>?_) (λ_ _ _ _=>?_))),<-`(tactic|(refine' Vy Z.nd rfl (.inr rfl) ?_)),<-`(tactic|(refine' aJu rfl Z.nd rfl rfl (by decide) rfl rfl ?_ rfl)),<-`(tactic|((with_reducible show PT _ (.BoolOp _ _ _) _);refine' PW.pt ?_)),<-`(tactic|(exact tP Z.nd rfl (.inr rfl))),<-`(tactic|(refine' aPm (n:=2) rfl rfl ?_)),<-`(tactic|(refine' aPm (n:=3) rfl rfl ?_)),<-`(tactic|(refine' ⟨rfl,rfl,by decide +kernel,by decide +kernel,by repeat' (first|exact trivial|refine' ⟨⟨_,rfl,rfl,rfl,rfl,rfl⟩,?_⟩),by repeat' (first|refine' ax.2 ⟨rfl,?_⟩|exact λ_ h=>nomatch h),rfl⟩)),<-`(tactic|(exact⟨⟨rfl,rfl,rfl,rfl,rfl,rfl,by decide,rfl,by decide,rfl,rfl⟩,by decide⟩)),<-`(tactic|(exact⟨rfl,rfl,rfl,rfl,rfl,rfl,by decide,rfl,by decide,rfl,rfl⟩)),<-`(tactic|rfl)]
 let D:Array Lean.Term:=#[<-`(PE _ (.Subscript _ _ _) _),<-`(PE _ (.ListComp _ _ _ _) _),<-`(PE _ (.BinOp _ _ _ _) _),<-`(PE _ (.Call _ _ _ _) _),<-`(CtR _ _ _ _ _ _ _ _ _ _ _ _ _/\ _)]
 let x<-("PA _ _ _>!aS|aF ? ?;PE _ _ ( fL _ )>pv _;PE _ _ ( tC _ )>!bS|!cA|!qA|!Wj|fE rfl T.c_FIGURES.choose_spec %|fE rfl T.c_KINDS rfl|fE rfl T.c_LETTERS.choose_spec %|fE rfl T.c_MOST_BEND.choose_spec %|fE rfl T.c_MOST_FIGURES.choose_spec %|fE rfl T.c_MOST_LETTERS.choose_spec %|fE rfl T.c_MOST_MARKS.choose_spec %|fE rfl T.c_MOST_NUMBERS.choose_spec %|fE rfl T.c_MOST_STEPS.choose_spec %|fE rfl T.c_NOUGHT rfl|tQ rfl T.n_bool aFo rfl|tQ rfl T.n_int aBa rfl|tQ rfl T.n_str aAz rfl;#0>Sj rfl ?|uX rfl ?|!vB ? ? ? ?|aDi rfl ? ?|#0;PE _ _ ( iG _ _ _ _ )>kS Js T R rfl ? ? ?|kS Wx T R rfl ? ? ?|kS sI T R rfl ? ? ?|kS Ft T R rfl ? ? ?|kS aDo T R rfl ? ? ?|kS vJ T R rfl ? ? ?|kS zE T R rfl ? ? ?|kS vH T R rfl ? ? ?|kS Jr T R rfl ? ? ?|kS Fv T R rfl ? ? ?|kS Bl T R rfl ? ? ?|kS nX T R rfl ? ? ?|kS vK T R rfl ? ? ?|kS fM T R rfl ? ? ?|kS vI T R rfl ? ? ?|kS Gi T R rfl ? ? ?|kS jZ T R rfl ? ? ?|kS qD T R rfl ? ? ?|kS qB T R rfl ? ? ?|kS rE T R rfl ? ? ?|kS nW T R rfl ? ? ?|kS jT T R rfl ? ? ?|kS sW T R rfl ? ? ?|kS xE T R rfl ? ? ?|kS xG T R rfl ? ? ?|kS zF T R rfl ? ? ?|kS Jq T R rfl ? ? ?|kS Bk T R rfl ? ? ?|kS Bm T R rfl ? ? ?|kS vL T R rfl ? ? ?|kS Fy T R rfl ? ? ?|kS Fw T R rfl ? ? ?|kS Ju T R rfl ? ? ?|kS Ga T R rfl ? ? ?|kS xF T R rfl ? ? ?|kS vM T R rfl ? ? ?|kS qC T R rfl ? ? ?|kS Gb T R rfl ? ? ?|kS Bi T R rfl ? ? ?|kS gL T R rfl ? ? ?|#1|#2|#3|#4|#5|#6|#7|#8|#9|#10|#11|#12|#13|#14|#15|#16|#17|#18|#19|#20|#21|#22|#23|#24|#25|#26|#27|#28|#29|#30|#31|#32;#1>#33;#2>!cP ? ? ?;#3>dH ( Xp rfl ) rfl T.n_len tp ?|gX ( aQf rfl ) rfl T.n_list aFn ?|gX gO rfl T.n_str Dl.boot_str ?|pZ hU kl oj nE ? ?|dH Cy rfl T.n_len tp ?|dH ( aHj rfl ) rfl T.n_isinstance iF ?|pZ qr yh F.type_str_join ( Xf rfl ) ? ?|dH wT rfl T.n_abs Lf ?|pZ qr tm F.type_str_partition Bw ? ?|dH ( Sa rfl ) rfl T.n_min aNg ?|dH ( Sb rfl ) rfl T.n_max aNh ?|dH ( aUe rfl rfl ) rfl T.n_all Dl.boot_all ?|pZ hU uR F.type_list_insert Qt ? ?|pZ hU v5 F.type_list_index ( Qu rfl R.units ) ? ?|pZ hU u0 F.type_list_extend ( aQt rfl ) ? ?|gX Se rfl T.n_int aBa ?|dH ( aTk rfl rfl ) rfl T.n_sum aNf ?;PE _ _ _>!rC ?|!gC ?|!Wh ? ?|!Nf ? ? ? ?|!Wi ?|!Wp ? ?|!Wl ? ? ?|!aKc ?|Wo ? ? ? ? ?;Df _ _ _>!cR|!bG ?|!aT ? ?|bG ?|aT ? ?;PS _ _ _>!dL ?|!eU ? ? ?|#34|oW _ Z ?|Ay iu rfl ? ? ?|Ev iu ? ?|mV ?|#35|#36|Vz ? ?|!sG|eJ T.x_NoNumber R.hd ? rfl ?|eJ T.x_NoText R.hd ? rfl ?|eJ T.x_NoMarks R.hd ? rfl ?|eJ T.x_NoKind R.hd ? rfl ?|eJ T.x_NoAnswer R.hd ? rfl ?|eJ T.x_NoBend R.hd ? rfl ?|eJ T.x_NoName R.hd ? rfl ?|eJ T.x_NoRow R.hd ? rfl ?;PW _ _ _>!Vu ?|!Au ?|!aGx ? ?|!Av ? ?;PT _ _ _>!cN ? ? ? ?|Ax ?|Jn ?|#37;PG _ _ _>pgS _ Z|pgC|#38|#39|#40|Wg ? ? El;PGs _ _ _>!aDf|Wf ? ?;PTs _ _ _>!Aw|!aCy ?;PI _ _ _ _>aJx rfl ?|aJy rfl rfl T.n_zip ?|mY rfl T.n_range ?|Bc rfl rfl T.n_enumerate ?|aJz ?|Qk rfl T.n_range ?|Fj rfl rfl T.n_reversed ?|aDd rfl rfl T.n_zip ?|Qj rfl T.n_range ?;PO _ _ _>!tN|!mW ?;lH _ _ _>!rD|!iQ|!cY|!mZ|!iN|!Ww|!Jp|!lZ|!Wu|!Wv|!aKf|!Ni|!aPn|!Qn|!aKg|!aPo|!Bh|!aKi|mZ|neK rfl R.units|eqK rfl R.units|aDs rfl R.units;iP _ _ _>!bV|eV;SlR _ _>!aJf|aJe rfl;IxR _ _>!aLj|Hd rfl;LcOk _ _ _ _ _>lcO rfl|#41;#4>#42;CtR _ _ _ _ _ _ _ _ _ _ _ _ _>#43;>Iz|dI _|#44".splitOn ";").toArray.mapM λy=>do
  let l:=y.splitOn ">"
  let g:=l.head!
  let x<-(l[1]!.splitOn "|").toArray.mapM λx=>do if x.startsWith "#" then pure E[(x.drop 1).toNat!]! else return (<-qq4 q x)[0]!
  let z<-`(tactic|first $[|$x:tactic]*)
  if g=="" then pure z else `(tactic|((with_reducible show $(if g.startsWith "#" then D[(g.drop 1).toNat!]! else qq3 q g));$z:tactic))
 `(tactic|repeat' (first $[|$x:tactic]*))
theorem jT:Q 1 0 (λ_=>aTf):=by
 refine jU 0 ["one","other","rest"] λA T R Z=>⟨_,by walk_at"t",_,(aG (kE (tO Mu (aI 1) bI) (sA 2 (cB eZ (aI 0) (aI 1)) (sA 0 (aY 1) (eY (aY 2) (aJ 1)))))
   (dM 0)),?_⟩
 rintro n Q X ⟨a,b,rfl,h,i,k⟩;ac_nf;refine⟨λm f=>∃x y r,f=[γ<|.dat<|.int x,γ<|.dat<|.int y,r]/\m=y.toNat/\0<=x/\0<=y/\bq x y=bq a b,⟨_,a,b,none,rfl,rfl,h,i,rfl⟩,?_⟩;intro m f qQ0;refine q_ λwv=>?_;obtain⟨x,y,r,rfl,rfl,j,l,g⟩:=qQ0;apply wv;ext;refine bT (λc=>?_) λc=>?_
 ·have d:y≠0:=c;have e:0<y:=by lia
  ac_nf;refine⟨e,?_⟩;ac_nf;ext;refine⟨_,?_,y,x%y,_,rfl,rfl,l,tq _ d,?_⟩
  ·have:=u5 x e;have:=tq x d;lia
  ·rw[Fm.gcd_step x y e,g]
 ·have d:y=0:=gp.mp c;subst d;rw[<-g,Fm.gcd_zero j]at k;exact k
def yB(C:ο):DW:=λa Q X=>∃t b:τ,a=[.int t,.int b]/\Wee b/\(b=0->X C)/\(b≠0->Q (.dat<|fr<|cD t b))
theorem Gi:Q 2 1 (λA=>(yB A.x_NoNumber)):=by
 intro A P w K mg base T;refine Nj (T.G 1).F lU (by walk_at"l") λk p outer s H E g=>?_
 refine⟨_,(aT (eU (cN iQ (pv 1) bS (dI _)) (bG (eJ T.x_NoNumber g.hd eV rfl (aF cA aS))) cR)
   (aT (oW 2 lU (kB (jT _ T) g (T.G 0) bV (aF (dH wT rfl T.n_abs Lf (aF (pv 0) aS)) (aF (dH wT rfl T.n_abs Lf (aF (pv 1) aS)) aS))))
   (aT (eU (cN Wu (pv 1) bS (dI _)) (bG (oW 2 lU (Wh Iz (pv 2)))) cR)
   (bG (dL (rC (aF (cP Fr (pv 0) (pv 2)) (aF (cP Fr (pv 1) (pv 2)) aS)))))))),_,(aG (bD (tO cJ (aI 1) bI) (cL (aH aP aO)) aQ)
   (sA 2 (aC (vE (bR uV (vN 0 aB)) (vE (bR uV (vN 1 aB)) aB))) (oB (bD (tO eR (aI 1) bI) (eY (gZ (aI 2)) (aJ 2)) aQ)
   (aW (aE (cQ (aH (cB eZ (aI 0) (aI 2)) (aH (cB eZ (aI 1) (aI 2)) aO)))))))),?_⟩
 intro q Q X qQ0;refine q_ λwv=>?_;obtain⟨t,b,rfl,hw,l,m⟩:=qQ0;apply wv;ac_nf;refine bT (λc=>?_) λc=>?_
 ·exact l c
 have d:b≠0:=c;have n:=m d;ac_nf;refine⟨_,_,rfl,by rw[Fm.abs_if];exact 29,by rw[Fm.abs_if];exact 29,?_⟩;have o:bq (if t<0 then -t else t) (if b<0 then -b else b)=bq t b:=by
  rw[Fm.abs_if,Fm.abs_if];simp[bq]
 rw[o];ext;refine ?_;have r:=Fm.gcd_pos_right (a:=t) d;have h:=Lr (Fm.gcd_le_right (a:=t) d) hw;refine oU (λi=>i=[γ<|.dat<|.int t,γ<|.dat<|.int b,γ<|.dat<|.int<|if b<0 then -((bq t b:ν):τ)else((bq t b:ν):τ)]) ?_ ?_
 ·ext;refine bT (λf=>?_) (λf=>?_)
  ·rw[Α f]
  ·rw[χ f]
 ·rintro i rfl;ext;have j:(if b<0 then -((bq t b:ν):τ)else((bq t b:ν):τ))≠0:=by split <;>lia
  have e:Wee (if b<0 then -((bq t b:ν):τ)else((bq t b:ν):τ)):=by
   split
   ·exact Lq h
   ·exact h
  refine⟨⟨j,e⟩,⟨j,e⟩,?_⟩;rw[Fm.fr_num d,Fm.fr_den d];exact n
def aBx(f:ψ->ψ->ψ):DW:=λc Q _=>∃a b:ψ,c=[fr a,fr b]/\Ok a/\Ok b/\Q (.dat<|fr<|f a b)
theorem aDo:Q 2 2 (λ_=>(aBx (·+·))):=by
 refine jU 2 ["one","other","shared","rest","top","divisor"] λA T R Z=>⟨_,by walk_at"t",_,(sA 2 (aC<|vE (eX 1 0)<|vE (eX 1 1) aB)<|sA 3 (cB eZ (aE<|eX 1 0)<|aI 2)<|sA 4 (cB cG (bO eZ (aE<|eX 0 0)<|bO eZ (aE<|eX 1 1)<|aI 2)<|bO eZ (aE<|eX 0 1)<|aI 3)<|sA 5 (aC<|vN 2<|vE (bR uV<|vN 4 aB) aB)<|aW<|aE<|cQ<|aH (cB eZ (aI 4)<|aI 5)<|aH (cB eZ (aI 3)<|bO eZ (aE<|eX 1 1)<|aI 5) aO),?_⟩;rintro p Q X ⟨a,b,rfl,c,f,k⟩;have s0:0<a.den.gcd b.den:=j1 _<|ig a.den_nz;have d:Wee ((a.den.gcd b.den:ν):τ):=iZ (wx (ig a.den_nz)<|ng _ _) c.d;ac_nf;refine⟨_,_,rfl,‹29›,‹29›,?_⟩;rw[qu];generalize l:a.den.gcd b.den=e at s0 d⊢;ext;refine ?_;ac_nf;refine⟨⟨‹19›,d⟩,?_⟩;rw[<-la];ac_nf;refine⟨⟨‹19›,d⟩,?_⟩;rw[<-la];refine⟨fS c.n<|iZ (pa _ _) f.d,fS f.n<|iZ (pa _ _) c.d,?_⟩;generalize m:a.num*((b.den/e:ν):τ)+b.num*((a.den/e:ν):τ)=i;ac_nf;refine⟨_,_,rfl,‹29›,by rw[Fm.abs_if];exact 29,?_⟩;rw[Fm.abs_if,qu];generalize h:e.gcd i.natAbs=g;have q:0<g:=by rw[<-h];exact j1 _ s0
 have j:Wee (g:τ):=iZ (by rw[<-h];exact wx s0<|ng _ _) d;ext;refine ?_;obtain⟨n,o⟩:=Fm.add_parts a b e l.symm i m.symm g h.symm;ext;refine⟨⟨‹19›,j⟩,⟨‹19›,j⟩,fS (iZ (pa _ _) c.d) (by rw[<-la];exact iZ (pa _ _) f.d),?_⟩;rw[<-la,<-kg,<-n,<-o];exact k
theorem Wx:Q 3 3 (λ_=>(aBx (·-·))):=by
 refine jU 3 ["one","other"] λA T R Z=>⟨_,by walk_at"t",_,(aW<|aE<|aC<|vN 0<|vE (cQ<|aH (gZ<|aE<|eX 0 1)<|aH (eX 1 1) aO) aB),?_⟩;rintro e Q X ⟨a,b,rfl,d,c,k⟩;ext;refine⟨a,-b,rfl,d,⟨Lq c.n,c.d⟩,rfl,?_⟩;dsimp only;rw[<-sy];exact k
theorem Js:Q 3 4 (λ_=>(aBx (·*·))):=by
 refine jU 4 ["one","other","left","right"] λA T R Z=>⟨_,by walk_at"t",_,(sA 2 (aC<|vE (eX 0 0)<|vE (eX 1 1) aB)<|sA 3 (aC<|vE (eX 0 1)<|vE (eX 1 0) aB)<|aW<|aE<|cQ<|aH (cB eZ (aE<|eX 0 2)<|aE<|eX 0 3)<|aH (cB eZ (aE<|eX 1 2)<|aE<|eX 1 3) aO),?_⟩;intro i Q X qQ0;refine q_ λwv=>?_;obtain⟨a,b,rfl,c,d,k⟩:=qQ0;apply wv;have e:((b.den:ν):τ)≠0:=by have:=b.den_nz;exact 28
 have f:((a.den:ν):τ)≠0:=by have:=a.den_nz;exact 28
 obtain⟨g,h⟩:=Fm.mul_parts a b;ac_nf;refine⟨_,_,rfl,d.d,λz=>ς z e,λ_=>?_⟩;ac_nf;refine⟨_,_,rfl,c.d,λz=>ς z f,λ_=>?_⟩;have j:=Fm.num_le a.num e;have l:=Fm.den_le a.num e;have m:=Fm.num_le b.num f;have n:=Fm.den_le b.num f;have o:=c.n;have p:=c.d;have q:=d.n;have r:=d.d
 ext;refine⟨fS (by unfold Wee at *;exact 4) (by unfold Wee at *;exact 4),fS (by unfold Wee at *;exact 4) (by unfold Wee at *;exact 4),?_⟩;rw[<-kg,<-g,<-h];exact k
def aGk:DW:=λc Q _=>∃a b:ψ,c=[fr a,fr b]/\Ok a/\Ok b/\Q (.dat<|.bool<|decide (a<b))
theorem vJ:Q 1 6 (λ_=>aGk):=by
 refine jU 6 ["one","other"] λA T R Z=>⟨_,by walk_at"t",_,(aW<|bO eR (bO eZ (aE<|eX 0 0)<|aE<|eX 1 1)<|bO eZ (aE<|eX 0 1)<|aE<|eX 1 0),?_⟩;rintro f Q X ⟨a,b,rfl,c,d,k⟩;ext;refine⟨fS c.n d.d,fS d.n c.d,?_⟩;have e:decide (a.num*(b.den:τ)<b.num*(a.den:τ))=decide (a<b):=by
  rw[decide_eq_decide];exact Fm.less_iff a b
 rw[e];exact k
def aGi(C:ο):DW:=λc Q X=>∃a b:ψ,c=[fr a,fr b]/\Ok a/\Ok b/\(b=0->X C)/\(b≠0->Q (.dat<|fr<|a/b))
theorem Fv:Q 4 5 (λA=>(aGi A.x_NoNumber)):=by
 refine jU 5 ["one","other"] λA T R Z=>⟨_,by walk_at"t",_,(aG (bD (tO cJ (aE (eX 0 1)) bI) (cL (aH aP aO)) aQ)
   (aW (aE (aC (vN 0 (vE (aC (vE (eX 1 1) (vE (eX 0 1) aB))) aB)))))),?_⟩
 intro j Q X qQ0;refine q_ λwv=>?_;obtain⟨a,b,rfl,f,e,g,h⟩:=qQ0;apply wv;ac_nf;refine bT (λc=>?_) λc=>?_
 ·exact g<|tf.mp c
 ·have d:b.num≠0:=c;have i:b≠0:=λz=>d (by rw[z];rfl);ext;refine⟨_,_,rfl,e.n,λz=>ς z d,λ_=>⟨rfl,a,b⁻¹,?_,f,?_,rfl,?_⟩⟩
  ·rw[Fm.div_inv]
  ·rw[<-Fm.div_inv];have k:=Fm.num_le (b.den:τ) d;have l:=Fm.den_le (b.den:τ) d;have m:=e.n;have n:=e.d
   exact⟨by unfold Wee at *;exact 4,by unfold Wee at *;exact 4⟩
  ·dsimp only;rw[<-ml];exact h i
theorem aFw(f:b->c)(a:ε b)(i:τ):kC (a.map f) i=(kC a i).map f:=by
 unfold kC;rw[θ];cases Kg a.length i with
 |none=>rfl
 |some j=>exact cw
theorem aRr{b:Type}[Inhabited b]{a:ε b}{k:τ}(d:0<=k)(f:k<(a.length:τ)):kC a k=γ (a.getD k.toNat default):=by
 have e:k=((k.toNat:ν):τ):=‹32›
 have c:k.toNat<a.length:=by lia
 conv=>lhs;rw[e]
 refine dR ?_;rw[Ι c];simp[getD,c]
theorem Dc{a b:Type}[Inhabited a](f:a->b){xs:ε a}{k:τ}(c:0<=k)(d:k<(xs.length:τ)):kC (xs.map f) k=γ (f<|xs.getD k.toNat default):=by
 rw[aFw,aRr c d];rfl
theorem getD_mem'{b:Type}[Inhabited b]{a:ε b}{j:ν}(h:j<a.length):a.getD j default∈a:=by
 have e:a.getD j default=a[j]:=by simp[getD,h]
 rw[e];exact cq h
theorem Yd{b:Type}[Inhabited b]{a:ε b}{j:ν}{p:b->Prop}(h:∀v∈a,p v)(d:p default):p (a.getD j default):=by
 by_cases c:j<a.length
 ·exact h _<|getD_mem' c
 ·have e:a.getD j default=default:=by simp[getD,c]
  rw[e];exact d
def yA(C:ο):DW:=λb Q X=>∃a:ε ψ,b=[.list<|a.map fr]/\(∀q∈a,Ok q)/\(a=[]->X C)/\∀q∈a,(∀r∈a,r<=q)->Q (.dat<|fr q)
theorem vK:Q 2 9 (λA=>(yA A.x_NoNumber)):=by
 refine jU 9 ["some","greatest","one"] λA T R Z=>⟨_,by walk_at"t",_,(aG (bD (tO cJ (aE (bR cI (vN 0 aB))) bI) (cL (aH aP aO)) aQ)
   (sA 1 (bE (aL 0) bI) (aG (dU (iE (aY 0)) (aJ 2)
    (bD (lM (aE (aC (vN 1 (vN 2 aB))))) (eY (aY 2) (aJ 1)) aQ))
   (dM 1)))),?_⟩
 rintro y Q X ⟨a,rfl,p,t,k⟩;ac_nf;rcases a with _|⟨b,a⟩
 ·rw[Α<|by simp];exact t rfl
 rw[χ (by simp;lia)];ac_nf;refine⟨fr b,dR (j:=0) rfl,cV<|eF fr (b::a) (λQ h=>h) (λi m=>∃q r,m=[γ<|.dat<|.list<|(b::a).map fr,γ<|.dat<|fr q,r]/\q∈b::a/\∀j r,j<i->(b::a)[j]? =γ r->r<=q) ⟨b,none,rfl,Κ,λj r f=>ς f<|l7 _⟩ ?_ ?_⟩
 ·intro i g m n qQ0;refine q_ λwv=>?_;obtain⟨q,r,rfl,l,d⟩:=qQ0;apply wv;ext;refine⟨q,g,rfl,p q l,p g<|ao n,?_⟩;ext;have s:∀z,q<=z->g<=z->∀j r,j<i+1->(b::a)[j]? =γ r->r<=z:=λz u v j r f e=>by
   by_cases o:j=i
   ·subst o;rw[n]at e;cases e;exact v
   ·exact v8 (d j r ‹13› e) u
  refine bT (λc=>?_) λc=>?_
  ·exact⟨g,_,rfl,ao n,s g ‹40› fk⟩
  ·exact⟨q,_,rfl,l,s q fk<|lj.mp c⟩
 ·intro m qQ0;refine q_ λwv=>?_;obtain⟨q,r,rfl,l,d⟩:=qQ0;apply wv;ext;refine k q l λr x=>?_;obtain⟨j,f⟩:=t7 x;exact d j r (ρ.mp f).1 f
def Tk(C:ο):DW:=λb Q X=>∃a:ε ψ,b=[.list<|a.map fr]/\(∀q∈a,Ok q)/\(a=[]->X C)/\∀q∈a,(∀r∈a,q<=r)->Q (.dat<|fr q)
theorem Ga:Q 2 10 (λA=>(Tk A.x_NoNumber)):=by
 refine jU 10 ["some","least","one"] λA T R Z=>⟨_,by walk_at"t",_,(aG (bD (tO cJ (aE (bR cI (vN 0 aB))) bI) (cL (aH aP aO)) aQ)
   (sA 1 (bE (aL 0) bI) (aG (dU (iE (aY 0)) (aJ 2)
    (bD (lM (aE (aC (vN 2 (vN 1 aB))))) (eY (aY 2) (aJ 1)) aQ))
   (dM 1)))),?_⟩
 rintro y Q X ⟨a,rfl,p,t,k⟩;ac_nf;rcases a with _|⟨b,a⟩
 ·rw[Α<|by simp];exact t rfl
 rw[χ (by simp;lia)];ac_nf;refine⟨fr b,dR (j:=0) rfl,cV<|eF fr (b::a) (λQ h=>h) (λi m=>∃q r,m=[γ<|.dat<|.list<|(b::a).map fr,γ<|.dat<|fr q,r]/\q∈b::a/\∀j r,j<i->(b::a)[j]? =γ r->q<=r) ⟨b,none,rfl,Κ,λj r f=>ς f<|l7 _⟩ ?_ ?_⟩
 ·intro i g m n qQ0;refine q_ λwv=>?_;obtain⟨q,r,rfl,l,d⟩:=qQ0;apply wv;ext;refine⟨g,q,rfl,p g<|ao n,p q l,?_⟩;ext;have s:∀z,z<=q->z<=g->∀j r,j<i+1->(b::a)[j]? =γ r->z<=r:=λz u v j r f e=>by
   by_cases o:j=i
   ·subst o;rw[n]at e;cases e;exact v
   ·exact v8 u<|d j r ‹13› e
  refine bT (λc=>?_) λc=>?_
  ·exact⟨g,_,rfl,ao n,s g ‹40› fk⟩
  ·exact⟨q,_,rfl,l,s q fk<|lj.mp c⟩
 ·intro m qQ0;refine q_ λwv=>?_;obtain⟨q,r,rfl,l,d⟩:=qQ0;apply wv;ext;refine k q l λr x=>?_;obtain⟨j,f⟩:=t7 x;exact d j r (ρ.mp f).1 f
def tot:ε ψ->ψ
 |[]=>0
 |q::a=>q+tot a
theorem Ae:∀(a b:ε ψ),tot (a++b)=tot a+tot b
 |[],b=>by simp[tot,AG]
 |q::a,b=>by
  show q+tot (a++b)=q+tot a+tot b;rw[Ae a b,Rat.add_assoc]
theorem Dx(a:ε ψ)(q:ψ):tot (a++[q])=tot a+q:=by
 rw[Ae];simp[tot,lu]
theorem jA{b:Type}{a:ε b}{x:b}(h:a[i]? =γ x):a.take (i+1)=a.take i++[x]:=by
 rw[ni,h];rfl
def Ta:DW:=λb Q _=>∃a:ε ψ,b=[.list<|a.map fr]/\(∀q∈a,Ok q)/\(∀i,Ok<|tot<|a.take i)/\Q (.dat<|fr<|tot a)
theorem Ft:Q 3 8 (λ_=>Ta):=by
 refine jU 8 ["some","total","one"] λA T R Z=>⟨_,by walk_at"t",_,(sA 1 (nN T.k_NOUGHT) (aG (dU (iE (aY 0)) (aJ 2)
    (eY (aC (vN 1 (vN 2 aB))) (aJ 1)))
   (dM 1))),?_⟩
 rintro f Q X ⟨a,rfl,d,e,k⟩;ac_nf;refine ?_;refine cV<|eF fr a (λQ h=>h) (λi b=>∃r,b=[γ<|.dat<|.list<|a.map fr,γ<|.dat<|fr<|tot<|a.take i,r]) ⟨none,rfl⟩ ?_ ?_
 ·rintro i q b c ⟨r,rfl⟩;ext;refine⟨_,q,rfl,e i,d q<|ao c,?_⟩;ext;exact⟨_,by rw[jA c,Dx]⟩
 ·rintro b ⟨r,rfl⟩;ext;rw[bg<|Η _];exact k
theorem aN{b c:Type}(f:b->c):∀a:ε b,a.flatMap (λx=>[f x])=a.map f
 |[]=>rfl
 |x::a=>by simp[aN f a]
abbrev Mk:=ψ×ψ×τ
noncomputable abbrev bW(m:Mk):η:=.tuple [fr m.1,fr m.2.1,.int m.2.2]
noncomputable def aQu:Enc Mk where
 d:=bW
 dep:=2
 small:=by decide
 lay:=λm=>by simp[PyData.canLay0,PyData.canLayAll0]
 depth:=λm=>by simp[PyData.depth,PyData.depthAll]
 eqv:=λp q=>by
  have e:=eRat.eqv p.1 q.1;have f:=eRat.eqv p.2.1 q.2.1;have g:PyData.eqv (fr p.1) (fr q.1)=PyData.eqv (eRat.d p.1) (eRat.d q.1):=rfl;have h:PyData.eqv (fr p.2.1) (fr q.2.1)=PyData.eqv (eRat.d p.2.1) (eRat.d q.2.1):=rfl;show PyData.eqvAll [fr p.1,fr p.2.1,.int p.2.2] [fr q.1,fr q.2.1,.int q.2.2]=true↔p=q;rw[PyData.eqvAll,PyData.eqvAll,PyData.eqvAll,g,h];simp only[h9,e,f,PyData.eqv,PyData.eqvAll,iy,y3];constructor
  ·rintro⟨a,b,c⟩;exact A5 a<|A5 b c
  ·rintro rfl;exact⟨rfl,rfl,rfl⟩
theorem vU:∀a:ε Mk,cZ (a.map bW)=true
 |[]=>rfl
 |m::a=>by
  have:=vU a;simp only[ak,cZ,mH,this,jj]
def Bg(n:ν)(v:τ):Prop:=v.natAbs<2^n
theorem Bg.bits(h:Bg n v):az v<=n:=Pi h
theorem Bg.of(h:az v<=n):Bg (n+1) v:=by
 unfold Bg;by_cases a:v=0
 ·subst a;exact Nat.two_pow_pos _
 ·unfold az at h;rw[χ<|by simpa using a]at h;exact(zy<|‹16›).mp ‹3›
theorem Bg.mono(h:Bg n v)(l:n<=m):Bg m v:=ah h<|eH (by decide) l
theorem Bg.add(c:Bg n a)(d:Bg n b):Bg (n+1) (a+b):=by
 unfold Bg at *
 rw[gi];have:=jg a b;lia
theorem Bg.small(h:a.natAbs<2^64)(b:64<=n):Bg n a:=ah h<|eH (by decide) b
open Fm
theorem bX(h:Dg n q)(l:n<=2400:=by decide):Ok q:=okS (h.mono l) (by decide +kernel)
theorem Jd(h:i.natAbs<=10^n)(l:n<=2400):Wee i:=fJ<|Β h<|gH l
theorem cO{c d:Type}(f:c->η)(g:d->η):∀(a:ε c)(b:ε d),pairD (a.map f) (b.map g)=(a.zip b).map λp=>au [f p.1,g p.2]
 |[],_=>by simp[Dl.pairD]
 |x::a,[]=>by simp[Dl.pairD]
 |x::a,y::b=>by
  have:=cO f g a b;simp[Dl.pairD,this]
theorem jM{c d e:Type}(f:c->d->e):∀(a:ε c)(b:ε d),((a.zip b).map λp=>f p.1 p.2)=jo f a b
 |[],_=>by simp
 |x::a,[]=>by simp
 |x::a,y::b=>by simp[jM f a b]
theorem jN{e f:Type}{p:e->Prop}{q:f->Prop}:∀{c:ε e}{d:ε f},(∀x∈c,p x)->(∀y∈d,q y)->∀z∈c.zip d,p z.1/\q z.2:=λ{c d} g h z i=>by
 have:=fm (a:=z.1) (b:=z.2) i;exact⟨g _ this.1,h _ this.2⟩
theorem eO{a b c:Type}{f:a->b->c}{p:a->Prop}{q:b->Prop}{r:c->Prop}{d:ε a}{e:ε b}(i:∀x∈d,p x)(j:∀y∈e,q y)(h:∀x y,p x->q y->r (f x y)):∀z∈jo f d e,r z:=λz g=>by
 rw[<-jM]at g;obtain⟨w,hw,rfl⟩:=Ν.mp g;have:=jN i j w hw;exact h _ _ this.1 this.2
noncomputable def fO(b:ε Mk)(a:ε ψ):ε ψ:=jo (λ(m:Mk) h=>m.2.1-h) b a
noncomputable def dS(b:ε Mk)(a:ε ψ):ε ψ:=jo (λ(m:Mk) x=>(m.2.2:ψ)*x) b<|fO b a
noncomputable def Jh(d:ε Mk)(c:ε ψ):ε ψ:=jo (λa b=>a*b) (dS d c)<|fO d c
noncomputable def tD:ε ψ->ψ
 |[]=>0
 |x::a=>if tD a<x then x else tD a
theorem Nu:∀a:ε ψ,0<=tD a
 |[]=>fk
 |x::a=>by
  have:=Nu a;unfold tD;split
  ·grind
  ·exact this
theorem Nv:∀{a:ε ψ},∀x∈a,x<=tD a
 |y::a,x,h=>by
  have b:=@Nv a;unfold tD;rcases Ω.mp h with rfl|h
  ·split
   ·exact fk
   ·exact lj.mp ‹_›
  ·have:=b x h;split
   ·grind
   ·exact this
theorem mE:∀{a:ε ψ},tD a=0\/tD a∈a
 |[]=>.inl rfl
 |x::a=>by
  unfold tD;split
  ·exact .inr Κ
  ·rcases @mE a with h|h
   ·exact .inl h
   ·exact .inr<|Θ _ h
theorem aEb(c:0<=m)(b:m=0\/m∈a)(d:∀x∈a,x<=m):m=tD a:=by
 refine xo ?_ ?_
 ·rcases b with rfl|b
  ·exact Nu a
  ·exact Nv m b
 ·rcases @mE a with h|h
  ·rw[h];exact c
  ·exact d _ h
noncomputable def gE(c:Ξ)(b:ε Mk)(a:ε ψ):ψ:=if c="far" then tD ((fO b a).map bZ)else if c="sum" then tot ((dS b a).map bZ)else tot (Jh b a)
theorem Cm.tot:∀{qs:ε ψ},(∀q∈qs,Cm L B q)->Cm L (qs.length*B) (tot qs)
 |[],_=>Cm.zero
 |q::qs,h=>by
  have a:=h q Κ;have b:=Cm.tot (qs:=qs) λx c=>h x<|Θ _ c;exact(a.add b).mono (i8 _) (by rw[Ρ,mm];exact 48)
theorem fQ(h:B<=10^b):B+B<=10^(b+1):=by rw[gi];lia
theorem fF(h:B<=10^b)(a:C<=10^c):B*C<=10^(b+c):=by rw[ij];exact ai h a
theorem kI(a:n<=60)(h:B<=10^b):n*B<=10^(b+2):=by
 have:n*B<=60*10^b:=ai a h;rw[ij];lia
structure MSz(L B W l b wd:ν)(ms:ε Mk)(row:ε ψ):Prop where
 len:ms.length<=60
 pos:0<L
 pL:L<=10^l
 pB:B<=10^b
 pW:W<=10^wd
 h:∀m∈ms,Cm L B m.2.1
 r:∀q∈row,Cm L B q
 w:∀m∈ms,m.2.2.natAbs<=W
 fit:2*l+2*b+wd+6<=2400
section
variable{L B W l b wd:ν}{ms:ε Mk}{row:ε ψ}
theorem MSz.miss(z:MSz L B W l b wd ms row):∀x∈fO ms row,Cm L (B+B) x:=eO z.h z.r λ_ _ a c=>a.sub c
theorem MSz.wmiss(z:MSz L B W l b wd ms row):∀x∈dS ms row,Cm L (W*(B+B)) x:=eO z.w z.miss λ_ _ a c=>((Cm.int a).mul c).mono (by rw[j0];exact i8 _)<|Η _
theorem MSz.sq(z:MSz L B W l b wd ms row):∀x∈Jh ms row,Cm (L*L) (W*(B+B)*(B+B)) x:=eO z.wmiss z.miss λ_ _ a c=>a.mul c
theorem MSz.missOk(z:MSz L B W l b wd ms row):∀x∈fO ms row,Ok x:=λx a=>bX ((z.miss x a).dg z.pos z.pL<|fQ z.pB) (by have:=z.fit;lia)
theorem MSz.wmissOk(z:MSz L B W l b wd ms row):∀x∈dS ms row,Ok x:=λx a=>bX ((z.wmiss x a).dg z.pos z.pL<|fF z.pW<|fQ z.pB) (by have:=z.fit;lia)
theorem MSz.sqOk(z:MSz L B W l b wd ms row):∀x∈Jh ms row,Ok x:=λx a=>bX ((z.sq x a).dg (i4 z.pos z.pos) (fF z.pL z.pL)<|fF (fF z.pW<|fQ z.pB)<|fQ z.pB) (by have:=z.fit;lia)
theorem jD:(dS ms row).length<=ms.length:=by unfold dS;rw[df];exact 50
theorem Af:(Jh ms row).length<=ms.length:=by unfold Jh;rw[df];have:=jD (ms:=ms) (row:=row);exact 50
theorem MSz.sumOk(z:MSz L B W l b wd ms row)(i:ν):Ok (tot<|((dS ms row).map bZ).take i):=by
 have h:=Cm.tot (qs:=((dS ms row).map bZ).take i) (L:=L) (B:=W*(B+B)) λq a=>by
  obtain⟨x,c,rfl⟩:=Ν.mp<|eo a;exact(z.wmiss x c).abs
 have d:(((dS ms row).map bZ).take i).length<=60:=by
  rw[aA,θ];have:=jD (ms:=ms) (row:=row);have:=z.len;exact 50
 exact bX (h.dg z.pos z.pL<|kI d<|fF z.pW<|fQ z.pB) (by have:=z.fit;lia)
theorem MSz.sqsOk(z:MSz L B W l b wd ms row)(i:ν):Ok (tot<|(Jh ms row).take i):=by
 have h:=Cm.tot (qs:=(Jh ms row).take i) (L:=L*L) (B:=W*(B+B)*(B+B)) λq a=>z.sq q<|eo a;have c:((Jh ms row).take i).length<=60:=by
  rw[aA];have:=Af (ms:=ms) (row:=row);have:=z.len;exact 50
 exact bX (h.dg (i4 z.pos z.pos) (fF z.pL z.pL)<|kI c<|fF (fF z.pW<|fQ z.pB)<|fQ z.pB) (by have:=z.fit;lia)
theorem MSz.measOk(z:MSz L B W l b wd ms row):Ok (gE a ms row):=by
 unfold gE;split
 ·rcases @mE ((fO ms row).map bZ)with h|h
  ·rw[h];exact⟨Sy,show Wee ((1:ν):τ)from Sy⟩
  ·obtain⟨x,c,e⟩:=Ν.mp h;rw[<-e];have:=z.missOk x c;exact⟨by rw[iK];have:=this.n;unfold Wee at *;assumption,this.d⟩
 ·split
  ·have:=z.sumOk ((dS ms row).map bZ).length
   rwa [bg<|Η _]at this
  ·have:=z.sqsOk (Jh ms row).length
   rwa [bg<|Η _]at this
theorem MSz.hOk(z:MSz L B W l b wd ms row):∀m∈ms,Ok m.2.1:=λm a=>bX ((z.h m a).dg z.pos z.pL z.pB) (by have:=z.fit;lia)
theorem MSz.rOk(z:MSz L B W l b wd ms row):∀q∈row,Ok q:=λm a=>bX ((z.r m a).dg z.pos z.pL z.pB) (by have:=z.fit;lia)
theorem MSz.wOk(z:MSz L B W l b wd ms row)(a:m∈ms):Ok (m.2.2:ψ):=⟨Jd (Β (z.w m a) z.pW) (by have:=z.fit;lia),show Wee ((1:ν):τ)from Sy⟩
end
def aGh:DW:=λa Q _=>∃q:ψ,a=[fr q]/\Q (.dat<|fr<|bZ q)
theorem Jr:Q 1 7 (λ_=>aGh):=by
 refine jU 7 ["one"] λA T R Z=>⟨_,by walk_at"t",_,(aW<|aE<|cQ<|aH (bR uV<|vE (eX 0 0) aB)<|aH (eX 1 0) aO),?_⟩;rintro a Q X ⟨q,rfl,k⟩;ext;rw[Fm.abs_if];exact k
def Lw:DW:=λc Q _=>∃(b:ε Mk)(a:ε ψ),c=[.list<|b.map bW,.list<|a.map fr]/\b.length<=1000/\(∀m∈b,Ok m.2.1)/\(∀q∈a,Ok q)/\Q (.own<|(fO b a).map fr)
theorem Bl:Q 4 22 (λ_=>Lw):=by
 refine jU 22 ["marks","row"] λA T R Z=>⟨_,by walk_at"t",_,(dN<|bK [none,none] ["mark","height"] (fU (aL 0)<|aL 1) (dW<|bH (aJ 0)<|bH (aJ 1) dY) bM<|aC<|vE (eX 1 0)<|vN 1 aB),?_⟩;rintro g Q X ⟨b,a,rfl,i,c,R',k⟩;ext
 refine bJ (λp:Mk×ψ=>au [bW p.1,fr p.2]) fr (λp:Mk×ψ=>[p.1.2.1-p.2]) (b.zip a) (by rw[eW];exact 50) (λQ h=>by
   ext
   rw[cO];exact h) (λp d N e f=>?_) ?_
 ·have:=jN c R' p d;ext;refine⟨p.1.2.1,p.2,rfl,this.1,this.2,?_⟩;ext;exact f
 ·rw[aN,jM λ(m:Mk) h=>m.2.1-h];exact k
def Di:DW:=λd Q _=>∃(c:ε Mk)(a:ε ψ)(L B W l b e:ν),d=[.list<|c.map bW,.list<|a.map fr]/\MSz L B W l b e c a/\Q (.own<|(dS c a).map fr)
theorem qB:Q 5 24 (λ_=>Di):=by
 refine jU 24 ["marks","row"] λA T R Z=>⟨_,by walk_at"t",_,(dN<|bK [none,none] ["mark","miss"] (fU (aL 0)<|mF<|bB<|vN 0<|vN 1 aB) (dW<|bH (aJ 0)<|bH (aJ 1) dY) bM<|aC<|vE (cQ<|aH (eX 2 0)<|aH aX aO)<|vN 1 aB),?_⟩;intro g Q X qQ0;refine q_ λwv=>?_;obtain⟨c,a,L,B,W,l,b,i,rfl,z,k⟩:=qQ0;apply wv;ext
 refine bJ (λp:Mk×ψ=>au [bW p.1,fr p.2]) fr (λp:Mk×ψ=>[(p.1.2.2:ψ)*p.2]) (c.zip (fO c a)) (by rw[eW];have:=z.len;exact 50) (λQ h=>by
   ext
   refine⟨c,a,rfl,by have:=z.len;exact 1,z.hOk,z.rOk,?_⟩
   ext
   refine⟨bP _,?_⟩
   rw[cO];exact h) (λp d N e f=>?_) ?_
 ·have:=jN (p:=λm=>m∈c) (λ_ h=>h) z.missOk p d;ext;refine⟨(p.1.2.2:ψ),p.2,rfl,z.wOk this.1,this.2,?_⟩;ext;exact f
 ·rw[aN,jM λ(m:Mk) x=>(m.2.2:ψ)*x];exact k
noncomputable def cK:ε Ξ:=["far","sum","square"]
def aLe:ε {x:Ξ//PyData.strOk x=true}:=[⟨"far",by decide +kernel⟩,⟨"sum",by decide +kernel⟩,⟨"square",by decide +kernel⟩]
theorem aEk(h:PyData.strOk a=true):(⟨a,h⟩:{x:Ξ//PyData.strOk x=true})∈aLe↔a∈cK:=by
 simp[aLe,cK,ya]
def Ix(C:ο):DW:=λb Q X=>∃d:η,b=[d]/\(∀a:Ξ,d= .str a->PyData.strOk a=true)/\((∃a:Ξ,d= .str a/\a∈cK)->Q (.dat .none))/\((∀a:Ξ,d= .str a->a∉cK)->X C)
theorem nX:Q 1 23 (λA=>(Ix A.x_NoKind)):=by
 refine jU 23 ["kind"] λA T R Z=>⟨_,by walk_at"t",_,(bD (pG (oA<|lM<|aE<|rP (by decide)<|aI 0)<|tO yV (aI 0)<|aE<|nN T.k_KINDS) (cL<|aH aP aO) aQ),?_⟩;rintro k Q X ⟨d,rfl,ok,g,f⟩;have i:(∀a:Ξ,d≠ .str a)->X A.x_NoKind:=λh=>f λa e=>ς e<|h a;cases d with
 |str a=>
  ext;refine⟨_,Yu,⟨a,ok a rfl⟩,aLe,rfl,rfl,λb c=>?_⟩;rw[aEk]at c;cases b with
  |true=>
   ext;exact g ⟨a,rfl,c.mp rfl⟩
  |false=>
   ext;refine f λj e h=>?_;cases e;exact ς (c.mpr h) (by decide)
 |_=>exact i λ_=>by simp
def Lz(C:ο):DW:=λf Q X=>∃(d:η)(e:ε Mk)(a:ε ψ)(L B W l b g:ν),f=[d,.list<|e.map bW,.list<|a.map fr]/\MSz L B W l b g e a/\e≠[]/\a.length=e.length/\(∀c:Ξ,d= .str c->PyData.strOk c=true)/\
 (∀c:Ξ,d= .str c->c∈cK->Q (.dat<|fr<|gE c e a))/\((∀c:Ξ,d= .str c->c∉cK)->X C)
theorem sI:Q 6 25 (λA=>(Lz A.x_NoKind)):=by
 refine jU 25 ["kind","marks","row","misses","weighed"] λA T R Z=>⟨_,by walk_at"t",_,(aG (iT (aE (fH (vN 0 aB))))
   (aG (aR 3 (bB (vN 1 (vN 2 aB))))
   (aG (bD (tO cJ (aI 0) (aE aP)) (aW (aE (aC (vE (bU (bK [none] ["miss"] (cC (aL 3)) (aJ 0) bM (aC (vN 0 aB)))) aB)))) aQ)
   (aG (aR 4 (bB (vN 1 (vN 2 aB))))
   (aG (bD (tO cJ (aI 0) (aE aP)) (aW (aE (aC (vE (bU (bK [none] ["one"] (cC (aL 4)) (aJ 0) bM (aC (vN 0 aB)))) aB)))) aQ)
   (aW (aE (aC (vE (bU (bK [none,none] ["one","miss"] (fU (aL 4) (aL 3)) (dW (bH (aJ 0) (bH (aJ 1) dY))) bM (aC (vN 0 (vN 1 aB))))) aB))))))))),?_⟩
 intro J Q X qQ0;refine q_ λwv=>?_;obtain⟨d,ms,row,L,B,W,l,b,C,rfl,z,n,D,ok,k,E⟩:=qQ0;apply wv;have M:=z.len;ac_nf;refine⟨d,rfl,ok,?_,E⟩;rintro⟨g,rfl,o⟩;have i:=k g rfl o;ac_nf;refine⟨ms,row,rfl,‹1›,z.hOk,z.rOk,?_⟩;ext;refine⟨bP _,?_⟩;ac_nf;have r:(fO ms row).length=ms.length:=by unfold fO;rw[df];exact 50
 refine bT (λc=>?_) λc=>?_
 ·have s:g="far":=c;subst s;have e:gE "far" ms row=tD ((fO ms row).map bZ):=by unfold gE;rw[Α rfl]
  rw[e]at i;ext;refine bJ fr fr (λq:ψ=>[bZ q]) (fO ms row) ‹10› (λQ h=>h) (λq f N j m=>?_) ?_
  ·ext;refine⟨q,rfl,?_⟩;ext;exact m
  rw[aN];refine⟨(fO ms row).map bZ,rfl,λq f=>?_,λF=>?_,λq f t=>?_⟩
  ·obtain⟨x,u,rfl⟩:=Ν.mp f;have:=z.missOk x u;exact⟨by rw[iK];have:=this.n;unfold Wee at *;assumption,this.d⟩
  ·have:=bt length F;rw[θ,r]at this;exact ς (gz.mp this) n
  ·have v:0<=q:=by
    obtain⟨x,_,rfl⟩:=Ν.mp f;exact uA x
   rw[aEb v (.inr f) t];ext;exact i
 have G:g≠"far":=c;ac_nf;refine⟨ms,row,L,B,W,l,b,C,rfl,z,?_⟩;ext;refine⟨bP _,?_⟩;ac_nf;have H:=jD (ms:=ms) (row:=row);refine bT (λc=>?_) λc=>?_
 ·have s:g="sum":=c;subst s;have e:gE "sum" ms row=tot ((dS ms row).map bZ):=by unfold gE;rw[χ<|by decide,Α rfl]
  rw[e]at i;ext;refine bJ fr fr (λq:ψ=>[bZ q]) (dS ms row) ‹11› (λQ h=>h) (λq f N j m=>?_) ?_
  ·ext;refine⟨q,rfl,?_⟩;ext;exact m
  rw[aN];refine⟨(dS ms row).map bZ,rfl,λq f=>?_,z.sumOk,?_⟩
  ·obtain⟨x,u,rfl⟩:=Ν.mp f;have:=z.wmissOk x u;exact⟨by rw[iK];have:=this.n;unfold Wee at *;assumption,this.d⟩
  ·ext;exact i
 ·have y:g≠"sum":=c;have e:gE g ms row=tot (Jh ms row):=by unfold gE;rw[χ G,χ y]
  rw[e]at i;ext
  refine bJ (λp:ψ×ψ=>au [fr p.1,fr p.2]) fr (λp:ψ×ψ=>[p.1*p.2]) ((dS ms row).zip (fO ms row)) (by rw[eW];exact 50) (λQ h=>by
    ext
    rw[cO];exact h) (λp I N j m=>?_) ?_
  ·have:=jN z.wmissOk z.missOk p I;ext;refine⟨p.1,p.2,rfl,this.1,this.2,?_⟩;ext;exact m
  rw[aN,jM λa b:ψ=>a*b];refine⟨Jh ms row,rfl,z.sqOk,z.sqsOk,?_⟩;ext;exact i
instance(f:ψ->ψ->ψ):DtW (aBx f):=by walk_at"w"
instance:DtW aGk:=by walk_at"w"
instance:DtW Ta:=by walk_at"w"
instance:DtW aGh:=by walk_at"w"
instance:DtW Lw:=by walk_at"w"
instance:DtW Di:=by walk_at"w"
instance(C:ο):DtW (aGi C):=⟨λ_=>Dt.ex λ_=>Dt.ex λ_=>Dt.and<|Dt.and<|Dt.and<|Dt.alt (λh k=>k h) λh=>h⟩
instance(C:ο):DtW (yB C):=⟨λ_=>Dt.ex λ_=>Dt.ex λ_=>Dt.and<|Dt.and<|Dt.alt (λh k=>k h) λh=>h⟩
theorem Jc:∀{qs:ε ψ},qs≠[]->∃q∈qs,∀r∈qs,r<=q
 |[],h=>ς rfl h
 |[q],_=>⟨q,Κ,λr c=>by rw[Υ.mp c];exact fk⟩
 |q::p::qs,_=>by
  obtain⟨t,f,d⟩:=Jc (qs:=p::qs) (by simp);rcases A4 (a:=q) (b:=t)with h|h
  ·exact⟨t,Θ _ f,λr c=>by
    rcases Ω.mp c with e|e
    ·rw[e];exact h
    ·exact d r e⟩
  ·exact⟨q,Κ,λr c=>by
    rcases Ω.mp c with e|e
    ·rw[e];exact fk
    ·exact v8 (d r e) h⟩
theorem aKt{qs:ε ψ}(h:qs≠[]):∃q∈qs,∀r∈qs,q<=r:=by
 obtain⟨q,a,b⟩:=Jc (qs:=qs.map λq=>-q) (by simpa using h);obtain⟨t,c,rfl⟩:=Ν.mp a;refine⟨t,c,λr d=>?_⟩;have:=b (-r)<|Ν.mpr ⟨r,d,rfl⟩;grind
theorem Ow{c:ε ψ}{p:ψ->Prop}{C:ο}(h:c≠[]->∃q∈c,p q)(u:∀a∈c,∀b∈c,p a->p b->a=b):Dt λX (Q:Sl->Prop)=>(c=[]->X C)/\∀q∈c,p q->Q (.dat<|fr q):=λX P q=>by
 by_cases e:c=[]
 ·exact .inr ⟨C,q.1 e,λi j z=>⟨λ_=>z,λt d=>by rw[e]at d;cases d⟩⟩
 ·obtain⟨t,f,g⟩:=h e;exact .inl ⟨_,q.2 t f g,λi j z=>⟨λz=>ς z e,λr k l=>by rw[u r k t f l g];exact z⟩⟩
instance(C:ο):DtW (yA C):=⟨λ_=>Dt.ex λ_=>Dt.and<|Dt.and<|Ow Jc λa ha b hb h1 h2=>xo (h2 a ha)<|h1 b hb⟩
instance(C:ο):DtW (Tk C):=⟨λ_=>Dt.ex λ_=>Dt.and<|Dt.and<|Ow aKt λa ha b hb h1 h2=>xo (h1 b hb)<|h2 a ha⟩
theorem aLf{d:η}:(∀a:Ξ,d= .str a->a∉cK)->¬∃a:Ξ,d= .str a/\a∈cK:=λh ⟨a,e,k⟩=>h a e k
theorem aEl{d:η}:¬(∀a:Ξ,d= .str a->a∉cK)->∃a:Ξ,d= .str a/\a∈cK:=λh=>ik λk=>h λa e z=>k ⟨a,e,z⟩
instance(C:ο):DtW (Ix C):=⟨λ_=>Dt.ex λ_=>Dt.and<|Dt.and<|Dt.alt' aLf aEl⟩
theorem aLg{C:ο}{d:η}{f:Ξ->Sl}:Dt λX (Q:Sl->Prop)=>(∀a:Ξ,d= .str a->a∈cK->Q (f a))/\((∀a:Ξ,d= .str a->a∉cK)->X C):=λX P q=>by
 by_cases h:∃a:Ξ,d= .str a/\a∈cK
 ·obtain⟨a,e,b⟩:=h;refine .inl ⟨_,q.1 a e b,λi j z=>⟨λl c _=>?_,λh=>ς b<|h a e⟩⟩;rw[e]at c;cases c;exact z
 ·have g:∀a:Ξ,d= .str a->a∉cK:=λa e k=>h ⟨a,e,k⟩;exact .inr ⟨C,q.2 g,λi j z=>⟨λa e k=>ς k<|g a e,λ_=>z⟩⟩
instance(C:ο):DtW (Lz C):=⟨λ_=>Dt.ex λ_=>Dt.ex λ_=>Dt.ex λ_=>Dt.ex λ_=>Dt.ex λ_=>Dt.ex λ_=>Dt.ex λ_=>Dt.ex λ_=>Dt.ex λ_=>Dt.and<|Dt.and<|Dt.and<|Dt.and<|Dt.and aLg⟩
noncomputable def cE:ν->(ν->ψ)->ψ
 |0,_=>0
 |n+1,f=>cE n f+f n
theorem dJ(h:∀j,j<n->f j=g j):cE n f=cE n g:=by
 induction n with
 |zero=>rfl
 |succ n a=>rw[cE,cE,a λj b=>h j<|‹3›,h n<|‹48›]
theorem qX(h:∀j,j<n->f j=0):cE n f=0:=by
 induction n with
 |zero=>rfl
 |succ n a=>rw[cE,a λj b=>h j<|‹3›,h n<|‹48›,lu]
theorem pI(f g:ν->ψ)(c:ψ):cE n (λj=>f j-c*g j)=cE n f-c*cE n g:=by
 induction n with
 |zero=>simp only[cE];grind
 |succ n a=>simp only[cE,a];grind
theorem eI(f:ν->ψ)(c:ψ):cE n (λj=>c*f j)=c*cE n f:=by
 induction n with
 |zero=>simp only[cE];grind
 |succ n a=>simp only[cE,a];grind
theorem uF(c:i<n)(h:∀j,j<n->j≠i->f j=0):cE n f=f i:=by
 induction n with
 |zero=>exact 39
 |succ n a=>
  rw[cE];by_cases e:i=n
  ·subst e;rw[qX λj b=>h j ‹3›<|‹35›,AG]
  ·rw[a ‹13› λj b=>h j<|‹3›,h n ‹48›<|Ne.symm e,lu]
noncomputable def xJ(n:ν)(r:ε ψ)(y:ν->ψ):ψ:=cE n λj=>r.getD j 0*y j
def Hom(n:ν)(rows:ε<|ε ψ)(y:ν->ψ):Prop:=∀r∈rows,xJ n r y=0
noncomputable def fX(f:ε ψ)(c:ν):ε ψ:=f.map λa=>a/f.getD c 0
noncomputable def cS(r l:ε ψ)(c:ν):ε ψ:=jo (λa b=>a-r.getD c 0*b) r l
noncomputable def iA(rows:ε<|ε ψ)(a c:ν):ε (ε ψ):=
 let l:=fX (rows.getD a []) c
 let o:=(rows.take a++rows.drop (a+1)).map λr=>cS r l c
 o.take c++[l]++o.drop c
theorem getD_map'{f:ψ->ψ}{a:ε ψ}(h:j<a.length):(a.map f).getD j 0=f (a.getD j 0):=by simp[getD,h]
theorem Ro{f:ψ->ψ->ψ}(h:j<a.length)(c:j<b.length):(jo f a b).getD j 0=f (a.getD j 0) (b.getD j 0):=by
 have d:j<(jo f a b).length:=by rw[df];lia
 simp only[Μ,Ι d,Ι h,Ι c,iq,wz]
theorem qG(h:j<f.length):(fX f c).getD j 0=f.getD j 0/f.getD c 0:=getD_map' h
theorem kU(h:j<r.length)(a:j<l.length):(cS r l c).getD j 0=r.getD j 0-r.getD c 0*l.getD j 0:=Ro h a
theorem qF(h:m<=f.length)(y:ν->ψ):xJ m (fX f c) y=(f.getD c 0)⁻¹*xJ m f y:=by
 unfold xJ;rw[<-eI];refine dJ λj a=>?_;rw[qG<|‹2›,ml];grind
theorem sN(h:m<=r.length)(a:m<=l.length)(y:ν->ψ):xJ m (cS r l c) y=xJ m r y-r.getD c 0*xJ m l y:=by
 unfold xJ;rw[<-pI];refine dJ λj b=>?_;rw[kU ‹2›<|‹2›];grind
theorem mem_clear:r∈iA rows a c↔r=fX (rows.getD a []) c\/∃q∈rows.eraseIdx a,r=cS q (fX (rows.getD a []) c) c:=by
 unfold iA;rw[<-l8];dsimp only;generalize fX (rows.getD a []) c=l;generalize rows.eraseIdx a=e;rw[ek,eg,eg];have b:r∈(e.map λr=>cS r l c)↔∃q∈e,r=cS q l c:=by
  rw[Ν];exact⟨λ⟨q,h,e⟩=>⟨q,h,e.symm⟩,λ⟨q,h,e⟩=>⟨q,h,e.symm⟩⟩
 have d:r∈(e.map λr=>cS r l c)↔r∈(e.map λr=>cS r l c).take c\/r∈(e.map λr=>cS r l c).drop c:=by
  rw[<-eg,mi]
 rw[<-b,d,Υ];constructor
 ·rintro(h|h|h)
  ·exact .inr<|.inl h
  ·exact .inl h
  ·exact .inr<|.inr h
 ·rintro(h|h|h)
  ·exact .inr<|.inl h
  ·exact .inl h
  ·exact .inr<|.inr h
theorem Qx{rows:ε<|ε ψ}(c:a<rows.length)(h:r∈rows):r=rows.getD a []\/r∈rows.eraseIdx a:=by
 obtain⟨i,b,rfl⟩:=ly h;by_cases e:i=a
 ·subst e;left;simp[getD,b]
 ·right;rw[List.mem_eraseIdx_iff_getElem];exact⟨i,b,e,rfl⟩
theorem Rl(j:a<rows.length)(k:∀r∈rows,m<=r.length)(n:(rows.getD a []).getD c 0≠0)(y:ν->ψ):Hom m (iA rows a c) y↔Hom m rows y:=by
 have l:rows.getD a []∈rows:=by
  have:rows.getD a []=rows[a]:=by simp[getD,j]
  rw[this];exact cq j
 have b:=k _ l;have d:m<=(fX (rows.getD a []) c).length:=by unfold fX;rw[θ];exact b
 constructor
 ·intro h;have f:xJ m (rows.getD a []) y=0:=by
   have:=h _<|mem_clear.mpr<|.inl rfl;rw[qF b]at this;rcases ja.mp this with z|z
   ·exfalso;have:=u6 _ n;rw[z,oo]at this;exact ς this (by decide)
   ·exact z
  intro r i;rcases Qx j i with e|e
  ·rw[e];exact f
  ·have:=h _<|mem_clear.mpr<|.inr ⟨r,e,rfl⟩;rw[sN (k r i) d,qF b,f]at this;grind
 ·intro h r i;have f:=h _ l;rcases mem_clear.mp i with e|⟨q,o,e⟩
  ·rw[e,qF b,f,oq]
  ·have g:=m8 o;rw[e,sN (k q g) d,qF b,f,h q g];grind
def aBj(k:ν)(rows:ε<|ε ψ):Prop:=∀i,i<rows.length->∀j,j<k->(rows.getD i []).getD j 0=if i=j then 1 else 0
theorem zI(b:a<rows.length)(d:c<=a):(iA rows a c).length=rows.length:=by
 unfold iA;simp only[Γ,aA,bx,θ,fj];obtain⟨k,e⟩:=Nat.exists_eq_add_of_le b;have h:c<=a+k:=Β d<|qp _ _;rw[iw<|bu b,e,qv,iw h,u7,Nat.add_sub_of_le h,u7]
theorem aAw(j:a<rows.length)(m:c<=a)(n:i<rows.length):
  (iA rows a c).getD i []=if i=c then fX (rows.getD a []) c else cS (rows.getD (if i<c then i else if i<=a then i-1 else i) []) (fX (rows.getD a []) c) c:=by
 unfold iA;dsimp only;generalize fX (rows.getD a []) c=l;rw[<-l8];have e:(rows.eraseIdx a).length=rows.length-1:=by rw[List.length_eraseIdx,Α j]
 have b:∀t,t<rows.length-1->((rows.eraseIdx a).map λr=>cS r l c)[t]? =γ (cS (rows.getD (if t<a then t else t+1) []) l c):=λt o=>by
  rw[cw,List.getElem?_eraseIdx];by_cases h:t<a
  ·rw[Α h,Α h,Ι<|‹5›];simp[getD,show t<rows.length by exact 5]
  ·rw[χ h,χ h,Ι<|‹8›];simp[getD,show t+1<rows.length by exact 8]
 rw[Μ,ek];by_cases d:i<c
 ·rw[dq (by rw[aA,θ,e];lia),iz d,b i<|‹50›,χ<|show ¬i=c by exact 35,Α<|show i<a by exact 2,Α d];rfl
 ·have k:(((rows.eraseIdx a).map λr=>cS r l c).take c).length=c:=by rw[aA,θ,e];exact 50
  rw[bo<|by lia,k];by_cases f:i=c
  ·subst f;rw[Α rfl,mv];rfl
  ·rw[χ f,χ d,bo (by simp;lia)];simp only[fj];rw[qf,show c+(i-c-1)=i-1 by lia,b (i-1)<|‹50›];by_cases g:i<=a
   ·rw[Α g,Α<|by lia];rfl
   ·rw[χ g,χ<|by lia,show i-1+1=i by exact 50];rfl
theorem Ki(b:a<rows.length)(m:c<=a)(G:c<n)(o:∀r∈rows,n<=r.length)(B:(rows.getD a []).getD c 0≠0)(h:aBj c rows):aBj (c+1) (iA rows a c):=by
 have p:∀t,t<rows.length->rows.getD t []∈rows:=λt d=>by
  have:rows.getD t []=rows[t]:=by simp[getD,d]
  rw[this];exact cq d
 have f:=o _<|p a b;have C:n<=(fX (rows.getD a []) c).length:=by unfold fX;rw[θ];exact f
 have q:∀j,j<c->(fX (rows.getD a []) c).getD j 0=0:=λj s=>by
  rw[qG<|by lia,h a b j s,χ<|by lia,ml,oo]
 have u:(fX (rows.getD a []) c).getD c 0=1:=by
  rw[qG<|‹2›,ml,i9 _ B]
 intro i v j s;rw[zI b m]at v;rw[aAw b m v];by_cases e:i=c
 ·rw[Α e];by_cases g:j=c
  ·rw[g,u,Α<|‹51›]
  ·rw[q j<|‹13›,χ<|by lia]
 ·rw[χ e]
  obtain⟨t,d,k⟩:∃t,(if i<c then i else if i<=a then i-1 else i)=t/\(t<rows.length/\(i<c->t=i)/\(c<i->c<=t)):=⟨_,rfl,by
   by_cases x:i<c
   ·rw[Α x];lia
   ·rw[χ x]
    by_cases y:i<=a
    ·rw[Α y];lia
    ·rw[χ y];lia⟩
  rw[d];obtain⟨z,D,E⟩:=k;have F:=o _<|p t z;rw[kU (by lia)<|by lia];by_cases g:j=c
  ·rw[g,u,jq,χ e];grind
  ·rw[q j<|‹13›,h t z j<|‹13›];by_cases l:i<c
   ·rw[D l];grind
   ·have:=E (by lia);rw[χ<|by lia,χ<|by lia];grind
theorem aDu(p:c<n)(h:aBj c rows)(q:∀i,c<=i->i<rows.length->(rows.getD i []).getD c 0=0):∃y:ν->ψ,y c=1/\Hom n rows y:=by
 refine⟨λj=>if j=c then 1 else if j<c then -(rows.getD j []).getD c 0 else 0,Α rfl,λr s=>?_⟩;obtain⟨i,g,rfl⟩:=ly s;have e:rows[i]=rows.getD i []:=by simp[getD,g]
 rw[e];unfold xJ;by_cases t:i<c
 ·have a:∀m,i<m->c<m->cE m (λj=>(rows.getD i []).getD j 0*(if j=c then 1 else if j<c then -(rows.getD j []).getD c 0 else 0))=0:=by
   intro m k l;have u:cE m (λj=>(rows.getD i []).getD j 0*(if j=c then 1 else if j<c then -(rows.getD j []).getD c 0 else 0))=
     cE m (λj=>(if j=i then -(rows.getD i []).getD c 0 else 0)-(-1)*(if j=c then(rows.getD i []).getD c 0 else 0)):=by
    refine dJ λj f=>?_;by_cases d:j=c
    ·subst d;rw[Α rfl,χ<|‹34›,Α rfl];grind
    ·rw[χ d,χ d];by_cases b:j<c
     ·rw[Α b,h i g j b];by_cases o:i=j
      ·subst o;rw[Α rfl,Α rfl];grind
      ·rw[χ o,χ<|Ne.symm o];grind
     ·rw[χ b,χ<|by lia];grind
   rw[u,pI,uF k λj _ f=>χ f,uF l λj _ f=>χ f,Α rfl,Α rfl];grind
  exact a n ‹5› p
 ·refine qX λj f=>?_;dsimp only;by_cases d:j=c
  ·subst d;rw[q i ‹24› g,oo]
  ·rw[χ d];by_cases b:j<c
   ·rw[Α b,h i g j b,χ<|by lia,oo]
   ·rw[χ b,oq]
theorem Yf(h:aBj n rows)(c:i<rows.length)(a:i<n)(y:ν->ψ):xJ n (rows.getD i []) y=y i:=by
 unfold xJ;rw[uF a λj d b=>by rw[h i c j d,χ<|Ne.symm b,oo],h i c i a,Α rfl,gk]
abbrev hG(r:ε ψ):η:=.list<|r.map fr
theorem Pk{rows:ε<|ε ψ}{j:ν}(e:k=(j:τ))(h:j<rows.length):kC (rows.map hG) k=γ (hG<|rows.getD j []):=by
 rw[Dc (xs:=rows) hG (by lia)<|by lia,e,cy];simp[getD,h]
theorem lA{qs:ε ψ}{j:ν}(e:k=(j:τ))(h:j<qs.length):kC (qs.map fr) k=γ (fr<|qs.getD j 0):=by
 rw[Dc (xs:=qs) fr (by lia)<|by lia,e,cy];simp[getD,h]
theorem mU{rows:ε<|ε ψ}(h:j<rows.length):rows.getD j []∈rows:=by
 have e:rows.getD j []=rows[j]:=by simp[getD,h]
 rw[e];exact cq h
theorem iC{xs:ε ψ}(h:j<xs.length):xs.getD j 0∈xs:=by
 have e:xs.getD j 0=xs[j]:=by simp[getD,h]
 rw[e];exact cq h
theorem aLq{s:τ}(h:s≠0):(s:ψ)≠0:=λz=>h<|qw.mp z
structure RZ(n:ν)(s:τ)(U A R:ν)(r:ε ψ):Prop where
 len:r.length=n+1
 t:∀j,j<n->∃v:τ,r.getD j 0*(s:ψ)=(v:ψ)/\v.natAbs<=A
 u:∃v:τ,r.getD n 0*((s*(U:τ):τ):ψ)=(v:ψ)/\v.natAbs<=R
theorem RZ.scale{n U A R B S:ν}{s k:τ}{r:ε ψ}(h:RZ n s U A R r)(a:A*k.natAbs<=B)(b:R*k.natAbs<=S):RZ n (s*k) U B S r:=by
 obtain⟨v,e,l⟩:=h.u;refine⟨h.len,λj c=>?_,v*k,?_,?_⟩
 ·obtain⟨v,e,l⟩:=h.t j c;exact⟨v*k,by rw[aq,aq,<-e];exact 47,by rw[ck];exact Β (Χ _ l) a⟩
 ·rw[aq,aq,aq,<-e,aq];grind
 ·rw[ck];exact Β (Χ _ l) b
theorem RZ.lead{n U A R c:ν}{s:τ}{f:ε ψ}(h:RZ n s U A R f)(s0:s≠0)(d:c<n)(b:f.getD c 0≠0):∃p:τ,p≠0/\p.natAbs<=A/\RZ n p U A R (fX f c):=by
 have g:=h.len;obtain⟨w,i,k⟩:=h.u;obtain⟨p,a,l⟩:=h.t c d;have m:=aLq s0;have o:p≠0:=λz=>by
  rw[z]at a;rcases ja.mp a with q|q
  ·exact b q
  ·exact m q
 have u:(f.getD c 0)⁻¹*f.getD c 0=1:=u6 _ b;refine⟨p,o,l,by unfold fX;rw[θ];exact g,λj r=>?_,w,?_,k⟩
 ·obtain⟨v,e,t⟩:=h.t j r;refine⟨v,?_,t⟩;rw[qG<|by lia,ml,<-a,<-e];grind
 ·rw[qG<|‹48›,ml,aq,<-a,<-i,aq];grind
theorem RZ.without{n U A R c:ν}{t p:τ}{r l:ε ψ}(h:RZ n t U A R r)(i:RZ n p U A R l)(o:p.natAbs<=A)(s:c<n):RZ n (t*p) U (2*(A*A)) (2*(A*R)) (cS r l c):=by
 obtain⟨u,v,x⟩:=h.u;obtain⟨w,y,z⟩:=i.u;obtain⟨d,e,f⟩:=h.t c s;have F:=h.len;have G:=i.len;refine⟨by unfold cS;rw[df];lia,λj q=>?_,?_⟩
 ·obtain⟨a,B,C⟩:=h.t j q;obtain⟨b,D,E⟩:=i.t j q;refine⟨a*p-d*b,?_,?_⟩
  ·rw[kU (by lia)<|by lia,aq,xp,aq,aq,<-B,<-D,<-e];grind
  ·have k:=ai C o;have m:=ai f E;have g:(a*p-d*b).natAbs<=(a*p).natAbs+(d*b).natAbs:=pq _ _;rw[ck,ck]at g;exact Β g (by rw[A6];exact jv k m)
 ·refine⟨u*p-d*w,?_,?_⟩
  ·rw[kU (by lia)<|by lia];simp only[aq,xp]at *
   rw[<-v,<-y,<-e];grind
  ·have k:=ai o x;have m:=ai f z;have g:(u*p-d*w).natAbs<=(u*p).natAbs+(d*w).natAbs:=pq _ _;rw[ck,ck,ie u.natAbs]at g;exact Β g (by rw[A6];exact jv k m)
structure RowsDg(n v a r:ν)(rows:ε<|ε ψ):Prop where
 h:∃(s:τ)(U A R:ν),s≠0/\s.natAbs<=2*A/\0<U/\U<=10^v/\A<=10^a/\R<=10^r/\∀x∈rows,RZ n s U A R x
theorem Al{n U A R a:ν}{s:τ}{x:ε ψ}(s0:s≠0)(sA:s.natAbs<=2*A)(d:A<=10^a)(z:RZ n s U A R x){c:ν}(b:c<n):Dg (a+1) (x.getD c 0):=by
 obtain⟨v,e,l⟩:=z.t c b;have:=Fm.size_of s0 e;have h:10^(a+1)=10^a*10:=gi _ _;exact⟨by lia,by lia⟩
theorem Jl{n v a r U A R:ν}{s:τ}{x:ε ψ}(s0:s≠0)(sA:s.natAbs<=2*A)(y:0<U)(c:U<=10^v)(b:A<=10^a)(B:R<=10^r)(z:RZ n s U A R x){e:ν}(d:a+v+1<=e)(f:r<=e):∀q∈x,Dg e q:=λq g=>by
 obtain⟨j,i,rfl⟩:=ly g;have C:=z.len;have l:x[j]=x.getD j 0:=by simp[getD,i]
 rw[l];by_cases h:j<n
 ·exact(Al s0 sA b z h).mono (by lia)
 ·have m:j=n:=by lia
  rw[m];obtain⟨w,o,D⟩:=z.u;have p:s*(U:τ)≠0:=pd s0 (by lia);have k:=Fm.size_of p o;have t:(s*(U:τ)).natAbs<=2*A*U:=by rw[ck];exact ai sA (by lia)
  have E:A*U<=10^(a+v):=by rw[ij];exact ai b c
  have u:10^(a+v+1)<=10^e:=gH d;have F:10^r<=10^e:=gH f;rw[gi]at u;rw[gc]at t;exact⟨by lia,by lia⟩
theorem aAv(h:RowsDg n v a r rows)(j:b<rows.length)(f:c<n)(k:(rows.getD b []).getD c 0≠0):RowsDg n v (2*a+1) (a+r+1) (iA rows b c):=by
 refine q_ λwv=>?_;obtain⟨s,U,A,R,s0,sA,l,m,d,o,z⟩:=h.h;apply wv;have t:2*(A*A)<=10^(2*a+1):=by
  have:=ai d d;have:=jO a a;rw[show a+a+1=2*a+1 by exact 48]at this;lia
 have u:2*(A*R)<=10^(a+r+1):=by
  have:=ai d o;have:=jO a r;lia
 obtain⟨p,y,g,i⟩:=(z _<|mU j).lead s0 f k;have B:A*s.natAbs<=2*(A*A):=by rw[v9];exact af _ sA
 have C:R*s.natAbs<=2*(A*R):=by rw[ie A,v9];exact af _ sA
 refine⟨s*p,U,2*(A*A),2*(A*R),pd s0 y,?_,l,m,t,u,λx D=>?_⟩
 ·rw[ck];have:=ai sA g;rw[gc]at this;lia
 rcases mem_clear.mp D with e|⟨q,E,e⟩
 ·rw[e,Int.mul_comm];exact i.scale B C
 ·rw[e];exact(z q<|m8 E).without i g f
theorem tI(T:Txt K mg A):Ex P w K mg base 1 (A.a 13) (A.d 13) (pr 13) (λp:ε (ε ψ)×ν=>[.list<|p.1.map hG,.int (p.2:τ)])
  (λp=>p.1.length<=60/\p.2<=p.1.length/\(∀r∈p.1,p.2<r.length)/\∃i,p.2<=i/\i<p.1.length/\(p.1.getD i []).getD p.2 0≠0)
  (λp s=>∃a:ν,s= .dat (.int (a:τ))/\p.2<=a/\a<p.1.length/\(p.1.getD a []).getD p.2 0≠0):=by
 refine oK (T.G 13).F lE (λ_=>rfl) (λC Ar outer s H E R=>have Z:=lE;⟨_,by walk_at"t",(aG (aR 2 (bK [none,γ 1,γ 0] ["spot","column","rows"] (IvS.e (aEq (vN 1 (vE (bR cI (vN 0 aB)) aB)))) (aJ 0) (tO oH (aE (bE (aHe (bE (aL 2) (aI 0))) (aI 1))) (aE (nN T.k_NOUGHT))) (aY 0)))
   (aG (bD (tO cJ (aE (bR cI (vN 2 aB))) bI) (cL (aH aP aO)) aQ)
   (aW (aE (bE (aL 2) bI)))))⟩) inferInstance ?_
 intro qQ0 qQ1 Q X k;refine q_ λwv=>?_;obtain⟨rows,c⟩:=qQ0;obtain⟨D,o,t,u⟩:=qQ1;apply wv;dsimp only at D o t u;ac_nf
 refine bJ (λk:ν=>bj ((c:τ)+(k:τ)*1)) bj (λk:ν=>if (rows.getD (c+k) []).getD c 0≠0 then[((c+k:ν):τ)]else[]) (range (rows.length-c)) (by rw[ar];exact 50) (λQ h=>by
   ext
   refine⟨by lia,?_⟩
   rw[show((rows.length:τ)-(c:τ)).toNat=rows.length-c by lia];exact h) (λi G N I m=>?_) ?_
 ·have J:=bA.mp G;have x:c+i<rows.length:=‹9›
  have L:=Pk (rows:=rows) (k:=(c:τ)+(i:τ)*1) (j:=c+i) (by lia) x;have M:=lA (qs:=rows.getD (c+i) []) (k:=(c:τ)) (j:=c) rfl<|t _<|mU x;ext;refine⟨_,L,?_⟩;ext;refine⟨_,M,?_⟩;refine⟨ψ,eRat,(rows.getD (c+i) []).getD c 0,0,rfl,rfl,λb y=>?_⟩;cases b with
  |true=>
   ext;rw[χ<|by simpa using y.mp rfl]at m;simpa using m
  |false=>
   ext;rw[Α λz=>ς (y.mpr z)<|by decide]at m;rw[show(c:τ)+(i:τ)*1=((c+i:ν):τ) by lia];exact m
 obtain⟨f,d⟩:∃f:ε τ,(range<|rows.length-c).flatMap (λk:ν=>if (rows.getD (c+k) []).getD c 0≠0 then[((c+k:ν):τ)]else[])=f:=⟨_,rfl⟩;rw[d];have q:∀v∈f,∃i:ν,v=(i:τ)/\c<=i/\i<rows.length/\(rows.getD i []).getD c 0≠0:=λv B=>by
  rw[<-d]at B;obtain⟨k,n,l⟩:=xq.mp B;have:=bA.mp n;split at l
  ·rename_i g
   have:v=((c+k:ν):τ):=by simpa using l
   exact⟨c+k,this,‹48›,‹9›,g⟩
  ·exact ς l (by simp)
 have nil:f=[]->∀i,c<=i->i<rows.length->(rows.getD i []).getD c 0=0:=λO i n l=>by
  refine gp.mp λg=>?_;have:((c+(i-c):ν):τ)∈f:=by
   rw[<-d];refine xq.mpr ⟨i-c,bA.mpr<|‹50›,?_⟩;rw[show c+(i-c)=i by exact 22,Α g];simp
  rw[O]at this;exact ς this (by simp)
 clear d;ac_nf;cases f with
 |nil=>
  rw[Α<|by simp];obtain⟨i,S,U,W⟩:=u;exact ς (nil rfl i S U) W
 |cons v f=>
  rw[χ (by simp;lia)];ext;refine⟨_,dR (j:=0) rfl,?_⟩;obtain⟨i,e,n,l,Y⟩:=q v Κ;rw[e];exact k _ ⟨i,rfl,n,l,Y⟩
def Dh:DW:=λa Q _=>∃(r l:ε ψ)(c:ν),a=[.list<|r.map fr,.list<|l.map fr,.int (c:τ)]/\c<r.length/\r.length<=60/\(∀q∈r,Ok q)/\(∀q∈l,Ok q/\Ok (r.getD c 0*q))/\Q (.own<|(cS r l c).map fr)
theorem Jq:Q 4 14 (λ_=>Dh):=by
 refine jU 14 ["row","leader","column"] λA T R Z=>⟨_,by walk_at"t",_,(dN<|bK [none,none,γ 0,γ 2] ["one","led","row","column"] (fU (aL 0)<|aL 1) (dW<|bH (aJ 0)<|bH (aJ 1) dY) bM<|aC<|vN 0<|vE (aC<|vE (bE (aL 2)<|aI 3)<|vN 1 aB) aB),?_⟩;intro n Q X qQ0;refine q_ λwv=>?_;obtain⟨r,l,c,rfl,e,o,f,g,k⟩:=qQ0;apply wv;ext
 refine bJ (λp:ψ×ψ=>au [fr p.1,fr p.2]) fr (λp:ψ×ψ=>[p.1-r.getD c 0*p.2]) (r.zip l) (by rw[eW];exact 50) (λQ h=>by
   ext
   rw[cO];exact h) (λp i N j m=>?_) ?_
 ·have d:=jN f g p i;ext;refine⟨_,lA rfl e,_,p.2,rfl,f _<|iC e,d.2.1,?_⟩;ext;refine⟨p.1,_,rfl,d.1,d.2.2,?_⟩;ext;exact m
 ·rw[aN,jM λa b:ψ=>a-r.getD c 0*b];exact k
instance:DtW Dh:=by walk_at"w"
structure ClP(rows:ε<|ε ψ)(c n v a r:ν):Prop where
 hl:rows.length=n
 hn:n<=50
 hc:c<n
 hd:RowsDg n v a r rows
 f1:2*a+v+8<=2400
 f2:a+r+8<=2400
 hx:∃i,c<=i/\i<rows.length/\(rows.getD i []).getD c 0≠0
theorem Kr(T:Txt K mg A):Ex P w K mg base 5 (A.a 12) (A.d 12) (pr 12) (λp:ε (ε ψ)×ν=>[.list<|p.1.map hG,.int (p.2:τ)])
  (λp=>∃n v a r,ClP p.1 p.2 n v a r) (λp s=>∃b:ν,s= .own ((iA p.1 b p.2).map hG)/\p.2<=b/\b<p.1.length/\(p.1.getD b []).getD p.2 0≠0):=by
 obtain⟨i,d,j⟩:=tI (P:=P) (w:=w) (base:=base) T
 refine oK (T.G 12).F uQ (λ_=>rfl) (λa1 Ar outer s H E R=>have Z:=uQ;⟨_,by walk_at"t",(sA 2 (aC (vN 0 (vN 1 aB))) (sA 3 (bE (aL 0) (aI 2)) (aG (aR 4 (bK [none,γ 3,γ 1] ["one","found","column"] (cC (aL 3)) (aJ 0) bM (aC (vN 0 (vE (bE (aL 1) (aI 2)) aB)))))
   (aG (aR 5 (bK [none,γ 4,γ 1] ["row","leader","column"] (cC (mF (gY (eA (gP (aL 0) gQ (cH (aI 2)))) (eA (gP (aL 0) (cH (bO cG (aI 2) bI)) gQ))))) (aJ 0) bM (bU (bB (vN 0 (vN 1 (vN 2 aB)))))))
   (gU 4 (dN (gY (eA (gY (eA (gP (aL 5) gQ (cH (aI 1)))) (eA (bN (aH (aY 4) aO))))) (eA (gP (aL 5) (cH (aI 1)) gQ)))))))))⟩) inferInstance ?_
 intro qQ0 qQ1 Q X k;refine q_ λwv=>?_;obtain⟨rows,c⟩:=qQ0;obtain⟨n,v,a,r,hl,hn,M,hd,f1,f2,g⟩:=qQ1;apply wv;dsimp only at hl M hd g;refine q_ λwv=>?_;obtain⟨sc,V,A,R,s0,sA,U,W,G,Y,z⟩:=hd.h;apply wv;have len:∀x∈rows,x.length=n+1:=λx g=>(z x g).len;ac_nf;refine q_ λwv=>?_;obtain⟨b,es,s1,I,J⟩:=d (rows,c) ⟨by dsimp only;exact 10,by dsimp only;lia,λx g=>by have:=len x g;dsimp only;lia,g⟩;apply wv;dsimp only at s1 I J;refine⟨(rows,c),rfl,⟨by dsimp only;exact 10,by dsimp only;lia,λx g=>by have:=len x g;dsimp only;lia,g⟩,?_⟩;rw[es];have t:=k _ ⟨b,rfl,s1,I,J⟩;ext;ac_nf;refine⟨_,Pk rfl I,?_⟩;have O:=z _<|mU I;have lf:=len _<|mU I;obtain⟨pv,p0,pA,zl⟩:=O.lead s0 M J;obtain⟨e,u,a2,B,a3⟩:∃e,a+v+1<=e/\r+1<=e/\e<=2400/\a+e+2<=2400:=by
  by_cases q:a+v<=r
  ·exact⟨r+1,by lia,‹48›,by lia,by lia⟩
  ·exact⟨a+v+1,‹48›,by lia,by lia,by lia⟩
 have S:=Jl p0 (by lia) U W G Y zl u ‹0›;unfold iA at t;dsimp only at t;generalize rows.getD b []=f at J t O lf zl S⊢;have C:fX f c=f.map λq=>q/f.getD c 0:=rfl;generalize fX f c=l at t zl S C;ac_nf;refine bJ fr fr (λq:ψ=>[q/f.getD c 0]) f (by lia) (λQ h=>h) (λq D N a0 hN=>?_) ?_
 ·ext;refine⟨_,lA rfl<|by lia,q,_,rfl,bX (Jl s0 sA U W G Y O u ‹0› q D) B,bX (Al s0 sA G O M)<|by lia,λh0=>ς h0 J,λ_=>?_⟩;ext;exact hN
 rw[aN,<-C];clear C;ac_nf;have L:∀x∈rows.take b++rows.drop (b+1),x∈rows:=λx g=>by
  rcases eg.mp g with y|y
  ·exact eo y
  ·exact List.mem_of_mem_drop y
 have m:eM (rows.map hG) none (γ (b:τ))++eM (rows.map hG) (γ<|(b:τ)+1) none=(rows.take b++rows.drop (b+1)).map hG:=by
  rw[jI,jI,qO,show(b:τ)+1=((b+1:ν):τ) by lia,iW,ay]
 have cl:(eM (rows.map hG) none<|some (b:τ)).length+(eM (rows.map hG) (γ<|(b:τ)+1) none).length<=1000:=by
  rw[<-Γ,m,θ,Γ,aA,bx];lia
 refine bJ hG hG (λx:ε ψ=>[cS x l c]) (rows.take b++rows.drop (b+1)) (by rw[Γ,aA,bx];lia) (λQ h=>by
   ext
   refine⟨cl,?_⟩
   rw[m];exact h) (λx g N a0 hN=>?_) ?_
 ·have zx:=z x<|L x g;have lx:=len x<|L x g;ext;refine⟨x,l,c,rfl,by lia,by lia,λq D=>bX (Jl s0 sA U W G Y zx u ‹0› q D) B,λq D=>⟨bX (S q D) B,bX ((Al s0 sA G zx M).mul<|S q D)<|by lia⟩,?_⟩;ext;exact⟨bP _,hN⟩
 rw[aN];obtain⟨o,ho⟩:∃o,(rows.take b++rows.drop (b+1)).map (λx=>cS x l c)=o:=⟨_,rfl⟩;rw[ho]at t;rw[ho];have ol:o.length<=60:=by rw[<-ho,θ,Γ,aA,bx];lia
 ext;rw[jI,jI,qO,iW];refine⟨by simp only[θ,aA];lia,by simp only[Γ,θ,aA,bx,fj];lia,?_⟩;rw[ay,ay]at t;exact t
noncomputable def Oj(a:ν):ν->ν
 |0=>a
 |k+1=>2*Oj a k+1
noncomputable def Sk(a r:ν):ν->ν
 |0=>r
 |k+1=>Oj a k+Sk a r k+1
theorem Cf(a:ν):∀{k n:ν},k<=n->Oj a k<=Oj a n
 |k,0,h=>by rw[A7.mp h];exact Η _
 |k,n+1,h=>by
  by_cases e:k=n+1
  ·rw[e];exact Η _
  ·have:=Cf a (k:=k) (n:=n) (by lia);simp only[Oj];lia
theorem Ce(a r:ν):∀{k n:ν},k<=n->Sk a r k<=Sk a r n
 |k,0,h=>by rw[A7.mp h];exact Η _
 |k,n+1,h=>by
  by_cases e:k=n+1
  ·rw[e];exact Η _
  ·have:=Ce a r (k:=k) (n:=n) (by lia);simp only[Sk];lia
noncomputable def nO(table:ε<|ε ψ)(right:ε ψ):ε (ε ψ):=jo (λr v=>r++[v]) table right
theorem Rx(b:a<rows.length)(h:∀x∈rows,x.length=m):∀x∈iA rows a c,x.length=m:=λx d=>by
 rcases mem_clear.mp d with e|⟨q,f,e⟩
 ·rw[e];unfold fX;rw[θ];exact h _<|mU b
 ·rw[e];unfold cS fX;rw[df,θ,h q<|m8 f,h _<|mU b];exact 50
def Cb(l b:ν)(a:ε ψ):Prop:=∃L:ν,0<L/\L<=10^l/\∀q∈a,∃n:τ,q*(L:ψ)=(n:ψ)/\n.natAbs<=10^b
structure SoP(table:ε<|ε ψ)(right:ε ψ)(v a r:ν):Prop where
 hl:table.length=right.length
 hn:right.length<=50
 hx:∀x∈table,x.length=right.length
 hd:RowsDg right.length v a r<|nO table right
 f1:Oj a right.length+v+8<=2400
 f2:Sk a r right.length+8<=2400
 hu:∀y:ν->ψ,Hom right.length (nO table right) y->∀j,j<right.length->y j=0
theorem zR(T:Txt K mg A):Ex P w K mg base 6 (A.a 11) (A.d 11) (pr 11) (λp:(ε (ε ψ)×ε ψ)×ν×ν×ν=>[.list<|p.1.1.map hG,.list<|p.1.2.map fr])
  (λp=>SoP p.1.1 p.1.2 p.2.1 p.2.2.1 p.2.2.2) (λp s=>∃x:ε ψ,s= .own (x.map fr)/\x.length=p.1.2.length/\Hom (p.1.2.length+1) (nO p.1.1 p.1.2) (λj=>if j<p.1.2.length then x.getD j 0 else -1)/\Cb (Oj p.2.2.1 p.1.2.length+p.2.1+1) (Sk p.2.2.1 p.2.2.2 p.1.2.length) x):=by
 obtain⟨D,b,G⟩:=Kr (P:=P) (w:=w) (base:=base) T
 refine oK (T.G 11).F yS (λ_=>rfl) (λa1 Ar outer s H E R=>have Z:=yS;⟨_,by walk_at"t",(aG (aR 2 (bK [none,none] ["row","value"] (fU (aL 0) (aL 1)) (dW (bH (aJ 0) (bH (aJ 1) dY))) bM (bU (gY (eA (gK (aL 0))) (eA (bN (aH (aY 1) aO)))))))
   (aG (gU 2 (dU (iD (vE (bR cI (vN 1 aB)) aB)) (aJ 3)
    (iH (vN 2 (vN 3 aB)) (aJ 2))))
   (dN (bK [none] ["row"] (cC (aL 2)) (aJ 0) bM (bE (aL 0) (aE (xR (v:=(-1)) (gZ bI) (λex δ Q h=>Eq.mpr (bt (λz=>Q (.int z)) (by decide +kernel:((-1):τ)=-1)) h))))))))⟩) inferInstance ?_
 intro qQ0 qQ1 Q X k;refine q_ λwv=>?_;obtain⟨⟨table,right⟩,v,a,r⟩:=qQ0;obtain⟨M,hn,hlen,hd,f1,f2,hu⟩:=qQ1;apply wv;dsimp only at M hn hlen hd f1 f2 hu;obtain⟨n,g⟩:∃n,right.length=n:=⟨_,rfl⟩;rw[g]at M hn hlen hd f1 f2 hu;ac_nf
 refine bJ (λp:ε ψ×ψ=>au [hG p.1,fr p.2]) hG (λp:ε ψ×ψ=>[p.1++[p.2]]) (table.zip right) (by rw[eW];exact 50) (λQ h=>by
   ext
   rw[cO];exact h) (λp J N O hN=>?_) ?_
 ·have:=(jN (p:=λx:ε ψ=>x.length=n) (q:=λ_=>yk) hlen (λ_ _=>trivial) p J).1;ext;refine⟨by lia,?_⟩;have S:N (O++[gv<|(p.1++[p.2]).map fr]):=hN;rw[ay]at S;exact S
 rw[aN,jM λ(r:ε ψ)(v:ψ)=>r++[v]];obtain⟨rows0,U⟩:∃rows0,nO table right=rows0:=⟨_,rfl⟩;have W:jo (λ(r:ε ψ)(v:ψ)=>r++[v]) table right=rows0:=U;rw[W];rw[U]at hd hu k;have l0:rows0.length=n:=by rw[<-U];unfold nO;rw[df];lia
 have len0:∀x∈rows0,x.length=n+1:=by
  rw[<-U];unfold nO;exact eO (p:=λx:ε ψ=>x.length=n) (q:=λ_=>yk) hlen (λ_ _=>trivial) λx y c _=>by simp[c]
 clear W U;refine cV ?_;show Rw 2 _ _ _;unfold Rw;ext
 refine nG (lo:=0) (st:=1) (n:=n) (λQ h=>by
   ext
   refine⟨by lia,?_⟩
   rw[g,cy];exact h)
  (λi δ=>∃(rows:ε<|ε ψ)(I:υ η),δ=[γ<|.dat<|.list<|table.map hG,γ<|.dat<|.list<|right.map fr,γ<|.dat<|.list<|rows.map hG,I.map Sl.dat]/\rows.length=n/\(∀x∈rows,x.length=n+1)/\aBj i rows/\RowsDg n v (Oj a i) (Sk a r i) rows/\∀m,m<=n+1->∀y,Hom m rows y↔Hom m rows0 y)
  ⟨rows0,none,rfl,l0,len0,λi _ j hj=>ς hj<|l7 _,hd,λ_ _ _=>Iff.rfl⟩ ?_ ?_
 ·intro i δ o qQ0;refine q_ λwv=>?_;obtain⟨rows,I,rfl,hl,d,hform,B,hhom⟩:=qQ0;apply wv;have g1:=Cf a (k:=i+1) (n:=n) ‹51›;have g2:=Ce a r (k:=i+1) (n:=n) ‹51›;simp only[Oj]at g1;simp only[Sk]at g2;rw[show(0:τ)+(i:τ)*1=(i:τ) by exact 48];ext;have c:∃t,i<=t/\t<rows.length/\(rows.getD t []).getD i 0≠0:=ik λhz=>by
   obtain⟨y,y1,hy⟩:=aDu o hform λt t1 t2=>ik λz=>hz ⟨t,t1,t2,z⟩;have:=hu y ((hhom n ‹48› y).mp hy) i o;rw[y1]at this;exact ς this (by decide)
  have pr:ClP rows i n v (Oj a i) (Sk a r i):=⟨hl,hn,o,B,by lia,by lia,c⟩;refine q_ λwv=>?_;obtain⟨Y,es,I,L,J⟩:=b (rows,i) ⟨_,_,_,_,pr⟩;apply wv;dsimp only at es I L J;refine⟨(rows,i),rfl,⟨_,_,_,_,pr⟩,?_⟩;rw[es];ext;refine⟨iA rows Y i,γ _,rfl,by rw[zI L I,hl],Rx L d,Ki (n:=n) L I o (λx c=>by have:=d x c;exact 48) J hform,aAv B L o J,λm hm y=>?_⟩;rw[Rl L (λx c=>by have:=d x c;exact 48) J];exact hhom m hm y
 intro δ qQ0;refine q_ λwv=>?_;obtain⟨rows,I,rfl,hl,d,hform,B,hhom⟩:=qQ0;apply wv;ext;refine bJ hG fr (λx:ε ψ=>[x.getD n 0]) rows ‹10› (λQ h=>h) (λx c N O hN=>?_) ?_
 ·have lx:=d x c;have al:kC (x.map fr) (-1)=γ (fr<|x.getD n 0):=by
   unfold kC Kg;rw[χ<|by decide,Α (by rw[θ];lia),θ];simp only[Option.bind_some];rw[show((-1:τ)+(x.length:τ)).toNat=n by lia,cw,Ι<|‹48›];simp[getD,show n<x.length by exact 48]
  ext;exact⟨_,al,hN⟩
 rw[aN];have a0:∀i,i<n->(rows.map λx=>x.getD n 0).getD i 0=(rows.getD i []).getD n 0:=λi o=>by
  simp[getD,show i<rows.length by exact 48]
 refine k _ ⟨rows.map λx=>x.getD n 0,rfl,by dsimp only;rw[θ];exact 48,?_,?_⟩
 ·dsimp only;rw[g];refine(hhom (n+1) (Η _) _).mp λx c=>?_;obtain⟨i,o,rfl⟩:=ly c;have e:rows[i]=rows.getD i []:=by simp[getD,o]
  rw[e];have f:=Yf hform o ‹38› λj=>if j<n then(rows.map λx=>x.getD n 0).getD j 0 else -1;unfold xJ at f⊢;rw[cE,f,Α<|‹38›];dsimp only;rw[χ<|jy n,a0 i<|‹38›];grind
 ·dsimp only;rw[g];refine q_ λwv=>?_;obtain⟨C,V,A',R,s0,sA,v0,vv,aa,rr,z⟩:=B.h;apply wv;refine⟨C.natAbs*V,i4 ‹15› v0,?_,λq hq=>?_⟩
  ·have h1:=ai (Β sA<|af 2 aa) vv;have h2:=jO (Oj a n) v;rw[gc]at h1;exact 2
  ·obtain⟨x,c,rfl⟩:=Ν.mp hq;obtain⟨t,e,l⟩:=(z x c).u;rcases Int.natAbs_eq C with h|h
   ·refine⟨t,?_,Β l rr⟩;have h':((C.natAbs*V:ν):τ)=C*(V:τ):=by rw[kg,<-h]
    rw[<-e,<-h',Ο]
   ·refine⟨-t,?_,by rw[y6];exact Β l rr⟩;have h2:(C.natAbs:τ)=-C:=by lia
    have h':((C.natAbs*V:ν):τ)=-(C*(V:τ)):=by rw[kg,h2,Int.neg_mul]
    rw[mu,<-e,<-Ο (C.natAbs*V),h',mu];grind
noncomputable def kX(x:ψ):ν->ε ψ
 |0=>[]
 |n+1=>kX x n++[x^n]
theorem eK(x:ψ):∀n,(kX x n).length=n
 |0=>rfl
 |n+1=>by rw[kX,Γ,eK x n];rfl
theorem Az(x:ψ):∀{n j:ν},j<n->(kX x n).getD j 0=x^j
 |n+1,j,h=>by
  rw[kX,Μ];by_cases e:j<n
  ·rw[dq (by rw[eK];exact e),<-Μ];exact Az x e
  ·have a:j=n:=by lia
   subst a;rw[bo (by rw[eK];exact Η _),eK,mv];rfl
def aGj:DW:=λa Q _=>∃(x:ψ)(n b:ν),a=[fr x,.int (n:τ)]/\n<=8/\Dg b x/\8*(b+1)<=2400/\Q (.own<|(kX x n).map fr)
theorem Bk:Q 4 17 (λ_=>aGj):=by
 refine jU 17 ["x","count","powers","power","step"] λA T R Z=>⟨_,by walk_at"t",_,(aG (aR 2 (bN aO))
   (sA 3 (cQ (aH aX (aH aX aO))) (aG (dU (iD (vN 1 aB)) (aJ 4)
    (aG (jY 2 (aY 3))
   (eY (aC (vN 3 (vN 0 aB))) (aJ 3))))
   (dM 2)))),?_⟩
 intro f Q X qQ0;refine q_ λwv=>?_;obtain⟨x,n,b,rfl,g,e,j,k⟩:=qQ0;apply wv;ac_nf;ac_nf
 refine cV (nG (lo:=0) (st:=1) (n:=n) (λQ h=>by
   ext
   refine⟨by lia,?_⟩
   rw[cy];exact h)
  (λi a=>∃c:υ Sl,a=[γ<|.dat<|fr x,γ<|.dat<|.int (n:τ),γ<|.own<|(kX x i).map fr,γ<|.dat<|fr<|x^i,c]/\Dg (i*(b+1)) (x^i))
  ⟨_,by rw[kb];rfl,by rw[kb];exact Dg.one⟩ ?_ ?_)
 ·intro i a l qQ0;refine q_ λwv=>?_;obtain⟨c,rfl,d⟩:=qQ0;apply wv;have m:i*(b+1)<=7*(b+1):=Χ _ (by lia);ac_nf;refine⟨by rw[eK];exact 11,?_⟩;ext;refine⟨_,x,rfl,bX d<|by lia,bX e<|by lia,?_⟩;ext;rw[fb];refine⟨_,by rw[kX,ay];rfl,(d.mul e).mono (by rw[mm];exact 48)⟩
 ·rintro a ⟨c,rfl,d⟩;ext;exact k
noncomputable def eE(a:ε ψ)(x:ψ):ψ:=a.reverse.foldl (λh n=>h*x+n) 0
theorem kZ(x:ψ):eE [] x=0:=rfl
theorem eB(n:ψ)(a:ε ψ)(x:ψ):eE (n::a) x=eE a x*x+n:=by
 unfold eE;rw[nc,wa];rfl
theorem wC(l:ε ψ)(c x:ψ):eE (l++[c]) x=eE l x+c*x^l.length:=by
 induction l with
 |nil=>rw[uw,eB,kZ,km,kb];grind
 |cons a l b=>rw[xr,eB,eB,b,Ρ,fb];grind
theorem Gu(x:ψ)(y:ν->ψ):∀n m,n<=m->xJ n (kX x m) y=eE ((range n).map y) x
 |0,m,_=>rfl
 |n+1,m,h=>by
  have a:=Gu x y n m ‹0›;unfold xJ at a⊢;rw[cE,a,ou,ay,ak,zw,wC,θ,ar,Az x<|‹51›];grind
noncomputable def qt(a:ψ):ε ψ->ε ψ
 |[]=>[]
 |[_]=>[]
 |_::m::b=>eE (m::b) a::qt a (m::b)
theorem Vt(a:ψ):∀(n:ψ)(b:ε ψ),(qt a<|n::b).length=b.length
 |_,[]=>rfl
 |n,m::c=>by
  rw[qt,Ρ,Vt a m c,Ρ]
theorem aGw(a x:ψ):∀(n:ψ)(b:ε ψ),eE (n::b) x=(x-a)*eE (qt a<|n::b) x+eE (n::b) a
 |n,[]=>by rw[qt,eB,eB,kZ,kZ];grind
 |n,m::c=>by
  have d:=aGw a x m c;rw[qt,eB n,eB n,eB<|eE (m::c) a,d];grind
theorem rK:∀{l:ε ψ},(∀c∈l,c=0)->eE l x=0
 |[],_=>rfl
 |a::l,h=>by
  rw[eB,rK λc b=>h c<|Θ _ b,h a Κ];grind
theorem Mz(a:ψ):∀(n:ψ)(d:ε ψ),(∀c∈qt a (n::d),c=0)->∀c∈d,c=0
 |_,[],_,c,h=>ς h (by simp)
 |n,m::e,b,c,h=>by
  rw[qt]at b;have g:=b _ Κ;have f:=Mz a m e λc i=>b c<|Θ _ i;have j:eE e a=0:=rK f;rw[eB,j]at g;rcases Ω.mp h with rfl|h
  ·grind
  ·exact f c h
theorem Vg:∀(k:ν)(l d:ε ψ),l.length=k->d.length=k->d.Nodup->(∀x∈d,eE l x=0)->∀c∈l,c=0
 |0,l,_,f,_,_,_,c,j=>by rw[gz.mp f]at j;exact ς j (by simp)
 |k+1,n::m,g::d,f,o,p,q,c,j=>by
  have r:=q g Κ;have a:=ki.mp p;have s:=Vg k (qt g<|n::m) d (by rw[Vt];simpa using f) (by simpa using o) a.2 λx b=>by
   have e:=aGw g x n m;rw[q x<|Θ _ b,r,lu]at e;rcases ja.mp e.symm with z|z
   ·exfalso;have:x=g:=by grind
    rw[this]at b;exact a.1 b
   ·exact z
  have i:=Mz g n m s;have t:n=0:=by
   rw[eB,rK i]at r;grind
  rcases Ω.mp j with rfl|h
  ·exact t
  ·exact i c h
 |k+1,[],_,f,_,_,_,_,_=>by simp at f
 |k+1,_::_,[],_,o,_,_,_,_=>by simp at o
theorem sU{L B:ν}{q:ψ}(h:Cm L B q):∃n:τ,q*(L:ψ)=(n:ψ)/\n.natAbs<=B*L:=by
 refine⟨_,uD h.d,?_⟩;have:=Χ (L/q.den) h.num;rw[ck,fi]
 rwa [gc,Nat.mul_div_cancel' h.d]at this
theorem aNa{L T:ν}{q:ψ}{n:τ}(a:0<L)(e:q*(L:ψ)=(n:ψ))(h:n.natAbs<=T):Cm L T q:=by
 have d:=Ck ‹34› e;refine Cm.of d ?_;have s:=Fm.size_of (n:=(n:τ)) (m:=(L:τ)) (by lia) (by rw[Ο];exact e);exact Β (Β s.1 h)<|j2 _<|ig q.den_nz
theorem Cb.dg{l b e:ν}{a:ε ψ}(h:Cb l b a)(c:l<=e)(d:b<=e):∀q∈a,Dg e q:=λq f=>by
 obtain⟨L,i,j,k⟩:=h;obtain⟨n,g,o⟩:=k q f;have s:=Fm.size_of (n:=(n:τ)) (m:=(L:τ)) (by lia) (by rw[Ο];exact g);have:=gH c;have:=gH d;exact⟨by lia,by lia⟩
theorem Cb.mono{l b l' b':ν}{a:ε ψ}(h:Cb l b a)(c:l<=l')(d:b<=b'):Cb l' b' a:=by
 obtain⟨L,f,g,k⟩:=h
 exact⟨L,f,Β g (gH c),λq i=>by
  obtain⟨n,e,h⟩:=k q i
  exact⟨n,e,Β h (gH d)⟩⟩
theorem aDa{x:ψ}(h:Cm 2 60 x){j:ν}(b:j<=3):∃v:τ,x^j*((8:τ):ψ)=(v:ψ)/\v.natAbs<=10^7:=by
 obtain⟨k,e,l⟩:=(sU h);have a:((8:τ):ψ)=8:=rfl;have c:((2:ν):ψ)=2:=rfl;have d:=ai l l;have f:=ai d l;rw[c]at e;rw[a]
 match j,b with
 |0,_=>exact⟨8,by rw[kb,a,gk],by decide⟩
 |1,_=>exact⟨4*k,by rw[fb,kb,aq,<-e];show _=(4:ψ)*_;grind,by lia⟩
 |2,_=>exact⟨2*(k*k),by rw[fb,fb,kb,aq,aq,<-e];show _=(2:ψ)*_;grind,by rw[ck,ck];show 2*_<=_;lia⟩
 |3,_=>exact⟨k*k*k,by rw[fb,fb,fb,kb,aq,aq,<-e];grind,by rw[ck,ck];exact 1⟩
theorem aBd(a:ε Mk)(n:ν):nO (a.map λm=>kX m.1 n) (a.map (·.2.1))=a.map λm=>kX m.1 n++[m.2.1]:=by
 unfold nO;rw[List.zipWith_map,List.zipWith_self]
theorem Pp{a:ε Mk}{n v r:ν}(o:n<=4)(d:∀m∈a,Cm 2 60 m.1)(f:Cb v r<|a.map (·.2.1)):RowsDg n v 7 (r+1) (nO (a.map λm=>kX m.1 n)<|a.map (·.2.1)):=by
 obtain⟨U,g,i,k⟩:=f;refine⟨8,U,10^7,10^(r+1),by decide,by decide,g,i,Η _,Η _,λx h=>?_⟩;rw[aBd]at h;obtain⟨m,b,rfl⟩:=Ν.mp h;refine⟨by rw[Γ,eK];rfl,λj c=>?_,?_⟩
 ·rw[Μ,dq (by rw[eK];exact c),<-Μ,Az _ c];exact aDa (d m b) (by lia)
 ·rw[Μ,bo (by rw[eK];exact Η _),eK,mv];obtain⟨w,e,l⟩:=k m.2.1<|Ν.mpr ⟨m,b,rfl⟩;refine⟨8*w,?_,?_⟩
  ·rw[aq,aq,<-e,Ο];show m.2.1*_=_;grind
  ·rw[gi];lia
structure ThP(ms:ε Mk)(v r:ν):Prop where
 n4:ms.length<=4
 nd:(ms.map (·.1)).Nodup
 x:∀m∈ms,Cm 2 60 m.1
 h:Cb v r<|ms.map (·.2.1)
 f:v<=1000/\r<=1000
instance:DtW aGj:=by walk_at"w"
theorem lG(T:Txt K mg A):Ex P w K mg base 7 (A.a 18) (A.d 18) (pr 18) (λp:ε Mk×ν×ν=>[.list<|p.1.map bW]) (λp=>ThP p.1 p.2.1 p.2.2)
  (λp s=>∃x:ε ψ,s= .own (x.map fr)/\x.length=p.1.length/\(∀m∈p.1,eE x m.1=m.2.1)/\Cb (p.2.1+128) (p.2.2+121) x):=by
 obtain⟨u,d,z⟩:=zR (P:=P) (w:=w) (base:=base) T
 refine oK (T.G 18).F lF (λ_=>rfl) (λU Ar outer s H E R=>have Z:=lF;⟨_,by walk_at"t",(aG (bD (tO eR (aE (bR cI (vN 0 aB))) bI) (cL (aH aP aO)) aQ)
   (aG (aR 1 (bK [none,γ 0] ["mark","marks"] (cC (aL 0)) (aJ 0) bM (bU (bB (vE (eX 0 0) (vE (bR cI (vN 1 aB)) aB))))))
   (dN (bB (vN 1 (vE (bU (bK [none] ["mark"] (cC (aL 0)) (aJ 0) bM (eX 1 0))) aB))))))⟩) inferInstance ?_
 intro qQ0 qQ1 Q X k;refine q_ λwv=>?_;obtain⟨a,v,r⟩:=qQ0;obtain⟨G,C,q,M,W⟩:=qQ1;apply wv;dsimp only at G C q M W;ac_nf;refine bT (λc=>ς c<|by lia) λc=>?_;ac_nf;refine bJ bW hG (λm:Mk=>[kX m.1 a.length]) a ‹1› (λQ h=>h) (λm n N I J=>?_) ?_
 ·ext;refine⟨m.1,a.length,4,rfl,‹1›,(q m n).dg (by decide) (l:=1) (by decide) (b:=2)<|by decide,by decide,?_⟩;ext;exact⟨bP _,J⟩
 rw[aN];ext;refine bJ bW fr (λm:Mk=>[m.2.1]) a ‹1› (λQ h=>h) (λm n N I J=>?_) ?_
 ·ext;exact J
 rw[aN];have D:∀m∈a,kX m.1 a.length++[m.2.1]∈nO (a.map λm=>kX m.1 a.length) (a.map (·.2.1)):=λm n=>by
  rw[aBd];exact Ν.mpr ⟨m,n,rfl⟩
 have o:∀(m:Mk)(y:ν->ψ),xJ a.length (kX m.1 a.length++[m.2.1]) y=eE ((range a.length).map y) m.1:=λm y=>by
  rw[<-Gu m.1 y a.length a.length (Η _)];unfold xJ;refine dJ λj B=>?_;rw[Μ,dq (by rw[eK];exact B),<-Μ]
 have g1:=Cf 7 G;have g2:=Ce 7 (r+1) G;have c1:Oj 7 4=127:=rfl;have c2:Sk 7 (r+1) 4=r+121:=by simp only[Sk,Oj];exact 48
 have t:(a.map (·.2.1)).length=a.length:=θ _;have O:SoP (a.map λm=>kX m.1 a.length) (a.map (·.2.1)) v 7 (r+1):=by
  refine⟨by rw[t,θ],‹10›,λx q=>?_,by rw[t];exact Pp G q M,by rw[t];lia,by rw[t];lia,λy f j B=>?_⟩
  ·obtain⟨m,_,rfl⟩:=Ν.mp q;rw[t];exact eK _ _
  ·rw[t]at f B;have Y:=Vg a.length ((range a.length).map y) (a.map (·.1)) (by rw[θ,ar]) (θ _) C λx q=>by
    obtain⟨m,n,rfl⟩:=Ν.mp q;rw[<-o m y];exact f _<|D m n
   exact Y (y j)<|Ν.mpr ⟨j,bA.mpr B,rfl⟩
 refine q_ λwv=>?_;obtain⟨x,S,g,f,L⟩:=d ((_,_),v,7,r+1) O;apply wv;dsimp only at S g f L;refine⟨((_,_),v,7,r+1),rfl,O,?_⟩;rw[S];rw[t]at g f L;ext;refine⟨bP _,k _ ⟨x,rfl,g,λm n=>?_,L.mono (by dsimp only;lia) (by dsimp only;lia)⟩⟩;have e:=f _<|D m n;unfold xJ at e;rw[cE]at e;dsimp only at e;rw[χ<|jy _]at e;have e1:(kX m.1 a.length++[m.2.1]).getD a.length 0=m.2.1:=by
  rw[Μ,bo (by rw[eK];exact Η _),eK,mv];rfl
 rw[e1]at e;have e2:cE a.length (λj=>(kX m.1 a.length++[m.2.1]).getD j 0*(if j<a.length then x.getD j 0 else -1))=eE x m.1:=by
  have:=o m λj=>x.getD j 0;unfold xJ at this;have er:(range a.length).map (λj=>x.getD j 0)=x:=by
   rw[<-g];apply jw
   ·simp
   ·intro i h1 h2;simp[getD,h2]
  rw[er]at this;rw[<-this];refine dJ λj B=>?_;rw[Α B]
 rw[e2]at e;grind
def aCa:DW:=λd Q _=>∃(c:ε ψ)(x:ψ)(a b:ν),d=[.list<|c.map fr,fr x]/\c.length<=60/\(∀n∈c,Dg a n)/\Dg b x/\c.length*(a+b+2)<=2300/\Q (.dat<|fr<|eE c x)
theorem Bm:Q 4 15 (λ_=>aCa):=by
 refine jU 15 ["numbers","x","height","number"] λA T R Z=>⟨_,by walk_at"t",_,(sA 2 (nN T.k_NOUGHT) (aG (dU (aLn (aY 0)) (aJ 3)
    (eY (aC (vE (aC (vN 2 (vN 1 aB))) (vN 3 aB))) (aJ 2)))
   (dM 2))),?_⟩
 intro t Q X qQ0;refine q_ λwv=>?_;obtain⟨c,x,a,b,rfl,u,o,l,v,k⟩:=qQ0;apply wv;ac_nf
 refine cV (eF fr c.reverse (λQ h=>by
   ext
   rw[<-t8];exact h)
  (λi f=>∃(q:ψ)(r:υ Sl),f=[γ<|.dat<|.list<|c.map fr,γ<|.dat<|fr x,γ<|.dat<|fr q,r]/\q=(c.reverse.take i).foldl (λh n=>h*x+n) 0/\Dg (i*(a+b+2)) q)
  ⟨0,_,rfl,rfl,Dg.zero⟩ ?_ ?_)
 ·intro i n f g qQ0;refine q_ λwv=>?_;obtain⟨q,r,rfl,e,j⟩:=qQ0;apply wv;have y:i<c.length:=by have:=(ρ.mp g).1;simpa using this
  have d:=o n (by have:=ao g;simpa using this);have p:i*(a+b+2)+(a+b+2)<=2300:=by
   have:=Χ (a+b+2) (show i+1<=c.length by assumption);rw[mm,j0]at this;exact 2
  have m:=j.mul l;have s:=m.add d;ext;refine⟨q,x,rfl,bX j<|by lia,bX l<|by lia,?_⟩;ext;refine⟨_,n,rfl,bX m<|by lia,bX d<|by lia,?_⟩;ext;refine⟨_,_,rfl,?_,s.mono (by rw[mm];exact 48)⟩;rw[jA g,wa,e];rfl
 ·intro f qQ0;refine q_ λwv=>?_;obtain⟨q,r,rfl,e,j⟩:=qQ0;apply wv;ext;rw[bg<|Η _]at e;rw[e];exact k
def Iw:DW:=λe Q _=>∃(c:ε ψ)(d:ε Mk)(a b:ν),e=[.list<|c.map fr,.list<|d.map bW]/\c.length<=60/\d.length<=1000/\(∀n∈c,Dg a n)/\(∀m∈d,Dg b m.1)/\c.length*(a+b+2)<=2300/\Q (.own<|(d.map λm=>eE c m.1).map fr)
theorem zE:Q 5 16 (λ_=>Iw):=by
 refine jU 16 ["numbers","marks"] λA T R Z=>⟨_,by walk_at"t",_,(dN<|bK [none,γ 0] ["mark","numbers"] (cC<|aL 1) (aJ 0) bM<|aC<|vN 1<|vE (eX 0 0) aB),?_⟩;intro o Q X qQ0;refine q_ λwv=>?_;obtain⟨c,d,a,b,rfl,e,f,g,i,j,k⟩:=qQ0;apply wv;ext;refine bJ bW fr (λm:Mk=>[eE c m.1]) d f (λQ h=>h) (λm h N l n=>?_) ?_
 ·ext;refine⟨c,m.1,a,b,rfl,e,g,i m h,j,?_⟩;ext;exact n
 ·rw[aN];exact k
noncomputable def fV(a b:ε ψ):ν->ε ψ
 |0=>a
 |j+1=>jo (λt x=>t*x) (fV a b j) b
noncomputable def sZ(a b:ε ψ)(n:ν):ε ψ:=(range n).map λj=>tot<|fV a b j
theorem qW(h:b.length=a.length):∀j,(fV b a j).length=a.length
 |0=>h
 |j+1=>by rw[fV,df,qW h j];exact 50
structure TSz(L B M C l b m c n:ν)(ts xs:ε ψ):Prop where
 len:ts.length=xs.length
 le:xs.length<=60
 pos:0<L
 posM:0<M
 pL:L<=10^l
 pB:B<=10^b
 pM:M<=10^m
 pC:C<=10^c
 h:∀t∈ts,Cm L B t
 x:∀x∈xs,Cm M C x
 fit:l+b+n*(m+c)+4<=2400
theorem TSz.term(z:TSz L B M C l b m c n d e):∀j,∀t∈fV d e j,Cm (L*M^j) (B*C^j) t
 |0=>λt f=>by rw[AH,AH,t9,t9];exact z.h t f
 |j+1=>by
  have g:=z.term j;rw[fV];refine eO g z.x λa b h i=>?_;rw[gi,gi,<-gc,<-gc];exact h.mul i
theorem TSz.dg(z:TSz L B M C l b m c n a d)(e:j<=n)(f:k<=60)(h:Cm (L*M^j) (k*(B*C^j)) t):Dg (l+b+n*(m+c)+3) t:=by
 have g:L*M^j<=10^(l+m*j):=by
  rw[ij,AI];exact ai z.pL<|r0 z.pM j
 have i:B*C^j<=10^(b+c*j):=by
  rw[ij,AI];exact ai z.pB<|r0 z.pC j
 have o:=h.dg (i4 z.pos<|pf z.posM) g<|kI f i;refine o.mono ?_;have p:(m+c)*j<=(m+c)*n:=af _ e;rw[mm]at p;rw[ie n<|m+c];exact 48
theorem TSz.termOk(z:TSz L B M C l b m c n a d)(e:j<=n):∀t∈fV a d j,Ok t:=λt f=>
 bX (z.dg e (k:=1) (by decide) (by rw[j0];exact z.term j t f)) (by have:=z.fit;exact 0)
theorem TSz.totOk(z:TSz L B M C l b m c n a d)(e:j<=n)(i:ν):Ok (tot<|(fV a d j).take i):=by
 have h:=Cm.tot (qs:=(fV a d j).take i) (L:=L*M^j) (B:=B*C^j) λq f=>z.term j q<|eo f;have:=qW z.len j;have:=z.le;exact bX (z.dg e (by rw[aA];exact 50) h) (by have:=z.fit;exact 0)
def Dk:DW:=λe Q _=>∃(a:ε Mk)(d:ε ψ)(n L B M C l b m c:ν),e=[.list<|a.map bW,.list<|d.map fr,.int (n:τ)]/\n<=20/\TSz L B M C l b m c n d (a.map (·.1))/\Q (.own<|(sZ d (a.map (·.1)) n).map fr)
theorem xE:Q 4 19 (λ_=>Dk):=by
 refine jU 19 ["marks","terms","count","moments","step"] λA T R Z=>⟨_,by walk_at"t",_,(aG (aR 3 (bN aO))
   (aG (dU (iD (vN 2 aB)) (aJ 4)
    (aG (jY 3 (aC (vN 1 aB)))
   (tL 1 (aR 1 (bK [none,none] ["term","mark"] (fU (aL 1) (aL 0)) (dW (bH (aJ 0) (bH (aJ 1) dY))) bM (aC (vN 0 (vE (eX 0 1) aB))))))))
   (dM 3))),?_⟩
 intro F Q X qQ0;refine q_ λwv=>?_;obtain⟨a,d,n,L,B,M,C,l,b,m,c,rfl,G,z,k⟩:=qQ0;apply wv;have H:a.length<=60:=by have:=z.le;rwa [θ]at this
 ac_nf
 refine cV (nG (lo:=0) (st:=1) (n:=n) (λQ h=>by
   ext
   refine⟨by lia,?_⟩
   rw[cy];exact h)
  (λi f=>∃g:υ Sl,f=[γ<|.dat<|.list<|a.map bW,γ<|.dat<|.list<|(fV d (a.map (·.1)) i).map fr,γ<|.dat<|.int (n:τ),γ<|.own<|(sZ d (a.map (·.1)) i).map fr,g])
  ⟨_,rfl⟩ ?_ ?_)
 ·rintro i f I ⟨g,rfl⟩;have r:=qW z.len i;rw[θ]at r;ac_nf;refine⟨_,rfl,z.termOk<|‹0›,z.totOk<|‹0›,?_⟩;ext;refine⟨by unfold sZ;rw[θ,ar];exact 11,?_⟩;ext
  refine bJ (λp:ψ×Mk=>au [fr p.1,bW p.2]) fr (λp:ψ×Mk=>[p.1*p.2.1]) ((fV d (a.map (·.1)) i).zip a) (by rw[eW];exact 50) (λQ h=>by
    ext
    rw[cO];exact h) (λp s N u v=>?_) ?_
  ·have o:=jN (z.termOk (j:=i) ‹0›) (q:=λe:Mk=>Ok e.1) (λe x=>by
    have y:=z.x e.1<|Ν.mpr ⟨e,x,rfl⟩
    have J:=z.fit
    have O:m+c<=n*(m+c):=ro _ ‹37›
    exact bX (y.dg z.posM z.pM z.pC) (by lia)) p s
   ext;refine⟨p.1,p.2.1,rfl,o.1,o.2,?_⟩;ext;exact v
  rw[aN,jM λ(t:ψ)(e:Mk)=>t*e.1];have D:jo (λ(t:ψ)(e:Mk)=>t*e.1) (fV d (a.map (·.1)) i) a=fV d (a.map (·.1)) (i+1):=by
   rw[fV,List.zipWith_map_right]
  rw[D];have E:(sZ d (a.map (·.1)) i).map fr++[fr<|tot<|fV d (a.map (·.1)) i]=(sZ d (a.map (·.1))<|i+1).map fr:=by
   unfold sZ;rw[ou,ay,ay];rfl
  rw[E];ext;exact⟨_,rfl⟩
 ·rintro f ⟨g,rfl⟩;ext;exact k
instance:DtW Iw:=by walk_at"w"
instance:DtW Dk:=by walk_at"w"
noncomputable def cX(n:ν)(y:ν->ψ):ε ψ:=(range n).map y
theorem Qi(n:ν)(y:ν->ψ):cX (n+1) y=cX n y++[y n]:=by unfold cX;rw[ou,ay];rfl
theorem Fc(n:ν)(y:ν->ψ):(cX n y).length=n:=by unfold cX;rw[θ,ar]
theorem Fe(n:ν)(y:ν->ψ)(x:ψ):eE (cX (n+1) y) x=eE (cX n y) x+y n*x^n:=by
 rw[Qi,wC,Fc]
theorem bC{b:Type}{a:ε b}{d:b}(h:k<a.length):a.getD k d=a[k]:=by simp[getD,h]
noncomputable def dG:ν->(ν->ψ)->ψ
 |0,_=>1
 |n+1,f=>dG n f*f n
theorem Fa(h:∀j,j<n->f j=g j):dG n f=dG n g:=by
 induction n with
 |zero=>rfl
 |succ n a=>rw[dG,dG,a λj b=>h j<|‹3›,h n<|‹48›]
theorem Ez(f:ν->ψ):dG (n+1) f=f 0*dG n (λj=>f<|j+1):=by
 induction n with
 |zero=>simp only[dG];exact 45
 |succ n a=>rw[dG,a,dG];exact 46
theorem Jg(f:ν->ψ):cE (n+1) f=f 0+cE n (λj=>f<|j+1):=by
 induction n with
 |zero=>simp only[cE];grind
 |succ n a=>rw[cE,a,cE];grind
noncomputable def Wt(x:ν->ψ)(m t:ν):ψ:=dG m λi=>if i=t then 1 else(x t-x i)⁻¹
noncomputable def Sd(x:ν->ψ)(m j:ν):ψ:=cE m λt=>x t^j*Wt x m t
theorem Hf{a:ψ}(h:a≠0):a*a⁻¹=1:=i9 a h
theorem aBv(b:t<m)(h:x t≠x m):(x t-x m)*Wt x (m+1) t=Wt x m t:=by
 unfold Wt;rw[dG,χ<|‹34›];have:=Hf (a:=x t-x m) (by grind);grind
theorem Sw(h:x (t+1)≠x 0):(x (t+1)-x 0)*Wt x (m+1) (t+1)=Wt (λi=>x<|i+1) m t:=by
 unfold Wt;rw[Ez,χ<|by lia];have:=Hf (a:=x (t+1)-x 0) (by grind);have e:dG m (λj=>if j+1=t+1 then 1 else(x (t+1)-x (j+1))⁻¹)=dG m (λi=>if i=t then 1 else(x (t+1)-x (i+1))⁻¹):=Fa λj _=>by
  by_cases e:j=t
  ·rw[Α<|‹48›,Α e]
  ·rw[χ<|by lia,χ e]
 rw[e];grind
theorem Ms(h:∀t,t<m->x t≠x m):Sd x (m+1) (j+1)-x m*Sd x (m+1) j=Sd x m j:=by
 unfold Sd;rw[<-pI,cE];have e:cE m (λt=>x t^(j+1)*Wt x (m+1) t-x m*(x t^j*Wt x (m+1) t))=cE m λt=>x t^j*Wt x m t:=dJ λt a=>by
  rw[<-aBv a (h t a),fb];grind
 rw[e,fb];grind
theorem Vb(h:∀t,t<m->x (t+1)≠x 0):Sd x (m+1) (j+1)-x 0*Sd x (m+1) j=Sd (λi=>x<|i+1) m j:=by
 unfold Sd;rw[<-pI,Jg];have e:cE m (λt=>x (t+1)^(j+1)*Wt x (m+1) (t+1)-x 0*(x (t+1)^j*Wt x (m+1) (t+1)))=cE m λt=>x (t+1)^j*Wt (λi=>x<|i+1) m t:=dJ λt a=>by
  rw[<-Sw (h t a),fb];grind
 rw[e,fb];grind
theorem Ak:∀(m:ν)(x:ν->ψ),(∀i j,i<j->j<m->x i≠x j)->∀j,j+2<=m->Sd x m j=0
 |0,_,_,j,h=>by lia
 |1,_,_,j,h=>by lia
 |2,x,c,j,h=>by
  have n:j=0:=by lia
  subst n;have:=c 0 1 (by decide) (by decide);have s:=Hf (a:=x 0-x 1) (by grind);have u:=Hf (a:=x 1-x 0) (by grind);unfold Sd Wt;simp only[cE,dG,kb,jz];rw[χ<|by decide,χ<|by decide];grind
 |m+3,x,c,j,h=>by
  have l:=Ak (m+2) x λa b d o=>c a b d ‹3›;have p:=Ak (m+2) (λi=>x<|i+1) λa b d o=>c (a+1) (b+1) ‹8› ‹8›;have e:∀j,j+2<=m+2->Sd x (m+3) j=0:=λj f=>by
   have k:=Ms (x:=x) (m:=m+2) (j:=j) λt g=>c t (m+2) g ‹48›;have q:=Vb (x:=x) (m:=m+2) (j:=j) λt g=>Ne.symm (c 0 (t+1) ‹48›<|‹8›);rw[l j f]at k;rw[p j f]at q;have r:=c 0 (m+2) ‹37› ‹48›;have:(x (m+2)-x 0)*Sd x (m+3) j=0:=by grind
   rcases ja.mp this with z|z
   ·exfalso;grind
   ·exact z
  by_cases f:j+2<=m+2
  ·exact e j f
  ·obtain⟨i,rfl⟩:∃i,j=i+1:=⟨j-1,‹50›⟩;have k:=Ms (x:=x) (m:=m+2) (j:=i) λt g=>c t (m+2) g ‹48›;rw[l i<|‹7›,e i<|‹7›]at k;grind
noncomputable def sg:ν->ψ
 |0=>1
 |k+1=>-sg k
theorem Ej(k:ν):sg k*sg k=1:=by
 induction k with
 |zero=>show(1:ψ)*1=1;exact jq 1
 |succ k a=>rw[sg];grind
theorem fW(k:ν):sg k=1\/sg k=-1:=by
 induction k with
 |zero=>exact .inl rfl
 |succ k a=>rw[sg];rcases a with h|h <;>rw[h];exact .inr rfl;exact .inl (by grind)
def Ir(n:ν)(x:ν->ψ):Prop:=∀i j,i<j->j<n->x i<x j
theorem inv_pos'{a:ψ}(h:0<a):0<a⁻¹:=A8.mpr h
theorem inv_neg'{a:ψ}(h:a<0):a⁻¹<0:=by
 have b:=Hf (a:=a) ‹42›;refine AJ.mp λc=>?_;have:=ew c (show 0<=-a by grind);grind
theorem yX:∀{n:ν},(∀i,i<n->0<f i)->0<dG n f
 |0,_=>show(0:ψ)<1 by decide
 |n+1,h=>by rw[dG];exact ku (yX λi a=>h i<|‹3›) (h n<|‹48›)
theorem Lo:∀{m:ν},Ir (t+1+m) x->0<sg m*Wt x (t+1+m) t
 |0,a=>by
  show 0<sg 0*Wt x (t+1) t;unfold Wt;rw[sg,gk,dG,Α rfl,jq];refine yX λi c=>?_;rw[χ<|‹35›];exact inv_pos' (by have:=a i t c ‹48›;grind)
 |m+1,a=>by
  have d:=Lo (x:=x) (t:=t) (m:=m) λi j b f=>a i j b ‹3›;have e:Wt x (t+1+(m+1)) t=Wt x (t+1+m) t*(x t-x (t+1+m))⁻¹:=by
   unfold Wt;rw[show t+1+(m+1)=t+1+m+1 by exact 48,dG,χ<|by lia]
  have g:(x t-x (t+1+m))⁻¹<0:=inv_neg' (by have:=a t (t+1+m) ‹48› ‹48›;grind);rw[e,sg];have:=ku d (show 0< -(x t-x (t+1+m))⁻¹ by grind);grind
theorem Sv(b:t<n)(a:Ir n x):0<sg (n-1-t)*Wt x n t:=by
 have:=Lo (x:=x) (t:=t) (m:=n-1-t) (by rw[show t+1+(n-1-t)=n by lia];exact a)
 rwa [show t+1+(n-1-t)=n by lia]at this
theorem Eb:∀{n:ν},0<n->(∀i,i<n->0<f i)->0<cE n f
 |0,h,_=>‹39›
 |1,_,h=>by rw[cE,cE];have:=h 0 ‹51›;grind
 |n+2,_,h=>by
  rw[cE];have a:=Eb (f:=f) (n:=n+1) ‹48› λi b=>h i ‹3›;have c:=h (n+1) ‹48›;grind
theorem kF(f g:ν->ψ):∀n,cE n (λt=>f t+g t)=cE n f+cE n g
 |0=>by show(0:ψ)=0+0;grind
 |n+1=>by rw[cE,cE,cE,kF f g n];grind
noncomputable def xY(x:ν->ψ)(n:ν):ψ:=cE n λt=>sg (n-1-t)*Wt x n t
def jE(x:ν->ψ)(n t:ν):ψ:=Wt x n t/xY x n
theorem kT(a:0<n)(b:Ir n x):0<xY x n:=Eb a λt c=>Sv c b
theorem tM(a:0<n)(b:Ir n x)(t:ν):jE x n t*xY x n=Wt x n t:=n8 (by have:=kT a b;exact 41)
theorem uI(b:t<n)(a:Ir n x):0<sg (n-1-t)*jE x n t:=by
 have d:=kT ‹37› a;have e:=Sv b a;rw[<-tM ‹37› a]at e;refine AJ.mp λc=>?_;have:=ew (show 0<=-(sg (n-1-t)*jE x n t) by grind)<|iv d;grind
theorem Ai(a:0<n)(b:Ir n x):cE n (λt=>sg (n-1-t)*jE x n t)=1:=by
 have d:=kT a b;have e:xY x n*cE n (λt=>sg (n-1-t)*jE x n t)=xY x n*1:=by
  rw[<-eI,jq];refine dJ λt f=>?_;have:=tM a b t;grind
 have c:xY x n*(cE n (λt=>sg (n-1-t)*jE x n t)-1)=0:=by grind
 rcases ja.mp c with z|z
 ·grind
 ·grind
theorem aCo(d:0<n)(a:Ir n x)(b:j+2<=n):cE n (λt=>jE x n t*x t^j)=0:=by
 have f:=kT d a;have h:=Ak n x (λi j c b=>by have:=a i j c b;exact 42) j b;unfold Sd at h;have e:xY x n*cE n (λt=>jE x n t*x t^j)=0:=by
  rw[<-eI,<-h];refine dJ λt g=>?_;have:=tM d a t;grind
 rcases ja.mp e with z|z
 ·grind
 ·exact z
theorem Mq(f:Ir n x):∀(k:ν)(a:ε ψ),a.length=k->k+1<=n->cE n (λt=>jE x n t*eE a (x t))=0
 |0,a,h,i=>by
  have:a=[]:=gz.mp h;subst this;have e:(λt=>jE x n t*eE [] (x t))=λt=>0*jE x n t:=by funext t;rw[kZ];exact 45
  rw[e,eI,oo]
 |k+1,a,h,i=>by
  have b:a≠[]:=λz=>by rw[z]at h;simp at h
  obtain⟨c,d,rfl⟩:∃c d,a=c++[d]:=⟨a.dropLast,a.getLast b,(List.dropLast_concat_getLast b).symm⟩;have g:c.length=k:=by rw[Γ]at h;simpa using h
  have j:=Mq f k c g ‹0›;have e:(λt=>jE x n t*eE (c++[d]) (x t))=λt=>jE x n t*eE c (x t)+d*(jE x n t*x t^k):=by
   funext t;rw[wC,g];grind
  rw[e,kF,j,eI,aCo ‹37› f<|‹51›];grind
noncomputable def oX(x y:ν->ψ)(n:ν):ψ:=cE n λt=>jE x n t*y t
theorem Gv(a:Ir n x)(b:cs.length+1<=n):oX x y n=cE n λt=>jE x n t*(y t-eE cs (x t)):=by
 have h:=Mq a cs.length cs rfl b;have e:(λt=>jE x n t*(y t-eE cs (x t)))=λt=>jE x n t*y t+(-1)*(jE x n t*eE cs (x t)):=by funext t;grind
 rw[e,kF,eI,h];unfold oX;grind
theorem Px(h:∀t,t<n->f t=0):cE (n+1) f=f n:=by
 rw[cE,qX h];grind
theorem Ra(a:Ir (n+1) x)(k:cs.length=n)(h:∀t,t<n->eE cs (x t)=y t-sg (n-t)*oX x y (n+1)):∀t,t<n+1->y t-eE cs (x t)=sg (n-t)*oX x y (n+1):=by
 have g:=Gv (y:=y) a (cs:=cs) ‹48›;have i:cE (n+1) (λt=>jE x (n+1) t*(sg (n-t)*oX x y (n+1)))=oX x y (n+1):=by
  have:=Ai (n:=n+1) ‹48› a;have e:(λt=>jE x (n+1) t*(sg (n-t)*oX x y (n+1)))=λt=>oX x y (n+1)*(sg (n+1-1-t)*jE x (n+1) t):=by
   funext t;rw[ua];grind
  rw[e,eI,this,jq]
 have j:cE (n+1) (λt=>jE x (n+1) t*((y t-eE cs (x t))-sg (n-t)*oX x y (n+1)))=0:=by
  have e:(λt=>jE x (n+1) t*((y t-eE cs (x t))-sg (n-t)*oX x y (n+1)))=λt=>jE x (n+1) t*(y t-eE cs (x t))+(-1)*(jE x (n+1) t*(sg (n-t)*oX x y (n+1))):=by funext t;grind
  rw[e,kF,eI,<-g,i];grind
 have b:=Px (f:=λt=>jE x (n+1) t*((y t-eE cs (x t))-sg (n-t)*oX x y (n+1))) (n:=n) λt d=>by
  rw[h t d];grind
 rw[j]at b;intro t d;by_cases c:t=n
 ·subst c;have s0:=uI (n:=t+1) (t:=t) ‹51› a;rcases ja.mp b.symm with z|z
  ·rw[z]at s0;grind
  ·grind
 ·have:=h t ‹13›;grind
theorem Rb(a:Ir n x)(p:cs.length+1<=n)(D:e=1\/e=-1)(h:∀t,t<n->l<=e*(sg (n-1-t)*(y t-eE cs (x t))))(b:s<n)(E:l<e*(sg (n-1-s)*(y s-eE cs (x s)))):l<e*oX x y n:=by
 have r:=Gv (y:=y) a p;have o:=Ai (n:=n) ‹37› a;have u:e*oX x y n-l=cE n λt=>(sg (n-1-t)*jE x n t)*(e*(sg (n-1-t)*(y t-eE cs (x t)))-l):=by
  have v:(λt=>(sg (n-1-t)*jE x n t)*(e*(sg (n-1-t)*(y t-eE cs (x t)))-l))=λt=>e*(jE x n t*(y t-eE cs (x t)))+(-l)*(sg (n-1-t)*jE x n t):=by
   funext t
   have:=Ej<|n-1-t;grind
  rw[v,kF,eI,eI,<-r,o];grind
 have z:∀t,t<n->0<=(sg (n-1-t)*jE x n t)*(e*(sg (n-1-t)*(y t-eE cs (x t)))-l):=λt d=>ew (iv<|uI d a) (by have:=h t d;grind);have B:0<(sg (n-1-s)*jE x n s)*(e*(sg (n-1-s)*(y s-eE cs (x s)))-l):=ku (uI b a) (by grind);have g:∀(f:ν->ψ)(m:ν),(∀t,t<m->0<=f t)->∀s,s<m->f s<=cE m f:=λf m=>by
  induction m with
  |zero=>intro _ s b;exact 39
  |succ m C=>
   intro i s b;rw[cE];have j:∀q,q<=m->0<=cE q f:=λq=>by
    induction q with
    |zero=>intro _;exact fk
    |succ q k=>
     intro F;rw[cE];have:=k ‹0›;have:=i q ‹3›;exact 44
   have G:=j m<|Η _;by_cases c:s=m
   ·subst c;grind
   ·have:=C (λt d=>i t<|‹3›) s ‹13›;have:=i m ‹48›;grind
 have:=g _ n z s b;rw[<-u]at this;grind
theorem Aj(h:t+1<n):sg (n-1-t)=-sg (n-1-(t+1)):=by
 rw[show n-1-t=(n-1-(t+1))+1 by lia,sg]
theorem Mp(L:ψ):∃a:ψ,(a=1\/a=-1)/\a*L=bZ L:=by
 rcases eQ L with⟨_,e⟩|⟨_,e⟩
 ·exact⟨1,.inl rfl,by rw[e];grind⟩
 ·exact⟨-1,.inr rfl,by rw[e];grind⟩
theorem Wa{a b:ψ}(c:a=1\/a=-1)(d:b=1\/b=-1):a*b=1\/a*b=-1:=by
 rcases c with rfl|rfl <;>rcases d with rfl|rfl <;>grind
theorem Jo(b:a=1\/a=-1)(h:0<=a*r):a*r=bZ r:=by
 rcases eQ r with⟨c,e⟩|⟨c,e⟩ <;>rw[e] <;>rcases b with rfl|rfl <;>grind
structure NewS(n N v:ν)(R:ν->ψ)(L:ψ)(ss:ν->ν):Prop where
 up:∀i j,i<j->j<n->ss i<ss j
 lt:∀t,t<n->ss t<N
 turn:∃e:ψ,(e=1\/e=-1)/\(∀t,t<n->bZ L<=e*(sg (n-1-t)*R (ss t)))/\∃t,t<n/\bZ L<e*(sg (n-1-t)*R (ss t))
section
variable{n N v a:ν}{R:ν->ψ}{L:ψ}{ss:ν->ν}
theorem Yn(E:∀i j,i<j->j<n->ss i<ss j)(F:∀t,t<n->ss t<N)(G:v<N)(r:∀t,t<n->R (ss t)=sg (n-1-t)*L)(f:bZ L<bZ (R v))(s:b<n)(H:∀t,t<b->ss t<v)(I:∀t,b<t->t<n->v<ss t)(u:0<=R (ss b)*R v):NewS n N v R L λt=>if t=b then v else ss t:=by
 refine⟨λi j h x=>?_,λt k=>?_,?_⟩
 ·try dsimp only
  by_cases y:i=b
  ·rw[Α y,χ<|by lia];exact I j (by lia) x
  ·rw[χ y];by_cases l:j=b
   ·rw[Α l];exact H i ‹38›
   ·rw[χ l];exact E i j h x
 ·try dsimp only
  split
  ·exact G
  ·exact F t k
 ·obtain⟨d,m,B⟩:=Mp L;have X:R v≠0:=λz=>by
   rw[z,mR (q:=0) fk]at f;have:=uA L;grind
  have o:=fW<|n-1-b;have ex:∃e:ψ,(e=1\/e=-1)/\e*L=bZ L/\0<=e*sg (n-1-b)*R v:=by
   by_cases c:0<=d*sg (n-1-b)*R v
   ·exact⟨d,m,B,c⟩
   ·have l:d*sg (n-1-b)*R v<0:=AJ.mp c;have J:L=0:=by
     refine gp.mp λz=>?_;have M:0<bZ L:=by rcases eQ L with⟨_,e⟩|⟨_,e⟩ <;>rw[e] <;>grind
     rw[r b s]at u;have p:=ku M (show 0< -(d*sg (n-1-b)*R v) by grind);rw[<-B]at p;have O:d*d=1:=by rcases m with rfl|rfl <;>grind
     generalize sg (n-1-b)=g at u p;have S:d*L*-(d*g*R v)=-((d*d)*(g*L*R v)):=by grind
     rw[S,O,gk]at p;grind
    refine⟨-d,?_,?_,by grind⟩
    ·rcases m with rfl|rfl
     ·exact .inr rfl
     ·exact .inl (by grind)
    ·rw[J,mR (q:=0) fk,oq]
  refine q_ λwv=>?_;obtain⟨e,C,T,U⟩:=ex;apply wv;have D:e*(sg (n-1-b)*R v)=bZ (R v):=by
   rw[<-kc];exact Jo (Wa C o) U
  refine⟨e,C,λt k=>?_,b,s,by rw[Α rfl,D];exact f⟩
  try dsimp only
  by_cases c:t=b
  ·subst c;rw[Α rfl,D];exact iv f
  ·rw[χ c,r t k];have:=Ej<|n-1-t;have W:e*(sg (n-1-t)*(sg (n-1-t)*L))=e*L:=by grind
   rw[W,T];exact fk
theorem Fp(j:R (ss b)=sg (n-1-b)*L)(h:R (ss b)*R v<0):∃d:ψ,(d=1\/d=-1)/\d*L=bZ L/\-d*(sg (n-1-b)*R v)=bZ (R v):=by
 obtain⟨d,e,i⟩:=Mp L;refine⟨d,e,i,?_⟩;have k:-d=1\/-d=-1:=by
  rcases e with rfl|rfl
  ·exact .inr rfl
  ·exact .inl (by grind)
 rw[<-kc];refine Jo (Wa k<|fW _) ?_;rw[j]at h;have l:d*d=1:=by rcases e with rfl|rfl <;>grind
 refine lj.mp λc=>?_;have f:=ew (uA L) (show 0<=d*sg (n-1-b)*R v by grind);rw[<-i]at f;generalize sg (n-1-b)=g at h f;have m:d*L*(d*g*R v)=(d*d)*(g*L*R v):=by grind
 rw[m,l,gk]at f;grind
theorem Yo(m:∀i j,i<j->j<n->ss i<ss j)(o:∀t,t<n->ss t<N)(p:v<N)(e:∀t,t<n->R (ss t)=sg (n-1-t)*L)(f:bZ L<bZ (R v))(g:0<n)(q:∀t,t<n->v<ss t)(r:R (ss 0)*R v<0):NewS n N v R L λt=>if t=0 then v else ss (t-1):=by
 refine⟨λi j s B=>?_,λt h=>?_,?_⟩
 ·try dsimp only
  rw[χ<|show j≠0 by lia];by_cases k:i=0
  ·rw[Α k];exact q _ ‹12›
  ·rw[χ k];exact m _ _ ‹50› ‹12›
 ·try dsimp only
  split
  ·exact p
  ·exact o _ ‹12›
 ·refine q_ λwv=>?_;obtain⟨d,x,y,l⟩:=Fp (n:=n) (v:=v) (L:=L) (b:=0) (e 0 g) r;apply wv;refine⟨-d,?_,λt h=>?_,0,g,by rw[Α rfl,l];exact f⟩
  ·rcases x with rfl|rfl
   ·exact .inr rfl
   ·exact .inl (by grind)
  ·try dsimp only
   by_cases c:t=0
   ·subst c;rw[Α rfl,l];exact iv f
   ·obtain⟨u,rfl⟩:∃u,t=u+1:=⟨t-1,‹50›⟩;rw[χ c,ua,e u<|‹0›,Aj (n:=n) (t:=u) h];have:=Ej<|n-1-(u+1);have z:-d*(sg (n-1-(u+1))*(-sg (n-1-(u+1))*L))=d*L:=by grind
    rw[z,y];exact fk
theorem aEw(k:∀i j,i<j->j<n->ss i<ss j)(l:∀t,t<n->ss t<N)(m:v<N)(e:∀t,t<n->R (ss t)=sg (n-1-t)*L)(f:bZ L<bZ (R v))(y:0<n)(o:∀t,t<n->ss t<v)(p:R (ss<|n-1)*R v<0):NewS n N v R L λt=>if t=n-1 then v else ss (t+1):=by
 refine⟨λi j q z=>?_,λt r=>?_,?_⟩
 ·try dsimp only
  rw[χ<|show i≠n-1 by lia];by_cases g:j=n-1
  ·rw[Α g];exact o _ ‹4›
  ·rw[χ g];exact k _ _ ‹8› (by lia)
 ·try dsimp only
  split
  ·exact m
  ·exact l _ (by lia)
 ·refine q_ λwv=>?_;obtain⟨d,s,u,h⟩:=Fp (n:=n) (v:=v) (L:=L) (b:=n-1) (e (n-1)<|‹31›) p;apply wv;refine⟨-d,?_,λt r=>?_,n-1,‹31›,by rw[Α rfl,h];exact f⟩
  ·rcases s with rfl|rfl
   ·exact .inr rfl
   ·exact .inl (by grind)
  ·try dsimp only
   by_cases c:t=n-1
   ·subst c;rw[Α rfl,h];exact iv f
   ·rw[χ c,e (t+1)<|by lia,Aj (n:=n) (t:=t)<|by lia];have:=Ej<|n-1-(t+1);have x:-d*(-sg (n-1-(t+1))*(sg (n-1-(t+1))*L))=d*L:=by grind
    rw[x,u];exact fk
theorem aLx(g:∀i j,i<j->j<n->ss i<ss j)(h:∀t,t<n->ss t<N)(k:v<N)(b:∀t,t<n->R (ss t)=sg (n-1-t)*L)(l:bZ L<bZ (R v))(q:0<a)(d:a<n)(m:∀t,t<a->ss t<v)(o:∀t,a<=t->t<n->v<ss t)(p:R (ss<|a-1)*R v<0):NewS n N v R L λt=>if t=a then v else ss t:=by
 refine Yn g h k b l d m (λt e c=>o t ‹0› c) ?_;have e:=b (a-1) ‹12›;have c:=b a d;have f:=Aj (n:=n) (t:=a-1) (by lia);rw[show a-1+1=a by exact 50]at f;rw[e,f]at p;rw[c];grind
end
noncomputable def Us:ε ν->ε (ε ν)
 |[]=>[[]]
 |a::l=>(Us l).map (a::·)++Us l
theorem uG:∀{l s:ε ν},s.Sublist l->s∈Us l
 |[],s,h=>by rw[List.sublist_nil.mp h];exact Κ
 |a::l,s,h=>by
  cases h with
  |cons _ h=>exact cu _<|uG h
  |cons_cons _ h=>exact je _<|Ν.mpr ⟨_,uG h,rfl⟩
theorem qY:∀(k a:ν)(s:ε ν),s.Pairwise (·<·)->(∀x∈s,a<=x/\x<a+k)->s.Sublist (List.range' a k)
 |0,a,[],_,_=>xa _
 |0,a,x::s,_,h=>by have:=h x Κ;lia
 |k+1,a,[],_,_=>xa _
 |k+1,a,x::s,e,h=>by
  rw[List.range'_succ];have b:=mn.mp e;have f:=h x Κ;by_cases c:x=a
  ·subst c;refine List.Sublist.cons_cons _<|qY k (x+1) s b.2 λy d=>?_;have:=b.1 y d;have:=h y<|Θ _ d;lia
  ·refine List.Sublist.cons _<|qY k (a+1) (x::s) e λy d=>?_;have:=h y d;rcases Ω.mp d with rfl|d
   ·lia
   ·have:=b.1 y d;lia
theorem Ld(a:s.Pairwise (·<·))(h:∀x∈s,x<N):s∈Us (range N):=by
 rw[List.range_eq_range'];exact uG<|qY N 0 s a λx b=>⟨hB _,by have:=h x b;lia⟩
theorem aHp{i:Type}{f:i->ψ}{s:i}:∀{a:ε i},s∈a->l<f s->(a.filter λc=>decide (f s<f c)).length<(a.filter λc=>decide (l<f c)).length
 |[],h,_=>nomatch h
 |c::a,h,j=>by
  have k:∀a:ε i,(a.filter λc=>decide (f s<f c)).length<=(a.filter λc=>decide (l<f c)).length:=λa=>by
   induction a with
   |nil=>exact Η _
   |cons d a b=>
    by_cases e:f s<f d
    ·rw[fv<|by simpa using e,fv<|by simpa using(show l<f d by grind)];simpa using b
    ·rw[gy<|by simpa using e];by_cases g:l<f d
     ·rw[fv<|by simpa using g,Ρ];exact 3
     ·rw[gy<|by simpa using g];exact b
  rcases Ω.mp h with rfl|h
  ·rw[gy<|by simp,fv<|by simpa using j,Ρ];have:=k a;exact 48
  ·have b:=aHp h j;by_cases e:f s<f c
   ·rw[fv<|by simpa using e,fv<|by simpa using(show l<f c by grind)];simpa using b
   ·rw[gy<|by simpa using e];by_cases g:l<f c
    ·rw[fv<|by simpa using g,Ρ];exact 3
    ·rw[gy<|by simpa using g];exact b
theorem sK(q:ψ):q.num<0↔q<0:=by
 have:=@rp q;rw[<-AJ,<-this];lia
noncomputable def Sh(a b:ψ):ψ:=if a<0 then -b else b
noncomputable def xL(a:ε Mk)(t:ν):ψ:=(a.getD t (0,0,0)).1
def yL(a:ε Mk)(t:ν):ψ:=(a.getD t (0,0,0)).2.1
structure CZ(cs:ε Mk):Prop where
 n2:2<=cs.length
 n5:cs.length<=5
 up:cs.Pairwise λa b=>a.1<b.1
 x:∀m∈cs,Dg 9 m.1
 d:∀m∈cs,∀o∈cs,Cm 2 (10^3)<|m.1-o.1
theorem CZ.upF(Z:CZ a):Ir a.length (xL a):=λi j b c=>by
 have:=fx.mp Z.up i j ‹5› c b;unfold xL;rw[bC<|‹5›,bC c];exact this
theorem CZ.dd(Z:CZ a)(c:m∈a)(d:o∈a):Dg 5 (m.1-o.1):=(Z.d m c o d).dg (by decide) (l:=1) (by decide) (b:=3)<|Η _
theorem Lp(Z:CZ a)(b:t<a.length):∀j,j<=a.length->Dg (6*j) (dG j λi=>if i=t then 1 else(xL a t-xL a i)⁻¹)
 |0,_=>Dg.one
 |j+1,g=>by
  have d:=Lp Z b j ‹0›;rw[dG];by_cases c:j=t
  ·rw[Α c,jq];exact d.mono ‹48›
  ·rw[χ c];have e:Dg 5 (xL a t-xL a j):=by
    unfold xL;rw[bC b,bC<|show j<a.length by assumption];exact Z.dd (cq _)<|cq _
   have f:xL a t-xL a j≠0:=λz=>by
    rcases og c with q|q
    ·have:=Z.upF j t q b;grind
    ·have:=Z.upF t j q ‹51›;grind
   exact(d.mul<|e.inv f).mono ‹48›
theorem qV:∀{l:ε ψ},(∀q∈l,Dg d q)->Dg ((d+1)*l.length) (tot l)
 |[],_=>Dg.zero
 |q::l,h=>by
  rw[tot,Ρ,wb,t9];exact((h q Κ).add<|qV λx a=>h x<|Θ _ a).mono ‹48›
theorem qU(f:ν->ψ):∀n,tot ((range n).map f)=cE n f
 |0=>rfl
 |n+1=>by rw[ou,ay,u9,Dx,qU f n,cE]
def xZ:DW:=λc Q _=>∃a b:ψ,c=[fr a,fr b]/\Q (.dat<|fr<|Sh a b)
theorem sW:Q 1 42 (λ_=>xZ):=by
 refine jU 42 ["one","other"] λA T R Z=>⟨_,by walk_at"t",_,(aG (bD (tO eR (aE (eX 0 0)) bI) (aW (aE (cQ (aH (gZ (aE (eX 0 1))) (aH (eX 1 1) aO))))) aQ)
   (dM 1)),?_⟩
 rintro d Q X ⟨a,b,rfl,k⟩;unfold Sh at k;ac_nf;refine bT (λc=>?_) λc=>?_
 ·rw[Α<|(sK a).mp c]at k;exact k
 ·rw[χ λz=>c<|(sK a).mpr z]at k;ext;exact k
def Lv:DW:=λb Q _=>∃a:ε Mk,b=[.list<|a.map bW]/\CZ a/\Q (.own<|((range a.length).map<|jE (xL a) a.length).map fr)
theorem vL:Q 5 41 (λ_=>Lv):=by
 refine jU 41 ["chosen","shares","mark","share","other","whole"] λA T R Z=>⟨_,by walk_at"t",_,(aG (aR 1 (bN aO))
   (aG (dU (iE (aY 0)) (aJ 2)
    (sA 3 (cQ (aH aX (aH aX aO))) (aG (dU (iE (aY 0)) (aJ 4)
    (bD (tO oH (aE (eX 0 4)) (aE (eX 0 2))) (eY (aC (vN 3 (vE (aC (vE (eX 0 2) (vE (eX 0 4) aB))) aB))) (aJ 3)) aQ))
   (jY 1 (aY 3)))))
   (sA 5 (aC (vE (bU (bK [none] ["share"] (cC (aL 1)) (aJ 0) bM (aC (vN 0 aB)))) aB)) (dN (bK [none,γ 5] ["share","whole"] (cC (aL 1)) (aJ 0) bM (aC (vN 0 (vN 1 aB)))))))),?_⟩
 rintro ds Q X ⟨a,rfl,Z,k⟩;have n5:=Z.n5;have n2:=Z.n2;ac_nf
 refine cV (eF bW a (λQ h=>by ext;exact h)
  (λi p=>∃y B g:υ η,p=[γ<|.dat<|.list<|a.map bW,γ<|.own<|((range i).map<|Wt (xL a) a.length).map fr,y.map Sl.dat,B.map Sl.dat,g.map Sl.dat,none])
  ⟨none,none,none,rfl⟩ ?_ ?_)
 ·intro t m p n qQ0;refine q_ λwv=>?_;obtain⟨y,B,g,rfl⟩:=qQ0;apply wv;have C:=(ρ.mp n).1;have H:=ao n;have D:xL a t=m.1:=by unfold xL;rw[bC C,(ρ.mp n).2]
  ac_nf
  refine cV (eF bW a (λQ h=>by ext;exact h)
   (λj p=>∃g:υ η,p=[γ<|.dat<|.list<|a.map bW,γ<|.own<|((range t).map<|Wt (xL a) a.length).map fr,γ<|.dat<|bW m,γ<|.dat<|fr<|dG j λi=>if i=t then 1 else(xL a t-xL a i)⁻¹,g.map Sl.dat,none])
   ⟨g,rfl⟩ ?_ ?_)
  ·intro j o p r qQ0;refine q_ λwv=>?_;obtain⟨g,rfl⟩:=qQ0;apply wv;have I:=(ρ.mp r).1;have J:=ao r;have L:xL a j=o.1:=by unfold xL;rw[bC I,(ρ.mp r).2]
   have M:=Lp Z C j ‹0›;ext;refine⟨ψ,eRat,o.1,m.1,rfl,rfl,λv O=>?_⟩;rw[dG];cases v with
   |true=>
    have e:o.1=m.1:=O.mp rfl;have E:j=t:=by
     refine gp.mp λc=>?_;rw[<-L,<-D]at e;rcases og c with q|q
     ·have:=Z.upF j t q C;grind
     ·have:=Z.upF t j q I;grind
    rw[Α E,jq];dsimp only;rw[χ<|by decide];exact⟨γ _,rfl⟩
   |false=>
    have S:o.1≠m.1:=λz=>by have:=O.mpr z;cases this
    have E:j≠t:=λz=>by
     subst z;rw[n]at r;exact S (by rw[ba r])
    rw[χ E,D,L];dsimp only;rw[Α<|by decide];ext;rw[D]at M;refine⟨_,_,rfl,bX<|Z.x m H,bX<|Z.x o J,?_⟩;ext;refine⟨_,_,rfl,bX M<|by lia,bX<|Z.dd H J,λz=>ς z λz=>S<|by grind,λ_=>?_⟩;ext;rw[ml];exact⟨γ _,rfl⟩
  rintro p ⟨g,rfl⟩;ext;refine⟨by rw[ar];exact 11,γ<|bW m,γ<|fr<|dG a.length λi=>if i=t then 1 else(xL a t-xL a i)⁻¹,g,?_⟩;rw[ou,ay,ay];rfl
 intro p qQ0;refine q_ λwv=>?_;obtain⟨y,B,g,rfl⟩:=qQ0;obtain⟨b,d⟩:∃b,(range a.length).map (Wt (xL a) a.length)=b:=⟨_,rfl⟩;apply wv;have wl:b.length=a.length:=by rw[<-d,θ,ar]
 have s:∀q∈b,Dg 30 q:=λq f=>by
  rw[<-d]at f;obtain⟨t,n,rfl⟩:=Ν.mp f;exact(Lp Z (bA.mp n) a.length<|Η _).mono (by lia)
 rw[d];ac_nf;refine bJ fr fr (λq:ψ=>[bZ q]) b ‹10› (λQ h=>by ext;exact h) (λq f N F G=>?_) ?_
 ·ext;refine⟨q,rfl,?_⟩;ext;exact G
 rw[aN];have U:∀q∈b.map bZ,Dg 30 q:=λq f=>by
  obtain⟨x,hx,rfl⟩:=Ν.mp f;exact(s x hx).abs
 have W:∀i,Dg 155 (tot<|(b.map bZ).take i):=λi=>by
  refine(qV (l:=(b.map bZ).take i) λq f=>U q<|eo f).mono ?_;rw[aA,θ,wl];have:(30+1)*min i a.length<=(30+1)*5:=af _ ‹50›;assumption
 have Y:tot (b.map bZ)=xY (xL a) a.length:=by
  rw[<-d,jd,qU];unfold xY;refine dJ λt n=>?_;show bZ (Wt (xL a) a.length t)=_;exact(Jo (fW _)<|iv<|Sv n Z.upF).symm
 have u:=W (b.map bZ).length;rw[kx,Y]at u;have T0:=kT ‹0› Z.upF;refine⟨b.map bZ,rfl,λq f=>bX<|U q f,λi=>bX<|W i,?_⟩;rw[Y];ext;refine bJ fr fr (λq:ψ=>[q/xY (xL a) a.length]) b ‹10› (λQ h=>by ext;exact h) (λq f N F G=>?_) ?_
 ·ext;refine⟨q,_,rfl,bX<|s q f,bX u,λz=>ς z<|‹41›,λ_=>?_⟩;ext;exact G
 rw[aN];have ef:b.map (λq=>q/xY (xL a) a.length)=(range a.length).map (jE (xL a) a.length):=by
  rw[<-d,jd];rfl
 rw[ef];exact k
instance:DtW xZ:=by walk_at"w"
instance:DtW Lv:=by walk_at"w"
abbrev eN(k:ν):η:=.int (k:τ)
theorem zX(v:ν):∀{a:ε ν},a.Pairwise (·<·)->(∀t,t<(a.flatMap λs=>if s<v then[s]else[]).length->a.getD t 0<v)/\(∀t,(a.flatMap λs=>if s<v then[s]else[]).length<=t->t<a.length->v<=a.getD t 0)/\(a.flatMap λs=>if s<v then[s]else[]).length<=a.length
 |[],_=>⟨λt h=>by simp at h,λt _ h=>by simp at h,by simp⟩
 |x::a,i=>by
  have b:=mn.mp i;obtain⟨j,k,m⟩:=zX v b.2;by_cases c:x<v
  ·rw[wc,Α c,List.singleton_append,Ρ,Ρ];refine⟨λt f=>?_,λt f g=>?_,‹48›⟩
   ·cases t with
    |zero=>exact c
    |succ t=>exact j t ‹7›
   ·cases t with
    |zero=>lia
    |succ t=>exact k t (by lia) ‹7›
  ·have e:(a.flatMap λs=>if s<v then[s]else[])=[]:=by
    rw[List.flatMap_eq_nil_iff];intro s l;have:=b.1 s l;rw[χ<|by lia]
   rw[wc,χ c,e];refine⟨λt f=>by simp at f,λt _ g=>?_,by simp⟩;cases t with
   |zero=>show v<=x;exact 24
   |succ t=>
    have d:t<a.length:=by simpa using g
    show v<=a.getD t 0;rw[bC d];have:=b.1 _<|cq d;lia
theorem Jv(p q:ψ):0<=p.num*q.num↔0<=p*q:=by
 have a:(0:ψ)<(p.den:ψ):=by rw[<-Ο];exact ko.mpr (by have:=Fm.den_pos p;assumption)
 have d2:(0:ψ)<(q.den:ψ):=by rw[<-Ο];exact ko.mpr (by have:=Fm.den_pos q;assumption)
 have d:=ku a d2;have e:((p.num*q.num:τ):ψ)=p*q*((p.den:ψ)*(q.den:ψ)):=by
  rw[aq,Fm.num_eq p,Fm.num_eq q];grind
 rw[<-va,e];constructor
 ·intro h;refine lj.mp λz=>?_;have:=ku (show 0< -(p*q) by grind) d;grind
 ·intro h;exact ew h<|iv d
theorem Em{a:ε ν}(d:b<a.length):(a.take b++[v]++a.drop (b+1)).getD t 0=if t=b then v else a.getD t 0:=by
 have e:a.take b++[v]++a.drop (b+1)=a.set b v:=by
  rw[List.set_eq_take_append_cons_drop,Α d,ek];rfl
 rw[e,Μ,List.getElem?_set];by_cases c:t=b
 ·subst c;rw[Α rfl,Α d,Α rfl];rfl
 ·rw[χ<|Ne.symm c,χ c,Μ]
theorem Kn{a:ε ν}(b:t<a.length):(v::a.dropLast).getD t 0=if t=0 then v else a.getD (t-1) 0:=by
 cases t with
 |zero=>rfl
 |succ t=>
  rw[χ<|by lia,List.getD_cons_succ,ua,Μ,List.getElem?_dropLast,Α<|‹7›,Μ]
theorem Re{a:ε ν}(b:0<a.length)(d:t<a.length):(a.drop 1++[v]).getD t 0=if t=a.length-1 then v else a.getD (t+1) 0:=by
 by_cases c:t=a.length-1
 ·rw[Α c,Μ,bo (by rw[bx];exact 48),bx,c,mv];rfl
 ·rw[χ c,Μ,dq (by rw[bx];exact 50),qf,Μ,uf]
theorem NewS.congr(h:NewS n N v R L f)(e:∀t,t<n->g t=f t):NewS n N v R L g:=by
 obtain⟨d,k,l,t,a,m⟩:=h.turn;refine⟨λi j b c=>by rw[e i<|‹5›,e j c];exact h.up i j b c,λt a=>by rw[e t a];exact h.lt t a,d,k,λt a=>by rw[e t a];exact l t a,t,a,by rw[e t a];exact m⟩
structure ExP(ss:ε ν)(rs:ε ψ)(v:ν)(L:ψ):Prop where
 h0:2<=ss.length
 h1:ss.length<=5
 h2:ss.Pairwise (·<·)
 h3:(∀s∈ss,s<rs.length)
 h4:rs.length<=60
 h5:v<rs.length
 h6:(∀q∈rs,Ok q)
 h7:(∀t,t<ss.length->rs.getD (ss.getD t 0) 0=sg (ss.length-1-t)*L)
 h8:bZ L<bZ (rs.getD v 0)
theorem Ch(T:Txt K mg A):Ex P w K mg base 1 (A.a 45) (A.d 45) (pr 45) (λp:(ε ν×ε ψ)×ν×ψ=>[.list<|p.1.1.map eN,.list<|p.1.2.map fr,.int (p.2.1:τ)])
  (λp=>ExP p.1.1 p.1.2 p.2.1 p.2.2) (λp s=>∃B:ε ν,s= .own (B.map eN)/\B.length=p.1.1.length/\NewS p.1.1.length p.1.2.length p.2.1 (λi=>p.1.2.getD i 0) p.2.2 (λt=>B.getD t 0)):=by
 refine oK (T.G 45).F pT (λ_=>rfl) (λa6 Ar outer s H E R=>have Z:=pT;⟨_,by walk_at"t",(sA 3 (bR cI (vE (bU (bK [none,γ 2] ["one","spot"] (cC (aL 0)) (aJ 0) (tO eR (aI 0) (aI 1)) (aY 0))) aB)) (sA 4 (bR Vl (vE (cB cG (aI 3) bI) (vE aX aB))) (oB (bD (tO eR (bO eZ (aE (oQ 0 (bE (aL 1) (aE (bE (aL 0) (aI 4)))))) (aE (oQ 0 (bE (aL 1) (aI 2))))) bI) (dN (gY (eA (gY (eA (gP (aL 0) gQ (cH (aI 4)))) (eA (bN (aH (aY 2) aO))))) (eA (gP (aL 0) (cH (bO cG (aI 4) bI)) gQ)))) aQ)
   (aG (bD (tO cJ (aI 3) bI) (dN (gY (eA (bN (aH (aY 2) aO))) (eA (gP (aL 0) gQ (cH (aE (xR (v:=(-1)) (gZ bI) (λex δ Q h=>Eq.mpr (bt (λz=>Q (.int z)) (by decide +kernel:((-1):τ)=-1)) h)))))))) aQ)
   (aG (bD (tO cJ (aI 3) (aE (bR cI (vN 0 aB)))) (dN (gY (eA (gP (aL 0) (cH bI) gQ)) (eA (bN (aH (aY 2) aO))))) aQ)
   (dN (gY (eA (gY (eA (gP (aL 0) gQ (cH (aI 3)))) (eA (bN (aH (aY 2) aO))))) (eA (gP (aL 0) (cH (bO cG (aI 3) bI)) gQ)))))))))⟩) inferInstance ?_
 intro qQ0 qQ1 Q X k;refine q_ λwv=>?_;obtain⟨⟨d,g⟩,v,L⟩:=qQ0;obtain⟨n2,n5,up,lt,a1,C,ok,G,l⟩:=qQ1;apply wv;dsimp only at n2 n5 up lt a1 C ok G l;obtain⟨Y,c2,c3⟩:=zX v up;have u:∀i j,i<j->j<d.length->d.getD i 0<d.getD j 0:=λi j a2 hj=>by
  rw[bC<|‹5›,bC hj];exact fx.mp up i j ‹5› hj a2
 have o:∀t,t<d.length->d.getD t 0<g.length:=λt f=>by rw[bC f];exact lt _<|cq f
 have D:∀t,t<d.length->d.getD t 0≠v:=λt f z=>by
  have O:=G t f;rw[z]at O;rw[O]at l;rcases fW (d.length-1-t)with e|e <;>rw[e]at l <;>rcases eQ L with⟨q,I⟩|⟨q,I⟩ <;>rw[I]at l
  ·rw[gk,I]at l;grind
  ·rw[gk,I]at l;grind
  ·rw[wX<|by grind]at l;grind
  ·rw[mR<|by grind]at l;grind
 ac_nf;refine bJ eN eN (λs:ν=>if s<v then[s]else[]) d ‹1› (λQ h=>by ext;exact h) (λq hq N a7 hN=>?_) ?_
 ·ext;refine bT (λc=>?_) (λc=>?_)
  ·rw[Α<|‹20›]at hN;exact hN
  ·rw[χ<|by lia]at hN;simpa using hN
 obtain⟨a,ha⟩:∃a,(d.flatMap λs=>if s<v then[s]else[]).length=a:=⟨_,rfl⟩;rw[ha]at Y c2 c3;ext;rw[ha];obtain⟨b,hb⟩:∃b:ν,a-1=b:=⟨_,rfl⟩;have bl:b<d.length:=by lia
 have a3:∀{t:ν},t<d.length->∀{z:τ},z=(t:τ)->kC (d.map eN) z=γ (.int ((d.getD t 0:ν):τ)):=λ{t} f {z} hz=>by
  rw[hz];exact dR (by rw[cw,Ι f,bC f];rfl)
 have S:∀{t:ν},t<g.length->kC (g.map fr) (t:τ)=γ (fr<|g.getD t 0):=λ{t} f=>dR (by rw[cw,Ι f,bC f];rfl);have okR:∀{t:ν},t<g.length->Ok (g.getD t 0):=λ{t} f=>by rw[bC f];exact ok _<|cq f
 ac_nf;obtain⟨bz,a4,U⟩:∃bz:τ,(if (0:τ)>(a:τ)-1 then 0 else(a:τ)-1)=bz/\bz=(b:τ):=⟨_,rfl,by split <;>lia⟩;rw[a4];have lp:d.getD b 0<g.length:=o b bl;have x:=Jv (g.getD (d.getD b 0) 0)<|g.getD v 0;refine q_ λwv=>?_;obtain⟨J,q1,f1,O⟩:∃J q1:τ,fr (g.getD (d.getD b 0) 0)= .tuple [.int J,.int q1]/\(g.getD (d.getD b 0) 0).num=J:=⟨_,_,rfl,rfl⟩;obtain⟨M,q2,f2,h2⟩:∃M q2:τ,fr (g.getD v 0)= .tuple [.int M,.int q2]/\(g.getD v 0).num=M:=⟨_,_,rfl,rfl⟩;apply wv;have w1:Wee J:=by rw[<-O];exact(okR lp).n
 have w2:Wee M:=by rw[<-h2];exact(okR C).n
 rw[O,h2]at x;obtain⟨pp,W⟩:∃pp,J*M=pp:=⟨_,rfl⟩;rw[W]at x;have y:∀m:ν,m<d.length->eM (d.map eN) none (γ (m:τ))++[eN v]++eM (d.map eN) (γ ((m+1:ν):τ)) none=(d.take m++[v]++d.drop (m+1)).map eN:=λm hm=>by
  rw[qO,iW,ay,ay,qm,y8];rfl
 have l3:∀m:ν,m<d.length->(d.take m++[v]++d.drop (m+1)).length=d.length:=λm hm=>by
  rw[Γ,Γ,aA,bx];simp;lia
 refine oU (λδ=>δ=[γ<|.dat<|.list<|d.map eN,γ<|.dat<|.list<|g.map fr,γ<|.dat<|.int (v:τ),γ<|.dat<|.int (a:τ),γ<|.dat<|.int bz]/\g.getD (d.getD b 0) 0*g.getD v 0<0) ?_ ?_
 ·ext;refine⟨_,a3 bl U,.tuple [.int J,.int q1],by rw[S lp,f1],.tuple [.int M,.int q2],by rw[S C,f2],fS w1 w2,?_⟩;rw[W];refine bT (λc=>?_) (λc=>?_)
  ·rw[U,show((b:τ)+1)=((b+1:ν):τ) by lia];have e3:=y b bl;have ll:(eM (d.map eN) none<|some (b:τ)).length<=5/\(eM (d.map eN) (γ ((b+1:ν):τ)) none).length<=5:=by
    rw[qO,iW,aA,bx,θ];lia
   refine⟨by lia,by rw[Γ];show _+1+_<=1000;lia,?_⟩;rw[show eM (d.map eN) none (γ (b:τ))++[bj (v:τ)]++eM (d.map eN) (γ ((b+1:ν):τ)) none=(d.take b++[v]++d.drop (b+1)).map eN from e3];refine k _ ⟨_,rfl,l3 b bl,?_⟩;refine(Yn u o C G l bl (λt f=>Y t<|by lia) (λt a5 r=>?_)<|x.mp c).congr λt f=>Em bl;have:=c2 t (by lia) r;have:=D t r;lia
  ·show _<(0:ψ);exact AJ.mp λz=>c<|x.mpr z
 rintro δ ⟨rfl,hs⟩;ac_nf;have dl:eM (d.map eN) none (γ<|-1)=d.dropLast.map eN:=by
  unfold eM;rw[HT.sIx_none,mf,vy,θ];have e:HT.sIx d.length d.length (γ<|-1)=d.length-1:=by
   unfold HT.sIx;simp;lia
  rw[e,<-qm,sf]
 refine bT (λc=>?_) λc=>?_
 ·have a0:a=0:=by lia
  have b0:b=0:=by lia
  rw[dl];refine⟨by rw[θ,mx];lia,?_⟩;refine k _ ⟨v::d.dropLast,rfl,by dsimp only;rw[Ρ,mx];exact 50,?_⟩;refine(Yo u o C G l ‹0› (λt f=>?_) (by rw[b0]at hs;exact hs)).congr λt f=>Kn f;have:=c2 t ‹48› f;have:=D t f;lia
 ac_nf;refine bT (λc'=>?_) λc'=>?_
 ·have an:a=d.length:=by lia
  have e1:eM (d.map eN) (γ 1) none=(d.drop 1).map eN:=by
   have:=iW (d.map eN) 1;rw[y8];exact this
  rw[e1];refine⟨by rw[θ,bx];lia,?_⟩;have I:(d.drop 1).map eN++[bj (v:τ)]=(d.drop 1++[v]).map eN:=by rw[ay];rfl
  rw[I];refine k _ ⟨_,rfl,by dsimp only;rw[Γ,bx];simp;exact 50,?_⟩;refine(aEw u o C G l ‹0› (λt f=>Y t<|‹48›) (by rw[show d.length-1=b by lia];exact hs)).congr λt f=>Re ‹0› f
 ·have al:a<d.length:=by lia
  rw[show((a:τ)+1)=((a+1:ν):τ) by lia];have e3:=y a al;have ll:(eM (d.map eN) none<|some (a:τ)).length<=5/\(eM (d.map eN) (γ ((a+1:ν):τ)) none).length<=5:=by
   rw[qO,iW,aA,bx,θ];lia
  ext;refine⟨by lia,by rw[Γ];show _+1+_<=1000;lia,?_⟩;rw[show eM (d.map eN) none (γ (a:τ))++[bj (v:τ)]++eM (d.map eN) (γ ((a+1:ν):τ)) none=(d.take a++[v]++d.drop (a+1)).map eN from e3];refine k _ ⟨_,rfl,l3 a al,?_⟩;refine(aLx u o C G l (by lia) al Y (λt a5 r=>?_) (by rw[hb];exact hs)).congr λt f=>Em al;have:=c2 t ‹51› r;have:=D t r;lia
theorem Ap(n:ν):(cg n [au [bj 0,bj 1]]).flatten=(cg n (0:ψ)).map fr:=by
 rw[vb];simp
theorem ixN_nat'{n j:ν}(e:k=(j:τ))(h:j<n):Kg n k=γ j:=by
 unfold Kg;rw[Α<|by lia,Α<|by lia,e,cy]
theorem Ef{N w t:ν}(a:2<=w)(h:w<=N):t*(N-1)/(w-1)<(t+1)*(N-1)/(w-1):=by
 have b:t*(N-1)/(w-1)*(w-1)<=t*(N-1):=Nat.div_mul_le_self _ _;refine(Nat.le_div_iff_mul_le<|‹7›).mpr ?_;rw[yv,mm,j0];lia
theorem yQ{N w:ν}(b:2<=w)(h:w<=N):∀{i j:ν},i<j->i*(N-1)/(w-1)<j*(N-1)/(w-1)
 |i,0,a=>‹39›
 |i,j+1,a=>by
  have s:=Ef (t:=j) b h;by_cases c:i=j
  ·subst c;exact s
  ·exact mr (yQ b h<|show i<j by exact 13) s
noncomputable def Nm(a:ε Mk)(b:ε ψ)(L:ψ):ε Mk:=jo (λ(m:Mk) q=>(m.1,m.2.1-Sh q L,m.2.2)) a b
noncomputable def Nb(L:ψ):ε (ν×ψ)->ε ψ->ε ψ
 |[],a=>a
 |z::r,a=>Nb L r (if L=0 then a else a.set z.1 (Sh L z.2))
theorem Ff(L:ψ)(z:ν×ψ):∀(r:ε<|ν×ψ)(a:ε ψ),Nb L (r++[z]) a=if L=0 then Nb L r a else(Nb L r a).set z.1 (Sh L z.2)
 |[],a=>rfl
 |y::r,a=>by rw[xr,Nb,Ff L z r,Nb]
theorem Ba(L:ψ):∀(r:ε<|ν×ψ)(a:ε ψ),(Nb L r a).length=a.length
 |[],a=>rfl
 |y::r,a=>by
  rw[Nb,Ba L r];split
  ·rfl
  ·rw[ib]
theorem tH(T:Txt K mg A):Ex P w K mg base 1 (A.a 40) (A.d 40) (pr 40) (λp:ν×ν=>[.int (p.1:τ),.int (p.2:τ)])
  (λp=>2<=p.2/\p.2<=5/\p.2<=p.1/\p.1<=60) (λp s=>∃f:ε ν,s= .own (f.map eN)/\f.length=p.2/\f.Pairwise (·<·)/\∀s∈f,s<p.1):=by
 refine oK (T.G 40).F lD (λ_=>rfl) (λy G outer s H E R=>have Z:=lD;⟨_,by walk_at"t",(dN<|bK [none,γ 1,γ 0] ["spot","wanted","count"] (IvS.e<|iD<|vN 1 aB) (aJ 0) bM<|cB eZ (bO eZ (aI 0)<|bO cG (aI 2) bI)<|bO cG (aI 1) bI)⟩) inferInstance ?_;intro qQ0 qQ1 Q X k;refine q_ λwv=>?_;obtain⟨N,v⟩:=qQ0;obtain⟨r,z,vN,i⟩:=qQ1;apply wv;dsimp only at r z vN i;obtain⟨b,j⟩:∃b:τ,(N:τ)=b:=⟨_,rfl⟩;obtain⟨a,c⟩:∃a:τ,(v:τ)=a:=⟨_,rfl⟩;rw[j,c];ext
 refine bJ (λk:ν=>bj (k:τ)) eN (λt:ν=>[t*(N-1)/(v-1)]) (range v) (by rw[ar];exact 11) (λQ h=>by
   ext
   refine⟨⟨by lia,by lia⟩,?_⟩
   have e:pV 0 a.toNat 1=(range v).map λk:ν=>bj (k:τ):=by
    unfold pV
    rw[<-c,cy]
    exact fu λk _=>by rw[AK,sh]
   rw[e];exact h) (λt l B m u=>?_) ?_
 ·have o:=bA.mp l;obtain⟨g,d⟩:∃g:τ,(t:τ)=g:=⟨_,rfl⟩;have x:eN (t*(N-1)/(v-1))=bj (g*(b-1)/(a-1)):=by
   show bj ((t*(N-1)/(v-1):ν):τ)=_;rw[la,kg,d,show((N-1:ν):τ)=b-1 by lia,show((v-1:ν):τ)=a-1 by lia]
  rw[d];have q:B (m++[bj<|g*(b-1)/(a-1)]):=by
   rw[<-x];exact u
  clear u x;exact⟨fS (fJ (n:=5)<|by lia)<|fJ (n:=60)<|by lia,⟨by lia,fJ (n:=5)<|by lia⟩,q⟩
 rw[aN];refine k _ ⟨_,rfl,by rw[θ,ar],?_,λs C=>?_⟩
 ·rw[l5];exact pairwise_lt_range.imp λh=>yQ r vN h
 ·obtain⟨t,l,rfl⟩:=Ν.mp C;have o:=bA.mp l;have D:t*(N-1)/(v-1)<=(v-1)*(N-1)/(v-1):=Nat.div_le_div_right (Χ _<|‹7›);rw[ie<|v-1,Nat.mul_div_cancel _<|‹7›]at D;lia
def Tg:DW:=λc Q _=>∃(a:ε Mk)(b:ε ψ)(L:ψ),c=[.list<|a.map bW,.list<|b.map fr,fr L]/\a.length<=60/\(∀m∈a,Ok m.2.1)/\Ok L/\Q (.own<|(Nm a b L).map bW)
theorem Fy:Q 4 43 (λ_=>Tg):=by
 refine jU 43 ["chosen","shares","level"] λA T R Z=>⟨_,by walk_at"t",_,(dN<|bK [none,none,γ 2] ["mark","share","level"] (fU (aL 0)<|aL 1) (dW<|bH (aJ 0)<|bH (aJ 1) dY) bM<|cQ<|aH (eX 0 0)<|aH (aC<|vE (eX 1 0)<|vE (aC<|vN 1<|vN 2 aB) aB)<|aH (eX 2 0) aO),?_⟩;intro q Q X qQ0;refine q_ λwv=>?_;obtain⟨d,c,L,rfl,g,f,e,k⟩:=qQ0;apply wv;clear wv;ext;refine bJ (λz:Mk×ψ=>au [bW z.1,fr z.2]) bW (λz:Mk×ψ=>[(z.1.1,z.1.2.1-Sh z.2 L,z.1.2.2)]) (d.zip c) (by rw[eW];exact 50) (λQ h=>by ext;rw[cO];exact h) (λz i N j l=>?_) ?_
 ·have m:=(fm (a:=z.1) (b:=z.2) i).1;have n:Ok (Sh z.2 L):=by
   unfold Sh;split
   ·exact⟨by have:=e.n;unfold Wee at *;show(-L.num).natAbs<_;exact 49,e.d⟩
   ·exact e
  ext;refine⟨_,_,rfl,?_⟩;ext;refine⟨_,_,rfl,f _ m,n,?_⟩;ext;exact l
 have o:(d.zip c).map (λz:Mk×ψ=>(z.1.1,z.1.2.1-Sh z.2 L,z.1.2.2))=Nm d c L:=by
  unfold Nm;clear k f g
  induction d generalizing c with
  |nil=>rfl
  |cons a d p=>cases c with
   |nil=>rfl
   |cons b c=>rw[qg,ak,l6,p]
 rw[aN,o];exact k
instance:DtW Tg:=by walk_at"w"
def Dj:DW:=λc Q _=>∃(a:ε ν)(b:ε ψ)(L:ψ)(N:ν),c=[.list<|a.map eN,.list<|b.map fr,fr L,.int (N:τ)]/\a.length<=5/\(∀s∈a,s<N)/\N<=60/\Q (.own<|(Nb L (a.zip b)<|cg N 0).map fr)
theorem Fw:Q 2 44 (λ_=>Dj):=by
 refine jU 44 ["spots","shares","level","count","pulls","spot","share"] λA T R Z=>⟨_,by walk_at"t",_,(aG (aR 4 (oJ (eA (bN (aH (nN T.k_NOUGHT) aO))) (aI 3)))
   (aG (dU (Xv (aY 0) (aY 1)) (dW (bH (aJ 5) (bH (aJ 6) dY)))
    (bD (tO oH (aI 2) (aE (nN T.k_NOUGHT))) (pH 4 (aC (vN 2 (vN 6 aB))) (aI 5)) aQ))
   (dM 4))),?_⟩
 rintro s Q X ⟨c,d,L,N,rfl,t,n,N60,k⟩;ac_nf;rw[cy,Ap];refine⟨⟨‹29›,by lia⟩,by lia,?_⟩
 refine cV (eF (λz:ν×ψ=>au [eN z.1,fr z.2]) (c.zip d) (λQ h=>by ext;rw[cO];exact h)
  (λi f=>∃g j:υ η,f=[γ<|.dat<|.list<|c.map eN,γ<|.dat<|.list<|d.map fr,γ<|.dat<|fr L,γ<|.dat<|.int (N:τ),γ<|.own<|(Nb L ((c.zip d).take i)<|cg N 0).map fr,g.map Sl.dat,j.map Sl.dat])
  ⟨none,none,rfl⟩ ?_ ?_)
 ·intro i qQ0 f l qQ1;refine q_ λwv=>?_;obtain⟨e,q⟩:=qQ0;obtain⟨g,j,rfl⟩:=qQ1;apply wv;have u:=n e (fm (a:=e) (b:=q)<|ao l).1;have o:(Nb L ((c.zip d).take i)<|cg N 0).length=N:=by rw[Ba,cf]
  have p:=Ff L (e,q) ((c.zip d).take i)<|cg N 0;rw[jA l,p];generalize Nb L ((c.zip d).take i) (cg N 0)=r at o⊢;ext;refine⟨ψ,eRat,L,0,rfl,rfl,λv m=>?_⟩;cases v with
  |true=>
   rw[Α<|m.mp rfl];dsimp only;rw[χ<|by decide];exact⟨γ _,γ _,rfl⟩
  |false=>
   rw[χ (λz=>by have:=m.mpr z;cases this)];dsimp only;rw[Α<|by decide];ext;refine⟨L,q,rfl,?_⟩;ext;refine⟨e,ixN_nat' rfl<|‹48›,γ<|eN e,γ<|fr q,?_⟩;rw[BU];rfl
 rintro f ⟨g,j,rfl⟩;rw[kx];ext;exact k
instance:DtW Dj:=by walk_at"w"
theorem aLp(h:Cm M B d)(j:0<M)(e:d≠0):∃V:ν,0<V/\V<=B*M/\Cm V M d⁻¹:=by
 have f:d.num≠0:=λz=>e<|tf.mp z;have g:d.den<=M:=h.den j;have i:=Fm.num_eq d;have n:(0:ψ)<(d.den:ψ):=by rw[<-Ο];exact ko.mpr (by have:=Fm.den_pos d;assumption)
 have k:d⁻¹=cD (d.den:τ) d.num:=by
  refine Fm.eq_divInt f ?_;rw[Ο,i];have:=i9 d e;grind
 refine⟨d.num.natAbs,‹15›,Β h.num<|af _ g,?_⟩;have o:(d.den:ψ)<=(M:ψ):=qQ g;have l:d⁻¹.den∣d.num.natAbs:=by rw[k];exact Cl _ f
 have inv1:=i9 d e;have b:(d.num:ψ)<=-1\/1<=(d.num:ψ):=by
  by_cases c:0<d.num
  ·exact .inr (fq.mpr<|show(1:τ)<=d.num by assumption)
  ·exact .inl (by
    have:((d.num:τ):ψ)<=((-1:τ):ψ):=fq.mpr (by lia)
    exact this)
 have m:d⁻¹*(d.num:ψ)=(d.den:ψ):=by rw[i];grind
 refine⟨l,?_,?_⟩
 ·rcases b with b|b
  ·refine lj.mp λc=>?_;have:=ew (show 0<=-d⁻¹-(M:ψ) by grind) (show 0<=-(d.num:ψ)-1 by grind);have a:=nJ M;have:=ew a (show 0<=-(d.num:ψ)-1 by grind);grind
  ·refine lj.mp λc=>?_;have a:=nJ M;have:=ew (show 0<=-d⁻¹-(M:ψ) by grind) (show 0<=(d.num:ψ)-1 by grind);have:=ew a (show 0<=(d.num:ψ)-1 by grind);grind
 ·rcases b with b|b
  ·refine lj.mp λc=>?_;have a:=nJ M;have:=ew (show 0<=d⁻¹-(M:ψ) by grind) (show 0<=-(d.num:ψ)-1 by grind);have:=ew a (show 0<=-(d.num:ψ)-1 by grind);grind
  ·refine lj.mp λc=>?_;have a:=nJ M;have:=ew (show 0<=d⁻¹-(M:ψ) by grind) (show 0<=(d.num:ψ)-1 by grind);have:=ew a (show 0<=(d.num:ψ)-1 by grind);grind
theorem Mm{κ:Type}{L A B:ν}{f:κ->ν->ψ}:∀{m:ν},(∀t,t<m->∃V:ν,0<V/\V<=A/\∀k,Cm (L*V) B<|f k t)->∃V:ν,0<V/\V<=A^m/\∀k,Cm (L*V) (m*B) (cE m<|f k)
 |0,_=>⟨1,by decide,Η _,λ_=>Cm.zero⟩
 |m+1,h=>by
  obtain⟨V,a,b,c⟩:=Mm (f:=f) (m:=m) λt l=>h t ‹3›;obtain⟨U,d,e,g⟩:=h m ‹48›;refine⟨V*U,i4 a d,by rw[gi];exact ai b e,λk=>?_⟩;rw[cE];have i:=(c k).mono (L':=L*(V*U)) (by rw[<-gc];exact jk _ _)<|Η _;have j:=(g k).mono (L':=L*(V*U)) (by rw[ie V U,<-gc];exact jk _ _)<|Η _;exact(i.add j).mono (i8 _) (by rw[mm,j0];exact Η _)
theorem Mn{L A B:ν}(h:∀t,t<m->∃V:ν,0<V/\V<=A/\Cm (L*V) B (f t)):∃V:ν,0<V/\V<=A^m/\Cm (L*V) (m*B) (cE m f):=by
 obtain⟨V,d,e,g⟩:=Mm (κ:=Unit) (f:=λ_=>f) λt i=>(h t i).imp λ_ ⟨a,b,c⟩=>⟨a,b,λ_=>c⟩;exact⟨V,d,e,g ()⟩
theorem yZ(f g:ν->ψ):∀n,dG n f*dG n g=dG n λi=>f i*g i
 |0=>jq 1
 |n+1=>by rw[dG,dG,dG,<-yZ f g n];grind
theorem yY:∀{n:ν},(∀i,i<n->f i=1)->dG n f=1
 |0,_=>rfl
 |n+1,h=>by rw[dG,yY λi a=>h i<|‹3›,h n<|‹48›,jq]
theorem Fb:∀{n:ν},(∀i,i<n->Cm M E (f i))->Cm (M^n) (E^n) (dG n f)
 |0,_=>Cm.int (i:=1) (show 1<=E^0 from Η _)
 |n+1,h=>by
  rw[dG,gi,gi];exact(Fb λi a=>h i<|‹3›).mul (h n<|‹48›)
theorem aGf(Z:CZ a)(f:t<a.length):∃V:ν,0<V/\V<=10^17/\Cm V 32 (Wt (xL a) a.length t):=by
 have j:=Z.n5;have k:∀i,i<a.length->i≠t->xL a t-xL a i≠0:=λi b c z=>by
  rcases og c with q|q
  ·have:=Z.upF i t q f;grind
  ·have:=Z.upF t i q b;grind
 obtain⟨D,g⟩:∃D,dG a.length (λi=>if i=t then(1:ψ)else xL a t-xL a i)=D:=⟨_,rfl⟩;have d:Wt (xL a) a.length t*D=1:=by
  unfold Wt;rw[<-g,yZ];refine yY λi b=>?_;by_cases c:i=t
  ·rw[Α c,Α c];exact jq 1
  ·rw[χ c,χ c,we];exact i9 _<|k i b c
 have h:D≠0:=λz=>by rw[z,oq]at d;exact ς d (by decide)
 have l:Cm (2^a.length) ((10^3)^a.length) D:=by
  rw[<-g];refine Fb λi b=>?_;by_cases c:i=t
  ·rw[Α c];exact(Cm.int (i:=1) (B:=10^3)<|by decide).mono (Nat.one_dvd _)<|Η _
  ·rw[χ c];unfold xL;rw[bC f,bC b];exact Z.d _ (cq _) _<|cq _
 have e:Cm 32 (10^15) D:=l.mono (by rw[show(32:ν)=2^5 from rfl];exact ub 2 j) (by rw[<-AI];exact eH (by decide)<|by lia);obtain⟨V,m,n,o⟩:=aLp e (by decide) h;refine⟨V,m,Β n<|by decide,?_⟩;have p:Wt (xL a) a.length t=D⁻¹:=by
  have:=i9 D h;have r:Wt (xL a) a.length t*D*D⁻¹=Wt (xL a) a.length t:=by rw[kc,this,jq]
  rw[<-r,d,gk]
 rw[p];exact o
theorem aFa{a b:ψ}(h:b≠0):(a/b).den<=a.den*b.num.natAbs:=by
 have d:b.num≠0:=λz=>h<|tf.mp z;have e:a/b=cD (a.num*(b.den:τ)) ((a.den:τ)*b.num):=by
  have f:=Fm.num_eq a;have g:=Fm.num_eq b;have c:(a.den:τ)≠0:=by have:=a.den_nz;exact 28
  refine Fm.eq_divInt (pd c d) ?_;rw[aq,aq,f,g,Ο,Ο];have:a/b*b=a:=n8 h;grind
 rw[e];have:=Fm.den_le (a.num*(b.den:τ)) (b:=(a.den:τ)*b.num)<|pd (by have:=a.den_nz;exact 28) d;rw[ck,fi]at this;exact this
theorem Mj:∀{n:ν},(∀t,t<n->0<=f t)->0<=cE n f
 |0,_=>fk
 |n+1,h=>by
  rw[cE];have a:=Mj (f:=f) (n:=n) λt b=>h t ‹3›;have c:=h n ‹48›;exact 44
theorem aKv(d:0<n)(b:Ir n x)(f:∀t,t<n->-Y<=y t/\y t<=Y):-Y<=oX x y n/\oX x y n<=Y:=by
 have o:=Ai d b;have a:∀e:ψ,(e=1\/e=-1)->0<=Y-e*oX x y n:=λe g=>by
  have i:Y-e*oX x y n=cE n λt=>(sg (n-1-t)*jE x n t)*(Y-e*(sg (n-1-t)*y t)):=by
   have j:(λt=>(sg (n-1-t)*jE x n t)*(Y-e*(sg (n-1-t)*y t)))=λt=>Y*(sg (n-1-t)*jE x n t)+(-e)*(jE x n t*y t):=by
    funext t
    have:=Ej<|n-1-t;grind
   rw[j,kF,eI,eI,o];unfold oX;grind
  rw[i];refine Mj λt c=>ew (iv<|uI c b) ?_;have:=f t c;rcases g with rfl|rfl <;>rcases fW (n-1-t)with h|h <;>rw[h] <;>grind
 have k:=a 1<|.inl rfl;have l:=a (-1)<|.inr rfl;exact⟨by grind,by grind⟩
theorem aKu(Z:CZ a)(o:0<c)(p:∀m∈a,Cm c Y m.2.1):(oX (xL a) (yL a) a.length).den<=c*10^173/\-(Y:ψ)<=oX (xL a) (yL a) a.length/\oX (xL a) (yL a) a.length<=(Y:ψ):=by
 have y:=Z.n5;have z:=Z.n2;have l:∀t,t<a.length->Cm c Y (yL a t):=λt b=>by
  unfold yL;rw[bC b];exact p _<|cq b
 refine⟨?_,aKv ‹0› Z.upF λt b=>⟨(l t b).lo,(l t b).hi⟩⟩;obtain⟨V,g,i,d⟩:=Mn (L:=c) (A:=10^17) (B:=32*Y) (f:=λt=>Wt (xL a) a.length t*yL a t) (m:=a.length) λt b=>by
  obtain⟨V,g,i,d⟩:=aGf Z b;exact⟨V,g,i,by have:=d.mul<|l t b;rwa [ie V]at this⟩
 obtain⟨U,C,q,r⟩:=Mn (L:=1) (A:=10^17) (B:=32) (f:=λt=>sg (a.length-1-t)*Wt (xL a) a.length t) (m:=a.length) λt b=>by
  obtain⟨V,g,i,d⟩:=aGf Z b;refine⟨V,g,i,?_⟩;rw[j0];rcases fW (a.length-1-t)with h|h <;>rw[h]
  ·rw[gk];exact d
  ·rw[show(-1:ψ)*Wt (xL a) a.length t=-Wt (xL a) a.length t by grind];exact d.neg
 have D:=kT ‹0› Z.upF;have e:oX (xL a) (yL a) a.length=cE a.length (λt=>Wt (xL a) a.length t*yL a t)/xY (xL a) a.length:=by
  have s:xY (xL a) a.length≠0:=‹41›
  have u:xY (xL a) a.length*oX (xL a) (yL a) a.length=cE a.length (λt=>Wt (xL a) a.length t*yL a t):=by
   unfold oX;rw[<-eI];refine dJ λt b=>?_;have:=tM (n:=a.length) ‹0› Z.upF t;grind
  rw[<-u,ml,we,<-kc,we (xY (xL a) a.length)⁻¹,i9 _ s,gk]
 have j:(10^17)^a.length<=10^85:=by rw[<-AI];exact eH (by decide) (by lia)
 have v:(cE a.length λt=>Wt (xL a) a.length t*yL a t).den<=c*10^85:=Β (d.den<|i4 o g)<|af _<|Β i j;have x:(xY (xL a) a.length).num.natAbs<=10^88:=by
  have k:Cm (1*U) (a.length*32) (xY (xL a) a.length):=r;refine Β k.num ?_;have:(xY (xL a) a.length).den<=10^85:=Β (k.den<|by lia) (by rw[j0];exact Β q j);exact Β (ai (show a.length*32<=160 by lia) this) (by decide +kernel)
 rw[e];refine Β (aFa<|‹41›)<|Β (ai v x) ?_;rw[gc];exact af _ (by decide +kernel)
theorem Yl{a:ε Mk}(Z:CZ a){nu:ε ψ}(b:nu.length+1=a.length)
  (h:∀t,t<nu.length->eE nu (xL a t)=yL a t-sg (nu.length-t)*oX (xL a) (yL a) a.length):
  ∀t,t<a.length->yL a t-eE nu (xL a t)=sg (a.length-1-t)*oX (xL a) (yL a) a.length:=λt c=>by
 have:=Ra (x:=xL a) (y:=yL a) (n:=nu.length) (by rw[b];exact Z.upF) rfl (by rw[b];exact h) t ‹48›;rw[b]at this;rw[this,show a.length-1-t=nu.length-t by lia]
noncomputable def fZ(a:ε Mk)(b:ε ν):ε Mk:=b.map λs=>a.getD s (0,0,0)
theorem gB(b:ε Mk)(a:ε ν):(fZ b a).length=a.length:=by unfold fZ;rw[θ]
theorem Pg(c:t<a.length):xL (fZ b a) t=xL b (a.getD t 0):=by
 unfold xL fZ;rw[bC (show t<(a.map λs=>b.getD s (0,0,0)).length by rw[θ];exact c),gm,bC c]
theorem aId(c:t<a.length):yL (fZ b a) t=yL b (a.getD t 0):=by
 unfold yL fZ;rw[bC (show t<(a.map λs=>b.getD s (0,0,0)).length by rw[θ];exact c),gm,bC c]
structure FZ(ms:ε Mk)(Ly:ν):Prop where
 n60:ms.length<=60
 up:ms.Pairwise λa b=>a.1<b.1
 x:∀m∈ms,Cm 2 60 m.1
 L0:0<Ly
 L1:Ly<=10^13
 y:∀m∈ms,Cm Ly (10^37) m.2.1
structure Cho(N n:ν)(ss:ε ν):Prop where
 len:ss.length=n
 up:ss.Pairwise (·<·)
 lt:∀s∈ss,s<N
theorem iX(c:∀s∈b,s<a.length):∀m∈fZ a b,m∈a:=λm d=>by
 obtain⟨s,e,rfl⟩:=Ν.mp d;rw[bC<|c s e];exact cq _
theorem Cho.at(C:Cho N n a)(b:t<n):a.getD t 0<N:=by
 rw[bC (by rw[C.len];exact b)];exact C.lt _<|cq _
theorem FZ.upF(Z:FZ a d):Ir a.length (xL a):=λi j b c=>by
 have:=fx.mp Z.up i j ‹5› c b;unfold xL;rw[bC<|‹5›,bC c];exact this
theorem FZ.cz(Z:FZ c j)(C:Cho c.length n g)(n2:2<=n)(n5:n<=5):CZ (fZ c g) where
 n2:=by rw[gB,C.len];exact n2
 n5:=by rw[gB,C.len];exact n5
 up:=by
  unfold fZ;rw[l5];refine Pairwise.imp_of_mem ?_ C.up;intro a b h i e;rw[bC<|C.lt a h,bC<|C.lt b i];exact fx.mp Z.up a b (C.lt a h) (C.lt b i) e
 x:=λm f=>((Z.x m<|iX C.lt m f).dg (by decide) (l:=1) (by decide) (b:=7)<|by decide).mono (by decide)
 d:=λm f o k=>((Z.x m<|iX C.lt m f).sub<|Z.x o<|iX C.lt o k).mono (i8 _) (by decide)
def kL(b:ε Mk)(a:ε ν):ψ:=oX (xL<|fZ b a) (yL<|fZ b a) a.length
theorem Ml:∀{n:ν},(∀t,t<n->Dg d (f t))->Dg ((d+1)*n) (cE n f)
 |0,_=>Dg.zero
 |n+1,h=>by
  rw[cE,AL];exact((Ml (f:=f) λt a=>h t<|‹3›).add<|h n<|‹48›).mono ‹48›
theorem wt_dg'(Z:CZ a)(b:t<a.length):Dg 30 (Wt (xL a) a.length t):=(Lp Z b a.length<|Η _).mono (by have:=Z.n5;lia)
theorem Jj(Z:CZ a)(b:t<a.length):Dg 186 (jE (xL a) a.length t):=by
 have f:=Z.n5;have g:=kT ‹37› Z.upF;have c:Dg 155 (xY (xL a) a.length):=by
  unfold xY;refine(Ml (d:=30) λt b=>?_).mono (by lia);rcases fW (a.length-1-t)with e|e <;>rw[e]
  ·rw[gk];exact wt_dg' Z b
  ·rw[show(-1:ψ)*Wt (xL a) a.length t=-Wt (xL a) a.length t by grind];exact(wt_dg' Z b).neg
 exact(wt_dg' Z b).div c ‹41›
theorem aBw(a:t<n)(b:Ir n x)(l:ψ):Sh (jE x n t) l=sg (n-1-t)*l:=by
 have h:=uI a b;unfold Sh;rcases fW (n-1-t)with e|e <;>rw[e]at h⊢
 ·rw[χ<|by grind,gk]
 ·rw[Α<|by grind];grind
noncomputable def yR(a:ε Mk):ε ψ:=(range a.length).map<|jE (xL a) a.length
theorem aCr(a:ε Mk):(yR a).length=a.length:=by unfold yR;rw[θ,ar]
theorem aKn(Z:CZ a)(l:ψ):Nm a (yR a) l=(range a.length).map λt=>(xL a t,yL a t-sg (a.length-1-t)*l,(a.getD t (0,0,0)).2.2):=by
 unfold Nm yR;refine jw (by simp) λi d c=>?_;have b:i<a.length:=by simpa using c
 rw[iq,gm,gm,ji,aBw b Z.upF];unfold xL yL;rw[bC b]
theorem Bv(Z:CZ a)(b:a.length=k+1)(l:ψ):(Nm a (yR a) l).dropLast=(range k).map λt=>(xL a t,yL a t-sg (k-t)*l,(a.getD t (0,0,0)).2.2):=by
 rw[aKn Z,b,ou,ay,u9,List.dropLast_concat];refine fu λt c=>?_;rw[show k+1-1-t=k-t by lia]
theorem aEd(a:ε Mk):((yR a).zip a).map (λz:ψ×Mk=>z.1*z.2.2.1)=(range a.length).map λt=>jE (xL a) a.length t*yL a t:=by
 unfold yR;refine jw (by simp) λi d b=>?_;have c:i<a.length:=by simpa using b
 rw[gm,List.getElem_zip,gm,gm,ji];unfold yL;rw[bC c]
theorem FZ.ydg(Z:FZ a c)(d:m∈a):Dg 51 m.2.1:=(Z.y m d).dg Z.L0 (l:=13) Z.L1 (b:=37)<|Η _
section
variable{ms:ε Mk}{Ly n:ν}{ss:ε ν}
theorem aHf(Z:FZ ms Ly)(C:Cho ms.length n ss)(c:2<=n)(d:n<=5):∀q∈(range (fZ ms ss).length).map λt=>jE (xL<|fZ ms ss) (fZ ms ss).length t*yL (fZ ms ss) t,Dg 238 q:=λq e=>by
 obtain⟨t,f,rfl⟩:=Ν.mp e;have a:=bA.mp f;refine(Jj (Z.cz C c d) a).mul (b:=51) ?_;unfold yL;rw[bC a];exact Z.ydg<|iX C.lt _<|cq _
theorem aQe(Z:FZ ms Ly)(C:Cho ms.length n ss)(a:2<=n)(b:n<=5)(i:ν):Dg 1195 (tot<|((range (fZ ms ss).length).map λt=>jE (xL<|fZ ms ss) (fZ ms ss).length t*yL (fZ ms ss) t).take i):=by
 refine(qV λq c=>aHf Z C a b q<|eo c).mono ?_;rw[aA,θ,ar,gB,C.len];have:(238+1)*min i n<=(238+1)*5:=af _ ‹50›;assumption
theorem aKs:tot ((range (fZ ms ss).length).map λt=>jE (xL<|fZ ms ss) (fZ ms ss).length t*yL (fZ ms ss) t)=kL ms ss:=by
 rw[qU,gB];rfl
theorem Ny(Z:FZ ms Ly)(C:Cho ms.length n ss)(d:2<=n)(e:n<=5):(kL ms ss).den<=Ly*10^173/\Cm (kL ms ss).den (10^37) (kL ms ss):=by
 obtain⟨a,b,c⟩:=aKu (Z.cz C d e) Z.L0 λm f=>Z.y m<|iX C.lt m f;rw[gB]at a b c;exact⟨a,i8 _,b,c⟩
theorem aEg(Z:FZ ms Ly)(C:Cho ms.length n ss)(c:2<=n)(d:n<=5):Dg 224 (kL ms ss):=by
 obtain⟨a,b⟩:=Ny Z C c d;refine b.dg (ig (kL ms ss).den_nz) (l:=186) (Β a ?_) (b:=37)<|Η _;exact Β (Χ _ Z.L1) (by decide +kernel)
theorem aPz(Z:FZ ms Ly)(C:Cho ms.length n ss)(d:2<=n)(f:n<=5){k:ν}(j:k+1=n):(∀m∈(Nm (fZ ms ss) (yR<|fZ ms ss)<|kL ms ss).dropLast,Cm 2 60 m.1)/\Cb 199 238 ((Nm (fZ ms ss) (yR<|fZ ms ss)<|kL ms ss).dropLast.map (·.2.1)):=by
 have o:=Z.cz C d f;rw[Bv o (k:=k)<|by rw[gB,C.len,j]];obtain⟨a,b⟩:=Ny Z C d f;generalize kL ms ss=l at a b⊢;have p:=ig l.den_nz;have g:∀t∈range k,t<(fZ ms ss).length:=λt c=>by have:=bA.mp c;rw[gB,C.len];lia
 have LL:Ly*l.den<=10^199:=Β (ai Z.L1<|Β a<|Χ _ Z.L1) (by decide +kernel);refine⟨λm r=>?_,Ly*l.den,i4 Z.L0 p,LL,λq i=>?_⟩
 ·obtain⟨t,c,rfl⟩:=Ν.mp r;show Cm 2 60 (xL (fZ ms ss) t);unfold xL;rw[bC<|g t c];exact Z.x _<|iX C.lt _<|cq _
 ·rw[jd]at i;obtain⟨t,c,rfl⟩:=Ν.mp i;have s:Cm Ly (10^37) (yL (fZ ms ss) t):=by
   unfold yL;rw[bC<|g t c];exact Z.y _<|iX C.lt _<|cq _
  have u:Cm l.den (10^37) (sg (k-t)*l):=by
   rcases fW (k-t)with e|e <;>rw[e]
   ·rw[gk];exact b
   ·rw[show(-1:ψ)*l=-l by grind];exact b.neg
  obtain⟨v,e,h⟩:=sU<|(s.mono (jk _ l.den)<|Η _).sub<|u.mono (nj _ Ly)<|Η _;exact⟨v,e,Β h<|Β (af _ LL)<|by decide +kernel⟩
theorem Xb(Z:FZ ms Ly)(C:Cho ms.length n ss)(e:2<=n)(f:n<=5)(g:k+1=n)(l:ψ):((Nm (fZ ms ss) (yR<|fZ ms ss) l).dropLast.map (·.1)).Nodup:=by
 have d:=Z.cz C e f;rw[Bv d (k:=k)<|by rw[gB,C.len,g],jd,md,l5];refine Pairwise.imp_of_mem ?_<|BV (n:=k);intro a b j h c z;have:=d.upF a b c (by rw[gB,C.len];have:=bA.mp h;lia);have i:xL (fZ ms ss) a=xL (fZ ms ss) b:=z;rw[i]at this;exact ς this (by grind)
noncomputable def mis(ms:ε Mk)(a:ε ψ)(i:ν):ψ:=yL ms i-eE a (xL ms i)
theorem Yk(Z:FZ ms Ly)(C:Cho ms.length n ss)(e:2<=n)(f:n<=5){nu:ε ψ}(i:nu.length+1=n)(h:∀m∈(Nm (fZ ms ss) (yR<|fZ ms ss)<|kL ms ss).dropLast,eE nu m.1=m.2.1):
  ∀t,t<n->mis ms nu (ss.getD t 0)=sg (n-1-t)*kL ms ss:=by
 have b:=Z.cz C e f;have c:=gB ms ss;rw[C.len]at c;rw[Bv b (k:=nu.length)<|‹48›]at h;have d:kL ms ss=oX (xL<|fZ ms ss) (yL<|fZ ms ss) (fZ ms ss).length:=by rw[gB];rfl
 have g:=Yl b (nu:=nu) ‹48› λt a=>by
  have:=h _<|Ν.mpr ⟨t,bA.mpr a,rfl⟩;rw[<-d];exact this
 intro t a;have:=g t ‹48›;rw[<-d,c,Pg (by rw[C.len];exact a),aId (by rw[C.len];exact a)]at this;exact this
theorem aNl(k:ν)(L:ψ):bZ (sg k*L)=bZ L:=by
 rcases fW k with e|e <;>rw[e]
 ·rw[gk]
 ·rcases eQ L with⟨q,a⟩|⟨q,a⟩ <;>rw[a]
  ·rw[wX<|by grind];grind
  ·rw[mR<|by grind];grind
theorem Nl(h:NewS n N v R L λt=>a.getD t 0)(c:a.length=n):Cho N n a where
 len:=c
 up:=by
  rw[fx];intro i j d e b;have:=h.up i j b ‹38›
  rwa [bC d,bC e]at this
 lt:=λs f=>by
  obtain⟨t,g,rfl⟩:=ly f;have:=h.lt t ‹38›
  rwa [bC g]at this
theorem aPl(a:e=1\/e=-1):e*q<=bZ q:=by
 rcases a with rfl|rfl <;>rcases eQ q with⟨c,e⟩|⟨c,e⟩ <;>rw[e] <;>grind
theorem aNc(Z:FZ ms Ly)(C:Cho ms.length n ss):Ir n (xL<|fZ ms ss):=λi j a b=>by
 rw[Pg (by rw[C.len];exact 5),Pg (by rw[C.len];assumption)];refine Z.upF _ _ ?_<|C.at b;rw[bC (by rw[C.len];exact 5),bC (by rw[C.len];assumption)];exact fx.mp C.up i j (by rw[C.len];exact 5) (by rw[C.len];assumption) a
theorem Xo(Z:FZ ms Ly)(r:nu.length+1=n)(k:∀i,i<ms.length->R i=mis ms nu i)(h:NewS n ms.length v R L λt=>a.getD t 0)(d:a.length=n):bZ L<bZ (kL ms a):=by
 have C:=Nl h d;obtain⟨e,f,m,s,j,o⟩:=h.turn;have b:∀t,t<n->R (a.getD t 0)=yL (fZ ms a) t-eE nu (xL (fZ ms a) t):=λt c=>by
  rw[k _<|C.at c,Pg<|‹48›,aId<|‹48›];rfl
 have g:=Rb (x:=xL<|fZ ms a) (y:=yL<|fZ ms a) (n:=n) (cs:=nu) (e:=e) (l:=bZ L) (aNc Z C) ‹48› f (λt c=>by rw[<-b t c];exact m t c) j (by rw[<-b s j];exact o);have p:=aPl (q:=oX (xL<|fZ ms a) (yL<|fZ ms a) n) f;unfold kL;rw[d];grind
noncomputable def cnt(ms:ε Mk)(ss:ε ν):ν:=((Us<|range ms.length).filter λc=>decide (bZ (kL ms ss)<bZ (kL ms c))).length
theorem aAu(C:Cho ms.length n a)(h:bZ (kL ms ss)<bZ (kL ms a)):cnt ms a<cnt ms ss:=
 aHp (f:=λc=>bZ<|kL ms c) (Ld C.up C.lt) h
end
theorem Og(d:Dg b x):∀{c:ε ψ},(∀n∈c,Dg a n)->Dg (c.length*(a+b+2)) (eE c x)
 |[],_=>by rw[kZ];exact Dg.zero
 |n::c,h=>by
  rw[eB,Ρ,yv];exact(((Og d λq e=>h q<|Θ _ e).mul d).add<|h n Κ).mono ‹48›
theorem aFi{b c:Type}(f:b->c){a:ε b}(h:0<a.length):eM (a.map f) none (γ<|-1)=a.dropLast.map f:=by
 unfold eM;rw[HT.sIx_none,mf,vy,θ];have e:HT.sIx a.length a.length (γ<|-1)=a.length-1:=by
  unfold HT.sIx;simp;lia
 rw[e,<-qm,sf]
theorem rN{c:Type}[DecidableEq c]{a:c}:∀{l:ε c},a∈l->∃j:ν,l[j]? =γ a/\∀m:ν,m<j->l[m]?≠γ a
 |[],h=>nomatch h
 |b::l,h=>by
  by_cases e:b=a
  ·exact⟨0,by rw[e];rfl,λm d=>ς d<|l7 _⟩
  ·obtain⟨j,f,g⟩:=rN (l:=l) (by
    rcases Ω.mp h with z|z
    ·exact ς z.symm e
    ·exact z)
   refine⟨j+1,by simpa using f,λm d=>?_⟩;cases m with
   |zero=>simpa using e
   |succ m=>simpa using g m ‹7›
theorem nB:∀a:ε ν,cZ (a.map eN)=true
 |[]=>rfl
 |p::a=>by
  have:=nB a;simp only[ak,cZ,mH,this,jj]
theorem vW:∀a:ε Mk,cZ (a.map bW)=true
 |[]=>rfl
 |p::a=>by
  have:=vW a;simp only[ak,cZ,mH,this,jj,fr]
theorem Qw(a:ε Mk)(b:ε ψ):fO a (a.map λm=>eE b m.1)=(range a.length).map (mis a b):=by
 unfold fO;refine jw (by simp) λi e c=>?_;have d:i<a.length:=by simpa using c
 rw[iq,gm,gm,ji];unfold mis xL yL;rw[bC d]
def BR(l b n m:ν)(s:Sl):Prop:=∃a c:ε ψ,s= .two (a.map fr) (c.map fr)/\a.length=n/\c.length=m/\Cb l b a/\∀q∈c,Dg 540 q
theorem Wb{L:ψ}{d:ν}:∀{r:ε<|ν×ψ}{a:ε ψ},(∀z∈r,Dg d z.2)->(∀q∈a,Dg d q)->∀q∈Nb L r a,Dg d q
 |[],_,_,h=>h
 |z::r,a,b,f=>by
  rw[Nb];refine Wb (λz g=>b z<|Θ _ g) λq c=>?_;split at c
  ·exact f q c
  ·rcases mw c with e|e
   ·exact f q e
   ·rw[e];unfold Sh;split
    ·exact(b z Κ).neg
    ·exact b z Κ
theorem Hv(T:Txt K mg A):Ex P w K mg base 8 (A.a 39) (A.d 39) (pr 39) (λp:ε Mk×ν=>[.list<|p.1.map bW,.int (p.2:τ)]) (λp=>p.2<=3/\p.2+2<=p.1.length/\∃Ly,FZ p.1 Ly)
  (λp=>BR 327 359 (p.2+1) p.1.length):=by
 refine q_ λwv=>?_;obtain⟨B,f,D⟩:=tH (P:=P) (w:=w) (base:=base) T;obtain⟨G,j,I⟩:=lG (P:=P) (w:=w) (base:=base) T;obtain⟨S,o,U⟩:=Ch (P:=P) (w:=w) (base:=base) T;apply wv
 refine oK (T.G 39).F sE (λ_=>rfl) (λb9 Ar outer s H E R=>have Z:=sE;⟨_,by walk_at"t",(aG (aR 2 (bB (vE (bR cI (vN 0 aB)) (vE (cB cG (aI 1) bI) aB))))
   (kE (lM (aE mK)) (aG (aR 3 (bK [none,γ 0] ["spot","marks"] (cC (aL 2)) (aJ 0) bM (bE (aL 1) (aI 0))))
   (aG (aR 4 (bB (vN 3 aB)))
   (sA 5 (aC (vE (bU (bK [none,none] ["share","mark"] (fU (aL 4) (aL 3)) (dW (bH (aJ 0) (bH (aJ 1) dY))) bM (aC (vN 0 (vE (eX 1 1) aB))))) aB)) (aG (aR 6 (bB (vE (bU (gP (mF (bB (vN 3 (vN 4 (vN 5 aB))))) gQ (cH (aE (xR (v:=(-1)) (gZ bI) (λex δ Q h=>Eq.mpr (bt (λz=>Q (.int z)) (by decide +kernel:((-1):τ)=-1)) h)))))) aB)))
   (aG (aR 7 (bB (vN 0 (vE (bU (bB (vN 6 (vN 0 aB)))) aB))))
   (aG (aR 8 (bK [none] ["miss"] (cC (aL 7)) (aJ 0) bM (aC (vN 0 aB))))
   (sA 9 (aC (vN 8 aB)) (aG (bD (tO qZ (aI 9) (aE (aC (vN 5 aB)))) (jP (Gk 6 (bB (vN 2 (vN 4 (vN 5 (vE (bR cI (vN 0 aB)) aB))))))) aQ)
   (aR 2 (bB (vN 2 (vN 7 (vE (Hy 8 (aI 9)) aB)))))))))))))))⟩) inferInstance ?_
 intro qQ0 qQ1 Q X k;refine q_ λwv=>?_;obtain⟨c,u⟩:=qQ0;obtain⟨b3,n2,Ly,Z⟩:=qQ1;apply wv;dsimp only at b3 n2 Z;have a0:=Z.n60;have a1:∀m∈c,Ok m.2.1:=λm W=>bX<|Z.ydg W;have a6:∀m∈c,Dg 4 m.1:=λm W=>(Z.x m W).dg (by decide) (l:=1) (by decide) (b:=2) (by decide);ac_nf;refine q_ λwv=>?_;obtain⟨d,es,sl,su,a2⟩:=f (c.length,u+2) ⟨by dsimp only;exact 48,by dsimp only;exact 48,n2,a0⟩;apply wv;dsimp only at sl a2;refine⟨(c.length,u+2),by dsimp only;rw[show((u+2:ν):τ)=(u:τ)+2 by lia],⟨by dsimp only;exact 48,by dsimp only;exact 48,n2,a0⟩,?_⟩;rw[es];ext;refine⟨nB _,?_⟩;refine⟨λm δ=>∃(d:ε ν)(o3 o4 o5 o6 o7 o8 o9:υ Sl),δ=[γ<|.dat<|.list<|c.map bW,γ<|.dat<|.int (u:τ),γ<|.own<|d.map eN,o3,o4,o5,o6,o7,o8,o9]/\Cho c.length (u+2) d/\m=cnt c d,⟨cnt c d,d,_,_,_,_,_,_,_,rfl,⟨sl,su,a2⟩,rfl⟩,?_⟩;clear sl su a2 es d;intro m δ qQ0;refine q_ λwv=>?_;obtain⟨d,o3,o4,o5,o6,o7,o8,o9,rfl,C,rfl⟩:=qQ0;apply wv;have cz:=Z.cz C ‹48› ‹48›;have cl:(fZ c d).length=u+2:=by rw[gB,C.len]
 have sl:=C.len;have c0:=aCr<|fZ c d;ext;ac_nf;refine bJ eN bW (λs:ν=>[c.getD s (0,0,0)]) d (by lia) (λQ h=>by ext;exact h) (λs hs N a7 hN=>?_) ?_
 ·have a8:=C.lt s hs;ext;exact⟨bW<|c.getD s (0,0,0),dR (by rw[cw,Ι a8,bC a8];rfl),hN⟩
 rw[aN,show d.map (λs=>c.getD s (0,0,0))=fZ c d from rfl];ac_nf;refine⟨fZ c d,rfl,cz,?_⟩;rw[show(range (fZ c d).length).map (jE (xL<|fZ c d) (fZ c d).length)=yR (fZ c d)from rfl];ext;refine⟨bP _,?_⟩;ac_nf;refine bJ (λz:ψ×Mk=>au [fr z.1,bW z.2]) fr (λz:ψ×Mk=>[z.1*z.2.2.1]) ((yR<|fZ c d).zip<|fZ c d) (by rw[eW];exact 50) (λQ h=>by ext;rw[cO];exact h) (λz hz N a7 hN=>?_) ?_
 ·have J:=(fm (a:=z.1) (b:=z.2) hz).1;have b5:=(fm (a:=z.1) (b:=z.2) hz).2;have o1:Ok z.1:=by
   unfold yR at J;obtain⟨t,ht,e⟩:=Ν.mp J;rw[<-e];exact bX<|Jj cz<|bA.mp ht
  ext;refine⟨_,_,rfl,o1,a1 _<|iX C.lt _ b5,?_⟩;ext;exact hN
 rw[aN,aEd];refine⟨_,rfl,λq y=>bX<|aHf Z C ‹48› ‹48› q y,λi=>bX<|aQe Z C ‹48› ‹48› i,?_⟩;rw[aKs];obtain⟨L,hL⟩:∃L,kL c d=L:=⟨_,rfl⟩;have oL:Ok L:=by rw[<-hL];exact bX (aEg Z C ‹48›<|‹48›)
 rw[hL];ext;ac_nf;refine⟨fZ c d,yR<|fZ c d,L,rfl,by lia,λm W=>a1 m<|iX C.lt m W,oL,?_⟩;ext;have c1:(Nm (fZ c d) (yR<|fZ c d) L).length=u+2:=by unfold Nm;rw[df];lia
 rw[aFi bW<|‹48›];have dl:(Nm (fZ c d) (yR<|fZ c d) L).dropLast.length=u+1:=by rw[mx];lia
 have a3:=aPz Z C ‹48› ‹48› (k:=u+1) rfl;rw[hL]at a3;have th:ThP (Nm (fZ c d) (yR<|fZ c d) L).dropLast 199 238:=⟨‹48›,Xb Z C ‹48› ‹48› (k:=u+1) rfl L,a3.1,a3.2,by decide,by decide⟩;refine q_ λwv=>?_;obtain⟨nu,en,nl,nh,a4⟩:=j (_,199,238) th;apply wv;dsimp only at en nl nh a4;refine⟨vW _,(_,199,238),rfl,th,?_⟩;rw[en];ext;refine⟨bP _,?_⟩;have a9:=a4.dg (e:=359) (by decide) (by decide);have M:=Yk Z C ‹48› ‹48› (nu:=nu) ‹48› (by rw[hL];exact nh);rw[hL]at M;have b0:∀m∈c,Dg 1460 (eE nu m.1):=λm W=>by
  refine(Og (a6 m W) a9).mono ?_;have:nu.length*(359+4+2)<=4*(359+4+2):=Χ _ ‹48›;assumption
 ac_nf;refine⟨nu,c,359,4,rfl,by lia,‹1›,a9,a6,Β (Χ _<|show nu.length<=4 by exact 48)<|by decide,?_⟩;ext;refine⟨bP _,?_⟩;refine⟨c,_,rfl,‹1›,a1,λq y=>?_,?_⟩
 ·obtain⟨m,W,rfl⟩:=Ν.mp y;exact bX<|b0 m W
 ext;refine⟨bP _,?_⟩;rw[Qw];obtain⟨r,O⟩:∃r,(range c.length).map (mis c nu)=r:=⟨_,rfl⟩;have rl:r.length=c.length:=by rw[<-O,θ,ar]
 have b1:∀i,i<c.length->r.getD i 0=mis c nu i:=λi hi=>by
  rw[bC<|‹48›];subst O;rw[gm,ji]
 have b2:∀q∈r,Ok q:=λq y=>by
  rw[<-O]at y;obtain⟨i,hi,rfl⟩:=Ν.mp y;have a5:=bA.mp hi;unfold mis xL yL;rw[bC a5];exact bX<|(Z.ydg<|cq a5).sub<|b0 _<|cq a5
 have b6:∀q∈r.map bZ,Ok q:=λq y=>by
  obtain⟨x,hx,rfl⟩:=Ν.mp y;have:=b2 x hx;exact⟨by have:=this.n;unfold Wee at *;rw[iK];assumption,this.d⟩
 rw[O];ac_nf;refine bJ fr fr (λq:ψ=>[bZ q]) r ‹10› (λQ h=>by ext;exact h) (λq y N a7 hN=>?_) ?_
 ·ext;refine⟨q,rfl,?_⟩;ext;exact hN
 rw[aN];ac_nf;refine⟨r.map bZ,rfl,b6,λh0=>?_,λg hg b7=>?_⟩
 ·have:(r.map bZ).length=0:=by rw[h0];rfl
  rw[θ]at this;lia
 ext;ac_nf;refine⟨L,rfl,?_⟩;ext;have top:∀i,i<c.length->bZ (mis c nu i)<=g:=λi hi=>by
  refine b7 _<|Ν.mpr ⟨mis c nu i,?_,rfl⟩;rw[<-O];exact Ν.mpr ⟨i,bA.mpr hi,rfl⟩
 refine⟨ψ,eRat,g,bZ L,rfl,rfl,λv hv=>?_⟩;cases v with
 |true=>
  have e:g=bZ L:=hv.mp rfl;ext;refine⟨d,yR<|fZ c d,L,c.length,rfl,‹48›,C.lt,a0,?_⟩;ext;refine⟨bP _,?_⟩;refine k _ ⟨nu,_,rfl,by dsimp only;exact 48,by rw[Ba,cf],a4,λq y=>?_⟩;refine Dg.mono (a:=186) ?_ (by decide);refine Wb (λz hz=>?_) (λq y=>by rw[(ke.mp y).2];exact Dg.zero) q y;have J:=(fm (a:=z.1) (b:=z.2) hz).2;unfold yR at J;obtain⟨t,ht,e⟩:=Ν.mp J;rw[<-e];exact Jj cz<|bA.mp ht
 |false=>
  have ne:g≠bZ L:=λz=>by have:=hv.mpr z;cases this
  refine q_ λwv=>?_;obtain⟨vi,Y,b8⟩:=rN hg;apply wv;have vl:vi<c.length:=by have:=(ρ.mp Y).1;rw[θ]at this;exact 38
  have vg:bZ (r.getD vi 0)=g:=by
   rw[cw,Ι<|‹48›]at Y;rw[bC<|‹48›];exact ba Y
  have lg:bZ L<=g:=by
   have h0:=M 0 ‹48›;have:=top _ (C.at<|show 0<u+2 by exact 48);rw[h0,aNl]at this;exact this
  ext;refine⟨g,r.map bZ,vi,rfl,rfl,Y,b8,by rw[θ];exact 10,?_⟩;have ep:ExP d r vi L:=⟨‹48›,‹48›,C.up,λs hs=>by rw[rl];exact C.lt s hs,‹10›,‹48›,b2,λt ht=>by rw[b1 _<|C.at<|‹38›,M t<|‹38›,sl],by rw[vg];grind⟩;refine q_ λwv=>?_;obtain⟨b4,e',l',N'⟩:=o ((d,r),vi,L) ep;apply wv;dsimp only at e' l' N';refine⟨((d,r),vi,L),rfl,ep,?_⟩;rw[e'];ext;rw[sl]at N' l';rw[rl]at N';have nx:=Xo Z (n:=u+2) (nu:=nu) ‹48› b1 N' l';rw[<-hL]at nx;have C':=Nl N' l';exact⟨nB _,cnt c b4,aAu C' nx,b4,_,_,_,_,_,_,_,rfl,C',rfl⟩
theorem Es(x:ψ)(a:ν):∀b:ν,x^(a+b)=x^a*x^b
 |0=>by rw[Nat.add_zero,kb,jq]
 |b+1=>by rw[<-Nat.add_assoc,fb,Es x a b,fb];exact 46
theorem aCc(a:ε Mk):tot (a.map λ_=>(0:ψ))=0:=by
 induction a with
 |nil=>rfl
 |cons m a b=>rw[ak,tot,b,lu]
noncomputable def oM(a:ε Mk)(f:Mk->ψ)(i:ν):ψ:=tot<|a.map λm=>(m.2.2:ψ)*f m*m.1^i
theorem aDx(a:ε Mk)(f g:Mk->ψ)(i:ν):oM a (λm=>f m+g m) i=oM a f i+oM a g i:=by
 unfold oM
 induction a with
 |nil=>simp[tot,lu]
 |cons m a b=>
  simp only[ak,tot];rw[b];grind
theorem Qv(a:ε Mk)(c:ψ)(k i:ν):oM a (λm=>c*m.1^k) i=c*oM a (λ_=>1) (k+i):=by
 unfold oM
 induction a with
 |nil=>simp[tot,oq]
 |cons m a b=>
  simp only[ak,tot];rw[b,Es];grind
theorem Xh(a:ε Mk)(i:ν):oM a (λ_=>0) i=0:=by
 unfold oM
 induction a with
 |nil=>rfl
 |cons m a b=>
  simp only[ak,tot];rw[b];grind
theorem Np(a:ε Mk)(y:ν->ψ)(i:ν):∀n,cE n (λj=>oM a (λ_=>1) (i+j)*y j)=oM a (λm=>eE (cX n y) m.1) i
 |0=>by
  have e:(λm:Mk=>eE (cX 0 y) m.1)=λ_=>0:=rfl;rw[e,Xh];rfl
 |n+1=>by
  have e:(λm:Mk=>eE (cX (n+1) y) m.1)=λm=>eE (cX n y) m.1+y n*m.1^n:=by
   funext m;exact Fe n y m.1
  rw[e,aDx a (λm=>eE (cX n y) m.1) λm=>y n*m.1^n,Qv,<-Np a y i n];show cE n _+oM a (λ_=>1) (i+n)*y n=_;rw[uf i n];grind
theorem Nq(a:ε Mk)(f:Mk->ψ)(y:ν->ψ):∀n,(∀i,i<n->oM a f i=0)->tot (a.map λm=>(m.2.2:ψ)*f m*eE (cX n y) m.1)=0
 |0,_=>by
  have e:(λm:Mk=>(m.2.2:ψ)*f m*eE (cX 0 y) m.1)=λm=>0:=by funext m;show _*eE [] m.1=0;rw[kZ,oq]
  rw[e];exact aCc a
 |n+1,h=>by
  have b:=Nq a f y n λi g=>h i ‹3›;have d:=h n ‹48›;have c:tot (a.map λm=>(m.2.2:ψ)*f m*eE (cX (n+1) y) m.1)=tot (a.map λm=>(m.2.2:ψ)*f m*eE (cX n y) m.1)+y n*oM a f n:=by
   unfold oM;clear b d h
   induction a with
   |nil=>simp[tot,oq,lu]
   |cons m a b=>
    simp only[ak,tot];rw[b,Fe];grind
  rw[c,b,d,oq,lu]
theorem rS:∀{qs:ε ψ},(∀q∈qs,0<=q)->tot qs=0->∀q∈qs,q=0
 |[],_,_,_,h=>by cases h
 |a::qs,f,e,q,h=>by
  have l:=f a Κ;have m:0<=tot qs:=by
   have:∀{d:ε ψ},(∀q∈d,0<=q)->0<=tot d:=λ{d}=>by
    induction d with
    |nil=>intro _;exact fk
    |cons b bs i=>
     intro g;have n:=g b Κ;have o:=i λq c=>g q<|Θ _ c;rw[tot];exact 44
   exact this λq c=>f q<|Θ _ c
  rw[tot]at e;have j:a=0:=by grind
  have k:tot qs=0:=by grind
  rcases Ω.mp h with rfl|h
  ·exact j
  ·exact rS (λq c=>f q<|Θ _ c) k q h
theorem Jw(hw:∀m∈d,1<=m.2.2)(p:(d.map (·.1)).Nodup)(C:n<=d.length)(h:∀i,i<n->oM d (λm=>eE (cX n y) m.1) i=0):∀j,j<n->y j=0:=by
 have r:=Nq d (λm=>eE (cX n y) m.1) y n h
 have s:=rS (qs:=d.map λm=>(m.2.2:ψ)*eE (cX n y) m.1*eE (cX n y) m.1) (λq t=>by
  obtain⟨m,f,rfl⟩:=Ν.mp t
  have l:(0:ψ)<=(m.2.2:ψ):=va.mpr (by have:=hw m f;exact 36)
  have s0:(0:ψ)<=eE (cX n y) m.1*eE (cX n y) m.1:=by
   rcases A4 (a:=0) (b:=eE (cX n y) m.1)with c|c
   ·exact ew c c
   ·have:=ew (show 0<=-eE (cX n y) m.1 by grind) (show 0<=-eE (cX n y) m.1 by grind)
    grind
  have:=ew l s0
  rw[kc];exact this) r
 have u:∀m∈d,eE (cX n y) m.1=0:=λm f=>by
  have e:=s _<|Ν.mpr ⟨m,f,rfl⟩;have l:(m.2.2:ψ)≠0:=λz=>by have:=qw.mp z;have:=hw m f;lia
  have g:=ja.mp e;rcases g with g|g
  ·rcases ja.mp g with o|o
   ·exact ς o l
   ·exact o
  ·exact g
 have k:=Vg n (cX n y) ((d.map (·.1)).take n) (Fc n y) (by rw[aA,θ];exact 50) (p.sublist (k6 _ _)) (λx v=>by
  obtain⟨m,f,rfl⟩:=Ν.mp<|eo v
  exact u m f)
 intro j B;exact k (y j)<|Ν.mpr ⟨j,bA.mpr B,rfl⟩
theorem oZ(f:Mk->ψ):∀a:ε Mk,(a.map f).zip a=a.map λm=>(f m,m)
 |[]=>rfl
 |m::a=>by rw[ak,qg,oZ f a];rfl
theorem Dy(h:a.length=b.length):∀j,fV a b j=jo (λt x=>t*x^j) a b
 |0=>by
  rw[fV];refine jw (by rw[df];lia) λi c d=>?_;rw[iq,kb,jq]
 |j+1=>by
  rw[fV,Dy h j];refine jw (by rw[df,df,df];exact 50) λi c d=>?_;rw[iq,iq,iq,fb,kc]
theorem Nn(a:ε Mk)(f:Mk->ψ)(j:ν):tot (fV (a.map λm=>(m.2.2:ψ)*f m) (a.map (·.1)) j)=oM a f j:=by
 rw[Dy<|by rw[θ,θ]];unfold oM
 congr 1
 induction a with
 |nil=>rfl
 |cons m a b=>rw[ak,ak,ak,l6,b]
theorem aFj{a:ε b}(h:f+n<=a.length):eM a (γ (f:τ)) (γ<|(f:τ)+(n:τ))=(a.drop f).take n:=by
 unfold eM;rw[show(f:τ)+(n:τ)=((f+n:ν):τ) by lia,HT.sIx_nat,HT.sIx_nat,iw<|‹51›,iw<|by lia,qv]
noncomputable def xC(a:ε Mk)(n i:ν):ε ψ:=((range n).map λj=>oM a (λ_=>1)<|i+j)++[oM a (λm=>m.2.1) i]
theorem Ve(a:ε Mk)(n i:ν):(xC a n i).length=n+1:=by simp[xC]
theorem Mt(h:j<n):(xC a n i).getD j 0=oM a (λ_=>1) (i+j):=by
 unfold xC;rw[Μ,dq (by rw[θ,ar];exact h)];simp[h]
theorem Vf(a:ε Mk)(n i:ν):(xC a n i).getD n 0=oM a (λm=>m.2.1) i:=by
 unfold xC;rw[Μ,bo (by rw[θ,ar];exact Η _)];simp
theorem xX{a b c d:Type}(f:b->c->d)(g:a->b)(h:a->c):∀l:ε a,jo f (l.map g) (l.map h)=l.map λx=>f (g x) (h x)
 |[]=>rfl
 |x::l=>by rw[ak,ak,ak,l6,xX f g h l]
theorem aFu(c:b=(range<|2*n-1).map λk=>oM a (λ_=>1) k)(d:rt=(range n).map λk=>oM a (λm=>m.2.1) k):
  nO ((range n).map λk=>(b.drop k).take n) rt=(range n).map (xC a n):=by
 unfold nO;rw[d,xX];refine fu λi e=>?_;have f:=bA.mp e;unfold xC
 congr 1
 rw[c];refine jw (by simp;exact 50) λj g h=>?_;simp
theorem aEf(y:ν->ψ):xJ n (xC a n i) y=oM a (λm=>eE (cX n y) m.1) i:=by
 rw[<-Np a y i n];unfold xJ;exact dJ λj b=>by rw[Mt b]
theorem Nr(d:a.length<=N)(hw:∀m∈a,m.2.2.natAbs<=W)(e:∀m∈a,Cm 2 X m.1)(g:∀m∈a,Cm L B<|f m):Cm (L*2^i) (N*(W*B*X^i)) (oM a f i):=by
 have j:∀m∈a,∀k,Cm (2^k) (X^k) (m.1^k):=λm b k=>by
  induction k with
  |zero=>rw[kb];exact Cm.int (i:=1) (show 1<=X^0 from Η _)
  |succ k l=>rw[fb,gi,gi];exact l.mul<|e m b
 unfold oM;have h:=Cm.tot (qs:=a.map λm=>(m.2.2:ψ)*f m*m.1^i) (L:=L*2^i) (B:=W*B*X^i) λq n=>by
  obtain⟨m,b,rfl⟩:=Ν.mp n;have c:=((Cm.int (i:=m.2.2) (B:=W)<|hw m b).mul<|g m b).mul<|j m b i;rw[j0]at c;exact c
 refine h.mono (i8 _) ?_;rw[θ];exact Χ _ d
theorem Ya{L M A C:ν}(a:Cm M C x)(d:1<=A):∀{nu:ε ψ},(∀n∈nu,Cm L A n)->Cm (L*M^nu.length) (A*(C+1)^nu.length) (eE nu x)
 |[],_=>Cm.zero
 |n::nu,h=>by
  have e:=Ya a d (nu:=nu) λc f=>h c<|Θ _ f;have g:=(h n Κ).mono (L':=L*M^(nu.length+1)) ⟨_,rfl⟩<|Η _;have b:=e.mul a;rw[show L*M^nu.length*M=L*M^(nu.length+1) by rw[gi,gc]]at b;rw[eB,Ρ];refine(b.add g).mono (i8 _) ?_;have p:1<=(C+1)^nu.length:=pf ‹48›;have i:A<=A*(C+1)^nu.length:=j2 _ p;rw[gi,<-gc,wb<|A*(C+1)^nu.length,t9];exact 48
def LL:ν:=2329089562800
theorem Sg:0<LL:=by decide
theorem Pm:LL<=10^13:=by decide
structure M7(ms:ε Mk):Prop where
 n5:ms.length<=5
 up:ms.Pairwise λa b=>a.1<b.1
 x:∀m∈ms,Cm 2 60 m.1
 y:∀m∈ms,Cm LL (10^6) m.2.1
 w:∀m∈ms,1<=m.2.2/\m.2.2<=4
theorem M7.ydg{a:ε Mk}(Z:M7 a){m:Mk}(c:m∈a):Dg 20 m.2.1:=(Z.y m c).dg Sg (l:=13) Pm (b:=6)<|Η _
theorem M7.xdg{a:ε Mk}(Z:M7 a){m:Mk}(c:m∈a):Dg 4 m.1:=(Z.x m c).dg (by decide) (l:=1) (by decide) (b:=2) (by decide)
theorem M7.nd{a:ε Mk}(Z:M7 a):(a.map (·.1)).Nodup:=by
 rw[md,l5];exact Z.up.imp λh=>‹42›
theorem M7.fz{a:ε Mk}(Z:M7 a):FZ a LL:=⟨by have:=Z.n5;exact 1,Z.up,Z.x,Sg,Pm,λm b=>(Z.y m b).mono (i8 _)<|by decide +kernel⟩
theorem M7.sub{b c:ε Mk}(Z:M7 b)(h:c.Sublist b):M7 c:=⟨Β h.length_le Z.n5,Z.up.sublist h,λm a=>Z.x m<|h.subset a,λm a=>Z.y m<|h.subset a,λm a=>Z.w m<|h.subset a⟩
theorem M7.mz{g:ε Mk}(Z:M7 g){x:ε ψ}{a c:ν}(j:x.length<=4)(h:Cb a c x)(f:a<=400/\c<=400:=by lia):∃V l b,MSz V (10^b) 4 l b 1 g (g.map λm=>eE x m.1)/\l<=a+15/\b<=c+8:=by
 obtain⟨V,k,o,p⟩:=h;refine⟨LL*(V*2^4),a+15,c+8,⟨by have:=Z.n5;exact 1,i4 Sg<|i4 k<|by decide,?_,Η _,by decide,λm d=>(Z.y m d).mono (jk _ _)<|eH (by decide)<|‹48›,λq i=>?_,λm d=>by have:=Z.w m d;lia,by lia⟩,‹48›,‹48›⟩
 ·have e:10^(a+15)=10^13*(10^a*10^2):=by rw[<-ij,<-ij];congr 1;exact 48
  rw[e];exact ai Pm (ai o<|by decide)
 ·obtain⟨m,d,rfl⟩:=Ν.mp i;have r:=Ya (Z.x m d) (A:=10^c) (pf<|by decide) (L:=V) λq i=>by
   obtain⟨n,e,h⟩:=p q i;exact aNa k e h
  refine r.mono (qk (qx _<|ub 2 j)<|nj _ _) ?_;rw[ij 10 c 8];exact af _ (Β (eH (by decide) j)<|by decide)
theorem wH(T:Txt K mg A):Ex P w K mg base 7 (A.a 38) (A.d 38) (pr 38) (λp:ε Mk×ν=>[.list<|p.1.map bW,.int (p.2:τ)]) (λp=>p.2<=3/\p.2+1<=p.1.length/\M7 p.1) (λp=>BR 254 254 (p.2+1) p.1.length):=by
 obtain⟨S,f,U⟩:=zR (P:=P) (w:=w) (base:=base) T
 refine oK (T.G 38).F lW (λ_=>rfl) (λb8 Ar outer s H E R=>have Z:=lW;⟨_,by walk_at"t",(aG (aR 2 (bK [none] ["mark"] (cC (aL 0)) (aJ 0) bM (cQ (aH (eX 2 0) (aH aX aO)))))
   (aG (aR 3 (bK [none,none] ["weight","mark"] (fU (aL 2) (aL 0)) (dW (bH (aJ 0) (bH (aJ 1) dY))) bM (aC (vN 0 (vE (eX 1 1) aB)))))
   (aG (aR 4 (bB (vN 0 (vN 2 (vE (cB cG (bO eZ bI (aI 1)) bI) aB)))))
   (aG (aR 5 (bK [none,γ 4,γ 1] ["power","moments","bend"] (IvS.e (iD (vE (cB cG (aI 1) bI) aB))) (aJ 0) bM (bU (gP (aL 1) (cH (aI 0)) (cH (bO cG (bO cG (aI 0) (aI 2)) bI))))))
   (aG (aR 6 (bB (vN 5 (vE (bU (bB (vN 0 (vN 3 (vE (cB cG (aI 1) bI) aB))))) aB))))
   (jP (Gk 6 (bB (vN 0 (vE (bU (bB (vN 6 (vN 0 aB)))) aB))))))))))⟩) inferInstance ?_
 intro qQ0 qQ1 Q X k;refine q_ λwv=>?_;obtain⟨c,a⟩:=qQ0;obtain⟨b3,n1,Z⟩:=qQ1;apply wv;dsimp only at b3 n1 Z;have a6:∀m∈c,1<=m.2.2:=λm h=>(Z.w m h).1;have n5:=Z.n5;have Y:∀m∈c,Dg 20 m.2.1:=λm d=>Z.ydg d;obtain⟨r,g⟩:∃r:ε ψ,c.map (λm=>(m.2.2:ψ))=r:=⟨_,rfl⟩;have lw:r.length=c.length:=by rw[<-g,θ]
 obtain⟨u,C⟩:∃u:ε ψ,c.map (λm=>(m.2.2:ψ)*m.2.1)=u:=⟨_,rfl⟩;have lh:u.length=c.length:=by rw[<-C,θ]
 have a7:∀m∈c,Dg 1 (m.2.2:ψ):=λm h=>Dg.int (by have:=Z.w m h;lia);have hL:∀q∈u,Cm LL (4*10^6) q:=λq G=>by
  rw[<-C]at G;obtain⟨m,d,rfl⟩:=Ν.mp G;have:=(Cm.int (i:=m.2.2) (B:=4) (by have:=Z.w m d;lia)).mul<|Z.y m d
  rwa [j0]at this
 ac_nf;refine bJ bW fr (λm:Mk=>[(m.2.2:ψ)]) c (by lia) (λQ h=>by ext;exact h) (λm d N a0 hN=>?_) ?_
 ·ext;exact hN
 rw[aN,g];ac_nf;refine bJ (λz:ψ×Mk=>au [fr z.1,bW z.2]) fr (λz:ψ×Mk=>[z.1*z.2.2.1]) (r.zip c) (by rw[eW];lia) (λQ h=>by ext;rw[cO];exact h) (λz hz N a0 hN=>?_) ?_
 ·have a8:=(fm hz).2;have a1:=(fm hz).1;rw[<-g]at a1;obtain⟨m',a9,e'⟩:=Ν.mp a1;have o1:Ok z.1:=by rw[<-e'];exact bX (a7 m' a9)
  ext;refine⟨_,_,rfl,o1,bX<|Y _ a8,?_⟩;ext;exact hN
 have e1:(r.zip c).map (λz:ψ×Mk=>z.1*z.2.2.1)=u:=by
  rw[<-g,<-C,oZ,jd];rfl
 rw[aN,e1];ac_nf
 have tz:TSz 1 4 2 60 0 1 1 2 (2*a+1) r (c.map (·.1)):=⟨by rw[lw,θ],by rw[θ];lia,by decide,by decide,by decide,by decide,by decide,by decide,λt ht=>by
  rw[<-g]at ht
  obtain⟨m,d,rfl⟩:=Ν.mp ht
  exact Cm.int (by have:=Z.w m d;lia),λx I=>by
  obtain⟨m,d,rfl⟩:=Ν.mp I
  exact Z.x m d,by lia⟩
 have b0:∀j,tot (fV r (c.map (·.1)) j)=oM c (λ_=>1) j:=λj=>by
  rw[<-Nn,<-g]
  congr 2
  exact fu λm _=>(jq _).symm
 have b1:∀j,tot (fV u (c.map (·.1)) j)=oM c (λm=>m.2.1) j:=λj=>by rw[<-Nn,<-C]
 refine⟨fS (Sy)<|fJ (n:=3)<|by lia,c,r,2*a+1,1,4,2,60,0,1,1,2,by rw[show((2*a+1:ν):τ)=2*(a:τ)+1 by lia],by lia,tz,?_⟩;ext;refine⟨bP _,?_⟩;obtain⟨D,J⟩:∃D,sZ r (c.map (·.1)) (2*a+1)=D:=⟨_,rfl⟩;have b9:D.length=2*a+1:=by rw[<-J];unfold sZ;rw[θ,ar]
 rw[J];ac_nf
 refine bJ (λk:ν=>bj (k:τ)) hG (λk:ν=>[(D.drop k).take (a+1)]) (range (a+1)) (by rw[ar];lia) (λQ h=>by
   ext
   refine⟨⟨by lia,by lia⟩,?_⟩
   have e:pV 0 ((a:τ)+1).toNat 1=(range<|a+1).map λk:ν=>bj (k:τ):=by
    unfold pV
    rw[show((a:τ)+1).toNat=a+1 by lia]
    exact fu λk _=>by rw[AK,sh]
   rw[e];exact h) (λq G N a0 hN=>?_) ?_
 ·have c0:=bA.mp G;ext;rw[jI,show(q:τ)+(a:τ)+1=(q:τ)+((a+1:ν):τ) by lia,aFj<|by lia];exact hN
 rw[aN];ac_nf
 have b2:TSz LL (4*10^6) 2 60 13 7 1 2 (a+1) u (c.map (·.1)):=⟨by rw[lh,θ],by rw[θ];lia,Sg,by decide,Pm,by decide,by decide,by decide,hL,λx I=>by
  obtain⟨m,d,rfl⟩:=Ν.mp I
  exact Z.x m d,by lia⟩
 refine⟨c,u,a+1,LL,4*10^6,2,60,13,7,1,2,by rw[show((a+1:ν):τ)=(a:τ)+1 by lia],by lia,b2,?_⟩;ext;refine⟨bP _,?_⟩;obtain⟨rt,L⟩:∃rt,sZ u (c.map (·.1)) (a+1)=rt:=⟨_,rfl⟩;have o:rt.length=a+1:=by rw[<-L];unfold sZ;rw[θ,ar]
 rw[L];have a2:D=(range<|2*(a+1)-1).map λk=>oM c (λ_=>1) k:=by
  rw[<-J,show 2*(a+1)-1=2*a+1 by lia];unfold sZ;exact fu λk _=>b0 k
 have a3:rt=(range<|a+1).map λk=>oM c (λm=>m.2.1) k:=by
  rw[<-L];unfold sZ;exact fu λk _=>b1 k
 have a4:=aFu a2 a3;have b4:∀i,i<a+1->xC c (a+1) i∈nO ((range<|a+1).map λk=>(D.drop k).take<|a+1) rt:=λi hi=>by
  rw[a4];exact Ν.mpr ⟨i,bA.mpr hi,rfl⟩
 have b5:∀y:ν->ψ,Hom (a+1) (nO ((range<|a+1).map λk=>(D.drop k).take<|a+1) rt) y->∀j,j<a+1->y j=0:=λy b6=>
  Jw a6 Z.nd n1 λi hi=>by rw[<-aEf];exact b6 _<|b4 i hi
 have a5:∀m∈c,m.2.2.natAbs<=4:=λm d=>by have:=Z.w m d;lia
 have b7:RowsDg (a+1) 14 14 29 (nO ((range<|a+1).map λk=>(D.drop k).take<|a+1) rt):=by
  refine⟨64,LL*2^3,10^14,10^29,by decide,by decide,i4 Sg<|by decide,?_,Η _,Η _,λx I=>?_⟩
  ·exact Β (Χ _ Pm) (by decide +kernel)
  ·rw[a4]at I;obtain⟨i,hi,rfl⟩:=Ν.mp I;have c1:=bA.mp hi;refine⟨Ve _ _ _,λj hj=>?_,?_⟩
   ·rw[Mt hj];have h1:Cm 1 1 (1:ψ):=Cm.int (i:=1) (by decide)
    have h2:=(Nr (i:=i+j) n5 a5 Z.x λ_ _=>h1).mono (L':=64) (B':=5*(4*1*60^6)) (by
     rw[j0]
     exact ub 2 (show i+j<=6 by lia)) (af _ (af _ (eH (by decide) (by lia))))
    obtain⟨v,e,hv⟩:=sU h2;exact⟨v,e,Β hv<|by decide +kernel⟩
   ·rw[Vf];have h2:=(Nr (i:=i) n5 a5 Z.x Z.y).mono (L':=LL*2^3) (B':=5*(4*10^6*60^3)) (qx LL<|ub 2<|show i<=3 by lia) (af _<|af _<|eH (by decide)<|by lia);obtain⟨v,e,hv⟩:=sU h2;refine⟨64*v,?_,?_⟩
    ·rw[aq,aq,<-e,Ο];grind
    ·rw[ck];exact Β (af _<|Β hv<|af _<|Χ _ Pm) (by decide +kernel)
 have g1:=Cf 14 (show a+1<=4 by lia);have g2:=Ce 14 29 (show a+1<=4 by lia);have g3:Oj 14 4=239:=rfl;have g4:Sk 14 29 4=254:=rfl
 have so:SoP ((range (a+1)).map λk=>(D.drop k).take (a+1)) rt 14 14 29:=⟨by rw[θ,ar,o],by lia,λx I=>by
   obtain⟨q,G,rfl⟩:=Ν.mp I
   have:=bA.mp G
   rw[aA,bx];lia,by rw[o];exact b7,by rw[o];lia,by rw[o];lia,by rw[o];exact b5⟩
 refine q_ λwv=>?_;obtain⟨x,es,M,_,O⟩:=f ((_,_),14,14,29) so;apply wv;dsimp only at es M O;refine⟨((_,_),14,14,29),rfl,so,?_⟩;rw[es];rw[o]at M O;have O:=O.mono (l':=254) (b':=254) (by lia) (by lia);ext;refine⟨bP _,?_⟩;have dn:=O.dg (e:=254) (by decide) (by decide);refine⟨x,c,254,4,rfl,by lia,by lia,dn,λm d=>Z.xdg d,Β (Χ _<|show x.length<=4 by lia)<|by decide,?_⟩;ext;refine⟨bP _,?_⟩;obtain⟨V,l,b,W,hl⟩:=Z.mz (by lia) O;refine⟨c,_,_,_,_,_,_,_,rfl,W,?_⟩;ext;refine⟨bP _,k _ ⟨x,_,rfl,M,by dsimp only;unfold dS fO;rw[df,df,θ];lia,O,λq G=>?_⟩⟩;exact((W.wmiss q G).dg W.pos W.pL<|fF W.pW<|fQ W.pB).mono (by lia)
def Ma:DW:=λa Q _=>∃b:τ,a=[.int b]/\0<=b/\b<=3/\Q (.dat<|.bool true)
theorem Ju:Q 1 36 (λ_=>Ma):=by
 refine jU 36 ["bend"] λA T R Z=>⟨_,by walk_at"t",_,(aW<|aE<|Kt (aE<|rP (by decide)<|aI 0)<|Kt (aE<|aLy<|aE<|rP (by decide)<|aI 0)<|Yt bI (aI 0) bI),?_⟩;rintro d Q X ⟨b,rfl,a,c,k⟩;ext;rw[Α<|by decide,Α<|by decide,Α a,cj c];exact k
instance:DtW Ma:=by walk_at"w"
theorem Cb.noughts{l b:ν}{a:ε ψ}(h:Cb l b a)(k:ν):Cb l b (a++cg k 0):=by
 obtain⟨L,c,d,e⟩:=h;refine⟨L,c,d,λq h=>?_⟩;rcases eg.mp h with h|h
 ·exact e q h
 ·rw[(ke.mp h).2];exact⟨0,oo _,hB _⟩
theorem Cb.cm{l b L B:ν}{a:ε ψ}(d:0<L)(c:L<=10^l)(h:∀q∈a,Cm L B q)(f:B*10^l<=10^b):Cb l b a:=⟨L,d,c,λq g=>by
 obtain⟨n,e,k⟩:=sU<|h q g
 exact⟨n,e,Β k (Β (af _ c) f)⟩⟩
theorem M7.cb{a:ε Mk}(Z:M7 a):Cb 13 19 (a.map (·.2.1)):=Cb.cm Sg Pm (B:=10^6) (λq b=>by
 obtain⟨m,c,rfl⟩:=Ν.mp b
 exact Z.y m c) (by decide)
theorem BR.mono{l b l' b' n m:ν}{s:Sl}(h:BR l b n m s)(a:l<=l')(c:b<=b'):BR l' b' n m s:=by
 obtain⟨d,f,e,g,i,j,k⟩:=h;exact⟨d,f,e,g,i,j.mono a c,k⟩
theorem wG(T:Txt K mg A):Ex P w K mg base 8 (A.a 37) (A.d 37) (pr 37) (λp:ε Mk×ν=>[.list<|p.1.map bW,.int (p.2:τ)]) (λp=>p.2<=3/\p.1.length<=p.2+1/\M7 p.1) (λp=>BR 141 140 (p.2+1) p.1.length):=by
 obtain⟨b,a,c⟩:=lG (P:=P) (w:=w) (base:=base) T
 refine oK (T.G 37).F lR (λ_=>rfl) (λi t outer s H E R=>have Z:=lR;⟨_,by walk_at"t",(aG (aR 2 (bB (vN 0 aB)))
   (aG (aR 3 (oJ (eA (bN (aH (nN T.k_NOUGHT) aO))) (bO cG (bO cG (aI 1) bI) (aE (bR cI (vN 2 aB))))))
   (jP (aPx (gY (Bu 2) (Bu 3)) (oJ (eA (bN (aH (nN T.k_NOUGHT) aO))) (aE (bR cI (vN 0 aB))))))))⟩) inferInstance ?_
 rintro⟨d,e⟩ ⟨j,l,Z⟩ Q X k;dsimp only at j l Z;have f:ThP d 13 19:=⟨by lia,Z.nd,Z.x,Z.cb,by decide,by decide⟩;refine q_ λwv=>?_;obtain⟨m,g,n,_,h⟩:=a (d,13,19) f;apply wv;dsimp only at g n h;ac_nf;refine⟨(d,13,19),rfl,f,?_⟩;rw[g];ext;refine⟨bP _,?_⟩;ac_nf;have o:((e:τ)+1-(m.length:τ)).toNat=e+1-d.length:=by lia
 rw[o,Ap,cy,Ap];refine⟨⟨by lia,by lia⟩,by lia,by rw[θ,cf];lia,⟨‹29›,by lia⟩,by lia,?_⟩;rw[<-ay];exact k _ ⟨_,_,rfl,by dsimp only;rw[Γ,cf];lia,cf,h.noughts _,λq r=>by rw[(ke.mp r).2];exact Dg.zero⟩
theorem xQ(T:Txt K mg A):Ex P w K mg base 9 (A.a 35) (A.d 35) (pr 35) (λp:Ξ×ε Mk×ν=>[.str p.1,.list<|p.2.1.map bW,.int (p.2.2:τ)]) (λp=>(p.1="far"\/p.1="square")/\p.2.2<=3/\M7 p.2.1) (λp s=>(p.1="far"->BR 327 359 (p.2.2+1) p.2.1.length s)/\(p.1="square"->BR 254 254 (p.2.2+1) p.2.1.length s)):=by
 refine q_ λwv=>?_;obtain⟨j,a,l⟩:=wG (P:=P) (w:=w) (base:=base) T;obtain⟨o,f,q⟩:=Hv (P:=P) (w:=w) (base:=base) T;obtain⟨m,d,n⟩:=wH (P:=P) (w:=w) (base:=base) T;apply wv
 refine oK (T.G 35).F nU (λ_=>rfl) (λv y outer s H E R=>have Z:=nU;⟨_,by walk_at"t",(aG (bD (pG (oA (lM (aE (rP (by decide) (aI 0))))) (tO yV (aI 0) (aE (cQ (aH aP (aH aP aO)))))) yK aQ)
   (aG (bD (oA (lM (aE (aC (vN 2 aB))))) yK aQ)
   (aG (bD (tO eR (aE (bR cI (vN 1 aB))) (bO cG (aI 2) bI)) (gT (vN 1 (vN 2 aB))) aQ)
   (aG (bD (tO cJ (aI 0) (aE aP)) (gT (vN 1 (vN 2 aB))) aQ)
   (gT (vN 1 (vN 2 aB)))))))⟩) inferInstance ?_
 intro qQ0 qQ1 Q X k;refine q_ λwv=>?_;obtain⟨z,g,i⟩:=qQ0;obtain⟨u,r,Z⟩:=qQ1;apply wv;dsimp only at u r Z;have B:=Z.n5;rcases u with rfl|rfl
 ·ac_nf;rw[χ<|by decide];refine⟨_,Yu,⟨"far",by decide +kernel⟩,[⟨"far",by decide +kernel⟩,⟨"square",by decide +kernel⟩],rfl,rfl,λb t=>?_⟩;rw[t.mpr<|by simp];clear t b;ac_nf;refine⟨_,rfl,‹29›,‹19›,?_⟩;ext;ac_nf;refine bT (λc=>?_) (λc=>?_)
  ·have pr:i<=3/\g.length<=i+1/\M7 g:=⟨r,‹20›,Z⟩;obtain⟨_,_,e,h⟩:=a (g,i) pr;refine⟨(g,i),rfl,pr,?_⟩;rw[e];exact k _ ⟨λ_=>BR.mono ⟨_,_,rfl,h⟩ (by decide)<|by decide,λe=>ς e<|show ¬("far":Ξ)="square" by decide⟩
  ac_nf;have pr:i<=3/\i+2<=g.length/\∃x,FZ g x:=⟨r,by lia,_,Z.fz⟩;obtain⟨_,_,e,h⟩:=f (g,i) pr;refine⟨(g,i),rfl,pr,?_⟩;rw[e];exact k _ ⟨λ_=>⟨_,_,rfl,h⟩,λe=>ς e<|show ¬("far":Ξ)="square" by decide⟩
 ·ac_nf;rw[χ<|by decide];refine⟨_,Yu,⟨"square",by decide +kernel⟩,[⟨"far",by decide +kernel⟩,⟨"square",by decide +kernel⟩],rfl,rfl,λb t=>?_⟩;rw[t.mpr<|by simp];clear t b;ac_nf;refine⟨_,rfl,‹29›,‹19›,?_⟩;ext;ac_nf;refine bT (λc=>?_) (λc=>?_)
  ·have pr:i<=3/\g.length<=i+1/\M7 g:=⟨r,‹20›,Z⟩;obtain⟨_,_,e,h⟩:=a (g,i) pr;refine⟨(g,i),rfl,pr,?_⟩;rw[e];exact k _ ⟨λe=>ς e<|show ¬("square":Ξ)="far" by decide,λ_=>BR.mono ⟨_,_,rfl,h⟩ (by decide)<|by decide⟩
  ac_nf;rw[χ<|by decide];have pr:i<=3/\i+1<=g.length/\M7 g:=⟨r,by lia,Z⟩;obtain⟨_,_,e,h⟩:=d (g,i) pr;refine⟨(g,i),rfl,pr,?_⟩;rw[e];exact k _ ⟨λe=>ς e<|show ¬("square":Ξ)="far" by decide,λ_=>⟨_,_,rfl,h⟩⟩
abbrev Pr:=ψ×ψ
noncomputable def Qg(z:Pr):η:=.tuple [fr z.1,fr z.2]
theorem Ey:∀a:ε Pr,cZ (a.map Qg)=true
 |[]=>rfl
 |z::a=>by
  have:=Ey a;simp only[ak,cZ,Qg,mH,fr,this,jj]
theorem Tx(h:a.Perm b):tot a=tot b:=by
 induction h with
 |nil=>rfl
 |cons x _ c=>simp only[tot,c]
 |swap x y l=>simp only[tot];grind
 |trans _ _ d e=>rw[d,e]
theorem Ty:∀{a:ε ψ},(∀q∈a,0<=q)->0<=tot a
 |[],_=>fk
 |x::a,h=>by
  have c:=h x Κ;have d:=Ty (a:=a) λq b=>h q<|Θ _ b;simp only[tot];exact 44
theorem aCb:∀{a:ε ψ},a≠[]->(∀q∈a,0<q)->0<tot a
 |[],h,_=>ς rfl h
 |x::a,_,h=>by
  have c:=h x Κ;have d:=Ty (a:=a) λq b=>by have:=h q<|Θ _ b;exact 40
  simp only[tot];grind
theorem Li{a:ε Pr}{j:ν}(e:k=(j:τ))(h:j<a.length):kC (a.map Qg) k=γ (Qg a[j]):=by
 rw[Dc (xs:=a) Qg (by lia)<|by lia,e,cy];simp[h]
theorem Bb{a:Type}(p:a->Prop)[DecidablePred p]:∀l:ε a,(l.flatMap λx=>if p x then[x]else[]).length<=l.length
 |[]=>Η _
 |x::l=>by
  have:=Bb p l;rw[wc,Γ,Ρ];split
  ·rw[fj];exact 48
  ·rw[km];lia
theorem Ht(T:Txt K mg A):Ex P w K mg base 2 (A.a 28) (A.d 28) (pr 28) (λp:ε ψ×ε ψ=>[.list<|p.1.map fr,.list<|p.2.map fr])
  (λp=>p.1.length=p.2.length/\p.1.length<=60/\∀q∈p.1,Ok q) (λp s=>∃d:ε Pr,s= .own (d.map Qg)/\d.Perm (p.1.zip p.2)):=by
 refine oK (T.G 28).F sB (λ_=>rfl) (λy M outer s H E R=>have Z:=sB;⟨_,by walk_at"t",(aG (aR 2 (bN aO))
   (aG (dU (Xv (aY 0) (aY 1)) (dW (bH (aJ 3) (bH (aJ 4) dY)))
    (sA 5 (bR cI (vE (bU (bK [none,γ 3] ["pair","one"] (cC (aL 2)) (aJ 0) (lM (aE (aC (vE (eX 0 0) (vN 1 aB))))) (aY 0))) aB)) (Uj 2 (aI 5) (cQ (aH (aY 3) (aH (aY 4) aO))))))
   (dM 2)))⟩) inferInstance ?_
 rintro⟨f,g⟩ ⟨B,l,t⟩ Q X k;dsimp only at B l t;have O:(f.zip g).length<=60:=by rw[eW];exact 50
 have u:∀z∈f.zip g,Ok z.1:=λz h=>t _ (fm (a:=z.1) (b:=z.2) h).1;ac_nf
 refine cV (eF (λz:Pr=>au [fr z.1,fr z.2]) (f.zip g) (λQ h=>by
   ext
   rw[cO];exact h)
  (λi m=>∃(d:ε Pr)(n o r:υ Sl),m=[γ<|.dat<|.list<|f.map fr,γ<|.dat<|.list<|g.map fr,γ<|.own<|d.map Qg,n,o,r]/\d.Perm ((f.zip g).take i))
  ⟨[],_,_,_,rfl,.nil⟩ ?_ ?_)
 ·intro i z m v qQ0;refine q_ λwv=>?_;obtain⟨d,n,o,r,rfl,e⟩:=qQ0;apply wv;have S:d.length<=60:=by have:=e.length_eq;rw[aA]at this;lia
  have C:∀x∈d,Ok x.1:=λx D=>u x<|eo<|e.mem_iff.mp D;have G:=u z<|ao v;have I:(d.flatMap λx:Pr=>if x.1<z.1 then[x]else[]).length<=d.length:=Bb _ d;ac_nf;refine bJ Qg Qg (λx:Pr=>if x.1<z.1 then[x]else[]) d ‹1› (λQ h=>h) (λx h N J j=>?_) ?_
  ·ext;refine⟨x.1,z.1,rfl,C x h,G,?_⟩;ext;by_cases c:x.1<z.1
   ·rw[Α c];rw[Α c]at j;exact j
   ·rw[χ c];rw[χ c]at j;simpa using j
  ext;generalize (d.flatMap λx:Pr=>if x.1<z.1 then[x]else[]).length=c at I⊢;have L:take c (d.map Qg)++au [fr z.1,fr z.2]::drop c (d.map Qg)=(d.take c++z::d.drop c).map Qg:=by
   rw[ay,ak,qm,y8];rfl
  rw[cy,L];refine⟨‹29›,‹19›,‹6›,_,_,_,_,rfl,?_⟩;rw[jA v];refine List.Perm.trans xb ?_;rw[mi];exact(ox z d).symm.trans<|e.append_right [z]
 ·intro m qQ0;refine q_ λwv=>?_;obtain⟨d,n,o,r,rfl,e⟩:=qQ0;apply wv;ext;rw[bg<|Η _]at e;exact k _ ⟨d,rfl,e⟩
theorem qK(T:Txt K mg A):Ex P w K mg base 4 (A.a 27) (A.d 27) (pr 27) (λp:ε ψ×ε ψ=>[.list<|p.1.map fr,.list<|p.2.map fr])
  (λp=>p.1.length=p.2.length/\1<=p.1.length/\p.1.length<=5/\(∀q∈p.1,Ok q)/\∀v∈p.2,0<v/\Dg 10 v) (λp s=>∃x∈p.1,s= .dat (fr x)):=by
 obtain⟨o,f,r⟩:=Ht (P:=P) (w:=w) (base:=base) T
 refine oK (T.G 27).F pR (λ_=>rfl) (λW Ar outer s H E R=>have Z:=pR;⟨_,by walk_at"t",(aG (aR 2 (bB (vN 0 (vN 1 aB))))
   (sA 3 (aC (vN 1 aB)) (sA 4 aX (sA 5 (oQ 1 (bE (aL 2) bI)) (aG (kE (lM (aE (aC (vE (aC (vN 5 (vN 5 aB))) (vN 3 aB))))) (sA 4 (cB cG (aI 4) bI) (eY (aC (vN 5 (vE (oQ 1 (bE (aL 2) (aI 4))) aB))) (aJ 5))))
   (aW (aE (oQ 0 (bE (aL 2) (aI 4))))))))))⟩) inferInstance ?_
 intro qQ0 qQ1 Q X k;refine q_ λwv=>?_;obtain⟨B,g⟩:=qQ0;obtain⟨C,Y,n5,G,y⟩:=qQ1;apply wv;dsimp only at C Y n5 G y;have t:∀{l:ε ψ},l.length<=5->(∀v∈l,Dg 10 v)->Dg 55 (tot l):=λ{l} h1 h2=>(qV h2).mono (by lia);ac_nf;obtain⟨d,M,D⟩:=f (B,g) ⟨C,by dsimp only;exact 1,G⟩;dsimp only at M D;refine⟨(B,g),rfl,⟨C,by dsimp only;exact 1,G⟩,?_⟩;rw[M];have pl:d.length=B.length:=by rw[D.length_eq,eW];exact 50
 have I:(B.zip g).map (·.2)=g:=List.map_snd_zip ‹48›;have N:(d.map (·.2)).Perm g:=by rw[<-I];exact D.map _
 have pv:∀v∈d.map (·.2),0<v/\Dg 10 v:=λv h=>y v<|N.mem_iff.mp h;have u:∀s,Dg 55 (tot<|(d.take s).map (·.2)):=λs=>t (by rw[θ,aA];exact 50) λv h=>by
  rw[qm]at h;exact(pv v<|eo h).2
 have J:Dg 55 (tot g):=t (by lia) λv h=>(y v h).2;have O:0<tot g:=aCb (λe=>by rw[e,km]at C;lia) λv h=>(y v h).1;ext;refine⟨Ey _,?_⟩;ac_nf;refine⟨g,rfl,λv h=>bX (y v h).2<|by decide,λi=>bX<|t (by rw[aA];exact 50) λv h=>(y v<|eo h).2,?_⟩;ac_nf;ac_nf;refine⟨_,Li (j:=0) rfl<|by lia,?_⟩;ac_nf;have s1:tot ((d.take 1).map (·.2))=d[0].2:=by
  rw[jA<|Ι<|show 0<d.length by lia];simp[tot,lu]
 refine⟨λm S=>∃s:ν,s<d.length/\m=d.length-s/\S=[γ<|.dat<|.list<|B.map fr,γ<|.dat<|.list<|g.map fr,γ<|.own<|d.map Qg,γ<|.dat<|fr<|tot g,γ<|.dat<|.int (s:τ),γ<|.dat<|fr<|tot<|(d.take<|s+1).map (·.2)],⟨_,0,by lia,rfl,by rw[s1];rfl⟩,?_⟩;intro m S qQ0;refine q_ λwv=>?_;obtain⟨s,U,rfl,rfl⟩:=qQ0;apply wv;have L:=bX<|u<|s+1;have d2:Dg 111 (tot ((d.take<|s+1).map (·.2))+tot ((d.take<|s+1).map (·.2))):=(u<|s+1).add<|u<|s+1;ext;refine⟨_,_,rfl,L,L,?_⟩;ext;refine⟨_,_,rfl,bX d2,bX J,?_⟩;ext;refine bT (λc=>?_) λc=>?_
 ·have n:s+1<d.length:=gp.mp λz=>by
   rw[bg<|‹24›,Tx N]at c;grind
  ac_nf;refine⟨_,Li (j:=s+1) (by lia) n,?_⟩;have ov:Ok d[s+1].2:=bX (pv _<|Ν.mpr ⟨_,cq n,rfl⟩).2 (by decide);refine⟨_,_,rfl,L,ov,?_⟩;ext;refine⟨d.length-(s+1),‹50›,s+1,n,rfl,?_⟩;rw[jA<|Ι n,ay,Ae];simp[tot,lu]
 ·ext;refine⟨_,Li (j:=s) rfl U,?_⟩;exact k _ ⟨d[s].1,(fm (a:=d[s].1) (b:=d[s].2)<|D.mem_iff.mp<|cq U).1,rfl⟩
theorem zC{b:Type}(f g:b->η):∀a:ε b,pairD (a.map f) (a.map g)=a.map λx=>au [f x,g x]
 |[]=>by simp[Dl.pairD]
 |x::a=>by
  have:=zC f g a;simp[Dl.pairD,this]
theorem Dw{b:Type}(f g h:b->η):∀a:ε b,triD (a.map f) (a.map g) (a.map h)=a.map λx=>au [f x,g x,h x]
 |[]=>by simp[Dl.triD]
 |x::a=>by
  have:=Dw f g h a;simp[Dl.triD,this]
theorem sJ(q:ψ):0<q.num↔0<q:=by
 have a:=@rp<|-q;have b:(-q).num=-q.num:=rfl;rw[b]at a;have c:(0<=-q)↔¬0<q:=by rw[lj];constructor <;>intro <;>grind
 rw[c]at a;constructor
 ·intro h;exact gp.mp λz=>by have:=a.mpr z;lia
 ·intro h;exact Int.not_le.mp λz=>ς h (a.mp<|by lia)
noncomputable def frI(n:τ):η:=fr (n:ψ)
theorem rM:∀a:ε τ,cZ (a.map frI)=true
 |[]=>rfl
 |n::a=>by
  have:=rM a;simp only[ak,cZ,frI,mH,fr,this,jj]
theorem vV(f:Mk->ψ):∀a:ε Mk,fO a (a.map f)=a.map λm=>m.2.1-f m
 |[]=>rfl
 |m::a=>by
  have b:=vV f a;unfold fO at b⊢;rw[ak,ak,l6,b]
def LM:ν:=2*LL*232792560
theorem LM0:0<LM:=by decide
theorem LM1:LM<=10^22:=by decide
theorem LLM:LL∣LM:=⟨2*232792560,by decide⟩
theorem aRc{n:ν}(a:1<=n)(b:n<=20):n∣232792560:=by
 have:∀m:Fin 21,1<=m.val->m.val∣232792560:=by decide
 exact this ⟨n,‹6›⟩ a
theorem aNb{L B n:ν}{t:ψ}(d:0<L)(a:1<=n)(h:Cm L (B*n) t):Cm (L*n) B (t/(n:ψ)):=by
 have b:(0:ψ)<(n:ψ):=by have:=qQ a;have e:((1:ν):ψ)=1:=rfl;grind
 obtain⟨v,e,_⟩:=sU h;have c:t/(n:ψ)*(n:ψ)=t:=n8 ‹41›;have f:=h.lo;have g:=h.hi;rw[hE]at f g;refine⟨Ck (n:=v) (by have:=i4 d a;exact 34) (by rw[hE,<-e];grind),?_,?_⟩
 ·refine lj.mp λz=>?_;have:=hJ z b;grind
 ·refine lj.mp λz=>?_;have:=hJ z b;grind
theorem aGg{B:ν}:∀{ms:ε Mk},(∀m∈ms,Cm LL B m.2.1)->(∀m∈ms,1<=m.2.2/\m.2.2<=4)->∃W:ν,ms.length<=W/\W<=4*ms.length/\tot (ms.map λm=>(m.2.2:ψ))=(W:ψ)/\Cm LL (B*W) (tot<|ms.map λm=>(m.2.2:ψ)*m.2.1)
 |[],_,_=>⟨0,by decide,by decide,rfl,Cm.zero⟩
 |m::ms,h,hw=>by
  obtain⟨W,g,j,e,c⟩:=aGg (ms:=ms) (λm a=>h m<|Θ _ a) λm a=>hw m<|Θ _ a;have a:=hw m Κ;obtain⟨v,d⟩:=Int.eq_ofNat_of_zero_le (show 0<=m.2.2 by lia);have f:(m.2.2:ψ)=(v:ψ):=by rw[d];exact Ο v
  refine⟨v+W,by rw[Ρ];lia,by rw[Ρ];lia,?_,?_⟩
  ·rw[ak,tot,e,f,xk]
  ·rw[ak,tot];have b:=(Cm.int (i:=m.2.2) (B:=v)<|by lia).mul<|h m Κ;rw[j0]at b;exact(b.add c).mono (i8 _) (by rw[wb,ie v];exact Η _)
def kP:ψ:=cD 1 2
theorem M7.ok{a:ε Mk}(Z:M7 a):∀q∈a.map (λm:Mk=>m.2.1),Ok q:=λq b=>by
 obtain⟨m,c,rfl⟩:=Ν.mp b;exact bX<|Z.ydg c
theorem Sn{b:Type}(f g:Mk->b):∀a:ε Mk,(a.map f).zip (a.map g)=a.map λm=>(f m,g m)
 |[]=>rfl
 |m::a=>by rw[ak,ak,qg,Sn f g a];rfl
theorem nab{x:τ}{n:ν}(h:-(n:τ)<=x)(k:x<=n):x.natAbs<=n:=by lia
theorem aTo{x:τ}{n:ν}(h:x.natAbs<=n):-(n:τ)<=x/\x<=n:=by lia
theorem Ur:∀{l:ε τ},(∀x∈l,x.natAbs<=4)->l.sum.natAbs<=4*l.length
 |[],_=>by decide
 |x::l,h=>by
  rw[zj,Ρ,AL,uf];exact Β (jg _ _)<|jv (h x Κ)<|Ur (l:=l) λx a=>h x<|Θ _ a
theorem fP(T:Txt K mg A):Ex P w K mg base 5 (A.a 26) (A.d 26) (pr 26) (λp:Ξ×ε Mk=>[.str p.1,.list<|p.2.map bW])
  (λp=>p.1∈cK/\1<=p.2.length/\M7 p.2) (λp s=>∃x,s= .dat (fr x)/\Cm LM (2*10^6) x):=by
 obtain⟨o,g,r⟩:=qK (P:=P) (w:=w) (base:=base) T
 refine oK (T.G 26).F lT (λ_=>rfl) (λa0 Ar outer s H E R=>have Z:=lT;⟨_,by walk_at"t",(aG (aR 2 (bK [none] ["mark"] (cC (aL 1)) (aJ 0) bM (eX 1 0)))
   (aG (bD (tO cJ (aI 0) (aE aP)) (aW (aE (aC (vE (cQ (aH aX (aH aX aO))) (vE (aC (vE (aC (vN 2 aB)) (vE (aC (vN 2 aB)) aB))) aB))))) aQ)
   (aG (aR 3 (bK [none] ["mark"] (cC (aL 1)) (aJ 0) bM (cQ (aH (eX 2 0) (aH aX aO)))))
   (aG (bD (tO cJ (aI 0) (aE aP)) (aW (aE (aC (vN 2 (vN 3 aB))))) aQ)
   (aG (aR 4 (bK [none,none] ["weight","height"] (fU (aL 3) (aL 2)) (dW (bH (aJ 0) (bH (aJ 1) dY))) bM (aC (vN 0 (vN 1 aB)))))
   (aW (aE (aC (vE (aC (vN 4 aB)) (vE (aC (vN 3 aB)) aB))))))))))⟩) inferInstance ?_
 intro qQ0 qQ1 Q X k;refine q_ λwv=>?_;obtain⟨kd,f⟩:=qQ0;obtain⟨L,U,Z⟩:=qQ1;apply wv;dsimp only at L U Z;have n5:=Z.n5;have j:=Z.ok;have t:∀q∈f.map (λm:Mk=>m.2.1),Cm LL (10^6) q:=λq hq=>by
  obtain⟨m,y,rfl⟩:=Ν.mp hq;exact Z.y m y
 have z:f.map (λm:Mk=>m.2.1)≠[]:=λe=>by
  have:=bt length e;rw[θ,km]at this;lia
 ac_nf;refine bJ bW fr (λm:Mk=>[m.2.1]) f ‹1› (λQ h=>h) (λm h N B C=>?_) ?_
 ·ext;exact C
 rw[aN];ac_nf;refine bT (λc=>?_) λc=>?_
 ·ext;refine⟨_,rfl,j,λe=>ς e z,λa Y a1=>⟨rfl,?_⟩⟩;refine⟨_,rfl,j,λe=>ς e z,λb hb a2=>⟨rfl,?_⟩⟩;refine⟨a,b,rfl,j a Y,j b hb,rfl,?_⟩;have D:=(t a Y).add<|t b hb;have ch:Cm 2 1 kP:=⟨by decide +kernel,by decide +kernel,by decide +kernel⟩;refine⟨kP,a+b,rfl,bX<|ch.dg (by decide) (l:=1) (by decide) (b:=0)<|by decide,bX<|D.dg Sg (l:=13) Pm (b:=7)<|by decide,rfl,?_⟩;exact k _ ⟨_,rfl,(ch.mul D).mono ⟨232792560,by decide⟩<|by decide⟩
 ac_nf;refine bJ bW fr (λm:Mk=>[(m.2.2:ψ)]) f ‹1› (λQ h=>h) (λm h N B C=>?_) ?_
 ·ext;exact C
 rw[aN];have J:∀v∈f.map (λm:Mk=>(m.2.2:ψ)),0<v/\Dg 10 v:=λv h=>by
  obtain⟨m,y,rfl⟩:=Ν.mp h;have h1:=Z.w m y;exact⟨ko.mpr<|by lia,Dg.int<|by lia⟩
 ac_nf;refine bT (λc=>?_) λc=>?_
 ·ext;have pr:(f.map λm:Mk=>m.2.1).length=(f.map λm:Mk=>(m.2.2:ψ)).length/\1<=(f.map λm:Mk=>m.2.1).length/\(f.map λm:Mk=>m.2.1).length<=5/\(∀q∈f.map (λm:Mk=>m.2.1),Ok q)/\∀v∈f.map (λm:Mk=>(m.2.2:ψ)),0<v/\Dg 10 v:=⟨by rw[θ,θ],by rw[θ];exact U,by rw[θ];exact n5,j,J⟩;obtain⟨x,hx,e⟩:=g (_,_) pr;refine⟨(_,_),rfl,pr,?_⟩;rw[e];ext;exact k _ ⟨x,rfl,(t x hx).mono LLM<|by decide⟩
 ac_nf;have G:∀v∈f.map (λm:Mk=>(m.2.2:ψ)),Ok v:=λv h=>bX (J v h).2 (by decide)
 refine bJ (λp:ψ×ψ=>au [fr p.1,fr p.2]) fr (λp:ψ×ψ=>[p.1*p.2]) ((f.map λm:Mk=>(m.2.2:ψ)).zip (f.map λm:Mk=>m.2.1)) (by rw[eW,θ];exact 50) (λQ h=>by
   ext
   rw[cO];exact h) (λp hp N B C=>?_) ?_
 ·have:=jN G j p hp;ext;refine⟨p.1,p.2,rfl,this.1,this.2,?_⟩;ext;exact C
 have ez:((f.map λm:Mk=>(m.2.2:ψ)).zip (f.map λm:Mk=>m.2.1)).map (λp:ψ×ψ=>p.1*p.2)=f.map λm:Mk=>(m.2.2:ψ)*m.2.1:=by rw[Sn,jd];rfl
 rw[aN,ez];refine q_ λwv=>?_;obtain⟨W,w1,w2,M,cW⟩:=aGg Z.y Z.w;apply wv;have O:∀u∈f.map (λm:Mk=>(m.2.2:ψ)*m.2.1),Dg 31 u:=λu I=>by
  obtain⟨m,y,rfl⟩:=Ν.mp I;exact(J _<|Ν.mpr ⟨m,y,rfl⟩).2.mul<|Z.ydg y
 have S:∀{d:ν}{l:ε ψ}(i:ν),d<=100->l.length=f.length->(∀u∈l,Dg d u)->Ok (tot<|l.take i):=λ{d l} i hd hl h=>bX<|(qV λu I=>h u<|eo I).mono (b:=101*5)<|ai ‹6› (by rw[aA];exact 50);have ot:Ok (tot (f.map λm:Mk=>(m.2.2:ψ)*m.2.1)):=by
  have:=S (l:=f.map λm:Mk=>(m.2.2:ψ)*m.2.1) f.length (by decide) (θ _) O
  rwa [bg (by rw[θ];exact Η _)]at this
 have ow:Ok (tot (f.map λm:Mk=>(m.2.2:ψ))):=by rw[M];exact bX (Dg.int (n:=2) (i:=(W:τ))<|by lia)
 refine⟨_,rfl,λu I=>bX<|O u I,λi=>S i (by decide) (θ _) O,rfl,?_⟩;refine⟨_,rfl,G,λi=>S i (by decide) (θ _) λv h=>(J v h).2,rfl,?_⟩;have np:(0:ψ)<(W:ψ):=by have:=qQ (show 1<=W by exact 2);have e:((1:ν):ψ)=1:=rfl;grind
 refine⟨_,_,rfl,ot,ow,λe=>by rw[M]at e;grind,λ_=>⟨rfl,?_⟩⟩;rw[M];refine k _ ⟨_,rfl,(aNb Sg ‹2› cW).mono ?_<|by decide⟩;unfold LM;rw[ie 2,gc];exact qx _<|qk (aRc ‹2›<|by lia)<|nj _ _
theorem xW(f:Mk->ψ):∀a:ε Mk,a.zip (a.map f)=a.map λm=>(m,f m)
 |[]=>rfl
 |m::a=>by rw[ak,qg,xW f a];rfl
def IP(n:ν)(s:Sl):Prop:=∃a:ε τ,s= .own (a.map frI)/\a.length=n/\∀p∈a,p.natAbs<=100
theorem mJ(T:Txt K mg A):Ex P w K mg base 1 (A.a 34) (A.d 34) (pr 34) (λp:ε Mk×(Mk->ψ)=>[.list<|p.1.map bW,.list<|p.1.map λm=>fr<|p.2 m])
  (λp=>p.1.length<=5/\∀m∈p.1,1<=m.2.2/\m.2.2<=4) (λp=>IP p.1.length):=by
 refine oK (T.G 34).F lV (λ_=>rfl) (λL Ar outer s H E R=>have Z:=lV;⟨_,by walk_at"t",(aG (aR 2 (bK [none,none] ["mark","miss"] (fU (aL 0) (aL 1)) (dW (bH (aJ 0) (bH (aJ 1) dY))) bM (Ys (tO eR (aE (eX 0 1)) bI) (eX 2 0) (gZ (aE (eX 2 0))))))
   (sA 3 (gZ (aE (bR aJr (vN 2 aB)))) (aG (aR 4 (bN aO))
   (aG (gU 2 (dU (aEo (aY 0) (aY 1) (aY 2)) (dW (bH (aJ 5) (bH (aJ 6) (bH (aJ 7) dY))))
    (oB (eY (Ys (tO qZ (aI 6) (aE (nN T.k_NOUGHT))) (bR Vk (vN 3 (vE (cB eZ bI (aE (eX 2 5))) aB))) aX) (aJ 8))
   (sA 3 (cB cG (aI 3) (aI 8)) (jY 4 (cQ (aH (cB cG (aI 7) (aI 8)) (aH aX aO))))))))
   (dM 4)))))⟩) inferInstance ?_
 rintro⟨a,r⟩ ⟨M,hw⟩ Q X k;dsimp only at M hw;obtain⟨d,j⟩:∃d:Mk->τ,d=λm=>if 0<r m then m.2.2 else -m.2.2:=⟨_,rfl⟩
 have I:∀m∈a,(d m).natAbs<=4:=λm q=>by
  have:=hw m q;rw[j];dsimp only;split <;>lia
 ac_nf
 refine bJ (λm:Mk=>au [bW m,fr (r m)]) bj (λm:Mk=>[d m]) a (by lia) (λQ h=>by
   ext
   rw[zC];exact h) (λm h N O f=>?_) ?_
 ·ext;rw[j]at f;dsimp only at f;refine bT (λc=>?_) (λc=>?_)
  ·rw[Α<|(sJ _).mp c]at f;exact f
  ·rw[χ λz=>c<|(sJ _).mpr z]at f;exact f
 rw[aN];ac_nf;refine⟨a.map d,rfl,?_⟩;have J:=Ur (l:=a.map d) λx U=>by
  obtain⟨m,q,rfl⟩:=Ν.mp U;exact I m q
 rw[θ]at J;ac_nf;generalize (a.map d).sum=S at J⊢
 refine cV (eF (λm:Mk=>au [bW m,fr (r m),.int (d m)]) a (λQ h=>by
   ext
   rw[jd,Dw];exact h)
  (λi g=>∃(left:τ)(e:ε τ)(t v y B:υ Sl),g=[γ<|.dat<|.list<|a.map bW,γ<|.dat<|.list<|a.map λm=>fr<|r m,γ<|.dat<|.list<|(a.map d).map .int,γ<|.dat<|.int left,γ<|.own<|e.map frI,t,v,y,B]/\left.natAbs<=20/\e.length=i/\∀p∈e,p.natAbs<=100)
  ⟨-S,[],_,_,_,_,rfl,by lia,rfl,λp o=>nomatch o⟩ ?_ ?_)
 ·intro i m g C qQ0;refine q_ λwv=>?_;obtain⟨left,e,t,v,y,B,rfl,D,G,o⟩:=qQ0;apply wv;have W:=(ρ.mp C).1;have q:=hw m<|ao C;have Y:=I m<|ao C;ext;refine oU (λg=>∃u:τ,g=[γ<|.dat<|.list<|a.map bW,γ<|.dat<|.list<|a.map λm=>fr<|r m,γ<|.dat<|.list<|(a.map d).map .int,γ<|.dat<|.int left,γ<|.own<|e.map frI,γ<|.dat<|bW m,γ<|.dat<|fr<|r m,γ<|.dat<|.int<|d m,γ<|.dat<|.int u]/\u.natAbs<=20/\(left-u).natAbs<=20) ?_ ?_
  ·ext;refine⟨ψ,eRat,r m,0,rfl,rfl,λb D=>?_⟩;cases b with
   |true=>
    ext;refine⟨fS (Sy)<|fJ (n:=4)<|by lia,_,rfl,?_⟩;have D:=aTo (show left.natAbs<=20 by assumption);split <;>exact⟨nab (by lia)<|by lia,nab (by lia)<|by lia⟩
   |false=>
    ext;exact⟨_,rfl,by lia⟩
  intro g qQ0;refine q_ λwv=>?_;obtain⟨u,rfl,u1,u2⟩:=qQ0;apply wv;ac_nf;refine⟨by lia,left-u,e++[d m+u],_,_,_,_,by rw[ay];rfl,u2,by rw[Γ,G];rfl,λp h=>?_⟩;rcases eg.mp h with h|h
  ·exact o p h
  ·rw[Υ.mp h];exact Β (jg _ _) (Β (jv Y u1)<|by decide)
 ·intro g qQ0;refine q_ λwv=>?_;obtain⟨left,e,t,v,y,B,rfl,D,G,o⟩:=qQ0;apply wv;ext;exact k _ ⟨e,rfl,G,o⟩
theorem Cb.one{l b L B:ν}{x:ψ}(a:0<L)(c:L<=10^l)(h:Cm L B x)(d:B*10^l<=10^b):Cb l b [x]:=Cb.cm a c (λq e=>by rw[Υ.mp e];exact h) d
theorem IP.dg{a:ε τ}(h:∀p∈a,p.natAbs<=100):∀q∈a.map (λn:τ=>(n:ψ)),Dg 2 q:=λq b=>by
 obtain⟨p,c,rfl⟩:=Ν.mp b;exact Dg.int<|h p c
theorem Om(a:ε τ):a.map frI=(a.map λn:τ=>(n:ψ)).map fr:=by rw[jd];rfl
theorem qL(T:Txt K mg A):Ex P w K mg base 6 (A.a 29) (A.d 29) (pr 29) (λp:ε Mk=>[.list<|p.map bW]) (λp=>1<=p.length/\M7 p) (λp=>BR 254 254 1 p.length):=by
 obtain⟨d,a,f⟩:=fP (P:=P) (w:=w) (base:=base) T;obtain⟨g,c,i⟩:=mJ (P:=P) (w:=w) (base:=base) T
 refine oK (T.G 29).F pS (λ_=>rfl) (λt I outer s H E R=>have Z:=pS;⟨_,by walk_at"t",(aG (aR 1 (bN (aH (aC (vE aP (vN 0 aB))) aO)))
   (aG (aR 2 (bB (vN 0 (vE (bU (bB (vN 1 (vN 0 aB)))) aB))))
   (jP (Gk 1 (bB (vN 0 (vN 2 aB)))))))⟩) inferInstance ?_
 intro j qQ0 Q X k;refine q_ λwv=>?_;obtain⟨u,Z⟩:=qQ0;have v:=Z.n5;have pr:("sum":Ξ)∈cK/\1<=j.length/\M7 j:=⟨by simp[cK],u,Z⟩;obtain⟨x,e,y⟩:=a ("sum",j) pr;have n:Cb 22 29 [x]:=Cb.one LM0 LM1 y (by decide);have z:=n.dg (e:=29) (by decide) (by decide);obtain⟨V,l,b,o,_⟩:=Z.mz (x:=[x]) (show 1<=4 by decide) n;apply wv;ac_nf;refine⟨("sum",j),rfl,pr,?_⟩;rw[e];ext;ac_nf;refine⟨[x],j,29,4,rfl,(show 1<=60 by decide),‹1›,z,λm h=>Z.xdg h,(show 1*(29+4+2)<=2300 by decide),?_⟩;ext;refine⟨bP _,?_⟩;refine⟨j,_,rfl,‹1›,o.hOk,o.rOk,?_⟩;ext;refine⟨bP _,?_⟩;rw[vV,jd];ext;have r:j.length<=5/\∀m∈j,1<=m.2.2/\m.2.2<=4:=⟨v,Z.w⟩;refine q_ λwv=>?_;obtain⟨J,B,C,D⟩:=c (j,λm=>m.2.1-eE [x] m.1) r;apply wv;refine⟨(j,λm=>m.2.1-eE [x] m.1),rfl,r,?_⟩;rw[B,Om];ext;exact⟨bP _,k _ ⟨[x],_,rfl,rfl,by rw[θ];exact C,n.mono (by decide)<|by decide,λq G=>(IP.dg D q G).mono<|by decide⟩⟩
theorem M7.line{a:ε Mk}(Z:M7 a){m:Mk}{b:ψ}(c:m∈a)(d:Dg 51 b):Cb 65 118 [m.2.1-b*m.1,b]:=by
 have f:=ig b.den_nz;have cb:Cm b.den (10^51) b:=Cm.of (i8 _)<|Β d.n<|j2 _ f;have g:LL*(b.den*2)<=10^65:=Β (ai Pm<|Χ _ d.d) (by decide);refine Cb.cm (B:=10^53) (i4 Sg<|i4 f<|by decide) g (λq h=>?_) (by decide);rcases Ω.mp h with e|e
 ·rw[e];exact(((Z.y m c).mono (jk _ _)<|Η _).sub<|(cb.mul<|Z.x m c).mono (nj _ _)<|Η _).mono (i8 _) (by decide)
 ·rw[Υ.mp e];exact cb.mono (qk (jk _ _)<|nj _ _) (by decide)
theorem Kq(T:Txt K mg A):Ex P w K mg base 5 (A.a 31) (A.d 31) (pr 31) (λp:ε Mk×Mk=>[.list<|p.1.map bW,bW p.2]) (λp=>M7 p.1/\p.2∈p.1) (λ_ s=>∃a b:ψ,s= .own [fr a,fr b]/\Cb 65 118 [a,b]):=by
 obtain⟨t,f,u⟩:=qK (P:=P) (w:=w) (base:=base) T
 refine oK (T.G 31).F uO (λ_=>rfl) (λa1 Ar outer s H E R=>have Z:=uO;⟨_,by walk_at"t",(aG (aR 2 (bK [none,γ 1] ["other","mark"] (cC (aL 0)) (aJ 0) (tO oH (aE (eX 0 0)) (aE (eX 0 1))) (aY 0)))
   (aG (bD (tO cJ (aE (bR cI (vN 2 aB))) bI) (dN (bN (aH (eX 1 1) (aH (nN T.k_NOUGHT) aO)))) aQ)
   (aG (aR 3 (bK [none,γ 1] ["other","mark"] (cC (aL 2)) (aJ 0) bM (aC (vE (eX 0 0) (vE (eX 0 1) aB)))))
   (aG (aR 4 (bK [none,none,γ 1] ["other","way","mark"] (fU (aL 2) (aL 3)) (dW (bH (aJ 0) (bH (aJ 1) dY))) bM (aC (vE (aC (vE (eX 1 0) (vE (eX 1 2) aB))) (vN 1 aB)))))
   (aG (aR 5 (bK [none,none] ["other","way"] (fU (aL 2) (aL 3)) (dW (bH (aJ 0) (bH (aJ 1) dY))) bM (aC (vE (cQ (aH (eX 2 0) (aH aX aO))) (vE (aC (vN 1 aB)) aB)))))
   (sA 6 (aC (vN 4 (vN 5 aB))) (dN (bN (aH (aC (vE (eX 1 1) (vE (aC (vN 6 (vE (eX 0 1) aB))) aB))) (aH (aY 6) aO))))))))))⟩) inferInstance ?_
 rintro⟨M,m⟩ ⟨Z,j⟩ Q X k;dsimp only at Z j;have n5:=Z.n5;ac_nf;refine bJ bW bW (λo:Mk=>if o.1=m.1 then[]else[o]) M ‹1› (λQ h=>h) (λo h N D r=>?_) ?_
 ·ext;refine⟨ψ,eRat,o.1,m.1,rfl,rfl,λv O=>?_⟩;cases v with
  |true=>
   rw[Α<|O.mp rfl]at r;simpa using r
  |false=>
   rw[χ (λz=>by have:=O.mpr z;cases this)]at r;simpa using r
 obtain⟨d,y⟩:∃d,(M.flatMap λo:Mk=>if o.1=m.1 then[]else[o])=d:=⟨_,rfl⟩;have C:∀o∈d,o∈M/\o.1≠m.1:=λo g=>by
  rw[<-y]at g;obtain⟨x,S,I⟩:=xq.mp g;split at I
  ·exact nomatch I
  ·rw[Υ.mp I];exact⟨S,by assumption⟩
 have ol:d.length<=5:=by
  rw[<-y];refine Β ?_ n5;have:=Bb (λo:Mk=>¬o.1=m.1) M;simpa only[ite_not]using this
 rw[y];clear y;have W:∀o∈d,Dg 9 (o.1-m.1):=λo g=>(Z.xdg (C o g).1).sub<|Z.xdg j;ac_nf;refine bT (λc=>?_) λc=>?_
 ·ext;have:=Z.line j (b:=0) Dg.zero;rw[show m.2.1-0*m.1=m.2.1 by grind]at this;exact k _ ⟨m.2.1,0,rfl,this⟩
 ac_nf;refine bJ bW fr (λo:Mk=>[o.1-m.1]) d ‹1› (λQ h=>by ext;exact h) (λo h N D r=>?_) ?_
 ·ext;refine⟨_,_,rfl,bX<|Z.xdg (C o h).1,bX<|Z.xdg j,?_⟩;ext;exact r
 rw[aN];obtain⟨G,J⟩:∃G,(d.map λo=>o.1-m.1)=G:=⟨_,rfl⟩;have U:d.zip G=d.map λo=>(o,o.1-m.1):=by rw[<-J,xW]
 rw[J];ac_nf;refine bJ (λz:Mk×ψ=>au [bW z.1,fr z.2]) fr (λz:Mk×ψ=>[(z.1.2.1-m.2.1)/z.2]) (d.zip G) (by rw[eW];exact 50) (λQ h=>by ext;rw[cO];exact h) (λz L N D r=>?_) ?_
 ·rw[U]at L;refine q_ λwv=>?_;obtain⟨o,g,rfl⟩:=Ν.mp L;obtain⟨S,I⟩:=C o g;apply wv;ext;refine⟨_,_,rfl,bX<|Z.ydg S,bX<|Z.ydg j,?_⟩;ext;refine⟨_,_,rfl,bX<|(Z.ydg S).sub<|Z.ydg j,bX<|W o g,λz=>ς z λz=>I<|by grind,λ_=>?_⟩;ext;exact r
 have e1:(d.zip G).map (λz:Mk×ψ=>(z.1.2.1-m.2.1)/z.2)=d.map λo=>(o.2.1-m.2.1)/(o.1-m.1):=by rw[U,jd];rfl
 rw[aN,e1];ac_nf;refine bJ (λz:Mk×ψ=>au [bW z.1,fr z.2]) fr (λz:Mk×ψ=>[(z.1.2.2:ψ)*bZ z.2]) (d.zip G) (by rw[eW];exact 50) (λQ h=>by ext;rw[cO];exact h) (λz L N D r=>?_) ?_
 ·rw[U]at L;refine q_ λwv=>?_;obtain⟨o,g,rfl⟩:=Ν.mp L;apply wv;ext;refine⟨_,rfl,?_⟩;ext;refine⟨(o.2.2:ψ),_,rfl,bX<|Dg.int (n:=1) (by have:=Z.w o (C o g).1;lia),bX (W o g).abs<|by decide,?_⟩;ext;exact r
 have e2:(d.zip G).map (λz:Mk×ψ=>(z.1.2.2:ψ)*bZ z.2)=d.map λo=>(o.2.2:ψ)*bZ (o.1-m.1):=by rw[U,jd];rfl
 rw[aN,e2];have sd:∀q∈d.map (λo=>(o.2.1-m.2.1)/(o.1-m.1)),Dg 51 q:=λq Y=>by
  obtain⟨o,g,rfl⟩:=Ν.mp Y;exact((Z.ydg (C o g).1).sub<|Z.ydg j).div (W o g) λz=>(C o g).2 (by grind)
 have pr:(d.map λo=>(o.2.1-m.2.1)/(o.1-m.1)).length=(d.map λo=>(o.2.2:ψ)*bZ (o.1-m.1)).length/\1<=(d.map λo=>(o.2.1-m.2.1)/(o.1-m.1)).length/\(d.map λo=>(o.2.1-m.2.1)/(o.1-m.1)).length<=5/\(∀q∈d.map (λo=>(o.2.1-m.2.1)/(o.1-m.1)),Ok q)/\∀v∈d.map (λo=>(o.2.2:ψ)*bZ (o.1-m.1)),0<v/\Dg 10 v:=by
  refine⟨by rw[θ,θ],by rw[θ];lia,by rw[θ];assumption,λq Y=>bX<|sd q Y,λv O=>?_⟩;obtain⟨o,g,rfl⟩:=Ν.mp O;have hw:=Z.w o (C o g).1;have a0:0<bZ (o.1-m.1):=by
   have:=uA<|o.1-m.1;have I:=(C o g).2;rcases eQ (o.1-m.1)with⟨_,e⟩|⟨_,e⟩ <;>grind
  refine⟨ku (ko.mpr<|by lia) a0,?_⟩;have c1:=(Cm.int (i:=o.2.2) (B:=4)<|by lia).mul ((Z.x o (C o g).1).sub<|Z.x m j).abs;exact(c1.dg (by decide) (l:=1) (by decide) (b:=3)<|by decide).mono (by decide)
 ac_nf;refine q_ λwv=>?_;obtain⟨x,hx,e⟩:=f (_,_) pr;apply wv;refine⟨(_,_),rfl,pr,?_⟩;rw[e];have dX:=sd x hx;ext;refine⟨_,_,rfl,bX dX,bX<|Z.xdg j,?_⟩;ext;refine⟨_,_,rfl,bX<|Z.ydg j,bX<|dX.mul<|Z.xdg j,?_⟩;ext;exact k _ ⟨_,_,rfl,Z.line j dX⟩
theorem Ko(T:Txt K mg A):Ex P w K mg base 4 (A.a 33) (A.d 33) (pr 33) (λp:ε Mk×ε τ=>[.list<|p.1.map bW,.list<|p.2.map frI]) (λp=>M7 p.1/\∀x∈p.2,x.natAbs<=100) (λ_ s=>∃t,s= .dat (fr t)/\Dg 40 t):=by
 refine oK (T.G 33).F uN (λ_=>rfl) (λr B outer s H E R=>have Z:=uN;⟨_,by walk_at"t",(aW<|aE<|aC<|vE (bU<|bK [none,none] ["mark","pull"] (fU (aL 0)<|aL 1) (dW<|bH (aJ 0)<|bH (aJ 1) dY) bM<|aC<|vE (eX 0 0)<|vN 1 aB) aB)⟩) inferInstance ?_;rintro⟨c,d⟩ ⟨Z,g⟩ Q X k;dsimp only at Z g;have C:=Z.n5;have u:∀z∈c.zip d,Dg 7 (z.1.1*(z.2:ψ)):=λz e=>by
  obtain⟨j,l⟩:=fm (a:=z.1) (b:=z.2) e;exact(Z.xdg j).mul<|Dg.int (n:=2)<|g _ l
 ext;refine bJ (λz:Mk×τ=>au [bW z.1,frI z.2]) fr (λz:Mk×τ=>[z.1.1*(z.2:ψ)]) (c.zip d) (by rw[eW];exact 50) (λQ h=>by ext;rw[cO];exact h) (λz e N v y=>?_) ?_
 ·obtain⟨j,l⟩:=fm (a:=z.1) (b:=z.2) e;ext;refine⟨_,(z.2:ψ),rfl,bX<|Z.xdg j,bX<|Dg.int (n:=2)<|g _ l,?_⟩;ext;exact y
 rw[aN];have m:∀q∈(c.zip d).map (λz:Mk×τ=>z.1.1*(z.2:ψ)),Dg 7 q:=λq f=>by
  obtain⟨z,e,rfl⟩:=Ν.mp f;exact u z e
 have o:∀i,Dg 40 (tot<|((c.zip d).map λz:Mk×τ=>z.1.1*(z.2:ψ)).take i):=λi=>(qV λq f=>m q<|eo f).mono<|af 8 (show _<=5 by rw[aA,θ,eW];exact 50);refine⟨_,rfl,λq f=>bX<|m q f,λi=>bX<|o i,?_⟩;ext;have:=o ((c.zip d).map λz:Mk×τ=>z.1.1*(z.2:ψ)).length;rw[kx]at this;exact k _ ⟨_,rfl,this⟩
theorem xO(T:Txt K mg A):Ex P w K mg base 6 (A.a 32) (A.d 32) (pr 32) (λp:ε Mk×ψ×ψ=>[.list<|p.1.map bW,.list [fr p.2.1,fr p.2.2]]) (λp=>M7 p.1/\Cb 65 118 [p.2.1,p.2.2])
  (λp s=>∃D:ε ψ,s= .own (D.map fr)/\D.length=p.1.length/\∀q∈D,Dg 540 q):=by
 refine q_ λwv=>?_;obtain⟨g,c,i⟩:=mJ (P:=P) (w:=w) (base:=base) T;obtain⟨t,d,u⟩:=Ko (P:=P) (w:=w) (base:=base) T;apply wv
 refine oK (T.G 32).F nR (λ_=>rfl) (λa0 Ar outer s H E R=>have Z:=nR;⟨_,by walk_at"t",(aG (aR 2 (bB (vN 0 (vE (bU (bB (vN 1 (vN 0 aB)))) aB))))
   (aG (aR 3 (bB (vN 0 (vN 2 aB))))
   (aG (aR 4 (Bf (mF (bB (vE (bU (Bf (aL 0) (cH (aE (xR (v:=(-1)) (gZ bI) (λex W Q h=>Eq.mpr (bt (λz=>Q (.int z)) (by decide +kernel:((-1):τ)=-1)) h)))))) (vE (bU (Bf (aL 2) (cH (aE (xR (v:=(-1)) (gZ bI) (λex W Q h=>Eq.mpr (bt (λz=>Q (.int z)) (by decide +kernel:((-1):τ)=-1)) h)))))) aB)))) (cH (aE (xR (v:=(-1)) (gZ bI) (λex W Q h=>Eq.mpr (bt (λz=>Q (.int z)) (by decide +kernel:((-1):τ)=-1)) h))))))
   (sA 5 (aC (vN 0 (vN 3 aB))) (sA 6 (aC (vN 0 (vN 4 aB))) (aG (bD (tO qZ (aI 5) (aI 6)) (dM 3) aQ)
   (sA 7 (aC (vN 5 (vE (aC (vN 5 (vN 6 aB))) aB))) (dN (bK [none,none,γ 7] ["one","other","part"] (fU (aL 3) (aL 4)) (dW (bH (aJ 0) (bH (aJ 1) dY))) bM (aC (vN 0 (vE (aC (vN 2 (vE (aC (vN 1 (vN 0 aB))) aB))) aB))))))))))))⟩) inferInstance ?_
 intro qQ0 qQ1 Q X k;refine q_ λwv=>?_;obtain⟨f,a,b⟩:=qQ0;obtain⟨Z,L⟩:=qQ1;apply wv;dsimp only at Z L;have Y:=Z.n5;have dn:=L.dg (e:=118) (by decide) (by decide);refine q_ λwv=>?_;obtain⟨V,l,lb,mz,_⟩:=Z.mz (x:=[a,b]) (show 2<=4 by decide) L;apply wv;ac_nf;refine⟨[a,b],f,118,4,rfl,(show 2<=60 by decide),‹1›,dn,λm h=>Z.xdg h,(show 2*(118+4+2)<=2300 by decide),?_⟩;ext;refine⟨bP _,?_⟩;refine⟨f,_,rfl,‹1›,mz.hOk,mz.rOk,?_⟩;ext;refine⟨bP _,?_⟩;rw[vV,jd];obtain⟨r,R'⟩:∃r:Mk->ψ,(λm:Mk=>m.2.1-eE [a,b] m.1)=r:=⟨_,rfl⟩;rw[R',show(fr∘r)=λm=>fr (r m)from rfl];have pe:f.length<=5/\∀m∈f,1<=m.2.2/\m.2.2<=4:=⟨Y,Z.w⟩;have D:f.reverse.length<=5/\∀m∈f.reverse,1<=m.2.2/\m.2.2<=4:=⟨by rw[jt];exact Y,λm hm=>Z.w m<|xc.mp hm⟩;refine q_ λwv=>?_;obtain⟨G,e1,l1,M⟩:=c (f,r) pe;obtain⟨lr,e2,O,h2⟩:=c (f.reverse,r) D;apply wv;dsimp only at l1 O;rw[jt]at O;ac_nf;refine⟨(f,r),rfl,pe,?_⟩;rw[e1];ext;refine⟨rM _,?_⟩;ac_nf;refine⟨(f.reverse,r),by dsimp only;rw[t8,t8],D,?_⟩;rw[e2];ext;refine⟨rM _,?_⟩;rw[<-t8];obtain⟨j,y⟩:∃j,lr.reverse=j:=⟨_,rfl⟩;have l3:j.length=f.length:=by rw[<-y,jt];exact O
 have h3:∀p∈j,p.natAbs<=100:=λp hp=>h2 p<|xc.mp (by rw[y];exact hp);rw[y];have p1:M7 f/\∀x∈G,x.natAbs<=100:=⟨Z,M⟩;have p2:M7 f/\∀x∈j,x.natAbs<=100:=⟨Z,h3⟩;refine q_ λwv=>?_;obtain⟨n,e3,o⟩:=d (f,G) p1;obtain⟨B,e4,I⟩:=d (f,j) p2;apply wv;ac_nf;refine⟨(f,G),rfl,p1,?_⟩;rw[e3];ext;ac_nf;refine⟨(f,j),rfl,p2,?_⟩;rw[e4];ext;ac_nf;refine⟨ψ,eRat,n,B,rfl,rfl,λv hv=>?_⟩;cases v with
 |true=>
  ext;rw[Om];exact k _ ⟨_,rfl,by rw[θ];exact l1,λq S=>(IP.dg M q S).mono<|by decide⟩
 |false=>
  have ne:n≠B:=λz=>by have:=hv.mpr z;cases this
  have dm:Dg 81 (n-B):=o.sub I;have n0:n-B≠0:=λz=>ne (by grind);have U:Dg 122 (n/(n-B)):=o.div dm n0;ext;ac_nf;refine⟨n,B,rfl,bX o,bX I,?_⟩;ext;refine⟨_,_,rfl,bX o,bX dm,λz=>ς z n0,λ_=>?_⟩;ext;have zd:∀z∈G.zip j,Dg 2 (z.1:ψ)/\Dg 2 (z.2:ψ):=λz J=>by
   obtain⟨q1,q2⟩:=fm (a:=z.1) (b:=z.2) J;exact⟨Dg.int<|M _ q1,Dg.int<|h3 _ q2⟩
  refine bJ (λz:τ×τ=>au [frI z.1,frI z.2]) fr (λz:τ×τ=>[(z.1:ψ)+n/(n-B)*((z.2:ψ)-(z.1:ψ))]) (G.zip j) (by rw[eW];exact 50) (λQ h=>by ext;rw[cO];exact h) (λz J N a1 hN=>?_) ?_
  ·obtain⟨C,d2⟩:=zd z J;ext;refine⟨(z.2:ψ),(z.1:ψ),rfl,bX d2,bX C,?_⟩;ext;refine⟨_,_,rfl,bX U,bX<|d2.sub C,?_⟩;ext;refine⟨(z.1:ψ),_,rfl,bX C,bX<|U.mul<|d2.sub C,?_⟩;ext;exact hN
  rw[aN];refine k _ ⟨_,rfl,by rw[θ,eW];dsimp only;lia,λq S=>?_⟩;obtain⟨z,J,rfl⟩:=Ν.mp S;obtain⟨C,d2⟩:=zd z J;exact(C.add<|U.mul<|d2.sub C).mono (by decide)
theorem Hq(T:Txt K mg A):Ex P w K mg base 7 (A.a 30) (A.d 30) (pr 30) (λp:ε Mk=>[.list<|p.map bW]) (λp=>1<=p.length/\M7 p) (λp=>BR 254 254 2 p.length):=by
 obtain⟨t,d,u⟩:=Kq (P:=P) (w:=w) (base:=base) T;obtain⟨j,f,n⟩:=xO (P:=P) (w:=w) (base:=base) T
 refine oK (T.G 30).F rX (λ_=>rfl) (λa1 Ar outer s H E R=>have Z:=rX;⟨_,by walk_at"t",(aG (aR 1 (bB (vN 0 (vE (bE (aL 0) bI) aB))))
   (sA 2 (aC (vE aP (vN 0 (vE (bU (bB (vN 1 (vN 0 aB)))) aB)))) (aG (dU (iE (bU (gP (aL 0) (cH bI) gQ))) (aJ 3)
    (aG (aR 4 (bB (vN 0 (vN 3 aB))))
   (sA 5 (aC (vE aP (vN 0 (vE (bU (bB (vN 4 (vN 0 aB)))) aB)))) (bD (lM (aE (aC (vN 5 (vN 2 aB))))) (aG (aOt 1 4 (by decide))
   (eY (aY 5) (aJ 2))) aQ))))
   (jP (Gk 1 (bB (vN 0 (vN 1 aB))))))))⟩) inferInstance ?_
 rintro g ⟨n1,Z⟩ Q X k;have n5:=Z.n5;have Y:g≠[]:=di.mp n1;have q:∀{a b:ψ}{v:Sl->Prop}{Xs:ο->Prop},Cb 65 118 [a,b]->v (.own<|(g.map λm=>eE [a,b] m.1).map fr)->Iw [.list [fr a,fr b],.list<|g.map bW] v Xs:=λ{a b v Xs} o h=>
  ⟨[a,b],g,118,4,rfl,(show 2<=60 by decide),‹1›,o.dg (by decide)<|by decide,λm h=>Z.xdg h,(show 2*(118+4+2)<=2300 by decide),h⟩
 have r:∀{a b:ψ}{v:Sl->Prop},Cb 65 118 [a,b]->(∀y,Ok y->v (.dat<|fr y))->Lz A.x_NoKind [.str "sum",.list<|g.map bW,.list<|(g.map λm=>eE [a,b] m.1).map fr] v λ_=>Ε:=λ{a b v} o h=>by
  obtain⟨V,l,lb,mz,_⟩:=Z.mz (x:=[a,b]) (show 2<=4 by decide) o;exact⟨.str "sum",g,_,_,_,_,_,_,_,rfl,mz,Y,by rw[θ],λkd hk=>by cases hk;decide +kernel,λkd hk _=>h _ mz.measOk,λhx=>ς (show("sum":Ξ)∈cK by simp[cK])<|hx "sum" rfl⟩
 obtain⟨C,D,J⟩:∃C D,g=C::D:=by
  cases g with
  |nil=>exact ς rfl Y
  |cons m A=>exact⟨m,A,rfl⟩
 have G:C∈g:=by rw[J];exact Κ
 have Am:∀m∈D,m∈g:=λm h=>by rw[J];exact Θ _ h
 refine q_ λwv=>?_;obtain⟨a0,b0,es,z⟩:=d (g,C) ⟨Z,G⟩;apply wv;ac_nf;refine⟨bW C,show kC (g.map bW) ((0:ν):τ)=_ from dR (by rw[J];rfl),?_⟩;refine⟨(g,C),rfl,⟨Z,G⟩,?_⟩;rw[es];ext;ac_nf;refine q z ?_;ext;refine⟨bP _,?_⟩;refine r z λy0 L=>?_;ext;ac_nf;have ec:eM (g.map bW) (γ 1) none=D.map bW:=by
  have:=iW (g.map bW) 1;rw[show((1:ν):τ)=1 from rfl]at this;rw[this,J];rfl
 refine cV (eF bW D (λQ h=>by
   ext
   rw[ec];exact h)
  (λi M=>∃(a b y:ψ)(N O S:υ Sl),M=[γ<|.dat<|.list<|g.map bW,γ<|.own [fr a,fr b],γ<|.dat<|fr y,N,O,S]/\Cb 65 118 [a,b]/\Ok y)
  ⟨a0,b0,y0,_,_,_,rfl,z,L⟩ ?_ ?_)
 ·intro i m M hi qQ0;refine q_ λwv=>?_;obtain⟨a,b,y,N,O,S,rfl,o,U⟩:=qQ0;apply wv;have hm:=Am m<|ao hi;refine q_ λwv=>?_;obtain⟨a',b',W,B⟩:=d (g,m) ⟨Z,hm⟩;apply wv;ac_nf;refine⟨(g,m),rfl,⟨Z,hm⟩,?_⟩;rw[W];ext;ac_nf;refine q B ?_;ext;refine⟨bP _,?_⟩;refine r B λy' I=>?_;ext;refine⟨y',y,rfl,I,U,?_⟩;ext;refine bT (λc=>?_) (λc=>?_)
  ·ac_nf;exact⟨a',b',y',γ _,none,γ _,rfl,B,I⟩
  ·exact⟨a,b,y,γ _,γ _,γ _,rfl,o,U⟩
 ·intro M qQ0;refine q_ λwv=>?_;obtain⟨a,b,y,N,O,S,rfl,o,U⟩:=qQ0;obtain⟨pl,e,l,h⟩:=f (g,a,b) ⟨Z,o⟩;apply wv;ext;refine⟨(g,a,b),rfl,⟨Z,o⟩,?_⟩;rw[e];ext;exact⟨bP _,k _ ⟨[a,b],pl,rfl,rfl,l,o.mono (by decide)<|by decide,h⟩⟩
noncomputable def tJ(B:ε Mk):η:=.list<|B.map bW
theorem aBe(a:ε η)(d:η):kC (a++[d]) (-1)=γ d:=by
 have h:Kg (a++[d]).length (-1)=γ a.length:=by
  unfold Kg;rw[Γ,fj,χ<|by decide,Α<|by lia]
  congr 1
  lia
 unfold kC;rw[h];simp
theorem Hi:∀{bs:ε<|ε Mk},(∀B∈bs,B≠[])->bs.length<=bs.flatten.length
 |[],_=>Η _
 |b::bs,h=>by
  have c:=di.mpr<|h b Κ;have:=Hi (bs:=bs) λB a=>h B<|Θ _ a;rw[Ρ,gn,Γ];lia
structure Bks(ms:ε Mk)(bs:ε<|ε Mk):Prop where
 f:bs.flatten=ms
 ne:∀B∈bs,B≠[]
theorem Rq(T:Txt K mg A):Ex P w K mg base 6 (A.a 47) (A.d 47) (pr 47) (λp:Ξ×ε Mk=>[.str p.1,.list<|p.2.map bW]) (λp=>p.1∈cK/\M7 p.2) (λp s=>∃bs:ε<|ε Mk,s= .dat (.list<|bs.map tJ)/\Bks p.2 bs):=by
 obtain⟨d,g,a⟩:=fP (P:=P) (w:=w) (base:=base) T
 refine oK (T.G 47).F kK (λ_=>rfl) (λU Ar outer s H E I=>⟨_,(aT (oW 2 kK (gC aS))
   (aT (Ay iu rfl (aJx (K:=K) rfl (pv 1)) (pgS 3 kK)
    (aT (oW 4 kK (gC (aF (pv 3) aS)))
   (aT (Ev iu (PW.pt (Av (cN Wv (dH (Xp (K:=K) rfl) rfl T.n_len tp (aF (pv 2) aS)) bS (dI _)) (Au (Ax (kB (vJ _ T) I (T.G 6) bV (aF (kB a I (T.G 26) bV (aF (pv 0) (aF (pv 4) aS))) (aF (kB a I (T.G 26) bV (aF (pv 0) (aF (nV (Hd (K:=K) rfl) (pv 2) (Wh Iz bS) (λ_ _=>rfl)) aS))) aS))))))) (bG (oW 4 kK (cP (aRq (K:=K) rfl) (aKe hU xu F.type_list_pop aKo (pv 2)) (pv 4)))))
   (bG (mV (pZ hU kl oj nE (pv 2) (aF (pv 4) aS)))))))
   (bG (dL (pv 2))))),(aG (aR 2 (bN aO))
   (aG (dU (iE (aY 1)) (aJ 3)
    (aG (tL 4 (aR 4 (bN (aH (aY 3) aO))))
   (aG (kE (Ja (tO eR (aE (bR cI (vN 2 aB))) bI) (lM (aE (aC (vE (aC (vN 0 (vN 4 aB))) (vE (aC (vN 0 (vE (bE (aL 2) (aE (xR (v:=(-1)) (gZ bI) (λex q Q h=>Eq.mpr (bt (λz=>Q (.int z)) (by decide +kernel:((-1):τ)=-1)) h)))) aB))) aB)))))) (tL 4 (Pw 2 4 (by decide))))
   (jY 2 (aY 4)))))
   (gU 2 (dM 2))))⟩) inferInstance ?_
 rintro⟨o,n⟩ ⟨t,Z⟩ Q X k;dsimp only at t Z;have n5:=Z.n5;have call:∀{B:ε Mk},B≠[]->B.Sublist n->(o∈cK/\1<=B.length/\M7 B)/\∃x,d (o,B)= .dat (fr x)/\Ok x:=λ{B} J W=>by
  have pr:o∈cK/\1<=B.length/\M7 B:=⟨t,di.mpr J,Z.sub W⟩;obtain⟨x,e,c⟩:=g (o,B) pr;exact⟨pr,x,e,bX<|c.dg LM0 (l:=22) LM1 (b:=7)<|by decide⟩
 ac_nf
 refine cV (eF bW n (λQ h=>by ext;exact h)
  (λi q=>∃(bs:ε<|ε Mk)(L M:υ Sl),q=[γ<|.dat<|.str o,γ<|.dat<|.list<|n.map bW,γ<|.own<|bs.map tJ,L,M]/\Bks (n.take i) bs)
  ⟨[],_,_,rfl,rfl,λB h=>nomatch h⟩ ?_ ?_)
 ·intro i m q Y qQ0;refine q_ λwv=>?_;obtain⟨N,L,M,rfl,F0⟩:=qQ0;apply wv;have et:n.take (i+1)=n.take i++[m]:=by rw[ni,Y];rfl
  ac_nf
  refine cV ⟨λf q=>∃(bs:ε (ε Mk))(j:ε Mk),q=[γ (.dat (.str o)),γ (.dat (.list (n.map bW))),γ (.own (bs.map tJ)),γ (.dat (bW m)),γ (.dat (.list (j.map bW)))]/\f=bs.length/\bs.flatten++j=n.take (i+1)/\(∀B∈bs,B≠[])/\j≠[],
   ⟨_,N,[m],rfl,rfl,by rw[F0.f,et],F0.ne,by simp⟩,?_⟩
  intro f q qQ0;refine q_ λwv=>?_;obtain⟨bs,j,rfl,rfl,C,D,G⟩:=qQ0;apply wv;have O:(bs.flatten++j).Sublist n:=by rw[C];exact k6 _ _
  have ll:bs.flatten.length+j.length<=5:=by
   have:=O.length_le;rw[Γ]at this;exact 2
  have bl:=Hi D;rcases List.eq_nil_or_concat bs with e|⟨r,b,e⟩
  ·subst e;ext;rw[χ<|by decide];exact⟨by decide,[j],_,_,rfl,by rw[<-C];simp,λB u=>by rw[Υ.mp u];exact G⟩
  ·subst e;rw[List.concat_eq_append]at *
   have R:b∈r++[b]:=cu _ Κ;obtain⟨p1,x,e1,o1⟩:=call G<|(List.sublist_append_right _ _).trans O;obtain⟨p2,y,e2,o2⟩:=call (D b R)<|(nq R).trans<|(List.sublist_append_left _ _).trans O;have S:(r++[b]).map tJ=r.map tJ++[tJ b]:=by rw[ay];rfl
   rw[jx,Γ,gn,px,eT]at ll;rw[S];ext;rw[Α (by rw[Γ,fj];lia)];refine⟨(o,j),rfl,p1,?_⟩;rw[e1];refine⟨rfl,_,aBe _ _,(o,b),rfl,p2,?_⟩;rw[e2];refine⟨rfl,x,y,rfl,o1,o2,?_⟩;ext;refine bT (λc=>?_) λc=>?_
   ·refine⟨r.map tJ,b.map bW,rfl,by rw[θ];lia,r.length,by rw[Γ,fj];exact 48,r,b++j,by rw[ay],rfl,?_,λB u=>D B<|je _ u,by simp[G]⟩;rw[<-C,jx,gn,px,eT,ek]
   ·refine⟨?_,r++[b]++[j],γ<|.dat<|bW m,γ<|.dat<|.list<|j.map bW,?_,by rw[<-C];simp,λB u=>?_⟩
    ·rw[Γ,θ,fj];rw[Γ,fj,jx,Γ,gn,px,eT]at bl;lia
    ·rw[ay,S];rfl
    ·rcases eg.mp u with h|h
     ·exact D B h
     ·rw[Υ.mp h];exact G
 ·intro q qQ0;refine q_ λwv=>?_;obtain⟨bs,L,M,rfl,F⟩:=qQ0;apply wv;rw[kx]at F;ext;exact k _ ⟨bs,rfl,F⟩
theorem rQ{b:Type}(f:b->η):∀(k:ν)(a:ε b),enumD k (a.map f)=(a.zipIdx k).map λp=>au [.int (p.2:τ),f p.1]
 |_,[]=>rfl
 |k,x::a=>by
  have:=rQ f (k+1) a;simp[Dl.enumD,this]
theorem aEs:au [.int 1,.int 2]=fr kP:=rfl
theorem Yb:au [.int<|-1,.int 2]=fr (-kP):=rfl
theorem half_cm:Cm 2 1 kP:=⟨by decide +kernel,by decide +kernel,by decide +kernel⟩
def RR(n:ν)(s:Sl):Prop:=∃a b:ε ψ,s= .two (a.map fr) (b.map fr)/\a.length=n/\b.length=n/\(∀q∈a,Cm LM (3*10^6) q)/\∀q∈b,Dg 540 q
theorem Ho(T:Txt K mg A):Ex P w K mg base 2 (A.a 49) (A.d 49) (pr 49) (λp:ε ψ=>[.list<|p.map fr]) (λp=>1<=p.length/\p.length<=60/\∀q∈p,Ok q) (λp s=>∃a:ε ν,s= .own (a.map eN)/\a.length=p.length/\∀x∈a,x<p.length):=by
 refine oK (T.G 49).F rW (λ_=>rfl) (λy D outer s H E R=>have Z:=rW;⟨_,by walk_at"t",(aG (aR 1 (bN aO))
   (sA 2 aX (aG (dU (Od (aY 0)) (dW (bH (aJ 3) (bH (aJ 4) dY)))
    (aG (bD (lM (aE (aC (vE (bE (aL 0) (aI 2)) (vN 4 aB))))) (eY (aY 3) (aJ 2)) aQ)
   (jY 1 (aY 2))))
   (dM 1))))⟩) inferInstance ?_
 rintro d ⟨G,z,v⟩ Q X k;ac_nf;ac_nf
 refine cV (eF (λp:ψ×ν=>au [.int (p.2:τ),fr p.1]) (d.zipIdx 0) (λQ h=>by
   ext
   rw[rQ];exact h)
  (λi n=>∃(a:ε ν)(e:ν)(o r:υ Sl),n=[γ<|.dat<|.list<|d.map fr,γ<|.own<|a.map eN,γ<|.dat<|.int (e:τ),o,r]/\a.length=i/\(∀x∈a,x<d.length)/\e<d.length)
  ⟨[],0,_,_,rfl,rfl,(λx h=>nomatch h),‹51›⟩ ?_ ?_)
 ·intro i p n m qQ0;refine q_ λwv=>?_;obtain⟨a,e,o,r,rfl,f,t,g⟩:=qQ0;apply wv;have b:i<d.length:=by have:=(ρ.mp m).1;simpa using this
  have u:p=(d.getD i 0,i):=by
   rw[uc,Ι b]at m;simp at m;rw[<-m];simp[getD,b]
  subst u;have l:∀j:ν,j<d.length->∀x∈a++[j],x<d.length:=λj B x C=>by
   rcases eg.mp C with h|h
   ·exact t x h
   ·rw[Υ.mp h];exact B
  ac_nf;refine⟨_,lA (j:=e) rfl g,?_⟩;refine⟨d.getD e 0,d.getD i 0,rfl,v _<|iC g,v _<|iC b,?_⟩;ext;refine bT (λc=>?_) λc=>?_
  ·exact⟨by lia,a++[i],i,_,_,by rw[ay];rfl,by rw[Γ,f];rfl,l i b,b⟩
  ·ext;exact⟨by lia,a++[e],e,_,_,by rw[ay];rfl,by rw[Γ,f];rfl,l e g,g⟩
 ·intro n qQ0;refine q_ λwv=>?_;obtain⟨a,e,o,r,rfl,f,t,g⟩:=qQ0;apply wv;ext;rw[vc]at f;exact k _ ⟨a,rfl,f,t⟩
theorem Hn(T:Txt K mg A):Ex P w K mg base 4 (A.a 48) (A.d 48) (pr 48) (λp:ε Mk=>[.list<|p.map bW]) (λp=>1<=p.length/\M7 p) (λp=>RR p.length):=by
 obtain⟨o,d,r⟩:=Ho (P:=P) (w:=w) (base:=base) T
 refine oK (T.G 48).F rV (λ_=>rfl) (λa1 Ar outer s H E R=>have Z:=rV;⟨_,by walk_at"t",(aG (aR 1 (bK [none] ["mark"] (cC (aL 0)) (aJ 0) bM (eX 1 0)))
   (aG (aR 2 (bB (vN 1 aB)))
   (aG (aR 3 (bK [none,none,γ 1] ["peak","height","heights"] (fU (aL 2) (aL 1)) (dW (bH (aJ 0) (bH (aJ 1) dY))) bM (aC (vE (bE (aL 2) (aI 0)) (vN 1 aB)))))
   (sA 4 (aC (vN 3 aB)) (sA 5 (aC (vE (cQ (aH aX (aH aX aO))) (vN 4 aB))) (aG (aR 6 (bK [none,γ 5,γ 1] ["peak","half","heights"] (cC (aL 2)) (aJ 0) bM (aC (vE (bE (aL 2) (aI 0)) (vN 1 aB)))))
   (aG (aR 7 (oJ (eA (bN (aH (nN T.k_NOUGHT) aO))) (aE (bR cI (vN 0 aB)))))
   (aG (bD (tO oH (aI 4) (aE (nN T.k_NOUGHT))) (sA 8 (Hy 3 (aI 4)) (aG (pH 7 (cQ (aH aX (aH aX aO))) (aE (bE (aL 2) (aI 8))))
   (pH 7 (cQ (aH (xR (v:=(-1)) (gZ bI) (λex δ Q h=>Eq.mpr (bt (λz=>Q (.int z)) (by decide +kernel:((-1):τ)=-1)) h)) (aH aX aO))) (aI 8)))) aQ)
   (jP (aHb 6 7 (by decide)))))))))))⟩) inferInstance ?_
 rintro C ⟨n1,Z⟩ Q X k;have n5:=Z.n5;ac_nf;refine bJ bW fr (λm:Mk=>[m.2.1]) C ‹1› (λQ h=>h) (λm h N D G=>?_) ?_
 ·ext;exact G
 rw[aN];obtain⟨c,g⟩:∃c,C.map (λm:Mk=>m.2.1)=c:=⟨_,rfl⟩;have hl:c.length=C.length:=by rw[<-g,θ]
 have Y:∀q∈c,Cm LL (10^6) q:=λq e=>by
  rw[<-g]at e;obtain⟨m,I,rfl⟩:=Ν.mp e;exact Z.y m I
 have W:∀q∈c,Ok q:=by rw[<-g];exact Z.ok
 rw[g];have pp:1<=c.length/\c.length<=60/\∀q∈c,Ok q:=⟨‹48›,‹10›,W⟩;refine q_ λwv=>?_;obtain⟨i,ep,pl,J⟩:=d c pp;apply wv;ac_nf;refine⟨c,rfl,pp,?_⟩;rw[ep];ext;refine⟨nB _,?_⟩;ac_nf
 refine bJ (λp:ν×ψ=>au [eN p.1,fr p.2]) fr (λp:ν×ψ=>[c.getD p.1 0-p.2]) (i.zip c) (by rw[eW];exact 50) (λQ h=>by
   ext
   rw[cO];exact h) (λp t N D G=>?_) ?_
 ·have L:=fm (a:=p.1) (b:=p.2) t;have u:=J _ L.1;ext;refine⟨_,lA (j:=p.1) rfl u,?_⟩;refine⟨c.getD p.1 0,p.2,rfl,W _<|iC u,W _ L.2,?_⟩;ext;exact G
 rw[aN];obtain⟨x,y⟩:∃x,(i.zip c).map (λp:ν×ψ=>c.getD p.1 0-p.2)=x:=⟨_,rfl⟩;have a0:x.length=C.length:=by rw[<-y,θ,eW];lia
 have dc:∀q∈x,Cm LL (10^6+10^6) q:=λq e=>by
  rw[<-y]at e;obtain⟨p,t,rfl⟩:=Ν.mp e;have L:=fm (a:=p.1) (b:=p.2) t;exact(Y _<|iC<|J _ L.1).sub<|Y _ L.2
 have M:∀q∈x,Ok q:=λq e=>bX ((dc q e).dg Sg (l:=13) Pm (b:=7)<|by decide);rw[y];ac_nf;refine⟨x,rfl,M,λh0=>?_,λm I a2=>?_⟩
 ·rw[h0,km]at a0;lia
 obtain⟨B,O,S⟩:=rN I;have n:B<i.length:=by have:=(ρ.mp O).1;lia
 ext;ac_nf;have cm:=half_cm.mul<|dc m I;have om:Ok (kP*m):=bX (cm.dg (by decide) (l:=14) (by decide) (b:=7)<|by decide);refine⟨kP,m,rfl,bX<|half_cm.dg (by decide) (l:=1) (by decide) (b:=0)<|by decide,M m I,?_⟩;ext;ac_nf;refine bJ eN fr (λp:ν=>[c.getD p 0-kP*m]) i (by lia) (λQ h=>h) (λp t N D G=>?_) ?_
 ·have u:=J _ t;ext;refine⟨_,lA (j:=p) rfl u,?_⟩;refine⟨c.getD p 0,kP*m,rfl,W _<|iC u,om,?_⟩;ext;exact G
 rw[aN];have U:∀f:ε ψ,f.length=C.length->(∀q∈f,q∈cg C.length (0:ψ)\/q=kP\/q=-kP)->Q (.two ((i.map λp=>c.getD p 0-kP*m).map fr)<|f.map fr):=λf l1 u=>by
  refine k _ ⟨_,f,rfl,by rw[θ,pl,hl],l1,λq e=>?_,λq e=>?_⟩
  ·obtain⟨p,t,rfl⟩:=Ν.mp e;exact(((Y _<|iC<|J p t).mono ⟨2,ie _ _⟩<|Η _).sub cm).mono ⟨232792560,rfl⟩ (by decide)
  ·have dh:Dg 2 kP:=half_cm.dg (by decide) (l:=1) (by decide) (b:=0) (by decide);rcases u q e with h|h|h
   ·rw[(ke.mp h).2];exact Dg.zero
   ·rw[h];exact dh.mono (by decide)
   ·rw[h];exact dh.neg.mono (by decide)
 ac_nf;refine⟨⟨‹29›,by lia⟩,by lia,?_⟩;rw[cy,Ap];ac_nf;refine⟨ψ,eRat,m,0,rfl,rfl,λb hb=>?_⟩;cases b with
 |true=>
  ext;exact U _ cf λq e=>.inl e
 |false=>
  have a3:i.getD B 0<c.length:=by rw[bC n];exact J _<|cq n
  ac_nf;refine⟨m,x,B,rfl,rfl,O,S,‹10›,?_⟩;ac_nf
  have ap:kC (i.map eN) (B:τ)=γ (bj ((i.getD B 0:ν):τ)):=dR (by
   rw[cw,Ι n,bC n]
   rfl)
  rw[aEs];refine⟨_,ap,?_⟩;ext;refine⟨i.getD B 0,ixN_nat' rfl (by rw[cf];exact 38),?_⟩;ext;rw[Yb];refine⟨B,ixN_nat' rfl (by rw[ib,θ,cf];lia),?_⟩;ext;rw[<-BU,<-BU];refine U _ (by rw[ib,ib,cf]) λq e=>?_;rcases mw e with h|h
  ·rcases mw h with h|h
   ·exact .inl h
   ·exact .inr<|.inl h
  ·exact .inr<|.inr h
theorem Ao(n:ν)(x:ψ):(cg n [fr x]).flatten=(cg n x).map fr:=by
 rw[vb];simp
theorem Kf(h:a∈cK):PyData.strOk a=true:=by
 have:a="far"\/a="sum"\/a="square":=by simpa[cK]using h
 rcases this with rfl|rfl|rfl <;>decide +kernel
theorem qP{C:ο}{a:Ξ}{Q:Sl->Prop}{X:ο->Prop}(h:a∈cK)(q:Q<|.dat .none):Ix C [.str a] Q X:=
 ⟨.str a,rfl,λk e=>by cases e;exact Kf h,λ_=>q,λz=>ς h<|z a rfl⟩
theorem Bks.tk{a:ε Mk}{bs:ε<|ε Mk}(F:Bks a bs){i:ν}{B:ε Mk}(b:bs[i]? =γ B):bs.take (i+1)=bs.take i++[B]/\(bs.take i).flatten.length+B.length<=a.length/\B≠[]/\B.Sublist a:=by
 have c:bs.take (i+1)=bs.take i++[B]:=by rw[ni,b];rfl
 have d:=ao b;refine⟨c,?_,F.ne B d,by rw[<-F.f];exact nq d⟩;have e:(bs.take<|i+1).flatten.length<=bs.flatten.length:=by
  conv=>rhs;rw[<-mi (i+1) bs,jx,Γ]
  exact 48
 rw[F.f,c,jx,Γ,gn,px,eT]at e;exact e
theorem zQ(bs:ε<|ε Mk)(B:ε Mk):(bs++[B]).flatten.length=bs.flatten.length+B.length:=by
 rw[jx,Γ,gn,px,eT]
theorem M7.rz{b:ε Mk}(Z:M7 b){row:ε ψ}(h:∀q∈row,Cm LM (3*10^6) q):MSz LM (3*10^6) 4 22 7 1 b row:=⟨by have:=Z.n5;exact 1,LM0,LM1,by decide,by decide,λm a=>(Z.y m a).mono LLM<|by decide,h,λm a=>by have:=Z.w m a;lia,by decide⟩
theorem xN(T:Txt K mg A):Ex P w K mg base 7 (A.a 46) (A.d 46) (pr 46) (λp:Ξ×ε Mk=>[.str p.1,.list<|p.2.map bW]) (λp=>p.1∈cK/\1<=p.2.length/\M7 p.2) (λp=>RR p.2.length):=by
 refine q_ λwv=>?_;obtain⟨t,f,u⟩:=Hn (P:=P) (w:=w) (base:=base) T;obtain⟨G,g,I⟩:=Rq (P:=P) (w:=w) (base:=base) T;obtain⟨j,b,l⟩:=fP (P:=P) (w:=w) (base:=base) T;obtain⟨n,d,o⟩:=qL (P:=P) (w:=w) (base:=base) T;apply wv
 refine oK (T.G 46).F nQ (λ_=>rfl) (λa0 Ar outer s H E R=>have Z:=nQ;⟨_,by walk_at"t",(aG (iT (aE (fH (vN 0 aB))))
   (aG (bD (tO cJ (aI 0) (aE aP)) (gT (vN 1 aB)) aQ)
   (aG (iH (vN 0 (vN 1 aB)) (aJ 2))
   (aG (aR 3 (bN aO))
   (aG (dU (iE (aY 2)) (aJ 4)
    (Ul 3 (aE (bU (oJ (eA (bN (aH (aC (vN 0 (vN 4 aB))) aO))) (aE (bR cI (vN 4 aB))))))))
   (aG (bD (tO cJ (aI 0) (aE aP)) (jP (Gk 3 (bB (vN 1 (vN 3 aB))))) aQ)
   (aG (aR 5 (bN aO))
   (aG (dU (iE (aY 2)) (aJ 4)
    (Ul 5 (aNe 1 (aAy (vN 4 aB)))))
   (jP (aHb 3 5 (by decide)))))))))))⟩) inferInstance ?_
 intro qQ0 qQ1 Q X k;refine q_ λwv=>?_;obtain⟨v,y⟩:=qQ0;obtain⟨m,S,Z⟩:=qQ1;apply wv;dsimp only at m S Z;have n5:=Z.n5;ac_nf;refine qP m ?_;ac_nf;refine bT (λc=>?_) λc=>?_
 ·obtain⟨a,r,e,h⟩:=f y ⟨S,Z⟩;refine⟨y,rfl,⟨S,Z⟩,?_⟩;rw[e];exact k _ ⟨a,r,rfl,h⟩
 ac_nf;obtain⟨bs,eb,F⟩:=g (v,y) ⟨m,Z⟩;dsimp only at F;refine⟨(v,y),rfl,⟨m,Z⟩,?_⟩;rw[eb];ac_nf;ac_nf
 refine cV (eF tJ bs (λQ h=>by ext;exact h)
  (λi z=>∃(a:ε ψ)(C:υ Sl),z=[γ<|.dat<|.str v,γ<|.dat<|.list<|y.map bW,γ<|.dat<|.list<|bs.map tJ,γ<|.own<|a.map fr,C,none]/\a.length=(bs.take i).flatten.length/\∀q∈a,Cm LM (3*10^6) q)
  ⟨[],_,rfl,rfl,λq h=>nomatch h⟩ ?_ ?_)
 ·intro i B z U qQ0;refine q_ λwv=>?_;obtain⟨a,C,rfl,L,M⟩:=qQ0;obtain⟨W,tl,D,Y⟩:=F.tk U;have pr:v∈cK/\1<=B.length/\M7 B:=⟨m,di.mpr D,Z.sub Y⟩;obtain⟨x,ex,cx⟩:=b (v,B) pr;apply wv;ext;refine⟨(v,B),rfl,pr,?_⟩;rw[ex];refine⟨rfl,?_⟩;unfold tJ;dsimp only;rw[θ,cy,Ao];refine⟨⟨‹29›,by lia⟩,by lia,?_⟩;refine⟨bP _,by rw[θ,cf];lia,a++cg B.length x,_,by rw[ay],by rw[W,zQ,Γ,cf,L],λq N=>?_⟩;rcases eg.mp N with h|h
  ·exact M q h
  ·rw[(ke.mp h).2];exact cx.mono (i8 _) (by decide)
 intro z qQ0;refine q_ λwv=>?_;obtain⟨a,C,rfl,L,M⟩:=qQ0;apply wv;rw[kx,F.f]at L;ac_nf;refine bT (λc=>?_) λc=>?_
 ·have J:=Z.rz M;ext;refine⟨y,a,_,_,_,_,_,_,rfl,J,?_⟩;ext;exact⟨bP _,k _ ⟨a,_,rfl,L,by dsimp only;unfold dS fO;rw[df,df];exact 50,M,λq N=>((J.wmiss q N).dg J.pos J.pL<|fF J.pW<|fQ J.pB).mono<|by decide⟩⟩
 ac_nf;ac_nf
 refine cV (eF tJ bs (λQ h=>by ext;exact h)
  (λi z=>∃(r:ε ψ)(C:υ Sl),z=[γ<|.dat<|.str v,γ<|.dat<|.list<|y.map bW,γ<|.dat<|.list<|bs.map tJ,γ<|.own<|a.map fr,C,γ<|.own<|r.map fr]/\r.length=(bs.take i).flatten.length/\∀q∈r,Dg 540 q)
  ⟨[],_,rfl,rfl,λq h=>nomatch h⟩ ?_ ?_)
 ·intro i B z U qQ0;refine q_ λwv=>?_;obtain⟨r,C,rfl,O,lc⟩:=qQ0;obtain⟨W,tl,D,Y⟩:=F.tk U;have pr:1<=B.length/\M7 B:=⟨di.mpr D,Z.sub Y⟩;obtain⟨nu,pb,ex,_,lb,_,db⟩:=d B pr;apply wv;ext;refine⟨B,rfl,pr,?_⟩;rw[ex];ext;refine⟨bP _,by lia,r++pb,_,by rw[ay],by rw[W,zQ,Γ,O,lb],λq N=>?_⟩;rcases eg.mp N with h|h
  ·exact lc q h
  ·exact db q h
 ·intro z qQ0;refine q_ λwv=>?_;obtain⟨r,C,rfl,O,lc⟩:=qQ0;apply wv;rw[kx,F.f]at O;ext;exact k _ ⟨a,r,rfl,L,O,M,lc⟩
theorem MSz.measDg(z:MSz L B W l b f ms row)(g:Ξ):Dg (2*l+2*b+f+6) (gE g ms row):=by
 unfold gE;split
 ·rcases @mE ((fO ms row).map bZ)with h|h
  ·rw[h];exact Dg.zero
  ·obtain⟨x,a,e⟩:=Ν.mp h;rw[<-e];exact((z.miss x a).dg z.pos z.pL<|fQ z.pB).abs.mono ‹48›
 ·split
  ·have h:=Cm.tot (qs:=(dS ms row).map bZ) (L:=L) (B:=W*(B+B)) λq c=>by
    obtain⟨x,a,rfl⟩:=Ν.mp c;exact(z.wmiss x a).abs
   have d:((dS ms row).map bZ).length<=60:=by
    rw[θ];have:=jD (ms:=ms) (row:=row);have:=z.len;exact 2
   exact(h.dg z.pos z.pL<|kI d<|fF z.pW<|fQ z.pB).mono ‹48›
  ·have h:=Cm.tot (qs:=Jh ms row) (L:=L*L) (B:=W*(B+B)*(B+B)) λq c=>z.sq q c;have d:(Jh ms row).length<=60:=by
    have:=Af (ms:=ms) (row:=row);have:=z.len;exact 2
   exact(h.dg (i4 z.pos z.pos) (fF z.pL z.pL)<|kI d<|fF (fF z.pW<|fQ z.pB)<|fQ z.pB).mono ‹48›
theorem aAr{b c:Type}(f:b->c)(a:ε b)(n:ν):eM (a.map f) none (γ (n:τ))=(a.take n).map f:=by
 unfold eM;rw[HT.sIx_none,HT.sIx_nat];simp only[θ,mf,vy];rw[<-qm]
 congr 1
 by_cases h:a.length<=n
 ·rw[bg h];exact bg (by lia)
 ·congr 1
  exact 50
def Tj:DW:=λa Q _=>∃p q r s:τ,a=[.tuple [.int p,.int q],.tuple [.int r,.int s]]/\Wee p/\Wee q/\Wee r/\Wee s/\Q (.dat<|.bool<|decide (p*s<r*q))
theorem mB:Q 1 6 (λ_=>Tj):=by
 refine jU 6 ["one","other"] λA T R Z=>⟨_,by walk_at"t",_,(aW<|bO eR (bO eZ (aE<|eX 0 0)<|aE<|eX 1 1)<|bO eZ (aE<|eX 0 1)<|aE<|eX 1 0),?_⟩;intro d Q X qQ0;refine q_ λwv=>?_;obtain⟨p,q,r,s,rfl,a,b,R,c,k⟩:=qQ0;apply wv;ext;exact⟨fS a c,fS R b,k⟩
instance:DtW Tj:=by walk_at"w"
theorem iU{C:ο}{d:Ξ}{c:ε Mk}{a:ε ψ}{Q:Sl->Prop}{X:ο->Prop}{L B W l b f:ν}(g:d∈cK)(i:c≠[])(z:MSz L B W l b f c a)(j:a.length=c.length)(q:Q<|.dat<|fr<|gE d c a):Lz C [.str d,.list<|c.map bW,.list<|a.map fr] Q X:=
 ⟨.str d,c,a,L,B,W,l,b,f,rfl,z,i,j,λk e=>by cases e;exact Kf g,λk e _=>by cases e;exact q,λh=>ς g<|h d rfl⟩
theorem Hs(T:Txt K mg A):Ex P w K mg base 2 (A.a 54) (A.d 54) (pr 54) (λp:Ξ×ψ×ψ×ψ=>[.str p.1,fr p.2.1,fr p.2.2.1,fr p.2.2.2]) (λp=>Dg 500 p.2.1/\Dg 500 p.2.2.1/\Dg 500 p.2.2.2) (λ_ s=>∃b:Bool,s= .dat (.bool b)):=by
 refine oK (T.G 54).F Ep (λ_=>rfl) (λn z outer s H E j=>⟨_,(aT (eU (cN iQ (pv 0) cA (dI _)) (bG (dL (Wp (kB (mB _ T) j (T.G 6) bV (aF (pv 2) (aF (pv 1) aS))) (Wi (kB (mB _ T) j (T.G 6) bV (aF (pv 3) (aF (pv 1) aS))))))) cR)
   (bG (dL (kB (mB _ T) j (T.G 6) bV (aF (rC (aF (cP rD (cP mZ (Sj (K:=K) rfl (pv 2)) (Sj (K:=K) rfl (pv 3))) (cP mZ (Sj (K:=K) rfl (pv 3)) (Sj (K:=K) rfl (pv 2)))) (aF (cP mZ (Sj (K:=K) rfl (pv 2)) (Sj (K:=K) rfl (pv 3))) aS))) (aF (pv 1) aS)))))),(aG (bD (tO cJ (aI 0) (aE aP)) (aW (aE (Kt (aE (aC (vN 2 (vN 1 aB)))) (aC (vN 3 (vN 1 aB)))))) aQ)
   (aW (aE (aC (vE (cQ (aH (cB cG (bO eZ (aE (eX 0 2)) (aE (eX 1 3))) (bO eZ (aE (eX 0 3)) (aE (eX 1 2)))) (aH (cB eZ (aE (eX 1 2)) (aE (eX 1 3))) aO))) (vN 1 aB))))))⟩) inferInstance ?_
 intro qQ0 qQ1 Q X k;refine q_ λwv=>?_;obtain⟨B,e,a,b⟩:=qQ0;obtain⟨m,f,g⟩:=qQ1;apply wv;dsimp only at m f g;have h:Ok a:=bX f;have i:Ok b:=bX g;have d:Ok e:=bX m;have l:∀v:Bool,Q (.dat<|.bool v):=λv=>k _ ⟨v,rfl⟩;ac_nf;refine bT (λc=>?_) λc=>?_
 ·ext;refine⟨_,_,_,_,rfl,h.n,h.d,d.n,d.d,?_⟩;ext;refine bT (λo=>?_) λo=>l _;refine⟨_,_,_,_,rfl,i.n,i.d,d.n,d.d,?_⟩;ext;exact l _
 ·have pr:∀{x y:τ},x.natAbs<=10^500->y.natAbs<=10^500->(x*y).natAbs<=10^1000:=λ{x y} q r=>by
   rw[ck,show(1000:ν)=500+500 from rfl,ij];exact ai q r
  have C:=pr f.n (y:=(b.den:τ)) (by have:=g.d;assumption);have D:=pr g.n (y:=(a.den:τ)) (by have:=f.d;assumption);have t:=pr (x:=(a.den:τ)) (y:=(b.den:τ)) (by have:=f.d;assumption) (by have:=g.d;assumption);have u:(a.num*(b.den:τ)+b.num*(a.den:τ)).natAbs<=10^1001:=by
   have:=jg (a.num*(b.den:τ))<|b.num*(a.den:τ);rw[show(1001:ν)=1000+1 from rfl,gi];lia
  ext;refine⟨fS h.n i.d,fS i.n h.d,fS h.d i.d,_,_,_,_,rfl,Jd u<|by decide,Jd t<|by decide,d.n,d.d,?_⟩;ext;exact l _
theorem Rr(T:Txt K mg A):Ex P w K mg base 3 (A.a 51) (A.d 51) (pr 51) (λp:Ξ×ψ×ψ=>[.str p.1,fr p.2.1,fr p.2.2]) (λp=>p.1∈cK/\Ok p.2.1/\Ok p.2.2) (λp s=>∃q,s= .dat (fr q)/\(q=p.2.1\/q=p.2.2\/q=p.2.1+p.2.2)):=by
 refine oK (T.G 51).F yU (λ_=>rfl) (λi l outer s H E R=>have Z:=yU;⟨_,by walk_at"t",(aG (iT (aE (fH (vN 0 aB))))
   (aG (bD (tO cJ (aI 0) (aE aP)) (aW (aE (aC (vE (bU (bN (aH (aY 1) (aH (aY 2) aO)))) aB)))) aQ)
   (aW (aE (aC (vN 1 (vN 2 aB)))))))⟩) inferInstance ?_
 intro qQ0 qQ1 Q X k;refine q_ λwv=>?_;obtain⟨m,a,b⟩:=qQ0;obtain⟨g,e,f⟩:=qQ1;apply wv;dsimp only at g e f;ac_nf;refine qP g ?_;ac_nf;refine bT (λc=>?_) λc=>?_
 ·ext;refine⟨[a,b],rfl,λq d=>?_,λh=>ς h<|by simp,λq d j=>?_⟩
  ·rcases Ω.mp d with rfl|d
   ·exact e
   ·rw[Υ.mp d];exact f
  ·ext;refine k _ ⟨q,rfl,?_⟩;rcases Ω.mp d with h|h
   ·exact .inl h
   ·exact .inr<|.inl<|Υ.mp h
 ·ext;refine⟨a,b,rfl,e,f,?_⟩;ext;exact k _ ⟨_,rfl,.inr<|.inr rfl⟩
structure BeP(kd:Ξ)(c a:ε ψ)(I D:ν):Prop where
 hk:kd∈cK
 cl:c.length=I+1
 i5:I<5
 al:a.length<=5
 hc:∀q∈c,Dg 65 q
 ha:∀q∈a,Dg D q
 hD:D<=400
theorem xP(T:Txt K mg A):Ex P w K mg base 4 (A.a 56) (A.d 56) (pr 56) (λp:(Ξ×ε ψ×ε ψ)×ν×ν=>[.str p.1.1,.list<|p.1.2.1.map fr,.list<|p.1.2.2.map fr]) (λp=>BeP p.1.1 p.1.2.1 p.1.2.2 p.2.1 p.2.2)
  (λp s=>∃(q:ψ)(t:ν),s= .dat (.tuple [fr q,.int (t:τ)])/\Dg (p.2.2+66) q/\t<=p.2.1/\(p.1.2.2=[]->t=0)):=by
 refine q_ λwv=>?_;obtain⟨f,b,g⟩:=Hs (P:=P) (w:=w) (base:=base) T;obtain⟨m,d,n⟩:=Rr (P:=P) (w:=w) (base:=base) T;apply wv
 refine oK (T.G 56).F nS (λ_=>rfl) (λa0 Ar outer s H E R=>have Z:=nS;⟨_,by walk_at"t",(sA 3 (bE (aL 1) bI) (sA 4 aX (aG (dU (Od (bU (gP (aL 2) gQ (cH (bO cG (aE (bR cI (vN 1 aB))) bI))))) (dW (bH (aJ 5) (bH (aJ 6) dY)))
    (bD (lM (aE (aC (vN 0 (vN 3 (vN 6 (vE (bE (aL 1) (bO cG (aI 5) bI)) aB))))))) (sA 3 (aC (vN 0 (vN 6 (vE (bE (aL 1) (bO cG (aI 5) bI)) aB)))) (eY (cB cG (aI 5) bI) (aJ 4))) aQ))
   (aW (aE (cQ (aH (aY 3) (aH (aY 4) aO))))))))⟩) inferInstance ?_
 intro qQ0 qQ1 Q X k;refine q_ λwv=>?_;obtain⟨⟨o,c,a⟩,I,Da⟩:=qQ0;obtain⟨N,O,i5,al,C,S,hD⟩:=qQ1;apply wv;dsimp only at N O i5 al C S hD;have U:(a.take I).length=min I a.length:=aA;ac_nf;refine⟨_,lA (j:=0) rfl<|‹48›,?_⟩;ac_nf
 refine cV (eF (λp:ψ×ν=>au [.int (p.2:τ),fr p.1]) ((a.take I).zipIdx 0) (λQ h=>by
   ext
   rw[O,show((I+1:ν):τ)-1=(I:τ) by lia,aAr,rQ]
   exact h) (λi D=>∃(q:ψ)(t:ν)(G J:υ Sl),D=[γ (.dat (.str o)),γ (.dat (.list (c.map fr))),γ (.dat (.list (a.map fr))),γ (.dat (fr q)),γ (.dat (.int (t:τ))),G,J]/\Dg (Da+66) q/\t<=i)
  ⟨_,0,none,none,rfl,(C _ (iC ‹48›)).mono ‹48›,Η _⟩ ?_ ?_)
 ·intro i qQ0 D l qQ1;refine q_ λwv=>?_;obtain⟨x,ix⟩:=qQ0;obtain⟨q,t,G,J,rfl,u,L⟩:=qQ1;apply wv;obtain⟨a1,M⟩:i<min I a.length/\(x,ix)=(a.getD i 0,i):=by
   rw[uc]at l;have r:i<(a.take I).length:=by
    cases h:(a.take I)[i]? with
    |none=>rw[h]at l;cases l
    |some z=>exact(ρ.mp h).1
   rw[U]at r;refine⟨r,?_⟩;have e:(a.take I)[i]? =γ (a.getD i 0):=by
    rw[iz<|‹17›,Μ,Ι<|‹18›];rfl
   rw[e]at l;simp at l;rw[<-l.1,<-l.2,Μ]
  cases M;have d2:=S _ (iC (xs:=a) (j:=i)<|‹18›);have B:=C _ (iC (xs:=c) (j:=i+1)<|by lia);have W:Dg 500 q/\Dg 500 (a.getD i 0)/\Dg 500 (c.getD (i+1) 0):=⟨u.mono<|by lia,d2.mono<|‹1›,B.mono<|by decide⟩;obtain⟨v,ev⟩:=b (o,q,_,_) W;ext;refine⟨_,lA (j:=i+1) (by lia)<|by lia,(o,q,_,_),rfl,W,?_⟩;rw[ev];ext;cases v with
  |true=>
   have Y:o∈cK/\Ok (a.getD i 0)/\Ok (c.getD (i+1) 0):=⟨N,bX d2<|‹1›,bX B⟩;refine q_ λwv=>?_;obtain⟨y,ey,hy⟩:=d (o,_,_) Y;apply wv;ac_nf;refine⟨_,lA (j:=i+1) (by lia)<|by lia,(o,_,_),rfl,Y,?_⟩;rw[ey];ext;refine⟨y,i+1,_,_,rfl,?_,Η _⟩;rcases hy with h|h|h <;>rw[h]
   ·exact d2.mono ‹48›
   ·exact B.mono ‹48›
   ·exact(d2.add B).mono ‹48›
  |false=>
   ext;exact⟨q,t,_,_,rfl,u,‹3›⟩
 ·intro D qQ0;refine q_ λwv=>?_;obtain⟨q,t,G,J,rfl,u,L⟩:=qQ0;apply wv;rw[vc,U]at L;ext;exact k _ ⟨q,t,rfl,u,by dsimp only;lia,λe=>by dsimp only at e;rw[e,km]at L;lia⟩
theorem tG(T:Txt K mg A):Ex P w K mg base 7 (A.a 50) (A.d 50) (pr 50) (λp:(Ξ×ε Mk)×ν×ν=>[.str p.1.1,.list<|p.1.2.map bW,.int (p.2.1:τ),.int (p.2.2:τ)])
  (λp=>p.1.1∈cK/\M7 p.1.2/\p.2.1<=p.2.2/\p.2.2<p.1.2.length) (λ_ s=>∃q,s= .dat (fr q)/\Dg 65 q):=by
 obtain⟨b,a,d⟩:=fP (P:=P) (w:=w) (base:=base) T
 refine oK (T.G 50).F lB (λ_=>rfl) (λr y outer s H E R=>have Z:=lB;⟨_,by walk_at"t",(aG (iT (aE (fH (vN 0 aB))))
   (aG (aR 4 (gP (aL 1) (cH (aI 2)) (cH (bO cG (aI 3) bI))))
   (aW (aE (aC (vN 0 (vN 4 (vE (bU (oJ (eA (bN (aH (aC (vN 0 (vN 4 aB))) aO))) (aE (bR cI (vN 4 aB))))) aB))))))))⟩) inferInstance ?_
 intro qQ0 qQ1 Q X k;refine q_ λwv=>?_;obtain⟨⟨g,m⟩,f,l⟩:=qQ0;obtain⟨h,Z,i,t⟩:=qQ1;apply wv;dsimp only at h Z i t;have z:=Z.n5;ac_nf;refine qP h ?_;ac_nf;obtain⟨S,j⟩:∃S,(m.take<|l+1).drop f=S:=⟨_,rfl⟩;have u:eM (m.map bW) (γ (f:τ)) (γ<|(l:τ)+1)=S.map bW:=by
  rw[jI,<-j];unfold eM;rw[show(l:τ)+1=((l+1:ν):τ) by lia,HT.sIx_nat,HT.sIx_nat,za,iw<|‹51›,iw<|by lia]
 rw[u];have Sl:S.length=l+1-f:=by rw[<-j,bx,aA];lia
 have n:M7 S:=Z.sub (by rw[<-j];exact(wg _ _).trans<|k6 _ _);have pr:g∈cK/\1<=S.length/\M7 S:=⟨h,by lia,n⟩;obtain⟨x,e,c⟩:=a (g,S) pr;refine⟨(g,S),rfl,pr,?_⟩;rw[e];refine⟨rfl,?_⟩;dsimp only;rw[θ,cy,Ao];refine⟨⟨‹29›,by lia⟩,by lia,?_⟩;have o:=n.rz (row:=cg S.length x) λq v=>by rw[List.eq_of_mem_replicate v];exact c.mono (i8 _) (by decide)
 exact iU h (di.mp<|by lia) o cf ⟨rfl,k _ ⟨_,rfl,o.measDg g⟩⟩
theorem Hu(T:Txt K mg A):Ex P w K mg base 8 (A.a 52) (A.d 52) (pr 52) (λp:(Ξ×ε Mk)×ν=>[.str p.1.1,.list<|p.1.2.map bW,.int (p.2:τ)])
  (λp=>p.1.1∈cK/\M7 p.1.2/\p.2<p.1.2.length) (λp s=>∃c:ε ψ,s= .own (c.map fr)/\c.length=p.2+1/\∀q∈c,Dg 65 q):=by
 obtain⟨a,b,g⟩:=tG (P:=P) (w:=w) (base:=base) T;refine oK (T.G 52).F sC (λ_=>rfl) (λt C outer s H E R=>have Z:=sC;⟨_,by walk_at"t",(dN<|bK [none,γ 0,γ 1,γ 2] ["first","kind","marks","last"] (IvS.e<|iD<|vE (cB cG (aI 2) bI) aB) (aJ 0) bM<|aC<|vN 1<|vN 2<|vN 0<|vN 3 aB)⟩) inferInstance ?_;intro qQ0 qQ1 Q X k;refine q_ λwv=>?_;obtain⟨⟨j,m⟩,l⟩:=qQ0;obtain⟨n,Z,o⟩:=qQ1;apply wv;dsimp only at n Z o;have D:=Z.n5;obtain⟨u,i⟩:=ky λf:ν=>show ∃q:ψ,f<=l->a ((j,m),f,l)= .dat (fr q)/\Dg 65 q from by
  by_cases h:f<=l
  ·obtain⟨q,e,d⟩:=b ((j,m),f,l) ⟨n,Z,h,o⟩;exact⟨q,λ_=>⟨e,d⟩⟩
  ·exact⟨0,λz=>ς z h⟩
 ext
 refine bJ (λf:ν=>bj (0+(f:τ)*1)) fr (λf:ν=>[u f]) (range (l+1)) (by rw[ar];lia) (λQ h=>by
   ext
   refine⟨⟨by lia,by lia⟩,?_⟩
   rw[show((l:τ)+1).toNat=l+1 by lia];exact h) (λf r N v x=>?_) ?_
 ·have y:=bA.mp r;ext;refine⟨((j,m),f,l),by dsimp only;rw[show(0:τ)+(f:τ)*1=(f:τ) by lia],⟨n,Z,by dsimp only;lia,o⟩,?_⟩;rw[(i f<|by lia).1];ext;exact x
 ·rw[aN];refine k _ ⟨_,rfl,by rw[θ,ar],λq B=>?_⟩;obtain⟨f,r,rfl⟩:=Ν.mp B;exact(i f (by have:=bA.mp r;lia)).2
def CsT(n:ν)(a:ε<|ε ψ):Prop:=a.length=n/\∀l,l<n->(a.getD l []).length=l+1/\∀q∈a.getD l [],Dg 65 q
theorem Ci(T:Txt K mg A):Ex P w K mg base 9 (A.a 53) (A.d 53) (pr 53) (λp:Ξ×ε Mk=>[.str p.1,.list<|p.2.map bW]) (λp=>p.1∈cK/\M7 p.2) (λp s=>∃t:ε<|ε ψ,s= .own (t.map hG)/\CsT p.2.length t):=by
 obtain⟨a,b,g⟩:=Hu (P:=P) (w:=w) (base:=base) T;refine oK (T.G 53).F pU (λ_=>rfl) (λu y outer s H E R=>have Z:=pU;⟨_,by walk_at"t",(dN<|bK [none,γ 0,γ 1] ["last","kind","marks"] (IvS.e<|iD<|vE (bR cI<|vN 1 aB) aB) (aJ 0) bM<|bU<|bB<|vN 1<|vN 2<|vN 0 aB)⟩) inferInstance ?_;rintro⟨o,d⟩ ⟨r,Z⟩ Q X k;dsimp only at r Z;have B:=Z.n5;obtain⟨i,j⟩:=ky λl:ν=>show ∃c:ε ψ,l<d.length->a ((o,d),l)= .own (c.map fr)/\c.length=l+1/\∀q∈c,Dg 65 q from by
  by_cases h:l<d.length
  ·obtain⟨q,e⟩:=b ((o,d),l) ⟨r,Z,h⟩;exact⟨q,λ_=>e⟩
  ·exact⟨[],λz=>ς z h⟩
 ext
 refine bJ (λf:ν=>bj (0+(f:τ)*1)) hG (λl:ν=>[i l]) (range d.length) (by rw[ar];exact 1) (λQ h=>by
   ext
   rw[cy]
   exact⟨⟨‹29›,by lia⟩,h⟩) (λl m N v x=>?_) ?_
 ·have n:=bA.mp m;ext;refine⟨((o,d),l),by dsimp only;rw[show(0:τ)+(l:τ)*1=(l:τ) by exact 48],⟨r,Z,n⟩,?_⟩;rw[(j l n).1];ext;exact⟨bP _,x⟩
 ·rw[aN];refine k _ ⟨_,rfl,by rw[θ,ar],λl m=>?_⟩;dsimp only at m;have e:((range d.length).map i).getD l []=i l:=by simp[getD,m]
  rw[show(range d.length).map (λl=>i l)=(range d.length).map i from rfl,e];exact(j l m).2
noncomputable def Rs(r:ε ν):η:=.list<|r.map eN
def StT(n:ν)(a:ε<|ε ν):Prop:=∀j,j<a.length->(a.getD j []).length=n/\∀t,t<n->(a.getD j []).getD t 0<=t/\(j=0->(a.getD j []).getD t 0=0)
theorem Hr(T:Txt K mg A):Ex P w K mg base 6 (A.a 57) (A.d 57) (pr 57) (λp:(Ξ×ε Mk)×ε (ε ν)=>[.str p.1.1,.list<|p.1.2.map bW,.list<|p.2.map Rs])
  (λp=>p.1.1∈cK/\M7 p.1.2/\1<=p.2.length/\p.2.length<=60/\StT p.1.2.length p.2) (λp s=>∃b:ε ψ,s= .own (b.map fr)/\b.length=p.1.2.length/\∀q∈b,Cm LM (3*10^6) q):=by
 obtain⟨d,a,g⟩:=fP (P:=P) (w:=w) (base:=base) T
 refine oK (T.G 57).F rZ (λ_=>rfl) (λO Ar outer s H E R=>have Z:=rZ;⟨_,by walk_at"t",(aG (aR 3 (bN aO))
   (sA 4 (bR cI (vN 1 aB)) (sA 5 (cB cG (aE (bR cI (vN 2 aB))) bI) (aG (kE (tO eR (aI 4) bI) (sA 6 (bE (aHe (bE (aL 2) (aI 5))) (bO cG (aI 4) bI)) (aG (aR 7 (gP (aL 1) (cH (aI 6)) (cH (aI 4))))
   (aG (aR 3 (gY (eA (oJ (eA (bN (aH (aC (vN 0 (vN 7 aB))) aO))) (aE (bR cI (vN 7 aB))))) (Bu 3)))
   (sA 4 (aY 6) (eY (cB cG (aI 5) bI) (aJ 5)))))))
   (dM 3)))))⟩) inferInstance ?_
 intro qQ0 qQ1 Q X W;refine q_ λwv=>?_;obtain⟨⟨o,n⟩,l⟩:=qQ0;obtain⟨B,Z,U,t,C⟩:=qQ1;apply wv;dsimp only at B Z U t C;have n5:=Z.n5;ac_nf;ac_nf;ac_nf;refine cV ?_
 refine⟨λm D=>∃(b:ε ψ)(u:τ)(G I:υ Sl),D=[γ (.dat (.str o)),γ (.dat (.list (n.map bW))),γ (.dat (.list (l.map Rs))),γ (.own (b.map fr)),γ (.dat (.int (m:τ))),γ (.dat (.int u)),G,I]/\b.length+m=n.length/\(∀q∈b,Cm LM (3*10^6) q)/\
   (0<m->∃j:ν,u=(j:τ)/\j<l.length),
  ⟨n.length,[],_,none,none,rfl,by simp,(λq h=>nomatch h),λ_=>⟨l.length-1,by lia,‹31›⟩⟩,?_⟩
 intro m D qQ0;refine q_ λwv=>?_;obtain⟨b,u,G,I,rfl,hlen,J,Y⟩:=qQ0;apply wv;ext;refine bT (λc=>?_) λc=>?_
 ·refine q_ λwv=>?_;obtain⟨j,rfl,v⟩:=Y ‹20›;obtain⟨i,rfl⟩:∃i,m=i+1:=⟨m-1,‹50›⟩;obtain⟨rl,R⟩:=C j v;obtain⟨L,y⟩:=R i (by lia);have M:kC (l.map Rs) (j:τ)=γ (Rs<|l.getD j []):=dR (by rw[cw,Ι v,bC v];rfl);obtain⟨r,z⟩:∃r,l.getD j []=r:=⟨_,rfl⟩;apply wv;rw[z]at rl L y M;have N:kC (r.map eN) (((i+1:ν):τ)-1)=γ (.int ((r.getD i 0:ν):τ)):=by
   rw[show((i+1:ν):τ)-1=(i:τ) by lia];exact dR (by rw[cw,Ι<|by lia,bC<|by lia];rfl)
  obtain⟨f,hf⟩:∃f,r.getD i 0=f:=⟨_,rfl⟩;rw[hf]at L y N;ac_nf;refine⟨_,M,?_⟩;unfold Rs;dsimp only;refine⟨_,N,?_⟩;ac_nf;obtain⟨S,k⟩:∃S,(n.take<|i+1).drop f=S:=⟨_,rfl⟩;have eS:eM (n.map bW) (γ (f:τ)) (γ ((i+1:ν):τ))=S.map bW:=by
   rw[jI,<-k];unfold eM;rw[HT.sIx_nat,HT.sIx_nat,za,iw<|by lia,iw<|by lia]
  have Sl:S.length=i+1-f:=by rw[<-k,bx,aA];lia
  have pr:o∈cK/\1<=S.length/\M7 S:=⟨B,by lia,Z.sub (by rw[<-k];exact(wg _ _).trans<|k6 _ _)⟩;refine q_ λwv=>?_;obtain⟨x,e,cx⟩:=a (o,S) pr;apply wv;rw[eS];ac_nf;refine⟨(o,S),rfl,pr,?_⟩;rw[e];ext;rw[cy,Ao];refine⟨⟨‹29›,by lia⟩,by lia,by rw[θ,cf];lia,?_⟩;ac_nf;ext;rw[<-ay];refine⟨f,‹48›,cg S.length x++b,(j:τ)-1,γ<|.dat<|.int (f:τ),γ<|.own<|S.map bW,rfl,by rw[Γ,cf];lia,λq hq=>?_,λe=>?_⟩
  ·rcases eg.mp hq with h|h
   ·rw[(ke.mp h).2];exact cx.mono (i8 _) (by decide)
   ·exact J q h
  ·exact⟨j-1,by
    by_cases h0:j=0
    ·have:=y h0;lia
    ·lia,‹12›⟩
 ·ext;exact W _ ⟨b,rfl,by dsimp only;lia,J⟩
noncomputable def prE(p:ψ×ν):η:=.tuple [fr p.1,.int (p.2:τ)]
theorem xM(T:Txt K mg A):Ex P w K mg base 10 (A.a 55) (A.d 55) (pr 55) (λp:Ξ×ε Mk×ν=>[.str p.1,.list<|p.2.1.map bW,.int (p.2.2:τ)]) (λp=>p.1∈cK/\M7 p.2.1/\p.2.2<=4)
  (λp s=>∃(u:ε ψ)(tb:η),s= .dat (.tuple [.list<|u.map fr,tb])/\u.length=p.2.1.length/\∀q∈u,Cm LM (3*10^6) q):=by
 refine q_ λwv=>?_;obtain⟨y,d,B⟩:=Ci (P:=P) (w:=w) (base:=base) T;obtain⟨a,b,x⟩:=xP (P:=P) (w:=w) (base:=base) T;obtain⟨G,f,I⟩:=Hr (P:=P) (w:=w) (base:=base) T;apply wv
 refine oK (T.G 55).F nP (λ_=>rfl) (λa4 Ar outer s H E R=>have Z:=nP;⟨_,by walk_at"t",(aG (iT (aE (aC (vN 0 aB))))
   (aG (bD (pG (tO eR (aI 2) bI) (tO eR (aI 2) bI)) (cL (aH aP aO)) aQ)
   (aG (iH (vN 0 (vN 1 aB)) (aJ 3))
   (aG (aR 4 (bN aO))
   (aG (aR 5 (bN aO))
   (aG (aR 6 (bN aO))
   (aG (gU 6 (dU (iD (vE (cB cG (aI 2) bI) aB)) (aJ 7)
    (aG (aR 8 (bK [none,γ 0,γ 6] ["some","kind","entries"] (cC (aL 3)) (aJ 0) bM (aC (vN 1 (vN 0 (vN 2 aB))))))
   (aG (aR 6 (bK [none] ["one"] (cC (aL 8)) (aJ 0) bM (eX 0 0)))
   (aG (gU 6 (jY 4 (aY 6)))
   (jY 5 (bU (bK [none] ["one"] (cC (aL 8)) (aJ 0) bM (eX 1 0)))))))))
   (gU 4 (aW (aE (cQ (aH (bU (bB (vN 0 (vN 1 (vN 5 aB))))) (aH (aY 4) aO)))))))))))))⟩) inferInstance ?_
 intro qQ0 qQ1 Q X kq;refine q_ λwv=>?_;obtain⟨v,m,k⟩:=qQ0;obtain⟨O,Z,k4⟩:=qQ1;apply wv;dsimp only at O Z k4;have n5:=Z.n5;refine q_ λwv=>?_;obtain⟨C,ec,cl,J⟩:=d (v,m) ⟨O,Z⟩;apply wv;dsimp only at cl J;ac_nf;refine qP O ?_;ac_nf;refine bT (λc=>ς c<|by lia) λ_=>bT (λc=>ς c<|by lia) λ_=>?_;ac_nf;refine⟨(v,m),rfl,⟨O,Z⟩,?_⟩;rw[ec];ext;ac_nf;ac_nf;ac_nf;refine cV ?_;ext
 refine nG (lo:=0) (st:=1) (n:=k+1) (λQ h=>by
   ext
   rw[show((k:τ)+1).toNat=k+1 by lia]
   exact⟨⟨by lia,by lia⟩,h⟩)
  (λi δ=>∃(tb:ε η)(g:ε (ε ν))(o:ε ψ)(s7 s8:υ Sl),δ=[γ (.dat (.str v)),γ (.dat (.list (m.map bW))),γ (.dat (.int (k:τ))),γ (.dat (.list (C.map hG))),γ (.own tb),γ (.own (g.map Rs)),γ (.dat (.list (o.map fr))),s7,s8]/\
   tb.length=i/\g.length=i/\StT m.length g/\(∀q∈o,Dg (66*i) q)/\o.length<=5/\(i=0->o=[])) ⟨[],[],[],none,none,rfl,rfl,rfl,(λj h=>ς h (l7 _)),(λq h=>nomatch h),by decide,λ_=>rfl⟩ ?_ ?_
 ·intro i δ hi qQ0;refine q_ λwv=>?_;obtain⟨tb,g,o,s7,s8,rfl,tl,sl,L,W,el,e0⟩:=qQ0;apply wv;obtain⟨bf,M⟩:=ky λl:ν=>show ∃z:ψ×ν,l<m.length->BeP v (C.getD l []) o l (66*i)/\a ((v,C.getD l [],o),l,66*i)= .dat (prE z)/\Dg (66*i+66) z.1/\z.2<=l/\(o=[]->z.2=0)from by
   by_cases h:l<m.length
   ·have bp:BeP v (C.getD l []) o l (66*i):=⟨O,(J l h).1,by lia,el,(J l h).2,W,by lia⟩;refine q_ λwv=>?_;obtain⟨q,t,e,S,h2,h3⟩:=b ((v,C.getD l [],o),l,66*i) bp;apply wv;exact⟨(q,t),λ_=>⟨bp,e,S,h2,h3⟩⟩
   ·exact⟨(0,0),λz=>ς z h⟩
  have a1:C.map hG=(range m.length).map λl=>hG (C.getD l []):=by
   refine jw (by rw[θ,θ,ar,cl]) λj S h2=>?_;rw[gm,gm,ji,bC (by rw[θ]at S;exact S)]
  ac_nf;refine bJ (λl:ν=>hG<|C.getD l []) prE (λl:ν=>[bf l]) (range m.length) (by rw[ar];lia) (λQ h=>by ext;rw[a1];exact h) (λl hl N Y U=>?_) ?_
  ·have a2:=bA.mp hl;refine q_ λwv=>?_;obtain⟨bp,e,_⟩:=M l a2;apply wv;ext;refine⟨((v,C.getD l [],o),l,66*i),rfl,bp,?_⟩;rw[e];unfold prE at U⊢;ext;exact U
  obtain⟨r,D⟩:∃r,(range m.length).map (λl=>bf l)=r:=⟨_,rfl⟩;have zl:r.length=m.length:=by rw[<-D,θ,ar]
  have a3:∀l,(h:l<r.length)->r[l]=bf l:=λl h=>by subst D;rw[gm,ji]
  rw[aN,D];ac_nf;refine bJ prE fr (λp:ψ×ν=>[p.1]) r (by lia) (λQ h=>by ext;exact h) (λp hp N Y U=>?_) ?_
  ·unfold prE;ext;exact U
  rw[aN];ac_nf;refine⟨by lia,?_⟩;refine bJ prE eN (λp:ψ×ν=>[p.2]) r (by lia) (λQ h=>by ext;exact h) (λp hp N Y U=>?_) ?_
  ·unfold prE;ext;exact U
  rw[aN];ext;refine⟨by lia,_,g++[r.map λp=>p.2],r.map λp=>p.1,_,_,by rw[ay];rfl,by rw[Γ,tl];rfl,by rw[Γ,sl];rfl,λj hj=>?_,λq hq=>?_,by rw[θ];lia,λh=>h.elim⟩
  ·by_cases a0:j<g.length
   ·have e:(g++[r.map λp=>p.2]).getD j []=g.getD j []:=by
     rw[Μ,dq a0,<-Μ]
    rw[e];exact L j a0
   ·rw[Γ,fj]at hj;have ej:j=g.length:=by lia
    have e:(g++[r.map λp=>p.2]).getD j []=r.map λp=>p.2:=by
     rw[ej,Μ,bo<|Η _,mv];rfl
    rw[e];refine⟨by rw[θ];exact zl,λt ht=>?_⟩;rw[bC (by rw[θ];lia),gm,a3 t<|by lia];obtain⟨_,_,_,h2,h3⟩:=M t ht;exact⟨h2,λh0=>h3<|e0<|by lia⟩
  ·obtain⟨z,hz,rfl⟩:=Ν.mp hq;rw[<-D]at hz;obtain⟨l,hl,rfl⟩:=Ν.mp hz;obtain⟨_,_,S,_⟩:=M l<|bA.mp hl;exact S.mono (by lia)
 ·intro δ qQ0;refine q_ λwv=>?_;obtain⟨tb,g,o,s7,s8,rfl,tl,sl,L,W,el,e0⟩:=qQ0;have pr:v∈cK/\M7 m/\1<=g.length/\g.length<=60/\StT m.length g:=⟨O,Z,by lia,by lia,L⟩;obtain⟨u,er,rl,rc⟩:=f ((v,m),g) pr;apply wv;ext;refine⟨((v,m),g),rfl,pr,?_⟩;rw[er];ext;exact⟨bP _,kq _ ⟨u,_,rfl,rl,rc⟩⟩
noncomputable def eT2(a:Enc c)(b:Enc f)(h:a.dep<=50)(g:b.dep<=50):Enc (c×f) where
 d:=λp=>.tuple [a.d p.1,b.d p.2]
 dep:=max a.dep b.dep+1
 small:=Β (qq<|zb.2 ⟨h,g⟩) (by decide)
 lay:=λp=>by
  show((a.d p.1).canLay0 && ((b.d p.2).canLay0 && true))=true;rw[a.lay,b.lay];rfl
 depth:=λp=>by
  simp only[PyData.depth,PyData.depthAll];exact qq<|zb.2 ⟨Β (a.depth p.1)<|Nat.le_max_left _ _,zb.2 ⟨Β (b.depth p.2)<|Nat.le_max_right _ _,hB _⟩⟩
 eqv:=λp q=>by
  show PyData.eqvAll [a.d p.1,b.d p.2] [a.d q.1,b.d q.2]=true↔p=q;have i:=a.eqv p.1 q.1;have j:=b.eqv p.2 q.2;simp only[PyData.eqvAll,h9,i,j,y3];exact⟨λ⟨x,y⟩=>A5 x y,λe=>by rw[e];exact⟨rfl,rfl⟩⟩
open PySem.NumText (AllDigits digitsVal)
theorem gI{x y:Ξ}(h:x.cps.toList=y.cps.toList):x=y:=by
 cases x;cases y;simp only at h;rw[Array.toList_inj.mp h]
theorem dZ(x:Ξ):x.cps.toList.length=x.length:=by simp[Str.length]
theorem aJg(x:Ξ):(hV x none<|some 1).cps.toList=x.cps.toList.take 1:=by
 have c:=dZ x;by_cases h:1<=x.length
 ·have e:=slice_closes_to (x:=x) (j:=1) ⟨by decide,‹19›⟩;rw[eq_of_beq e];simp
 ·have e:=gx x none<|some 1;have a:(hV x none<|some 1).cps.toList=[]:=gz.mp (by rw[dZ];lia);have b:x.cps.toList=[]:=gz.mp (by lia);rw[a,b];rfl
theorem aCm(x:Ξ):(hV x (γ 1) none).cps.toList=x.cps.toList.drop 1:=by
 have c:=dZ x;by_cases h:1<=x.length
 ·have e:=slice_closes_from (x:=x) (i:=1) ⟨by decide,‹19›⟩;rw[eq_of_beq e];have a:((x.cps.toList.length:τ)-1).toNat=(x.cps.toList.drop 1).length:=by rw[bx];lia
  rw[a];show take _ (x.cps.toList.drop<|toNat 1)=_;exact kx
 ·have e:=gx x (γ 1) none;have b:(hV x (γ 1) none).cps.toList=[]:=gz.mp (by rw[dZ];lia);have a:x.cps.toList=[]:=gz.mp (by lia);rw[b,a];rfl
theorem xT(x y:Ξ):av x y=decide (0<=PySem.Txt.find x y):=by
 unfold av PySem.Txt.find;cases bh x y 0 x.length 1 with
 |nil=>rfl
 |cons i r=>simp
theorem Fk(h:av x y=false):Δ x y=(x,Str.empty,Str.empty):=by
 unfold av at h;unfold Δ;cases e:bh x y 0 x.length 1 with
 |nil=>rfl
 |cons i r=>rw[e]at h;cases h
theorem aDj(h:av x y=true):(Δ x y).2.1=y:=by
 unfold av at h;unfold Δ;cases e:bh x y 0 x.length 1 with
 |nil=>rw[e]at h;cases h
 |cons i r=>rfl
noncomputable def qI(c:ν):Bool:=decide (48<=c) && decide (c<=57)
theorem isDig_iff:qI c=true↔48<=c/\c<=57:=by simp[qI]
theorem aLw:("0123456789":Ξ).cps.toList=[48,49,50,51,52,53,54,55,56,57]:=by decide +kernel
theorem Yi(c:ν):PySem.Txt.find "0123456789" ⟨#[c]⟩=if qI c=true then(c:τ)-48 else -1:=by
 have a:∀i:ν,StrLaws.At "0123456789" ⟨#[c]⟩ ("0123456789":Ξ).length i↔i<10/\c=48+i:=by
  intro i;unfold StrLaws.At;have k:("0123456789":Ξ).length=10:=by decide +kernel
  have e:(⟨#[c]⟩:Ξ).length=1:=rfl;rw[xf,aLw,k,e];constructor
  ·rintro⟨l,m⟩;have b:i<10:=‹51›
   refine⟨b,?_⟩;have f:=eq_of_beq m;have d:∀i:ν,i<10->([48,49,50,51,52,53,54,55,56,57].drop i).take 1=[48+i]:=by decide
   rw[d i b]at f;have g:[48+i]=[c]:=f;injection g with g
   exact 48
  ·rintro⟨b,rfl⟩;refine⟨‹51›,?_⟩;have d:∀i:ν,i<10->([48,49,50,51,52,53,54,55,56,57].drop i).take 1=[48+i]:=by decide
   rw[d i b];exact gf _
 rcases BO "0123456789" ⟨#[c]⟩with⟨h,n⟩|⟨i,h,o,_⟩
 ·rw[h,χ];intro j;have j:=isDig_iff.mp j;exact n (c-48)<|(a _).mpr ⟨by lia,by lia⟩
 ·obtain⟨e,l⟩:=(a i).mp o;rw[h,Α<|isDig_iff.mpr ⟨‹48›,by lia⟩];lia
theorem aLs(c:ν):av "0123456789" ⟨#[c]⟩=qI c:=by
 rw[xT,Yi];cases h:qI c with
 |true=>
  have:=isDig_iff.mp h;rw[Α rfl];exact cj (by lia)
 |false=>
  rw[χ ag];rfl
noncomputable def rO(a:ε ν):ε ν:=if a.head? =γ 45 then a.drop 1 else a
noncomputable def oP(a:ε ν):Bool:=decide (1<=a.length) && decide (a.length<=40) && !(decide (a.head? =γ 48) && decide (1<a.length)) && a.all qI
noncomputable def jK(a:ε ν):υ τ:=if (!decide (a=[45,48]) && oP (rO a))=true then γ (if a.head? =γ 45 then -((digitsVal (rO a):ν):τ)else((digitsVal (rO a):ν):τ))else none
noncomputable def Hk(x:Ξ):Ξ:=if x.cps.toList.head? =γ 45 then hV x (γ 1) none else x
theorem Rp(x:Ξ):(Hk x).cps.toList=rO x.cps.toList:=by
 unfold Hk rO;split
 ·exact aCm x
 ·rfl
theorem Yj(x:Ξ):(Hk x).length<=x.length:=by
 unfold Hk;split
 ·exact gx x _ _
 ·exact Η _
theorem oN:("-":Ξ).cps.toList=[45]:=by decide +kernel
theorem sL:("-0":Ξ).cps.toList=[45,48]:=by decide +kernel
theorem sS(x:Ξ):hV x none (γ 1)="-"↔x.cps.toList.head? =γ 45:=by
 have e:=aJg x;constructor
 ·intro h;rw[h,oN]at e;cases a:x.cps.toList with
  |nil=>rw[a]at e;cases e
  |cons c r=>rw[a]at e;injection e with b;rw[yj,<-b]
 ·intro h;apply gI;rw[e,oN];cases a:x.cps.toList with
  |nil=>rw[a]at h;cases h
  |cons c r=>rw[a]at h;injection h with d;rw[d];rfl
theorem zS(x:Ξ):x="-0"↔x.cps.toList=[45,48]:=⟨λh=>by rw[h,sL],λh=>gI<|by rw[h,sL]⟩
theorem Hl(h:oP a=true):1<=a.length/\a.length<=40/\AllDigits a/\(a.head? =γ 48->a.length=1):=by
 simp only[oP,h9,ir,rk,qy,kr,oD]at h;obtain⟨⟨⟨d,f⟩,b⟩,g⟩:=h;exact⟨d,f,λc i=>isDig_iff.mp<|g c i,λe=>by rcases b with b|b;exact ς e b;lia⟩
theorem zG(h:jK a=γ n):oP (rO a)=true/\a≠[45,48]/\n=if a.head? =γ 45 then -((digitsVal (rO a):ν):τ)else((digitsVal (rO a):ν):τ):=by
 unfold jK at h;split at h
 ·rename_i b
  simp only[h9,rk,kr]at b;cases h;exact⟨b.2,b.1,rfl⟩
 ·cases h
theorem aDr(h:jK x.cps.toList=γ n):x.length<=41/\PySem.intText? x=γ n:=by
 obtain⟨j,l,d⟩:=zG h;obtain⟨b,g,f,_⟩:=Hl j;have k:=dZ x;unfold rO at b g f d;split at b
 ·rename_i a
  rw[Α a]at g f d;cases i:x.cps.toList with
  |nil=>rw[i]at a;cases a
  |cons c r=>
   rw[i]at a b g f d k;injection a with a
   subst a;have hlen:x.length<=41:=by
    rw[bx]at g;lia
   refine⟨hlen,?_⟩;rw[PySem.intText_neg i (show AllDigits r from f) (λe=>by rw[e]at b;exact ς b<|by decide)<|‹1›,d];rfl
 ·rename_i a
  rw[χ a]at g f d;refine⟨‹1›,?_⟩;rw[PySem.intText_digits f (λe=>by rw[e]at b;exact ς b<|by decide)<|‹1›,d,χ a]
theorem Bo(a b:String):(ζ<|a++b).cps.toList=(ζ a).cps.toList++(ζ b).cps.toList:=by
 rw[ud,ud,ud];simp
theorem aQz(h:AllDigits b):digitsVal b<10^b.length:=by
 have f:∀(b:ε ν)(a:ν),AllDigits b->b.foldl (λg c=>g*10+(c-48)) a<(a+1)*10^b.length:=by
  intro b
  induction b with
  |nil=>intro a _;simp
  |cons c r i=>
   intro a h;have l:=h c (by simp);have j:=i (a*10+(c-48)) λd k=>h d (by simp[k]);rw[ri,Ρ,gi];refine ah j ?_;have e:(a+1)*(10^r.length*10)=(a*10+10)*10^r.length:=by
    rw[ie (10^r.length) 10,<-gc,mm a 1 10,j0]
   rw[e];exact Χ _ (by lia)
 have:=f b 0 h;simpa[digitsVal]using this
theorem Qq(h:jK a=γ n):n.natAbs<10^40:=by
 obtain⟨b,f,c⟩:=zG h;obtain⟨g,d,e,i⟩:=Hl b;have j:=aQz e;have k:(10:ν)^(rO a).length<=10^40:=eH (by decide) d;have l:n.natAbs=digitsVal (rO a):=by
  rw[c];split <;>lia
 lia
theorem tK{n:τ}(h:n.natAbs<10^50):(ζ<|toString n).length<=51:=by
 by_cases a:0<=n
 ·have:=vd (k:=50) a (by decide) (by lia);exact 1
 ·rw[len_text_neg<|by lia];have:=vd (k:=50) (v:=0-n) (by lia) (by decide) (by lia);lia
noncomputable def lL(x:Ξ):υ (τ×τ):=
 match jK (Δ x "/").1.cps.toList with
 |none=>none
 |some t=>if (Δ x "/").2.1=Str.empty then γ (t,1)else
  match jK (Δ x "/").2.2.cps.toList with
  |none=>none
  |some b=>if b<2\/bq t b≠1 then none else γ (t,b)
theorem kH:(ζ "/").length=1:=by decide +kernel
theorem Uy:(ζ "/")≠Str.empty:=by decide +kernel
theorem vD(x:Ξ):(Δ x "/").2.1=Str.empty↔av x "/"=false:=by
 constructor
 ·intro h;cases a:av x "/" with
  |false=>rfl
  |true=>exact ς ((aDj a).symm.trans h) Uy
 ·intro h;rw[Fk h]
theorem vC(x y:Ξ):(Δ x y).1.length<=x.length/\(Δ x y).2.1.length<=x.length/\(Δ x y).2.2.length<=x.length:=fact_partition x y
theorem uC(a:av x "/"=false):lL x=(jK x.cps.toList).map (λt=>(t,1)):=by
 unfold lL;rw[Fk a];cases jK x.cps.toList with
 |none=>rfl
 |some t=>simp
theorem yG(a:av x "/"=true)(c:jK (Δ x "/").1.cps.toList=γ t)(d:jK (Δ x "/").2.2.cps.toList=γ b):
  lL x=if b<2\/bq t b≠1 then none else γ (t,b):=by
 unfold lL;rw[c,d];simp only;rw[χ λz=>by rw[(vD x).mp z]at a;cases a]
theorem Tn(a:jK (Δ x "/").1.cps.toList=none):lL x=none:=by
 unfold lL;rw[a]
theorem Tl(a:av x "/"=true)(b:jK (Δ x "/").2.2.cps.toList=none):lL x=none:=by
 unfold lL;split
 ·rfl
 ·rw[b];simp only;rw[χ λz=>by rw[(vD x).mp z]at a;cases a]
theorem aEe(g:2<=b):((cD t b).num=t/\((cD t b).den:τ)=b)↔bq t b=1:=by
 obtain⟨c,d⟩:=Fm.fr_pos (t:=t) (b:=b) ‹36›;rw[<-c,<-d];constructor
 ·rintro⟨_,h⟩;have e:((bq t b:ν):τ)∣b:=vw ..;have a:=Int.mul_ediv_cancel' e;rw[h]at a;have f:((bq t b:ν):τ)*b=1*b:=by rw[a,sv]
  have i:=Int.eq_of_mul_eq_mul_right (by lia) f;lia
 ·intro h;rw[h];simp
open PySem.StrLaws (At ChainG partsFrom occ_tight partsBetween_eq)
open PySem.Builtin.Str (occurrences partsBetween strSub subAt)
theorem pJ(x:Ξ)(i j:ν):(strSub x i j).cps.toList=(x.cps.toList.drop i).take (j-i):=AS x i j
theorem Lh(x y:Ξ)(i:ν):At x y x.length i↔i+y.length<=x.length/\(x.cps.toList.drop i).take y.length=y.cps.toList:=by
 unfold StrLaws.At;rw[xf];exact⟨λh=>⟨h.1,eq_of_beq h.2⟩,λh=>⟨h.1,iy.mpr h.2⟩⟩
structure Sp1(y:Ξ)(c:ν)(pre post:ε ν):Prop where
 is:y.cps.toList=pre++c::post
 no:c∉pre
theorem Sp1.len(s:Sp1 y c a post):y.length=a.length+1+post.length:=by
 rw[<-dZ,s.is,Γ,Ρ];exact 48
theorem Hj(s:Sp1 y c b post)(e:x.cps.toList.drop a=u++y.cps.toList++v)(m:a<=x.length)(g:c∉u):
  At x y x.length (a+u.length)/\∀k,a<=k->k<a+u.length->¬At x y x.length k:=by
 have n:=dZ x;have h:=dZ y;have hlen:x.length-a=u.length+y.length+v.length:=by
  have:=bt length e;simp only[bx,Γ]at this;assumption
 refine⟨(Lh x y _).mpr ⟨by lia,?_⟩,λk o p i=>?_⟩
 ·rw[<-qz,e,ek,ue,List.take_append_of_le_length<|‹48›,bg<|‹48›]
 ·obtain⟨q,f⟩:=(Lh x y k).mp i;obtain⟨j,rfl⟩:∃j,k=a+j:=⟨k-a,‹23›⟩;rw[<-qz,e]at f;have d:(take y.length<|drop j<|u++y.cps.toList++v)[b.length]? =γ c:=by
   rw[f,s.is,bo<|Η _,mv];rfl
  rw[iz (by rw[s.len];exact 48),qf,ek]at d;by_cases l:j+b.length<u.length
  ·rw[dq l]at d;exact g<|ao d
  ·rw[bo<|‹24›,s.is,ek,dq<|by lia]at d;exact s.no<|ao d
theorem aDt(s:Sp1 y c b post)(f:c∉x.cps.toList.drop a):∀k,a<=k->¬At x y x.length k:=λk h g=>by
 obtain⟨i,d⟩:=(Lh x y k).mp g;obtain⟨j,rfl⟩:∃j,k=a+j:=⟨k-a,‹23›⟩;rw[<-qz]at d;have e:(take y.length<|drop j<|x.cps.toList.drop a)[b.length]? =γ c:=by
  rw[d,s.is,bo<|Η _,mv];rfl
 rw[iz (by rw[s.len];exact 48),qf]at e;exact f<|ao e
noncomputable def iR(y:ε ν):ε (ε ν)->ε ν
 |[]=>[]
 |[w]=>w
 |w::r=>w++y++iR y r
theorem mG(y w z:ε ν)(r:ε<|ε ν):iR y (w::z::r)=w++y++iR y (z::r):=rfl
theorem jB(y:Ξ):∀a:ε Ξ,(Txt.join y a).cps.toList=iR y.cps.toList (a.map λw=>w.cps.toList):=by
 intro a;show(Builtin.Str.glued y a).cps.toList=_;rw[AU]
 induction a with
 |nil=>rfl
 |cons w r b=>
  cases r with
  |nil=>rfl
  |cons z r=>
   show(w++y++Str.join y (z::r)).cps.toList=_;rw[ak,ak,mG,<-ak (f:=λw:Ξ=>w.cps.toList),<-b];simp only[fy,gj]
theorem Eg(s:Sp1 y c m post):∀(l:ε<|ε ν)(a f:ν)(b:ε ν),l≠[]->a<=x.length->x.cps.toList.drop a=iR y.cps.toList l->(∀w∈l,c∉w) ->
  ChainG x y x.length a b f->(∀k,f<=k->¬At x y x.length k)->(partsFrom x y.length a b).map (λp=>p.cps.toList)=l
 |[],_,_,_,h,_,_,_,_,_=>ς rfl h
 |[w],a,f,b,_,t,g,hw,i,n=>by
  have B:=aDt s (a:=a) (by rw[g];exact hw w<|by simp);cases b with
  |nil=>
   show[(strSub x a x.length).cps.toList]=[w];have C:=dZ x;rw[pJ,bg (by rw[bx];exact 48),g];rfl
  |cons d r=>exact ς i.2.1<|B d i.1
 |w::z::r,a,f,b,_,t,g,hw,i,n=>by
  rw[mG]at g;obtain⟨v,D⟩:=Hj s g t (hw w<|by simp);have C:=dZ x;have o:=dZ y;have hlen:x.length-a=w.length+y.length+(iR y.cps.toList<|z::r).length:=by
   have:=bt length g;simp only[bx,Γ]at this;assumption
  cases b with
  |nil=>
   have e:f=a:=i;exact ς v (n _<|‹48›)
  |cons d q=>
   obtain⟨E,F,G,H⟩:=i;have e:d=a+w.length:=by
    rcases wh d (a+w.length)with j|j|j
    ·exact ς F<|D d E j
    ·exact j
    ·exact ς v<|G _ ‹48› j
   subst e;show(strSub x a<|a+w.length).cps.toList::(partsFrom x y.length (a+w.length+y.length) q).map (λp=>p.cps.toList)=_;rw[pJ,g,show a+w.length-a=w.length by lia,ek,zc]
   congr 1
   refine Eg s (z::r) _ f q (by simp) (by lia) ?_ (λu I=>hw u<|Θ _ I) H n;have J:x.cps.toList.drop (a+w.length+y.length)=drop (w.length+y.length) (x.cps.toList.drop a):=by
    rw[qz];congr 1;exact 48
   rw[J,g,ek,<-qz,ue,<-o,ue]
theorem Uu(b:1<=y.length)(g:Builtin.Str.strKind y<=Builtin.Str.strKind x):Txt.split x y=partsFrom x y.length 0 (occurrences x y 0 x.length<|x.length+1):=by
 unfold PySem.Txt.split;by_cases d:x.length<y.length
 ·rw[Α<|by simp[d]];obtain⟨f,a,_⟩:=B1 x y b;cases e:occurrences x y 0 x.length (x.length+1)with
  |nil=>
   show[x]=[strSub x 0 x.length];rw[wj]
  |cons c r=>
   rw[e]at a;have:=a.2.1.1;lia
 ·rw[χ (by simp;lia)];split
  ·rename_i a
   rw[List.isEmpty_iff.mp a];show[x]=[strSub x 0 x.length];rw[wj]
  ·exact ug x _ _
theorem Xt(h:∀c∈y.cps.toList,c<128)(x:Ξ):Builtin.Str.strKind y<=Builtin.Str.strKind x:=by
 have a:Builtin.Str.strKind y=1:=by
  unfold Builtin.Str.strKind;rw[Α];rw[<-Array.all_toList];exact oD.mpr λc b=>cj (mr (h c b)<|by decide)
 rw[a];unfold Builtin.Str.strKind;split
 ·exact Η _
 ·split <;>decide
theorem Ji(s:Sp1 y c j post)(m:∀d∈y.cps.toList,d<128)(k:e≠[])(hw:∀w∈e,c∉w.cps.toList):Txt.split (Txt.join y e) y=e:=by
 have i:1<=y.length:=by rw[s.len];exact 48
 rw[Uu i<|Xt m _];obtain⟨f,n,o⟩:=B1 (Txt.join y e) y i;have h:=Eg s (e.map λw=>w.cps.toList) 0 f _ (by simpa using k) (hB _) (by rw[mf,jB]) (by simpa using hw) n o;have l:∀(a b:ε Ξ),a.map (λw=>w.cps.toList)=b.map (λw=>w.cps.toList)->a=b:=by
  intro a
  induction a with
  |nil=>intro b g;cases b with |nil=>rfl|cons _ _=>simp at g
  |cons w r p=>
   intro b g;cases b with
   |nil=>simp at g
   |cons z q=>
    simp only[ak,x8]at g;rw[gI g.1,p q g.2]
 exact l _ _ h
theorem Be(s:Sp1 y c h post)(o:c∉a.cps.toList):Δ (a++y++b) y=(a,y,b):=by
 obtain⟨x,m⟩:∃x,a++y++b=x:=⟨_,rfl⟩;have d:x.cps.toList=a.cps.toList++y.cps.toList++b.cps.toList:=by
  rw[<-m];simp only[fy,gj]
 have E:=dZ x;have F:=dZ a;have p:=dZ y;obtain⟨l,n⟩:=Hj (a:=0) s (by rw[mf];exact d) (hB _) o;rw[AB]at l n;have hw:=BO x y;unfold PySem.Txt.find at hw;rw[m];unfold Δ;cases e:occurrences x y 0 x.length 1 with
 |nil=>
  rw[e]at hw;rcases hw with⟨_,q⟩|⟨i,g,_⟩
  ·exact ς l<|q _
  ·simp at g
 |cons i r=>
  rw[e]at hw;have g:At x y x.length i/\∀k,k<i->¬At x y x.length k:=by
   rcases hw with⟨z,_⟩|⟨j,t,u,v⟩
   ·simp at z
   ·have:i=j:=by have:(i:τ)=(j:τ):=t;lia
    subst this;exact⟨u,v⟩
  have B:i=a.cps.toList.length:=by
   rcases wh i a.cps.toList.length with f|f|f
   ·exact ς g.1<|n i (hB _) f
   ·exact f
   ·exact ς l<|g.2 _ f
  subst B;show(strSub x 0 a.cps.toList.length,y,strSub x (a.cps.toList.length+y.length) x.length)=(a,y,b);have C:strSub x 0 a.cps.toList.length=a:=by
   apply gI;rw[pJ,d,mf,vy,ek,zc]
  have D:strSub x (a.cps.toList.length+y.length) x.length=b:=by
   apply gI;rw[pJ,bg (by rw[bx];lia),d,ek,<-qz,ue,<-p,ue]
  rw[C,D]
abbrev Mk7:=(τ×τ)×(τ×τ)×τ
noncomputable def mD(m:Mk7):η:=.tuple [.tuple [.int m.1.1,.int m.1.2],.tuple [.int m.2.1.1,.int m.2.1.2],.int m.2.2]
noncomputable def xB(t b:τ):Ξ:=if b=1 then ζ (toString t)else ζ (toString t)++ζ "/"++ζ (toString b)
noncomputable def shM(m:Mk7):Ξ:=xB m.1.1 m.1.2++ζ ":"++xB m.2.1.1 m.2.1.2++ζ "*"++ζ (toString m.2.2)
def Sm7(m:Mk7):Prop:=m.1.1.natAbs<10^50/\m.1.2.natAbs<10^50/\m.2.1.1.natAbs<10^50/\m.2.1.2.natAbs<10^50/\m.2.2.natAbs<10^50
theorem Mr(a:t.natAbs<10^50)(c:b.natAbs<10^50):(xB t b).length<=103:=by
 have d:=tK a;have e:=tK c;have f:=kH;unfold xB;split
 ·exact 1
 ·rw[ω,ω];lia
theorem nI:(ζ ":").length=1:=by decide +kernel
theorem pK:(ζ "*").length=1:=by decide +kernel
theorem gF:(ζ " ").length=1:=by decide +kernel
theorem aCq(h:Sm7 m):1<=(shM m).length/\(shM m).length<=259:=by
 have a:=Mr h.1 h.2.1;have b:=Mr h.2.2.1 h.2.2.2.1;have c:=tK h.2.2.2.2;have:=nI;have:=pK;unfold shM;rw[ω,ω,ω,ω];lia
noncomputable def pN(x:Ξ):υ Mk7:=
 match lL (Δ x ":").1 with
 |none=>none
 |some a=>match lL (Δ (Δ x ":").2.2 "*").1 with
  |none=>none
  |some b=>match jK (Δ (Δ x ":").2.2 "*").2.2.cps.toList with
   |none=>none
   |some n=>if n<1 then none else γ (a,b,n)
structure Digs(k n:ν)(cs:ε ν):Prop where
 al:AllDigits cs
 l1:1<=cs.length
 l2:cs.length<=k
 hd:cs.head? =γ 48->cs.length=1
 vl:digitsVal cs=n
theorem Ot(a:ε ν)(c:ν):digitsVal (a++[c])=digitsVal a*10+(c-48):=by
 unfold NumText.digitsVal;rw[wa];rfl
theorem Cj:∀(k n:ν),n<10^(k+1)->∃b,Digs (k+1) n b
 |0,n,h=>⟨[48+n],λc f=>by rw[Υ.mp f];lia,by simp,by simp,λ_=>rfl,by have:=Ot []<|48+n;rw[uw]at this;rw[this];show 0*10+_=n;lia⟩
 |k+1,n,h=>by
  by_cases o:n<10
  ·obtain⟨b,d⟩:=Cj k n (by rw[gi];have:=pf (n:=k) (show 0<10 by decide);lia);exact⟨b,d.al,d.l1,by have:=d.l2;exact 3,d.hd,d.vl⟩
  ·obtain⟨b,d⟩:=Cj k (n/10) (by rw[gi]at h;lia);have j:=d.l1;have p:=d.l2;refine⟨b++[48+n%10],λc f=>?_,by simp,by simp;assumption,λe=>?_,?_⟩
   ·rcases eg.mp f with z|z
    ·exact d.al c z
    ·rw[Υ.mp z];lia
   ·have g:b.head? =γ 48:=by
     cases b with
     |nil=>simp at j
     |cons a r=>simpa using e
    have l:=d.hd g;obtain⟨a,i⟩:∃a,b=[a]:=List.length_eq_one_iff.mp l;rw[i]at g;have m:a=48:=by simpa using g
    have v:=d.vl;rw[i,m]at v;have:digitsVal [48]=0:=rfl;lia
   ·rw[Ot,d.vl];lia
theorem aFb(d:Digs k n a):(ζ<|toString ((n:ν):τ)).cps.toList=a:=by
 have b:∀c:ν,c<58->(Char.ofNat c).toNat=c:=by decide
 have f:=d.l1;rw[<-d.vl,W.KIN.signs_num,ze (a.length-1) a ‹50› d.al ?_,jd]
 ·refine(fu (g:=id) λc e=>?_).trans<|A9 _;have:=d.al c e;exact b c ‹48›
 ·cases a with
  |nil=>exact ς f (by decide)
  |cons c r=>
   by_cases e:c=48
   ·left;have:=d.hd (by rw[e];rfl);lia
   ·right;have:=d.al c (by simp);exact⟨c,r,rfl,by lia⟩
theorem rF{n:τ}(h:n.natAbs<10^(k+1)):∃a,Digs (k+1) n.natAbs a/\(ζ<|toString n).cps.toList=if n<0 then 45::a else a:=by
 obtain⟨a,d⟩:=Cj k n.natAbs h;refine⟨a,d,?_⟩;have e:=aFb d;by_cases b:n<0
 ·rw[Α b,toString_neg b,Bo];have c:(0:τ)-n=((n.natAbs:ν):τ):=by lia
  rw[c,e];show("-":Ξ).cps.toList++a=45::a;rw[oN];rfl
 ·rw[χ b];have c:n=((n.natAbs:ν):τ):=by lia
  rw[c];exact e
theorem vQ(h:n.natAbs<10^40):jK (ζ<|toString n).cps.toList=γ n:=by
 obtain⟨b,d,e⟩:=rF (k:=39) h;have p:=d.l1;have t:=d.l2;have l:oP b=true:=by
  unfold oP;rw[cj p,cj<|show b.length<=40 by assumption];have q:(decide (b.head? =γ 48) && decide (1<b.length))=false:=by
   rw[qy];by_cases m:b.head? =γ 48
   ·right;exact Τ (by have:=d.hd m;lia)
   ·left;exact Τ m
  rw[q];simp only[oi,qd,uq,oD];exact λc s=>isDig_iff.mpr<|d.al c s
 have g:=d.vl;have f:b.head?≠γ 45:=λz=>by
  cases b with
  |nil=>simp at z
  |cons a r=>
   have:=d.al a (by simp);have:a=45:=by simpa using z
   lia
 rw[e];unfold jK;by_cases o:n<0
 ·rw[Α o];have i:rO (45::b)=b:=rfl;rw[i,l];have j:(45::b)≠[45,48]:=λz=>by
   have:b=[48]:=by simpa using z
   rw[this]at g;have:digitsVal [48]=0:=rfl;lia
  rw[Τ j];simp only[oi,qd,jz,yj,g]
  congr 1;lia
 ·rw[χ o];have i:rO b=b:=χ f;rw[i,l];have j:b≠[45,48]:=λz=>by rw[z]at f;exact f rfl
  rw[Τ j,χ f];simp only[oi,qd,jz,g]
  congr 1;lia
def Nk(c:ν):Prop:=c=45\/(48<=c/\c<=57)
theorem vP{n:τ}(h:n.natAbs<10^(k+1)):∀c∈(ζ<|toString n).cps.toList,Nk c:=by
 obtain⟨b,d,e⟩:=rF h;rw[e];intro c a;split at a
 ·rcases Ω.mp a with z|z
  ·exact .inl z
  ·exact .inr<|d.al c z
 ·exact .inr<|d.al c a
theorem oF:(ζ "/").cps.toList=[47]:=by decide +kernel
theorem wP:(ζ ":").cps.toList=[58]:=by decide +kernel
theorem yP:(ζ "*").cps.toList=[42]:=by decide +kernel
theorem wW:(ζ " ").cps.toList=[32]:=by decide +kernel
theorem Uv:Sp1 (ζ "/") 47 [] []:=⟨oF,by simp⟩
theorem Uw:Sp1 (ζ ":") 58 [] []:=⟨wP,by simp⟩
theorem aCl:Sp1 (ζ "*") 42 [] []:=⟨yP,by simp⟩
theorem Ux:Sp1 (ζ " ") 32 [] []:=⟨wW,by simp⟩
theorem gN(a b:Ξ):(a++b).cps.toList=a.cps.toList++b.cps.toList:=by simp only[fy,gj]
theorem uK(d:t.natAbs<10^(k+1))(e:b.natAbs<10^(k+1)):∀c∈(xB t b).cps.toList,Nk c\/c=47:=by
 intro c a;unfold xB at a;split at a
 ·exact .inl<|vP d c a
 ·rw[gN,gN,oF]at a;simp only[eg,Υ]at a;rcases a with(z|z)|z
  ·exact .inl<|vP d c z
  ·exact .inr z
  ·exact .inl<|vP e c z
theorem Va(h:Sm7 m):∀c∈(shM m).cps.toList,Nk c\/c=47\/c=58\/c=42:=by
 intro c a;unfold shM at a;rw[gN,gN,gN,gN,wP,yP]at a;simp only[eg,Υ]at a;rcases a with(((z|z)|z)|z)|z
 ·rcases uK (k:=49) h.1 h.2.1 c z with y|y
  ·exact .inl y
  ·exact .inr<|.inl y
 ·exact .inr<|.inr<|.inl z
 ·rcases uK (k:=49) h.2.2.1 h.2.2.2.1 c z with y|y
  ·exact .inl y
  ·exact .inr<|.inl y
 ·exact .inr<|.inr<|.inr z
 ·exact .inl<|vP (k:=49) h.2.2.2.2 c z
theorem kA(a:y=⟨#[c]⟩):av x y=decide (c∈x.cps.toList):=by
 rw[a];exact BW x c
theorem Ei:(ζ "/")=⟨#[47]⟩:=by decide +kernel
theorem Iy(a:t.natAbs<10^40)(f:b.natAbs<10^40)(i:1<=b)(g:bq t b=1):lL (xB t b)=γ (t,b):=by
 have sg:=vP (k:=39) a;have c:47∉(ζ<|toString t).cps.toList:=λz=>by
  rcases sg 47 z with y|y
  ·exact ς y (by decide)
  ·lia
 unfold xB;by_cases e:b=1
 ·rw[Α e,uC (by rw[kA Ei];exact Τ c),vQ a,e];rfl
 ·rw[χ e];have d:=Be Uv (b:=ζ<|toString b) c;have h:av (ζ (toString t)++ζ "/"++ζ (toString b)) "/"=true:=by
   refine(kA (x:=ζ (toString t)++ζ "/"++ζ (toString b)) Ei).trans<|cj ?_;rw[gN,gN,oF];simp
  rw[yG h (t:=t) (b:=b) (by rw[d];exact vQ a) (by rw[d];exact vQ f),χ];rintro(z|z)
  ·lia
  ·exact z g
structure Lw7(m:Mk7):Prop where
 a:m.1.1.natAbs<10^40
 b:m.1.2.natAbs<10^40
 c:m.2.1.1.natAbs<10^40
 d:m.2.1.2.natAbs<10^40
 e:m.2.2.natAbs<10^40
 b1:1<=m.1.2
 d1:1<=m.2.1.2
 e1:1<=m.2.2
 g1:bq m.1.1 m.1.2=1
 g2:bq m.2.1.1 m.2.1.2=1
theorem Lw7.sm(h:Lw7 m):Sm7 m:=⟨mr h.a<|by decide,mr h.b<|by decide,mr h.c<|by decide,mr h.d<|by decide,mr h.e<|by decide⟩
theorem aCk(h:Lw7 m):pN (shM m)=γ m:=by
 have d:58∉(xB m.1.1 m.1.2).cps.toList:=λz=>by
  rcases uK (k:=39) h.a h.b 58 z with(y|y)|y
  ·exact ς y (by decide)
  ·lia
  ·exact ς y (by decide)
 have e:42∉(xB m.2.1.1 m.2.1.2).cps.toList:=λz=>by
  rcases uK (k:=39) h.c h.d 42 z with(y|y)|y
  ·exact ς y (by decide)
  ·lia
  ·exact ς y (by decide)
 have f:shM m=xB m.1.1 m.1.2++ζ ":"++(xB m.2.1.1 m.2.1.2++ζ "*"++ζ (toString m.2.2)):=by
  apply gI;unfold shM;simp only[gN,ek]
 have g:=Be Uw (b:=xB m.2.1.1 m.2.1.2++ζ "*"++ζ (toString m.2.2)) d;have i:=Be aCl (b:=ζ<|toString m.2.2) e;have a:Δ (shM m) ":"=(xB m.1.1 m.1.2,(":":Ξ),xB m.2.1.1 m.2.1.2++ζ "*"++ζ (toString m.2.2)):=by rw[f];exact g
 have c:Δ (xB m.2.1.1 m.2.1.2++ζ "*"++ζ (toString m.2.2)) "*"=(xB m.2.1.1 m.2.1.2,("*":Ξ),ζ<|toString m.2.2):=i;unfold pN;rw[a,c];dsimp only;rw[Iy h.a h.b h.b1 h.g1,Iy h.c h.d h.d1 h.g2,vQ h.e];dsimp only;rw[χ (by have:=h.e1;lia)]
def aOj(C:ο):DW:=λa Q X=>∃d,a=[d]/\((∃x,d= .str x)->Q (.dat .none))/\((∀x,d≠ .str x)->X C)
theorem xG:Q 1 58 (λA=>(aOj A.x_NoText)):=by
 refine jU 58 ["text"] λA T R Z=>⟨_,by walk_at"t",_,(bD (oA<|lM<|aE<|rP (by decide)<|aI 0) (cL<|aH aP aO) aQ),?_⟩;rintro c Q X ⟨d,rfl,a,b⟩;cases d with
 |str x=>
  ext;exact a ⟨x,rfl⟩
 |_=>
  ext;exact b λx e=>nomatch e
def aOi:DW:=λa Q _=>∃x:Ξ,a=[.str x]/\x.length<=100000/\Q (.dat<|.bool<|oP x.cps.toList)
theorem xF:Q 1 59 (λ_=>aOi):=by
 refine jU 59 ["text"] λA T R Z=>⟨_,by walk_at"t",_,(aG (bD (pG (tO cJ (aE (bR pY (vN 0 aB))) bI) (tO eR (aE (bR pY (vN 0 aB))) bI)) (aW (aE mK)) aQ)
   (aG (bD (Ja (tO cJ (bO aJp (aI 0) bI) (aE aP)) (tO eR (aE (bR pY (vN 0 aB))) bI)) (aW (aE mK)) aQ)
   (aW (aE (bR Vm (vE (bU (bK [none] ["sign"] (IvS.e (Xw (aY 0))) (aJ 0) bM (cB Vh (aI 0) (aE aP)))) aB)))))),?_⟩
 rintro l Q X ⟨x,rfl,f,k⟩;have g:=dZ x;ac_nf;refine⟨f,bT (λc=>?_) λc=>?_⟩
 ·have e:oP x.cps.toList=false:=by
   unfold oP;rw[Τ<|show ¬1<=x.cps.toList.length by lia];rfl
  rw[e]at k;exact k
 refine⟨f,bT (λq=>?_) λq=>?_⟩
 ·have e:oP x.cps.toList=false:=by
   unfold oP;rw[Τ<|show ¬x.cps.toList.length<=40 by lia];simp
  rw[e]at k;exact k
 obtain⟨a,r,b⟩:∃a r,x.cps.toList=a::r:=by
  cases h:x.cps.toList with
  |nil=>rw[h]at g;simp at g;lia
  |cons a r=>exact⟨a,r,rfl⟩
 ac_nf;refine⟨f,a,?_,?_⟩
 ·rw[b];exact dR (j:=0) rfl
 have m:((⟨#[a]⟩:Ξ)="0")↔a=48:=by
  constructor
  ·intro h;have n:=bt (λz:Ξ=>z.cps.toList) h;have s:("0":Ξ).cps.toList=[48]:=by decide +kernel
   rw[s]at n;injection n
  ·rintro rfl;apply gI;decide +kernel
 rw[b]at g k;have d:¬(a=48/\1<x.length)->dLC (aMy<|Kw 0) [none] (wD 0) aFe (dOp aDq (wM 0)<|dC<|br<|ζ "0123456789") X
     [γ<|Sl.dat<|br x] (λl=>∃o,l=List.map PyData.bool o/\Q (Sl.dat<|PyData.bool<|o.all id)):=by
  intro t
  refine bJ sgD PyData.bool (λc=>[qI c]) x.cps.toList (by rw[b];lia) (λQ h=>by
   ext
   exact h) (λc B N u v=>?_) ?_
  ·unfold sgD;ext;rw[aLs];exact v
  refine⟨x.cps.toList.flatMap λc=>[qI c],rfl,?_⟩;have e:oP (a::r)=(x.cps.toList.flatMap λc=>[qI c]).all id:=by
   rw[b,aN,AM];unfold oP;rw[cj<|show 1<=(a::r).length by simp,cj<|show(a::r).length<=40 by lia];have y:(decide ((a::r).head? =γ 48) && decide (1<(a::r).length))=false:=by
    rw[qy];by_cases h:a=48
    ·right;exact Τ λz=>t ⟨h,‹38›⟩
    ·left;exact Τ λz=>h (by injection z)
   rw[y];rfl
  rw[e]at k;exact k
 refine bT (λi=>?_) λi=>d λz=>i<|m.mpr z.1;refine⟨f,bT (λp=>?_) λp=>d λz=>p<|by lia⟩;have e:oP (a::r)=false:=by
  unfold oP;rw[cj (show(a::r).head? =γ 48 by rw[m.mp i];rfl),cj<|show 1<(a::r).length by lia];simp
 rw[e]at k;exact k
def aIn(C:ο):DW:=λa Q X=>∃x:Ξ,a=[.str x]/\x.length<=100000/\(∀n,jK x.cps.toList=γ n->Q (.dat<|.int n))/\(jK x.cps.toList=none->X C)
theorem jZ:Q 2 60 (λA=>(aIn A.x_NoText)):=by
 refine jU 60 ["text","figures"] λA T R Z=>⟨_,by walk_at"t",_,(oB (eY (Ys (tO cJ (aE (Yp (aI 0) gQ (cH bI))) (aE aP)) (Yp (aI 0) (cH bI) gQ) (aY 0)) (aJ 1))
   (aG (bD (pG (tO cJ (aI 0) (aE aP)) (oA (lM (aE (aC (vN 1 aB)))))) (cL (aH aP aO)) aQ)
   (aW (aE (bR aCw (vN 0 aB)))))),?_⟩
 rintro k Q X ⟨x,rfl,b,g,d⟩;refine oU (λe=>e=[γ<|.dat<|.str x,γ<|.dat<|.str<|Hk x]) ?_ ?_
 ·ext;refine⟨b,bT (λc=>⟨b,?_⟩) λc=>?_⟩
  ·unfold Hk;rw[Α<|(sS x).mp c]
  ·unfold Hk;rw[χ λz=>c<|(sS x).mpr z]
 rintro e rfl;refine cV ?_;ext;have h:=Yj x;refine bT (λc=>?_) λc=>?_
 ·refine d ?_;unfold jK;rw[cj<|(zS x).mp c];rfl
 refine⟨Hk x,rfl,‹2›,?_⟩;ext;rw[Rp];refine bT (λa=>?_) λa=>?_
 ·refine d ?_;unfold jK;rw[a];simp
 have i:∃n,jK x.cps.toList=γ n:=by
  unfold jK;rw[Α]
  ·exact⟨_,rfl⟩
  ·rw[Τ λz=>c<|(zS x).mpr z];simpa using a
 obtain⟨n,f⟩:=i;obtain⟨l,j⟩:=aDr f;ext;exact⟨‹1›,n,j,g n f⟩
def aOe(C:ο):DW:=λa Q X=>(∃x:Ξ,a=[.str x]/\x.length<=100000/\(∀t b,lL x=γ (t,b)->Q (.dat<|.tuple [.int t,.int b]))/\(lL x=none->X C))\/(∃d,a=[d]/\(∀x,d≠ .str x)/\X C)
theorem rE:Q 3 61 (λA=>(aOe A.x_NoText)):=by
 intro A P w K mg base T;refine Nj (T.G 61).F kJ (λp Q E h=>?_) λq C outer s H E R=>?_
 ·rcases h with⟨_,rfl,_⟩|⟨_,rfl,_⟩ <;>rfl
 have Z:=kJ
 refine⟨_,by walk_at"t",_,(aG (iT (aE (fH (vN 0 aB))))
   (aG (bD (tO Qa (aE aP) (aI 0)) (aW (aE (cQ (aH (fH (vN 0 aB)) (aH aX aO))))) aQ)
   (sA 1 (wI (aI 0) (aE aP)) (sA 2 (fH (vE (eX 0 1) aB)) (sA 3 (fH (vE (eX 2 1) aB)) (aG (bD (pG (tO eR (aI 3) bI) (tO oH (aE (aC (vN 2 (vN 3 aB)))) (aE (cQ (aH (aY 2) (aH (aY 3) aO)))))) (cL (aH aP aO)) aQ)
   (aW (aE (cQ (aH (aY 2) (aH (aY 3) aO))))))))))),?_⟩
 rintro p Q X (⟨x,rfl,i,j,f⟩|⟨d,rfl,r,k⟩)
 ·ac_nf;refine⟨.str x,rfl,λ_=>?_,λz=>ς rfl<|z x⟩;ac_nf;refine bT (λc=>?_) (λc=>?_)
  ·have e:=uC c;refine⟨x,rfl,i,λn a=>?_,λa=>f (by rw[e,a];rfl)⟩;ext;exact j n 1 (by rw[e,a];rfl)
  have l:av x "/"=true:=by simpa using c
  obtain⟨D,_,G⟩:=vC x "/";ac_nf;refine⟨i,by rw[kH];rfl,?_⟩;ac_nf;refine⟨_,rfl,‹2›,λt u=>?_,λa=>f<|Tn a⟩;ac_nf;refine⟨_,rfl,‹2›,λb m=>?_,λa=>f<|Tl l a⟩;have e:=yG l u m;have y:=Qq m;ac_nf;refine bT (λo=>f<|by rw[e,Α<|.inl o]) λo=>?_;ext;refine⟨t,b,rfl,fJ (n:=10^40)<|‹0›,λz=>ς z<|by lia,λ_=>?_⟩;ext;refine⟨τ×τ,eT2 aQv aQv (by decide)<|by decide,((cD t b).num,((cD t b).den:τ)),(t,b),rfl,rfl,λv B=>?_⟩;have g:v=true↔bq t b=1:=by
   rw[B,B4,aEe<|‹27›]
  ext;cases v with
  |true=>
   rw[χ<|by simp];ext;exact j t b (by rw[e,χ (by rintro(z|z);lia;exact z<|g.mp rfl)])
  |false=>
   rw[Α rfl];exact f (by rw[e,Α<|.inr λz=>nomatch g.mpr z])
 ·ac_nf;exact⟨d,rfl,λ⟨x,e⟩=>ς e<|r x,λ_=>k⟩
noncomputable def gR(a:ε Mk)(p:ψ):ν:=(a.flatMap λm=>if m.1<p then[m]else[]).length
def aIu:DW:=λb Q _=>∃(a:ε Mk)(p:ψ),b=[.list<|a.map bW,fr p]/\(∀m∈a,Ok m.1)/\Ok p/\a.length<=1000/\Q (.dat<|.int (gR a p:τ))
theorem vM:Q 2 20 (λ_=>aIu):=by
 refine jU 20 ["marks","place"] λA T R Z=>⟨_,by walk_at"t",_,(aW<|aE<|bR cI<|vE (bU<|bK [none,γ 1] ["mark","place"] (cC<|aL 0) (aJ 0) (lM<|aE<|aC<|vE (eX 0 0)<|vN 1 aB)<|aY 0) aB),?_⟩;rintro i Q X ⟨b,p,rfl,d,e,f,k⟩;ext;refine bJ bW bW (λm:Mk=>if m.1<p then[m]else[]) b f (λQ h=>h) (λm h N g a=>?_) ?_
 ·ext;refine⟨m.1,p,rfl,d m h,e,?_⟩;ext;by_cases c:m.1<p
  ·rw[Α c];rw[Α c]at a;exact a
  ·rw[χ c];rw[χ c]at a;simpa using a
 ·ext;exact k
def Up(c:ε Mk):Prop:=c.Pairwise λa b=>a.1<b.1
theorem Cu(a b:ε Mk)(p:ψ):gR (a++b) p=gR a p+gR b p:=by
 unfold gR;rw[List.flatMap_append,Γ]
theorem aFk(h:∀m∈a,m.1<p):gR a p=a.length:=by
 induction a with
 |nil=>rfl
 |cons m a b=>
  have e:gR (m::a) p=gR [m] p+gR a p:=Cu [m] a p;have c:gR [m] p=1:=by unfold gR;simp[h m Κ]
  rw[e,c,b λx d=>h x<|Θ _ d,Ρ];exact 48
theorem aAt(h:∀m∈a,¬m.1<p):gR a p=0:=by
 induction a with
 |nil=>rfl
 |cons m a b=>
  have e:gR (m::a) p=gR [m] p+gR a p:=Cu [m] a p;have c:gR [m] p=0:=by unfold gR;simp[h m Κ]
  rw[e,c,b λx d=>h x<|Θ _ d]
theorem Dp(p:ψ):∀{f:ε Mk},Up f->∃a b,f=a++b/\(∀m∈a,m.1<p)/\(∀m∈b,¬m.1<p)
 |[],_=>⟨[],[],rfl,(λ_ h=>nomatch h),λ_ h=>nomatch h⟩
 |m::f,h=>by
  have g:=mn.mp h;by_cases c:m.1<p
  ·obtain⟨a,b,e,i,j⟩:=Dp p g.2;refine⟨m::a,b,by rw[e];rfl,λx d=>?_,j⟩;rcases Ω.mp d with rfl|d
   ·exact c
   ·exact i x d
  ·refine⟨[],m::f,rfl,(λ_ h=>nomatch h),λx d=>?_⟩;rcases Ω.mp d with rfl|d
   ·exact c
   ·have:=g.1 x d;grind
theorem Tp(h:Up c):(c.map (·.1)).Nodup:=by
 unfold Up at h;rw[md,l5];exact h.imp λ{a b} l e=>by rw[e]at l;exact ς l Rat.lt_irrefl
def Th(C:ο):DW:=λc Q X=>∃a:ε Mk,c=[.list<|a.map bW]/\(∀m∈a,Ok m.1)/\(a=[]->X C)/\(60<a.length->X C)/\(¬(a.map (·.1)).Nodup->X C)/\
 (a≠[]->a.length<=60->(a.map (·.1)).Nodup->∀b:ε Mk,b.Perm a->Up b->Q (.own<|b.map bW))
theorem Fz:Q 3 21 (λA=>(Th A.x_NoMarks)):=by
 refine jU 21 ["some","marks","mark","spot"] λA T R Z=>⟨_,by walk_at"t",_,(aG (bD (tO cJ (aE (bR cI (vN 0 aB))) bI) (cL (aH aP aO)) aQ)
   (aG (bD (tO eR (aE (bR cI (vN 0 aB))) bI) (cL (aH aP aO)) aQ)
   (aG (aR 1 (bN aO))
   (aG (dU (iE (aY 0)) (aJ 2)
    (sA 3 (aC (vN 1 (vE (eX 0 2) aB))) (aG (bD (Ja (tO eR (aI 3) (aE (bR cI (vN 1 aB)))) (tO qZ (aE (oQ 0 (bE (aL 1) (aI 3)))) (aE (eX 0 2)))) (cL (aH aP aO)) aQ)
   (Uj 1 (aI 3) (aY 2)))))
   (dM 1))))),?_⟩
 intro Y Q X qQ0;refine q_ λwv=>?_;obtain⟨f,rfl,D,H,I,J,k⟩:=qQ0;apply wv;ac_nf;refine bT (λc=>H<|List.eq_nil_of_length_eq_zero<|by lia) λc=>?_;ac_nf;refine bT (λL=>I<|‹20›) λL=>?_;ac_nf;refine cV<|eF bW f (λQ h=>h) (λi v=>∃(d:ε Mk)(l n:υ Sl),v=[γ<|.dat<|.list<|f.map bW,γ<|.own<|d.map bW,l,n]/\Up d/\d.Perm (f.take i)) ⟨[],_,_,rfl,Pairwise.nil,by simp⟩ ?_ ?_
 ·intro i m v B qQ0;refine q_ λwv=>?_;obtain⟨d,l,n,rfl,p,j⟩:=qQ0;apply wv;have M:i<f.length:=(ρ.mp B).1;have N:d.length=i:=by rw[j.length_eq,aA];exact 50
  have q:∀x∈d,x∈f:=λx g=>eo<|j.mem_iff.mp g;refine q_ λwv=>?_;obtain⟨a,b,rfl,E,F⟩:=Dp m.1 p;apply wv;have O:gR (a++b) m.1=a.length:=by rw[Cu,aFk E,aAt F];rfl
  ac_nf;refine⟨_,m.1,rfl,λx g=>D x<|q x g,D m<|ao B,by lia,?_⟩;rw[O];have tk:f.take (i+1)=f.take i++[m]:=by rw[ni,B];rfl
  have ins:(∀x∈b,m.1<x.1)->∃(d:ε Mk)(l n:υ Sl),[γ<|Sl.dat<|.list<|f.map bW,γ<|.own<|((a++b).map bW).take a.length++bW m::((a++b).map bW).drop a.length,γ<|.dat<|bW m,γ<|.dat<|.int (a.length:τ)]=[γ<|.dat<|.list<|f.map bW,γ<|.own<|d.map bW,l,n]/\Up d/\d.Perm (f.take<|i+1):=λo=>by
   refine⟨a++m::b,γ<|.dat<|bW m,γ<|.dat<|.int (a.length:τ),?_,?_,?_⟩
   ·rw[ay,ay,yf<|θ _,yg<|θ _];rfl
   ·have r:=m2.mp p;refine m2.mpr ⟨r.1,mn.mpr ⟨o,r.2.1⟩,λx g y s=>?_⟩;rcases Ω.mp s with rfl|s
    ·exact E x g
    ·exact r.2.2 x g y s
   ·rw[tk];refine xb.trans ?_;exact(j.cons m).trans (ox m _).symm
  ext;have t:(∀x∈b,m.1<x.1)->(0<=(a.length:τ)/\(a.length:τ)<=((a++b).length:τ)/\(a++b).length<1000/\∃(d:ε Mk)(l n:υ Sl),[γ<|Sl.dat<|.list<|f.map bW,γ<|.own<|((a++b).map bW).take (a.length:τ).toNat++bW m::((a++b).map bW).drop (a.length:τ).toNat,γ<|.dat<|bW m,γ<|.dat<|.int (a.length:τ)]=[γ<|.dat<|.list<|f.map bW,γ<|.own<|d.map bW,l,n]/\Up d/\d.Perm (f.take<|i+1)):=λo=>
   ⟨‹29›,by rw[Γ];lia,by lia,by rw[cy];exact ins o⟩
  refine cV ?_;ext;rcases b with _|⟨y,b⟩
  ·rw[χ<|by simp];ext;exact t λ_ h=>nomatch h
  rw[Α (by rw[Γ,Ρ];lia)];have s:kC ((a++y::b).map bW) (a.length:τ)=γ (bW y):=by
   refine dR ?_;rw[ay,ak,bo (by rw[θ];exact Η _),θ,mv];rfl
  refine⟨_,s,?_⟩;ext;refine⟨ψ,eRat,y.1,m.1,rfl,rfl,λe G=>?_⟩;cases e with
  |true=>
   ext;have S:=G.mp rfl;refine J λU=>?_;have C:y∈f.take i:=j.mem_iff.mp<|cu _ Κ;have u:((f.take<|i+1).map (·.1)).Nodup:=U.sublist<|(k6 _ _).map _;rw[tk,ay,List.nodup_append]at u;exact u.2.2 y.1 (Ν.mpr ⟨y,C,rfl⟩) m.1 (by simp) S
  |false=>
   have ne:y.1≠m.1:=λz=>by have:=G.mpr z;cases this
   ext;refine t λx g=>?_;have r:=(m2.mp p).2.1;have W:=mn.mp r;have h3:=F y Κ;rcases Ω.mp g with rfl|g
   ·grind
   ·have:=W.1 x g;grind
 ·intro v qQ0;refine q_ λwv=>?_;obtain⟨d,l,n,rfl,p,j⟩:=qQ0;apply wv;ext;rw[bg<|Η _]at j;refine k (λz=>c (by rw[z];rfl)) (by lia) ?_ d j p;exact(j.map (·.1)).nodup_iff.mp<|Tp p
theorem Jf{b:Type}(f:b->ν)(n:ν):∀a:ε b,(∀x∈a,f x<=n)->(a.map f).sum<=a.length*n
 |[],_=>by simp
 |x::a,h=>by
  have d:=h x (by simp);have e:=Jf f n a λy c=>h y (by simp[c]);rw[ak,zj,Ρ,mm];lia
def aOg(C:ο):DW:=λa Q X=>(∃x:Ξ,a=[.str x]/\x.length<=100000/\(∀m,pN x=γ m->Q (.dat<|mD m))/\(pN x=none->X C))\/(∃d,a=[d]/\(∀x,d≠ .str x)/\X C)
theorem Bj:Q 4 62 (λA=>(aOg A.x_NoText)):=by
 intro A P w K mg base T;refine Nj (T.G 62).F pQ (λm Q E h=>?_) λo t outer s H E R=>?_
 ·rcases h with⟨_,rfl,_⟩|⟨_,rfl,_⟩ <;>rfl
 have Z:=pQ
 refine⟨_,by walk_at"t",_,(aG (iT (aE (fH (vN 0 aB))))
   (sA 1 (wI (aI 0) (aE aP)) (sA 2 (wI (aE (eX 2 1)) (aE aP)) (sA 3 (fH (vE (eX 0 1) aB)) (sA 4 (fH (vE (eX 0 2) aB)) (sA 5 (fH (vE (eX 2 2) aB)) (aG (bD (tO eR (aI 5) bI) (cL (aH aP aO)) aQ)
   (aW (aE (cQ (aH (aY 3) (aH (aY 4) (aH (aY 5) aO))))))))))))),?_⟩
 rintro m Q X (⟨x,rfl,p,g,f⟩|⟨d,rfl,q,k⟩)
 ·ac_nf;refine⟨.str x,rfl,λ_=>?_,λz=>ς rfl<|z x⟩;refine q_ λwv=>?_;obtain⟨u,_,v⟩:=vC x ":";obtain⟨y,_,B⟩:=vC (Δ x ":").2.2 "*";apply wv;unfold pN at g f;ac_nf;refine⟨p,by rw[nI];rfl,?_⟩;ac_nf;refine⟨‹2›,by rw[pK];rfl,?_⟩;ac_nf;refine .inl ⟨_,rfl,‹2›,λa b r=>?_,λi=>f ?_⟩
  ·rw[r]at g f;dsimp only at g f;ac_nf;refine .inl ⟨_,rfl,by lia,λc d j=>?_,λi=>f ?_⟩
   ·rw[j]at g f;dsimp only at g f;ac_nf;refine⟨_,rfl,by lia,λn i=>?_,λi=>f ?_⟩
    ·rw[i]at g f;dsimp only at g f;ac_nf;refine bT (λl=>?_) (λl=>?_)
     ·exact f<|Α l
     ·ext;exact g ((a,b),(c,d),n)<|χ l
    ·rw[i]
   ·rw[i]
  ·rw[i]
 ·ac_nf;exact⟨d,rfl,λ⟨x,e⟩=>ς e<|q x,λ_=>k⟩
noncomputable def cntL:ε (Ξ×τ×τ):=[("marks",3,62),("drop",2,2),("names",1,1),("show",2,2),("bend",4,4),("rise",3,3),("steps",4,4),("judge",4,63)]
def Ol(a:ε Ξ):Prop:=∃b r c d,a=b::r/\cntL.lookup b=γ (c,d)/\c<=(a.length:τ)/\(a.length:τ)<=d
theorem Dz(x:Ξ):∀{tb:Tab}{a:ε<|Ξ×τ×τ},Paired (λ(p:Ξ×V×η)(q:Ξ×τ×τ)=>p.1=q.1/\p.2.2= .tuple [.int q.2.1,.int q.2.2]) tb a->(a.lookup x=none->tb.lookup x=none)/\∀b c,a.lookup x=γ (b,c)->∃v,tb.lookup x=γ (v,.tuple [.int b,.int c])
 |_,_,.nil=>⟨λ_=>rfl,λ_ _ z=>by simp at z⟩
 |(g,pv,i)::_,(j,k,l)::_,.cons ⟨d,e⟩ t=>by
  have h:=Dz x t;dsimp only at d e;subst d e;by_cases f:x=g
  ·subst f;simp only[dr,gf];refine⟨(λz=>by cases z),λb c z=>?_⟩;cases z;exact⟨pv,rfl⟩
  ·simp only[dr,bb.mpr f];exact h
theorem aCd(A:Adr)(x:Ξ):(cntL.lookup x=none->(fK A).lookup x=none)/\∀a b,cntL.lookup x=γ (a,b)->∃v,(fK A).lookup x=γ (v,.tuple [.int a,.int b]):=
 Dz x (.cons ⟨rfl,rfl⟩<|.cons ⟨rfl,rfl⟩<|.cons ⟨rfl,rfl⟩<|.cons ⟨rfl,rfl⟩<|.cons ⟨rfl,rfl⟩<|.cons ⟨rfl,rfl⟩<|.cons ⟨rfl,rfl⟩<|.cons ⟨rfl,rfl⟩ .nil)
theorem Ut(x y:Ξ):Txt.split x y≠[]:=by
 unfold PySem.Txt.split;split
 ·simp
 ·split
  ·simp
  ·rw[ug];obtain⟨p,r,e⟩:=Bs x y.length 0<|bh x y 0 x.length<|x.length+1;rw[e];simp
def aIm(C:ο):DW:=λb Q X=>(∃(x:Ξ)(a:ε Ξ),b=[.str x]/\x.length<=90000/\Txt.split x (ζ " ")=a/\(Ol a->Q (.own<|a.map .str))/\(¬Ol a->X C))\/(∃d,b=[d]/\(∀x,d≠ .str x)/\X C)
theorem sH(T:Txt K mg A)(a:qS w K A.g_COUNTS<|fK A):FnOk P w K mg base (iY P w) 1 (A.a 67) (A.d 67) (pr 67) (oV K<|aIm A.x_NoRow):=by
 refine Nj (T.G 67).F lQ (λL Q E h=>?_) λM Y outer s H E m=>?_
 ·rcases h with⟨_,_,rfl,_⟩|⟨_,rfl,_⟩ <;>rfl
 refine⟨_,(aT (eU (Jn (Ax (dH (aHj (K:=K) rfl) rfl T.n_isinstance iF (aF (pv 0) (aF (tQ rfl T.n_str aAz (show RelV (.ty "str") (.type "str")from rfl)) aS))))) (bG (eJ T.x_NoRow m.hd eV rfl (aF cA aS))) cR)
   (aT (oW 1 lQ (pZ qr mj F.type_str_split Xe (pv 0) (aF cA aS)))
   (aT (eU (cN (Fq (K:=K) rfl rfl a) (uX (K:=K) rfl (pv 1)) (fE rfl T.c_COUNTS (show RelV (.ref _) (.ref _)from rfl)) rfl) (bG (eJ T.x_NoRow m.hd eV rfl (aF cA aS))) cR)
   (aT (oW 2 lQ (nV (aLi (K:=K) rfl rfl a) (fE rfl T.c_COUNTS (show RelV (.ref _) (.ref _)from rfl)) (uX (K:=K) rfl (pv 1)) (λ_ _=>rfl)))
   (aT (eU (PW.pt (aGx (cN Wu (dH (Xp (K:=K) rfl) rfl T.n_len tp (aF (pv 1) aS)) (Sj (K:=K) rfl (pv 2)) (dI _)) (Vu (cN Wv (dH (Xp (K:=K) rfl) rfl T.n_len tp (aF (pv 1) aS)) (Sj (K:=K) rfl (pv 2)) (dI _))))) (bG (eJ T.x_NoRow m.hd eV rfl (aF cA aS))) cR)
   (bG (dL (pv 1)))))))),_,(aG (bD (oA (lM (aE (rP (by decide) (aI 0))))) (cL (aH aP aO)) aQ)
   (aG (aR 1 (Wq (aI 0) (aE aP)))
   (aG (bD (Me (aE (Hw (aE (bE (aL 1) bI))))) (cL (aH aP aO)) aQ)
   (sA 2 (Yq a (aE (bE (aL 1) bI))) (aG (bD (pG (tO eR (aE (bR cI (vN 1 aB))) (aE (eX 0 2))) (tO eR (aE (bR cI (vN 1 aB))) (aE (eX 1 2)))) (cL (aH aP aO)) aQ)
   (dM 1)))))),?_⟩
 rintro L Q X (⟨x,y,rfl,N,i,O,n⟩|⟨d,rfl,R,k⟩)
 ·ac_nf;refine bT (λc=>ς c<|by decide) λ_=>?_;ac_nf;refine⟨N,by rw[gF];rfl,?_⟩;rw[i];obtain⟨b,r,rfl⟩:∃b r,y=b::r:=by
   cases y with
   |nil=>exact ς i<|Ut x _
   |cons b r=>exact⟨b,r,rfl⟩
  have z:kC ((b::r).map br) 0=γ (.str b):=dR (j:=0) rfl;obtain⟨S,U⟩:=aCd A b;ac_nf;refine⟨_,z,?_⟩;ext;cases g:cntL.lookup b with
  |none=>
   rw[S g];refine bT (λ_=>?_) λc=>ς rfl c;exact n λ⟨B,C,o,q,e,f,_⟩=>by
    injection e with l D
    rw[<-l,g]at f;cases f
  |some p=>
   obtain⟨o,q⟩:=p;obtain⟨v,G⟩:=U o q g;rw[G];refine bT (λc=>ς c<|by simp) λ_=>?_;ac_nf;refine⟨_,z,?_⟩;ext;refine⟨_,G,?_⟩;ac_nf;refine bT (λc=>?_) λc=>bT (λW=>?_) λW=>?_
   ·exact n λ⟨B,C,t,u,e,f,I,J⟩=>by
     injection e with l D
     rw[<-l,g]at f;cases f;rw[Ρ]at I;lia
   ·exact n λ⟨B,C,t,u,e,f,I,J⟩=>by
     injection e with l D
     rw[<-l,g]at f;cases f;rw[Ρ]at J;lia
   ·ext;exact O ⟨b,r,o,q,rfl,g,by rw[Ρ];exact 27,by rw[Ρ];exact 27⟩
 ·cases d with
  |str x=>exact ς rfl<|R x
  |_=>
   ac_nf;exact k
noncomputable def mC(x:Ξ):Bool:=decide (1<=x.length) && decide (x.length<=8) && x.cps.toList.all λc=>decide (97<=c) && decide (c<=122)
theorem Rc:("abcdefghijklmnopqrstuvwxyz":Ξ).cps.toList=(range 26).map (·+97):=by decide +kernel
theorem aLr(c:ν):av "abcdefghijklmnopqrstuvwxyz" ⟨#[c]⟩=(decide (97<=c) && decide (c<=122)):=by
 rw[kA rfl,Rc];rw[ip];simp only[ir,h9,Ν,bA];constructor
 ·rintro⟨a,b,rfl⟩;lia
 ·rintro⟨b,d⟩;exact⟨c-97,by lia,‹50›⟩
def aOf(C:ο):DW:=λa Q X=>∃x:Ξ,a=[.str x]/\x.length<=100000/\(mC x=true->Q (.dat .none))/\(mC x=false->X C)
theorem xH:Q 1 68 (λA=>(aOf A.x_NoName)):=by
 refine jU 68 ["word"] λA T R Z=>⟨_,by walk_at"t",_,(bD (pG (tO cJ (aE<|bR pY<|vN 0 aB) bI)<|pG (tO eR (aE<|bR pY<|vN 0 aB) bI)<|oA<|lM<|aE<|bR Vm<|vE (bU<|bK [none] ["sign"] (IvS.e<|Xw<|aY 0) (aJ 0) bM<|cB Vh (aI 0)<|aE aP) aB) (cL<|aH aP aO) aQ),?_⟩;rintro k Q X ⟨x,rfl,b,f,a⟩;have l:=dZ x;ext;refine⟨b,bT (λc=>?_) λc=>⟨b,bT (λg=>?_) λg=>?_⟩⟩
 ·refine a ?_;unfold mC;rw[Τ<|show ¬1<=x.length by lia];rfl
 ·refine a ?_;unfold mC;rw[Τ<|show ¬x.length<=8 by lia];simp
 refine bJ sgD PyData.bool (λc=>[decide (97<=c) && decide (c<=122)]) x.cps.toList (by lia) (λQ h=>by
  ext
  exact h) (λc m N i j=>?_) ?_
 ·unfold sgD;ext;rw[aLr];exact j
 refine⟨x.cps.toList.flatMap λc=>[decide (97<=c) && decide (c<=122)],rfl,?_⟩;have e:mC x=(x.cps.toList.flatMap λc=>[decide (97<=c) && decide (c<=122)]).all id:=by
  rw[aN,AM];unfold mC;rw[cj<|show 1<=x.length by lia,cj<|show x.length<=8 by lia];rfl
 rw[<-e];ext;cases d:mC x with
 |true=>exact bT (λc=>ς c<|by decide) λ_=>f d
 |false=>exact bT (λ_=>a d) λc=>ς rfl c
def oG(q:ψ):Ξ:=xB q.num (q.den:τ)
theorem tE{i:τ}(h:i.natAbs<10^571):i.natAbs.log2<1920:=by
 by_cases a:i.natAbs=0
 ·rw[a];decide
 ·exact(zy a).mpr (ah h<|by decide +kernel)
theorem Dr{n:τ}(h:n.natAbs<10^571):(ζ<|toString n).length<=572:=by
 obtain⟨a,d,e⟩:=rF (k:=570) h;have b:=d.l2;rw[<-dZ,e];split
 ·rw[Ρ];exact 6
 ·exact 1
theorem dg9{q:ψ}(h:Dg 570 q):q.num.natAbs<10^571/\((q.den:ν):τ).natAbs<10^571:=by
 have a:=h.n;have b:=h.d;exact⟨eh a<|by decide +kernel,by rw[fi];exact eh b<|by decide +kernel⟩
theorem gA{q:ψ}(h:Dg 570 q):(oG q).length<=1145:=by
 obtain⟨a,b⟩:=dg9 h;have c:=Dr a;have d:=Dr b;have e:=kH;unfold oG xB;split
 ·exact 1
 ·rw[ω,ω];lia
theorem Uz{q:ψ}(h:Dg 570 q):∀c∈(oG q).cps.toList,Nk c\/c=47:=uK (k:=570) (dg9 h).1 (dg9 h).2
theorem aJh{q:ψ}(h:Dg 570 q){c:ν}(a:c=32\/c=124):c∉(oG q).cps.toList:=λz=>by
 rcases Uz h c z with(y|y)|y <;>lia
noncomputable def lP(a:ε ψ):Ξ:=Txt.join (ζ " ")<|a.map oG
theorem zK:∀{a:ε<|ε ν},c∈iR y a->c∈y\/∃w∈a,c∈w
 |[],h=>by simp[iR]at h
 |[w],h=>.inr ⟨w,by simp,h⟩
 |w::z::r,h=>by
  rw[mG]at h;rcases eg.mp h with h|h
  ·rcases eg.mp h with h|h
   ·exact .inr ⟨w,by simp,h⟩
   ·exact .inl h
  ·rcases zK h with h|⟨u,b,h⟩
   ·exact .inl h
   ·exact .inr ⟨u,Θ _ b,h⟩
theorem Bz(y:Ξ)(h:∀w∈ws,w.length<=n):(Txt.join y ws).length<=ws.length*(n+y.length):=by
 unfold Txt.join;rw[size_glued];have:=Jf (λz:Ξ=>z.length) n ws h;have a:(ws.length-1)*y.length<=ws.length*y.length:=Χ _ ‹50›;rw[wb];lia
theorem jF{a:ε ψ}(h:∀q∈a,Dg 570 q):(lP a).length<=a.length*1146:=by
 have:=Bz (ζ " ") (ws:=a.map oG) (n:=1145) λw hw=>by
  obtain⟨q,b,rfl⟩:=Ν.mp hw;exact gA<|h q b
 rw[gF,θ]at this;exact this
theorem Yh{a:ε Ξ}{y:Ξ}(h:∀w∈a,w.length<=n)(b:a.length*(n+y.length)<=100000):(a.map (·.length)).sum+a.length*y.length<=100000:=by
 have:=Jf (λz:Ξ=>z.length) n a h;rw[wb]at b;lia
noncomputable def Py(rows:ε<|ε ψ):Ξ:=Txt.join (ζ " | ")<|rows.map lP
theorem Db:(ζ " | ").length=3:=by decide +kernel
def Td:DW:=λa Q _=>∃q:ψ,a=[fr q]/\Dg 570 q/\Q (.dat<|.str<|oG q)
theorem qD:Q 1 63 (λ_=>Td):=by
 refine jU 63 ["x"] λA T R Z=>⟨_,by walk_at"t",_,(aG (bD (tO cJ (aE (eX 1 0)) bI) (aW (aE (bR iM (vE (eX 0 0) aB)))) aQ)
   (aW (bO bY (bO bY (aE (bR iM (vE (eX 0 0) aB))) (aE aP)) (aE (bR iM (vE (eX 1 0) aB)))))),?_⟩
 rintro e Q X ⟨q,rfl,d,k⟩;obtain⟨a,b⟩:=dg9 d;have f:=Dr a;have g:=Dr b;have h:=kH;unfold oG xB at k;ac_nf;refine bT (λc=>⟨tE a,?_⟩) λc=>⟨tE a,‹6›,tE b,by rw[ω];lia,?_⟩
 ·rw[Α c]at k;exact k
 ·rw[χ c]at k;exact k
theorem vH:Q 1 79 (λ_=>Td):=by
 refine jU 79 ["x"] λA T R Z=>⟨_,by walk_at"t",_,(aG (bD (tO cJ (aE (eX 1 0)) bI) (aW (aE (bR iM (vE (eX 0 0) aB)))) aQ)
   (aW (bO bY (bO bY (aE (bR iM (vE (eX 0 0) aB))) (aE aP)) (aE (bR iM (vE (eX 1 0) aB)))))),?_⟩
 rintro e Q X ⟨q,rfl,d,k⟩;obtain⟨a,b⟩:=dg9 d;have f:=Dr a;have g:=Dr b;have h:=kH;unfold oG xB at k;ac_nf;refine bT (λc=>⟨tE a,?_⟩) λc=>⟨tE a,‹6›,tE b,by rw[ω];lia,?_⟩
 ·rw[Α c]at k;exact k
 ·rw[χ c]at k;exact k
def Tc:DW:=λb Q _=>∃a:ε ψ,b=[.list<|a.map fr]/\a.length<=10/\(∀q∈a,Dg 570 q)/\Q (.dat<|.str<|lP a)
theorem qC:Q 2 64 (λ_=>Tc):=by
 refine jU 64 ["some"] λA T R Z=>⟨_,by walk_at"t",_,(aW<|aE<|qM (aE aP)<|mF<|bK [none] ["x"] (cC<|aL 0) (aJ 0) bM<|aC<|vN 0 aB),?_⟩;rintro g Q X ⟨b,rfl,i,c,k⟩;ext
 refine bJ fr br (λq=>[oG q]) b ‹1› (λQ h=>by
   ext
   exact h) (λq d N e f=>?_) ?_
 ·ext;refine⟨q,rfl,c q d,?_⟩;ext;exact f
 ·rw[aN];refine⟨b.map oG,rfl,Yh (n:=1145) (λw hw=>?_) (by rw[θ,gF];lia),k⟩;obtain⟨q,a,rfl⟩:=Ν.mp hw;exact gA<|c q a
noncomputable def lsD(rows:ε<|ε ψ):ε η:=rows.map λr=>gv<|r.map fr
def aBz:DW:=λa Q _=>∃rows:ε<|ε ψ,a=[.list<|lsD rows]/\rows.length<=4/\(∀r∈rows,r.length<=10/\∀q∈r,Dg 570 q)/\Q (.dat<|.str<|Py rows)
theorem zF:Q 3 70 (λ_=>aBz):=by
 refine jU 70 ["parts"] λA T R Z=>⟨_,by walk_at"t",_,(aW<|aE<|qM (aE aP)<|mF<|bK [none] ["some"] (cC<|aL 0) (aJ 0) bM<|aC<|vN 0 aB),?_⟩;rintro f Q X ⟨rows,rfl,g,b,k⟩;ext
 refine bJ (λr:ε ψ=>gv (r.map fr)) br (λr=>[lP r]) rows ‹1› (λQ h=>by
   ext
   exact h) (λr c N d e=>?_) ?_
 ·ext;refine⟨r,rfl,(b r c).1,(b r c).2,?_⟩;ext;exact e
 ·rw[aN];refine⟨rows.map lP,rfl,Yh (n:=18400) (λw hw=>?_) (by rw[θ,Db];lia),k⟩;obtain⟨r,a,rfl⟩:=Ν.mp hw;have:=jF (b r a).2;have:=(b r a).1;lia
theorem vI:Q 2 82 (λ_=>Tc):=by
 refine jU 82 ["row"] λA T R Z=>⟨_,by walk_at"t",_,(aW<|aE<|qM (aE aP)<|mF<|bK [none] ["x"] (cC<|aL 0) (aJ 0) bM<|aC<|vN 0 aB),?_⟩;rintro g Q X ⟨b,rfl,i,c,k⟩;ext
 refine bJ fr br (λq=>[oG q]) b ‹1› (λQ h=>by
   ext
   exact h) (λq d N e f=>?_) ?_
 ·ext;refine⟨q,rfl,c q d,?_⟩;ext;exact f
 ·rw[aN];refine⟨b.map oG,rfl,Yh (n:=1145) (λw hw=>?_) (by rw[θ,gF];lia),k⟩;obtain⟨q,a,rfl⟩:=Ν.mp hw;exact gA<|c q a
structure Gd(m:Mk):Prop where
 x:Cm 2 60 m.1
 y:Cm LL (10^6) m.2.1
 w:1<=m.2.2/\m.2.2<=4
theorem M7.gd{b:ε Mk}(Z:M7 b):∀m∈b,Gd m:=λm a=>⟨Z.x m a,Z.y m a,Z.w m a⟩
theorem Gd.dx{m:Mk}(h:Gd m):Dg 570 m.1:=(h.x.dg (by decide) (l:=1) (by decide) (b:=2)<|by decide).mono (by decide)
theorem Gd.dy{m:Mk}(h:Gd m):Dg 570 m.2.1:=(h.y.dg Sg (l:=13) Pm (b:=6)<|Η _).mono (by decide)
theorem Gd.dw{m:Mk}(h:Gd m):m.2.2.natAbs<10^571:=eh (show _<=4 by have:=h.w;lia) (by decide +kernel)
noncomputable def m7(m:Mk):Mk7:=((m.1.num,(m.1.den:τ)),(m.2.1.num,(m.2.1.den:τ)),m.2.2)
def iL(m:Mk):Ξ:=shM<|m7 m
theorem Gd.lw{m:Mk}(h:Gd m):Lw7 (m7 m):=by
 have a:Dg 4 m.1:=h.x.dg (by decide) (l:=1) (by decide) (b:=2) (by decide);have c:Dg 20 m.2.1:=h.y.dg Sg (l:=13) Pm (b:=6)<|Η _;have f:=h.w;have d:(10:ν)^4<10^40:=by decide +kernel
 have e:(10:ν)^20<10^40:=by decide +kernel
 refine⟨eh a.n d,?_,eh c.n e,?_,?_,aMc _,aMc _,f.1,m.1.reduced,m.2.1.reduced⟩
 ·show((m.1.den:ν):τ).natAbs<10^40;rw[fi];exact eh a.d d
 ·show((m.2.1.den:ν):τ).natAbs<10^40;rw[fi];exact eh c.d e
 ·show m.2.2.natAbs<10^40;lia
theorem aCp{m:Mk}(h:Gd m):32∉(iL m).cps.toList:=λz=>by
 rcases Va h.lw.sm 32 z with(y|y)|y|y|y <;>lia
theorem pP{m:Mk}(h:Gd m):(iL m).length<=259:=(aCq h.lw.sm).2
noncomputable def pO(a:ε Mk):Ξ:=Txt.join (ζ " ")<|a.map iL
theorem uJ{a:ε Mk}(c:a.length<=60)(h:∀m∈a,Gd m):(pO a).length<=60000:=by
 have:=Bz (ζ " ") (ws:=a.map iL) (n:=259) λw hw=>by
  obtain⟨m,b,rfl⟩:=Ν.mp hw;exact pP<|h m b
 rw[gF,θ]at this;unfold pO;lia
def Tb:DW:=λa Q _=>∃m:Mk,a=[bW m]/\Gd m/\Q (.dat<|.str<|iL m)
theorem Gb:Q 2 80 (λ_=>Tb):=by
 refine jU 80 ["mark"] λA T R Z=>⟨_,by walk_at"t",_,(aW<|bO bY (bO bY (bO bY (bO bY (aE<|aC<|vE (eX 0 0) aB)<|aE aP)<|aE<|aC<|vE (eX 1 0) aB)<|aE aP)<|aE<|bR iM<|vE (eX 2 0) aB),?_⟩;rintro a Q X ⟨m,rfl,h,k⟩;have b:=gA h.dx;have c:=gA h.dy;have d:=Dr (n:=m.2.2) h.dw;have e:=nI;have f:=pK;ext;refine⟨m.1,rfl,h.dx,?_⟩;ext;refine⟨‹6›,m.2.1,rfl,h.dy,?_⟩;ext;exact⟨by rw[ω];lia,by rw[ω,ω];lia,tE h.dw,by rw[ω,ω,ω];lia,k⟩
theorem Bi:Q 2 65 (λ_=>Tb):=by
 refine jU 65 ["mark"] λA T R Z=>⟨_,by walk_at"t",_,(aW<|bO bY (bO bY (bO bY (bO bY (aE<|aC<|vE (eX 0 0) aB)<|aE aP)<|aE<|aC<|vE (eX 1 0) aB)<|aE aP)<|aE<|bR iM<|vE (eX 2 0) aB),?_⟩;rintro a Q X ⟨m,rfl,h,k⟩;have b:=gA h.dx;have c:=gA h.dy;have d:=Dr (n:=m.2.2) h.dw;have e:=nI;have f:=pK;ext;refine⟨m.1,rfl,h.dx,?_⟩;ext;refine⟨‹6›,m.2.1,rfl,h.dy,?_⟩;ext;exact⟨by rw[ω];lia,by rw[ω,ω];lia,tE h.dw,by rw[ω,ω,ω];lia,k⟩
def Lu:DW:=λb Q _=>∃a:ε Mk,b=[.list<|a.map bW]/\a.length<=60/\(∀m∈a,Gd m)/\Q (.dat<|.str<|pO a)
theorem gL:Q 3 81 (λ_=>Lu):=by
 refine jU 81 ["some"] λA T R Z=>⟨_,by walk_at"t",_,(aW<|aE<|qM (aE aP)<|mF<|bK [none] ["mark"] (cC<|aL 0) (aJ 0) bM<|aC<|vN 0 aB),?_⟩;rintro f Q X ⟨b,rfl,g,c,k⟩;ext
 refine bJ bW br (λm=>[iL m]) b ‹1› (λQ h=>by
   ext
   exact h) (λm a N d e=>?_) ?_
 ·ext;refine⟨m,rfl,c m a,?_⟩;ext;exact e
 ·rw[aN];refine⟨b.map iL,rfl,Yh (n:=259) (λw hw=>?_) (by rw[θ,gF];lia),k⟩;obtain⟨m,a,rfl⟩:=Ν.mp hw;exact pP<|c m a
theorem xD:Q 3 66 (λ_=>Lu):=by
 refine jU 66 ["some"] λA T R Z=>⟨_,by walk_at"t",_,(aW<|aE<|qM (aE aP)<|mF<|bK [none] ["mark"] (cC<|aL 0) (aJ 0) bM<|aC<|vN 0 aB),?_⟩;rintro f Q X ⟨b,rfl,g,c,k⟩;ext
 refine bJ bW br (λm=>[iL m]) b ‹1› (λQ h=>by
   ext
   exact h) (λm a N d e=>?_) ?_
 ·ext;refine⟨m,rfl,c m a,?_⟩;ext;exact e
 ·rw[aN];refine⟨b.map iL,rfl,Yh (n:=259) (λw hw=>?_) (by rw[θ,gF];lia),k⟩;obtain⟨m,a,rfl⟩:=Ν.mp hw;exact pP<|c m a
def Tz(L T:ν)(q:ψ):Prop:=∃n:τ,q*(L:ψ)=(n:ψ)/\n.natAbs<=T
theorem Tz.sub{L T U:ν}{p q:ψ}(h:Tz L T p)(k:Tz L U q):Tz L (T+U) (p-q):=by
 obtain⟨n,e,l⟩:=h;obtain⟨m,a,b⟩:=k;exact⟨n-m,by rw[xp,<-e,<-a];grind,Β (pq _ _)<|jv l b⟩
theorem Tz.add{L T U:ν}{p q:ψ}(h:Tz L T p)(k:Tz L U q):Tz L (T+U) (p+q):=by
 obtain⟨n,e,l⟩:=h;obtain⟨m,a,b⟩:=k;exact⟨n+m,by rw[xj,<-e,<-a];grind,Β (jg _ _)<|jv l b⟩
theorem Tz.mul{L T M U:ν}{p q:ψ}(h:Tz L T p)(k:Tz M U q):Tz (L*M) (T*U) (p*q):=by
 obtain⟨n,e,l⟩:=h;obtain⟨m,a,b⟩:=k;exact⟨n*m,by rw[aq,<-e,<-a,hE];grind,by rw[ck];exact ai l b⟩
theorem Tz.int{i:τ}{T:ν}(h:i.natAbs<=T):Tz 1 T (i:ψ):=⟨i,by rw[show((1:ν):ψ)=1 from rfl,jq],h⟩
theorem Tz.mono{L T U:ν}{p:ψ}(h:Tz L T p)(l:T<=U):Tz L U p:=by
 obtain⟨n,e,k⟩:=h;exact⟨n,e,Β k l⟩
theorem Tz.abs{L T:ν}{p:ψ}(h:Tz L T p):Tz L T (bZ p):=by
 obtain⟨n,e,l⟩:=h;rcases eQ p with⟨_,z⟩|⟨_,z⟩ <;>rw[z]
 ·exact⟨n,e,l⟩
 ·exact⟨-n,by rw[mu,<-e];grind,by rw[y6];exact l⟩
theorem Tz.wide{L T:ν}{p:ψ}(h:Tz L T p)(k:ν):Tz (L*k) (T*k) p:=by
 have:=h.mul (Tz.int (i:=1) (T:=1)<|by decide);obtain⟨n,e,l⟩:=h;exact⟨n*(k:τ),by rw[aq,<-e,hE,Ο];exact 47,by rw[ck,fi];exact Χ _ l⟩
theorem Tz.dg{L T e:ν}{p:ψ}(h:Tz L T p)(a:0<L)(b:L<=10^e)(c:T<=10^e):Dg e p:=by
 obtain⟨n,k,l⟩:=h;have s:=Fm.size_of (n:=n) (m:=(L:τ)) (by lia) (by rw[Ο];exact k);exact⟨by lia,by lia⟩
theorem Tz.zero{L T:ν}:Tz L T 0:=⟨0,oo _,hB _⟩
theorem Tz.tot{L T:ν}:∀{qs:ε ψ},(∀q∈qs,Tz L T q)->Tz L (qs.length*T) (tot qs)
 |[],_=>Tz.zero
 |q::qs,h=>by
  rw[My.tot,Ρ,yv,uf];exact(h q Κ).add<|Tz.tot λq a=>h q<|Θ _ a
theorem aQn{V T:ν}{x:ψ}(a:Cm 2 60 x):∀{nu:ε ψ},(∀q∈nu,Tz V T q)->Tz (V*2^nu.length) (T*122^nu.length) (eE nu x)
 |[],_=>by rw[kZ];exact Tz.zero
 |n::nu,h=>by
  have c:=aQn a (nu:=nu) λq d=>h q<|Θ _ d;have e:Tz 2 120 x:=sU a;have f:=(h n Κ).wide<|2^(nu.length+1);rw[eB,Ρ];have b:=(c.mul e);rw[gc,<-gi]at b;refine(b.add f).mono ?_;have g:2^(nu.length+1)<=122^nu.length*2:=by
   rw[gi];exact Χ _<|r0 (by decide) _
  have i:=af T g;rw[gi,gc,<-wb];refine af T ?_;lia
theorem aQc{j:Ξ}{ms:ε Mk}{row:ε ψ}{L T e:ν}(f:0<L)(u:ms.length<=5)(hw:∀m∈ms,m.2.2.natAbs<=4)(h:∀m∈ms,Tz L T m.2.1)(r:∀q∈row,Tz L T q)(c:L<=10^e)(d:40*T<=10^e)(n:j∉[ζ "far",ζ "sum"]->L*L<=10^e/\80*(T*T)<=10^e):Dg e (gE j ms row):=by
 have g:∀x∈fO ms row,Tz L (T+T) x:=eO h r λ_ _ c d=>c.sub d;have k:∀x∈dS ms row,Tz L (4*(T+T)) x:=eO hw g λ_ _ c d=>by have:=(Tz.int c).mul d;rwa [j0]at this
 unfold gE;split
 ·rcases @mE ((fO ms row).map bZ)with h|h
  ·rw[h];exact Dg.zero
  ·obtain⟨x,i,e⟩:=Ν.mp h;rw[<-e];exact(g x i).abs.dg f c (by lia)
 ·split
  ·have t:=Tz.tot (qs:=(dS ms row).map bZ) (L:=L) (T:=4*(T+T)) λq o=>by
    obtain⟨x,i,rfl⟩:=Ν.mp o;exact(k x i).abs
   have l:((dS ms row).map bZ).length<=5:=by
    rw[θ];have:=jD (ms:=ms) (row:=row);exact 2
   exact t.dg f c (Β (Χ _ l)<|‹48›)
  ·rename_i p s
   obtain⟨a,b⟩:=n (by simp only[Ω,cn,ft,AC];exact⟨p,s⟩);have t:=Tz.tot (qs:=Jh ms row) (L:=L*L) (T:=4*(T+T)*(T+T))<|eO k g λ_ _ c d=>c.mul d;have l:(Jh ms row).length<=5:=by have:=Af (ms:=ms) (row:=row);exact 2
   refine t.dg (i4 f f) a<|Β (Χ _ l)<|Β (AY ?_) b;rw[show T+T=2*T by exact 48];grind
structure LnF(kd:Ξ)(ms:ε Mk)(nu pl:ε ψ):Prop where
 n4:nu.length<=4
 pn:pl.length=ms.length
 n:∀q∈nu,Dg 500 q
 p:∀q∈pl,Dg 570 q
 z:∃V B l b,MSz V B 4 l b 1 ms<|ms.map λm=>eE nu m.1
 m:Dg 570<|gE kd ms<|ms.map λm=>eE nu m.1
theorem Nx{f:Ξ}{h:ε Mk}{a i:ε ψ}{l b:ν}(Z:M7 h)(j:a.length<=4)(v:i.length=h.length)(o:Cb l b a)(x:∀q∈i,Dg 540 q)(H:l<=327)(I:b<=359)(r:f∉[ζ "far",ζ "sum"]->l<=254/\b<=254):LnF f h a i where
 n4:=j
 pn:=v
 n:=o.dg ‹1› ‹1›
 p:=λq s=>(x q s).mono (by decide)
 z:=by
  obtain⟨V,l,b,y,_⟩:=Z.mz j o;exact⟨V,_,l,b,y⟩
 m:=by
  obtain⟨V,B,C,D⟩:=o;obtain⟨t,J,M,N,E⟩:∃t,l+21<=t/\b+24<=t/\t<=400/\(f∉[ζ "far",ζ "sum"]->t<=278):=by
   by_cases c:f∉[ζ "far",ζ "sum"]
   ·exact⟨278,by have:=r c;lia,by have:=r c;exact 48,by decide,λ_=>Η _⟩
   ·exact⟨400,by lia,by lia,by decide,λz=>ς z c⟩
  have g:LL*(V*2^4)<=10^(l+15):=by
   rw[show 10^(l+15)=10^13*(10^l*10^2) by rw[<-ij,<-ij];congr 1;exact 48];exact ai Pm (ai C<|by decide)
  have F:0<LL*(V*2^4):=i4 Sg (i4 B<|by decide);refine aQc (L:=LL*(V*2^4)) (T:=10^t) F Z.n5 (λm d=>by have:=Z.w m d;lia) (λm d=>?_) (λq s=>?_) (Β g<|gH<|by lia) ?_ λc=>?_
  ·obtain⟨n,e,k⟩:=sU<|(Z.y m d).mono (L':=LL*(V*2^4)) (jk _ _)<|Η _;refine⟨n,e,Β k<|Β (af _ g) ?_⟩;rw[<-ij];exact gH ‹48›
  ·obtain⟨m,d,rfl⟩:=Ν.mp s;have u:=(aQn (Z.x m d) D).wide<|2^(4-a.length)*LL;have G:V*2^a.length*(2^(4-a.length)*LL)=LL*(V*2^4):=by
    rw[<-gc,gc V,<-ij,show a.length+(4-a.length)=4 by exact 22,ie]
   rw[G]at u;refine u.mono<|Β (ai (af _<|eH (by decide) j)<|ai (eH (by decide)<|show 4-a.length<=4 by exact 50) Pm)<|Β (m:=10^b*10^24) ?_ ?_
   ·rw[gc];exact af _ (by decide)
   ·rw[<-ij];exact gH ‹51›
  ·rw[show(40:ν)=40*1 from rfl];exact Β (ai (show 40*1<=10^2 by decide)<|Η _) (by rw[<-ij];exact gH<|by lia)
  ·have O:=E c;have R:=r c;refine⟨Β (ai g g) ?_,?_⟩
   ·rw[<-ij];exact gH (by lia)
   ·exact Β (ai (show 80<=10^2 by decide)<|Η _) (by rw[<-ij,<-ij];exact gH<|by lia)
structure Fs(P:Program)(w:gb)(K:μ)(mg:Ξ->υ ξ)(base:ei)(A:Adr) where
 bl:Ξ×ε Mk×ν->Sl
 hbl:∀p,(λp:Ξ×ε Mk×ν=>(p.1="far"\/p.1="square")/\p.2.2<=3/\M7 p.2.1) p->(λ(p:Ξ×ε Mk×ν)(s:Sl)=>(p.1="far"->BR 327 359 (p.2.2+1) p.2.1.length s)/\(p.1="square"->BR 254 254 (p.2.2+1) p.2.1.length s)) p (bl p)
 Gbl:FnOk P w K mg base (iY P w) 9 (A.a 35) (A.d 35) (pr 35)<|oV K<|wFn (λp:Ξ×ε Mk×ν=>(p.1="far"\/p.1="square")/\p.2.2<=3/\M7 p.2.1) (λp:Ξ×ε Mk×ν=>[.str p.1,.list<|p.2.1.map bW,.int (p.2.2:τ)]) bl
 ls:ε Mk->Sl
 hls:∀p,(λp:ε Mk=>1<=p.length/\M7 p) p->(λp:ε Mk=>BR 254 254 1 p.length) p (ls p)
 Gls:FnOk P w K mg base (iY P w) 6 (A.a 29) (A.d 29) (pr 29)<|oV K<|wFn (λp:ε Mk=>1<=p.length/\M7 p) (λp:ε Mk=>[.list<|p.map bW]) ls
 ln:ε Mk->Sl
 hln:∀p,(λp:ε Mk=>1<=p.length/\M7 p) p->(λp:ε Mk=>BR 254 254 2 p.length) p (ln p)
 Gln:FnOk P w K mg base (iY P w) 7 (A.a 30) (A.d 30) (pr 30)<|oV K<|wFn (λp:ε Mk=>1<=p.length/\M7 p) (λp:ε Mk=>[.list<|p.map bW]) ln
 rl:Ξ×ε Mk->Sl
 hrl:∀p,(λp:Ξ×ε Mk=>p.1∈cK/\1<=p.2.length/\M7 p.2) p->(λp:Ξ×ε Mk=>RR p.2.length) p (rl p)
 Grl:FnOk P w K mg base (iY P w) 7 (A.a 46) (A.d 46) (pr 46)<|oV K<|wFn (λp:Ξ×ε Mk=>p.1∈cK/\1<=p.2.length/\M7 p.2) (λp:Ξ×ε Mk=>[.str p.1,.list<|p.2.map bW]) rl
 sl:Ξ×ε Mk×ν->Sl
 hsl:∀p,(λp:Ξ×ε Mk×ν=>p.1∈cK/\M7 p.2.1/\p.2.2<=4) p->(λ(p:Ξ×ε Mk×ν)(s:Sl)=>∃(row:ε ψ)(tb:η),s= .dat (.tuple [.list<|row.map fr,tb])/\row.length=p.2.1.length/\∀q∈row,Cm LM (3*10^6) q) p (sl p)
 Gsl:FnOk P w K mg base (iY P w) 10 (A.a 55) (A.d 55) (pr 55)<|oV K<|wFn (λp:Ξ×ε Mk×ν=>p.1∈cK/\M7 p.2.1/\p.2.2<=4) (λp:Ξ×ε Mk×ν=>[.str p.1,.list<|p.2.1.map bW,.int (p.2.2:τ)]) sl
theorem aQr(T:Txt K mg A):Nonempty (Fs P w K mg base A):=by
 obtain⟨a,b,c⟩:=xQ (P:=P) (w:=w) (base:=base) T;obtain⟨d,e,f⟩:=qL (P:=P) (w:=w) (base:=base) T;obtain⟨g,h,i⟩:=Hq (P:=P) (w:=w) (base:=base) T;obtain⟨j,k,l⟩:=xN (P:=P) (w:=w) (base:=base) T;obtain⟨m,n,o⟩:=xM (P:=P) (w:=w) (base:=base) T;exact⟨⟨a,b,c,d,e,f,g,h,i,j,k,l,m,n,o⟩⟩
def Fit(F:Fs P w K mg base A)(b:Ξ)(a:ε Mk)(c:ν)(d e:ε ψ):Prop:=(if b="sum" then(if c=0 then F.ls a else F.ln a)else F.bl (b,a,c))= .two (d.map fr) (e.map fr)/\LnF b a d e
theorem Km(F:Fs P w K mg base A){d:Ξ}{f:ε Mk}{bd:ν}(o:d∈cK)(m:1<=f.length)(Z:M7 f)(k:d≠"sum"->bd<=3)(p:d="sum"->bd<=1):∃a c,Fit F d f bd a c:=by
 have l:d="far"\/d="sum"\/d="square":=by simpa[cK]using o
 unfold Fit;rcases l with rfl|rfl|rfl
 ·refine q_ λwv=>?_;obtain⟨a,c,e,j,g,h,i⟩:=(F.hbl (_,f,bd) ⟨.inl rfl,k<|by decide,Z⟩).1 rfl;apply wv;rw[χ<|by decide];have b:=k (by decide);exact⟨a,c,e,Nx Z (by dsimp only at j;exact 48) g h i (by decide) (by decide) λz=>ς (by simp) z⟩
 ·have b:=p rfl;rw[Α rfl];by_cases n:bd=0
  ·rw[Α n];refine q_ λwv=>?_;obtain⟨a,c,e,j,g,h,i⟩:=F.hls f ⟨m,Z⟩;apply wv;exact⟨a,c,e,Nx Z ‹48› g h i (by decide) (by decide) λz=>ς (by simp) z⟩
  ·rw[χ n];refine q_ λwv=>?_;obtain⟨a,c,e,j,g,h,i⟩:=F.hln f ⟨m,Z⟩;apply wv;exact⟨a,c,e,Nx Z ‹48› g h i (by decide) (by decide) λz=>ς (by simp) z⟩
 ·refine q_ λwv=>?_;obtain⟨a,c,e,j,g,h,i⟩:=(F.hbl (_,f,bd) ⟨.inr rfl,k<|by decide,Z⟩).2 rfl;apply wv;rw[χ<|by decide];have b:=k (by decide);exact⟨a,c,e,Nx Z (by dsimp only at j;exact 48) g h i (by decide) (by decide) λ_=>by decide⟩
def aOl(F:Fs P w K mg base A):DW:=λf Q X=>∃(a:Ξ)(c:ε Mk)(b:ν),f=[.str a,.list<|c.map bW,.int (b:τ)]/\a∈cK/\1<=c.length/\M7 c/\(a≠"sum"->b<=3)/\
 ((a="sum"/\2<=b/\X A.x_NoKind)\/((a="sum"->b<=1)/\∃d e,Fit F a c b d e/\Q (.two (d.map fr)<|e.map fr)))
theorem Gj(T:Txt K mg A)(F:Fs P w K mg base A):FnOk P w K mg base (iY P w) 10 (A.a 69) (A.d 69) (pr 69) (oV K<|aOl F):=by
 have a:=F.Gbl;have b:=F.Gls;have d:=F.Gln;refine Nj (T.G 69).F sD (by walk_at"l") λm v outer s H E R=>?_;have Z:=sD
 refine⟨_,by walk_at"t",_,(aG (bD (tO Mu (aI 0) (aE aP)) (gT (vN 0 (vN 1 (vN 2 aB)))) aQ)
   (aG (bD (tO cJ (aI 2) bI) (gT (vN 1 aB)) aQ)
   (aG (bD (tO cJ (aI 2) bI) (gT (vN 1 aB)) aQ)
   (cL (aH aP aO))))),?_⟩
 intro x Q X qQ0;refine q_ λwv=>?_;obtain⟨f,i,n,rfl,o,l,Z,p,k⟩:=qQ0;apply wv;ac_nf;refine bT (λc=>?_) λc=>?_
 ·have g:f≠"sum":=c;rcases k with⟨e,_⟩|⟨_,q,r,⟨e,_⟩,k⟩
  ·exact ς e g
  rw[χ g]at e;have j:f="far"\/f="square":=by
   have:f="far"\/f="sum"\/f="square":=by simpa[cK]using o
   rcases this with h|h|h
   ·exact .inl h
   ·exact ς h g
   ·exact .inr h
  refine⟨(f,i,n),rfl,⟨j,p g,Z⟩,?_⟩;rw[e];exact k
 have g:f="sum":=gp.mp c;rcases k with⟨_,y,t⟩|⟨u,q,r,⟨e,_⟩,k⟩
 ·ac_nf;rw[χ<|by lia];ac_nf;rw[χ<|by lia];ext;exact t
 rw[Α g]at e;ac_nf;refine bT (λc=>?_) λc=>?_
 ·rw[Α<|by lia]at e;refine⟨i,rfl,⟨l,Z⟩,?_⟩;rw[e];exact k
 rw[χ<|by lia]at e;ac_nf;have:=u g;refine bT (λc=>?_) λc=>ς (by lia) c;refine⟨i,rfl,⟨l,Z⟩,?_⟩;rw[e];exact k
noncomputable def lnT(c:Ξ)(a:ε Mk)(b d:ε ψ):Ξ:=Py [[gE c a<|a.map λm=>eE b m.1],b,d]
def aIv(F:Fs P w K mg base A):DW:=λf Q X=>∃(a:Ξ)(b:ε Mk)(c:ν),f=[.str a,.list<|b.map bW,.int (c:τ)]/\a∈cK/\1<=b.length/\M7 b/\(a≠"sum"->c<=3)/\
 ((a="sum"/\2<=c/\X A.x_NoKind)\/((a="sum"->c<=1)/\∃d e,Fit F a b c d e/\Q (.dat<|.str<|lnT a b d e)))
theorem vO(T:Txt K mg A)(F:Fs P w K mg base A):FnOk P w K mg base (iY P w) 11 (A.a 71) (A.d 71) (pr 71) (oV K<|aIv F):=by
 have a:=Rt<|Gj (P:=P) (w:=w) (base:=base) T F;refine Nj (T.G 71).F jG (by walk_at"l") λo z outer s H E c=>?_
 refine⟨_,(aT (oW 3 jG (kB a c (T.G 69) eV (aF (pv 0) (aF (pv 1) (aF (pv 2) aS)))))
   (aT (oW 4 jG (kB (sI _ T) c (T.G 25) bV (aF (pv 0) (aF (pv 1) (aF (kB (zE _ T) c (T.G 16) bV (aF (Sj (K:=K) rfl (pv 3)) (aF (pv 1) aS))) aS)))))
   (bG (dL (kB (zF _ T) c (T.G 70) bV (aF (gC (aF (gC (aF (pv 4) aS)) (aF (Sj (K:=K) rfl (pv 3)) (aF (Sj (K:=K) rfl (pv 3)) aS)))) aS)))))),_,(aG (aCg (vN 0 (vN 1 (vN 2 aB))) (aJ 3))
   (sA 4 (aC (vN 0 (vN 1 (vE (bU (bB (vE (eX 0 3) (vN 1 aB)))) aB)))) (aW (aE (aC (vE (bU (bN (aH (bU (bN (aH (aY 4) aO))) (aH (eX 0 3) (aH (eX 1 3) aO))))) aB)))))),?_⟩
 intro C Q X qQ0;refine q_ λwv=>?_;obtain⟨g,d,p,rfl,h,i,Z,t,k⟩:=qQ0;apply wv;have D:=Z.n5;ac_nf;refine⟨g,d,p,rfl,h,i,Z,t,?_⟩;rcases k with k|⟨u,e,j,n,k⟩
 ·exact .inl k
 refine .inr ⟨u,e,j,n,?_⟩;refine q_ λwv=>?_;obtain⟨_,L⟩:=n;have v:=L.n4;have G:=L.pn;obtain⟨V,B,l,b,x⟩:=L.z;apply wv;dsimp only;ac_nf;refine⟨e,d,500,4,rfl,‹1›,‹1›,L.n,λm y=>Z.xdg y,Β (Χ _ v)<|by decide,?_⟩;ext;refine⟨bP _,?_⟩;refine iU h (di.mp i) x (θ _) ?_;ext;refine⟨[[gE g d<|d.map λm=>eE e m.1],e,j],rfl,by simp,λr c=>?_,?_⟩
 ·simp only[Ω,cn,ft]at c;rcases c with rfl|rfl|rfl
  ·exact⟨by simp,λq f=>by rw[Υ.mp f];exact L.m⟩
  ·exact⟨‹1›,λq f=>(L.n q f).mono<|by decide⟩
  ·exact⟨‹10›,L.p⟩
 ·ext;exact k
structure RwF(ms:ε Mk)(row pl:ε ψ):Prop where
 rn:row.length=ms.length
 pn:pl.length=ms.length
 r:∀q∈row,Cm LM (3*10^6) q
 p:∀q∈pl,Dg 570 q
theorem fR{a:ε ψ}(h:∀q∈a,Cm LM (3*10^6) q):∀q∈a,Dg 570 q:=λq c=>((h q c).dg LM0 (l:=22) LM1 (b:=7)<|by decide).mono (by decide)
theorem aCv(F:Fs P w K mg base A){d:Ξ}{b:ε Mk}(f:d∈cK)(g:1<=b.length)(Z:M7 b):∃a c:ε ψ,F.rl (d,b)= .two (a.map fr) (c.map fr)/\RwF b a c:=by
 refine q_ λwv=>?_;obtain⟨a,c,e,h,i,j,k⟩:=F.hrl (d,b) ⟨f,g,Z⟩;apply wv;exact⟨a,c,e,h,i,j,λq l=>(k q l).mono<|by decide⟩
def aIo(F:Fs P w K mg base A):DW:=λe Q _=>∃(c:Ξ)(b:ε Mk)(a d:ε ψ),e=[.str c,.list<|b.map bW]/\c∈cK/\1<=b.length/\M7 b/\F.rl (c,b)= .two (a.map fr) (d.map fr)/\RwF b a d/\Q (.dat<|.str<|Py [[gE c b a],a,d])
theorem vG(T:Txt K mg A)(F:Fs P w K mg base A):FnOk P w K mg base (iY P w) 8 (A.a 72) (A.d 72) (pr 72) (oV K<|aIo F):=by
 have a:=Rt F.Grl;refine Nj (T.G 72).F lS (by walk_at"l") λi n outer s H E R=>?_;have Z:=lS
 refine⟨_,by walk_at"t",_,(aG (iH (vN 0 (vN 1 aB)) (aJ 2))
   (aW (aE (aC (vE (bU (bN (aH (bU (bN (aH (aC (vN 0 (vN 1 (vE (eX 0 2) aB)))) aO))) (aH (eX 0 2) (aH (eX 1 2) aO))))) aB))))),?_⟩
 intro o Q X qQ0;refine q_ λwv=>?_;obtain⟨c,d,b,j,rfl,f,g,Z,e,R,k⟩:=qQ0;apply wv;have p:=Z.n5;have l:=R.rn;have t:=R.pn;have h:=Z.rz R.r;ac_nf;refine⟨(c,d),rfl,⟨f,g,Z⟩,?_⟩;rw[e];dsimp only;refine iU f (di.mp g) h l ?_;ext;refine⟨[[gE c d b],b,j],rfl,by simp,λr R=>?_,?_⟩
 ·simp only[Ω,cn,ft]at R;rcases R with rfl|rfl|rfl
  ·exact⟨by simp,λq m=>by rw[Υ.mp m];exact(h.measDg c).mono<|by decide⟩
  ·exact⟨‹10›,fR R.r⟩
  ·exact⟨‹10›,R.p⟩
 ·ext;exact k
theorem aCj(F:Fs P w K mg base A){c:Ξ}{b:ε Mk}{k:ν}(d:c∈cK)(Z:M7 b)(e:k<=4):∃(a:ε ψ)(tb:η),F.sl (c,b,k)= .dat (.tuple [.list<|a.map fr,tb])/\a.length=b.length/\∀q∈a,Cm LM (3*10^6) q:=F.hsl (c,b,k) ⟨d,Z,e⟩
def aBy(F:Fs P w K mg base A):DW:=λd Q _=>∃(c:Ξ)(b:ε Mk)(k:ν)(a:ε ψ)(tb:η),d=[.str c,.list<|b.map bW,.int (k:τ)]/\c∈cK/\1<=b.length/\M7 b/\k<=4/\F.sl (c,b,k)= .dat (.tuple [.list<|a.map fr,tb])/\a.length=b.length/\(∀q∈a,Cm LM (3*10^6) q)/\Q (.dat<|.str<|Py [[gE c b a],a])
theorem sX(T:Txt K mg A)(F:Fs P w K mg base A):FnOk P w K mg base (iY P w) 11 (A.a 73) (A.d 73) (pr 73) (oV K<|aBy F):=by
 have a:=F.Gsl;refine Nj (T.G 73).F lC (by walk_at"l") λi p outer s H E R=>?_;have Z:=lC
 refine⟨_,by walk_at"t",_,(aG (yM 0 (vN 0 (vN 1 (vN 2 aB))) (aJ 3))
   (aW (aE (aC (vE (bU (bN (aH (bU (bN (aH (aC (vN 0 (vN 1 (vN 3 aB)))) aO))) (aH (aY 3) aO)))) aB))))),?_⟩
 intro t Q X qQ0;refine q_ λwv=>?_;obtain⟨c,d,k,b,tb,rfl,f,j,Z,l,e,m,g,n⟩:=qQ0;apply wv;have u:=Z.n5;have h:=Z.rz g;ac_nf;refine⟨(c,d,k),rfl,⟨f,Z,l⟩,?_⟩;rw[e];ext;refine iU f (di.mp j) h m ?_;ext;refine⟨[[gE c d b],b],rfl,by simp,λr R=>?_,?_⟩
 ·simp only[Ω,cn,ft]at R;rcases R with rfl|rfl
  ·exact⟨by simp,λq o=>by rw[Υ.mp o];exact(h.measDg c).mono<|by decide⟩
  ·exact⟨‹10›,fR g⟩
 ·ext;exact n
theorem aGl{q:ψ}(h:Dg 39 q):lL (oG q)=γ (q.num,(q.den:τ)):=by
 have e:(10:ν)^39<10^40:=by decide +kernel
 exact Iy (eh h.n e) (by rw[fi];exact eh h.d e) (aMc _) q.reduced
def aIs:DW:=λd Q _=>∃(c:Ξ)(b:ε Mk)(a:ε ψ),d=[.str c,.list<|b.map bW,.list<|(a.map oG).map .str]/\c∈cK/\1<=b.length/\M7 b/\a.length=b.length/\(∀q∈a,Cm LM (3*10^6) q)/\Q (.dat<|.str<|oG<|gE c b a)
theorem sY:Q 7 74 (λ_=>aIs):=by
 refine jU 74 ["kind","marks","words"] λA T R Z=>⟨_,by walk_at"t",_,(aG (bD (tO Mu (aE (bR cI (vN 2 aB))) (aE (bR cI (vN 1 aB)))) (cL (aH aP aO)) aQ)
   (aW (aE (aC (vE (aC (vN 0 (vN 1 (vE (bU (bK [none] ["word"] (cC (aL 2)) (aJ 0) bM (aC (vN 0 aB)))) aB)))) aB))))),?_⟩
 intro C Q X qQ0;refine q_ λwv=>?_;obtain⟨s,D,a,rfl,u,v,Z,y,m,k⟩:=qQ0;apply wv;have E:=Z.n5;have i:∀q∈a,Dg 39 q:=λq d=>((m q d).dg LM0 (l:=22) LM1 (b:=7)<|by decide).mono (by decide);have n:=Z.rz m;ac_nf;refine bT (λc=>ς ‹48› c) λ_=>?_
 refine bJ br fr (λx:Ξ=>[((lL x).map λp=>cD p.1 p.2).getD 0]) (a.map oG) (by rw[θ];exact 10) (λQ h=>by
   ext
   exact h) (λx z N B j=>?_) ?_
 ·obtain⟨q,d,rfl⟩:=Ν.mp z;have o:=aGl<|i q d;have hlen:=gA ((i q d).mono<|by decide);ext;refine .inl ⟨_,rfl,‹1›,λt b f=>?_,λr=>by rw[o]at r;cases r⟩;rw[o]at f j;cases f;ext;have e:cD q.num (q.den:τ)=q:=js q;simp only[x9,wz,e,ak,zw]at j;exact j
 ·rw[aN];have e:(a.map oG).map (λx:Ξ=>((lL x).map λp=>cD p.1 p.2).getD 0)=a:=by
   rw[jd];refine(fu (g:=id) λq d=>?_).trans<|A9 _;show((lL<|oG q).map λp=>cD p.1 p.2).getD 0=q;rw[aGl<|i q d];exact js q
  rw[e];refine iU u (di.mp v) n y ?_;ext;refine⟨_,rfl,(n.measDg s).mono<|by decide,?_⟩;ext;exact k
theorem yN(a:ε Ξ):cZ (a.map br)=true:=by
 induction a with
 |nil=>rfl
 |cons m r b=>rw[ak];show(mH (br m) && cZ (r.map br))=true;rw[b];rfl
theorem fA{ws:ε Ξ}{j:ν}(h:ws[j]? =γ x):kC (ws.map br) (j:τ)=γ (.str x):=dR (by rw[cw,h];rfl)
def aSk(F:Fs P w K mg base A)(c:ε Mk)(nm b:Ξ)(f:ε Ξ)(t:υ Ξ):Prop:=
 (∃(d:ν)(g e:ε ψ),f=[ζ "bend",nm,b,ζ<|toString (d:τ)]/\(b≠"sum"->d<=3)/\(b="sum"->d<=1)/\Fit F b c d g e/\t=γ (lnT b c g e)) \/
 (∃d:ν,b="sum"/\2<=d/\d<=5/\f=[ζ "bend",nm,b,ζ<|toString (d:τ)]/\t=none) \/
 (∃a e:ε ψ,f=[ζ "rise",nm,b]/\F.rl (b,c)= .two (a.map fr) (e.map fr)/\RwF c a e/\t=γ (Py [[gE b c a],a,e])) \/
 (∃(k:ν)(a:ε ψ)(tb:η),f=[ζ "steps",nm,b,ζ<|toString (k:τ)]/\k<=4/\F.sl (b,c,k)= .dat (.tuple [.list<|a.map fr,tb])/\a.length=c.length/\(∀q∈a,Cm LM (3*10^6) q)/\t=γ (Py [[gE b c a],a])) \/
 (∃a:ε ψ,f=ζ "judge"::nm::b::a.map oG/\a.length=c.length/\(∀q∈a,Cm LM (3*10^6) q)/\t=γ (oG<|gE b c a))
def aTg(F:Fs P w K mg base A):DW:=λe Q X=>∃(nm c:Ξ)(b:ε Mk)(d:ε Ξ)(t:υ Ξ),e=[.list<|d.map .str,.list<|b.map bW]/\c∈cK/\1<=b.length/\M7 b/\aSk F b nm c d t/\(∀a,t=γ a->Q (.dat<|.str a))/\(t=none->X A.x_NoKind)
theorem Bq{n:ν}(h:n<=5):jK (ζ<|toString (n:τ)).cps.toList=γ (n:τ)/\(ζ<|toString (n:τ)).length<=100:=by
 have a:(n:τ).natAbs<10^40:=by rw[fi];exact eh h (by decide +kernel)
 exact⟨vQ a,Β (tK (n:=(n:τ))<|mr a<|by decide +kernel)<|by decide⟩
theorem Wy(T:Txt K mg A)(F:Fs P w K mg base A):FnOk P w K mg base (iY P w) 12 (A.a 75) (A.d 75) (pr 75) (oV K<|aTg F):=by
 have b:=vO (P:=P) (w:=w) (base:=base) T F;have d:=vG (P:=P) (w:=w) (base:=base) T F;have a:=sX (P:=P) (w:=w) (base:=base) T F;refine Nj (T.G 75).F Er (by walk_at"l") λM Ar outer s H E l=>?_
 refine⟨_,(aT (oW 2 Er (uX (K:=K) rfl (pv 0)))
   (aT (mV (kB (nX _ T) l (T.G 23) bV (aF (pv 2) aS)))
   (aT (eU (cN iQ (uX (K:=K) rfl (pv 0)) cA (dI _)) (bG (dL (kB b l (T.G 71) eV (aF (pv 2) (aF (pv 1) (aF (kB (jZ _ T) l (T.G 60) bV (aF (uX (K:=K) rfl (pv 0)) aS)) aS)))))) cR)
   (aT (eU (cN iQ (uX (K:=K) rfl (pv 0)) cA (dI _)) (bG (dL (kB d l (T.G 72) bV (aF (pv 2) (aF (pv 1) aS))))) cR)
   (aT (eU (cN iQ (uX (K:=K) rfl (pv 0)) cA (dI _)) (bG (dL (kB a l (T.G 73) bV (aF (pv 2) (aF (pv 1) (aF (kB (jZ _ T) l (T.G 60) bV (aF (uX (K:=K) rfl (pv 0)) aS)) aS)))))) cR)
   (bG (dL (kB (sY _ T) l (T.G 74) bV (aF (pv 2) (aF (pv 1) (aF (vB (aJe (K:=K) rfl) (pv 0) (mW bS) tN) aS))))))))))),_,(sA 2 (bE (aL 0) bI) (aG (iT (aE (aC (vN 2 aB))))
   (aG (bD (tO cJ (aE (bE (aL 0) bI)) (aE aP)) (aW (aE (fH (vN 2 (vN 1 (vE (aC (vE (bE (aL 0) bI) aB)) aB)))))) aQ)
   (aG (bD (tO cJ (aE (bE (aL 0) bI)) (aE aP)) (aW (aE (aC (vN 2 (vN 1 aB))))) aQ)
   (aG (bD (tO cJ (aE (bE (aL 0) bI)) (aE aP)) (aW (aE (aC (vN 2 (vN 1 (vE (aC (vE (bE (aL 0) bI) aB)) aB)))))) aQ)
   (aW (aE (aC (vN 2 (vN 1 (vE (bU (gP (aL 0) (cH bI) gQ)) aB))))))))))),?_⟩
 intro ds Q X qQ0;refine q_ λwv=>?_;obtain⟨nm,h,p,D,t,rfl,m,q,Z,G,r,N⟩:=qQ0;apply wv;obtain⟨v,o,O⟩:∃v,kC (D.map br) 0=γ (.str v)/\kC (D.map br) 2=γ (.str h):=by
  rcases G with⟨_,_,_,rfl,_⟩|⟨_,_,_,_,rfl,_⟩|⟨_,_,rfl,_⟩|⟨_,_,_,rfl,_⟩|⟨_,rfl,_⟩ <;>exact⟨_,fA (j:=0) rfl,fA (j:=2) rfl⟩
 ac_nf;refine⟨_,O,?_⟩;ac_nf;refine⟨_,rfl,(λk2 e=>by cases e;exact Kf m),λ_=>?_,λz=>ς m<|z h rfl⟩;ac_nf;refine⟨_,o,?_⟩;ext;rcases G with⟨u,S,x,rfl,I,J,U,rfl⟩|⟨u,rfl,W,y,rfl,rfl⟩|⟨g,x,rfl,e,R,rfl⟩|⟨k,g,tb,rfl,Y,e,B,C,rfl⟩|⟨g,rfl,B,C,rfl⟩
 ·cases o;have y:u<=5:=by
   by_cases c:h="sum"
   ·have:=J c;exact 1
   ·have:=I c;exact 1
  obtain⟨i,L⟩:=Bq y;refine bT (λ_=>?_) λc=>ς rfl c;refine⟨_,fA (j:=3) rfl,_,rfl,‹1›,λn f=>?_,λz=>by rw[i]at z;cases z⟩;rw[i]at f;cases f;ext;refine⟨h,p,u,rfl,m,q,Z,I,.inr ⟨J,S,x,U,?_⟩⟩;ext;exact r _ rfl
 ·cases o;obtain⟨i,L⟩:=Bq y;refine bT (λ_=>?_) λc=>ς rfl c;refine⟨_,fA (j:=3) rfl,_,rfl,‹1›,λn f=>?_,λz=>by rw[i]at z;cases z⟩;rw[i]at f;cases f;ext;exact⟨_,p,u,rfl,m,q,Z,λz=>ς rfl z,.inl ⟨rfl,W,N rfl⟩⟩
 ·cases o;refine bT (λc=>ς c<|by decide +kernel) λ_=>?_;ac_nf;refine⟨_,fA (j:=0) rfl,?_⟩;ext;refine⟨h,p,g,x,rfl,m,q,Z,e,R,?_⟩;ext;exact r _ rfl
 ·cases o;obtain⟨i,L⟩:=Bq (show k<=5 by exact 1);refine bT (λc=>ς c<|by decide +kernel) λ_=>?_;ac_nf;refine⟨_,fA (j:=0) rfl,?_⟩;ext;refine bT (λc=>ς c<|by decide +kernel) λ_=>?_;ac_nf;refine⟨_,fA (j:=0) rfl,?_⟩;ext;refine⟨_,fA (j:=3) rfl,_,rfl,‹1›,λn f=>?_,λz=>by rw[i]at z;cases z⟩;rw[i]at f;cases f;ext;refine⟨h,p,k,g,tb,rfl,m,q,Z,Y,e,B,C,?_⟩;ext;exact r _ rfl
 ·obtain rfl:v=ζ "judge":=by
   have e:=o.symm.trans<|fA (j:=0) rfl;injection e with e
   injection e
  have e3:eM ((ζ "judge"::nm::h::g.map oG).map br) (γ 3) none=(g.map oG).map .str:=by
   rw[show(3:τ)=((3:ν):τ)from rfl,iW];rfl
  refine bT (λc=>ς c<|by decide +kernel) λ_=>?_;ac_nf;refine⟨_,fA (j:=0) rfl,?_⟩;ext;refine bT (λc=>ς c<|by decide +kernel) λ_=>?_;ac_nf;refine⟨_,fA (j:=0) rfl,?_⟩;ext;refine bT (λc=>ς c<|by decide +kernel) λ_=>?_;rw[e3];refine⟨h,p,g,rfl,m,q,Z,B,C,?_⟩;ext;exact r _ rfl
theorem vT:∀a:ε Mk,rG (a.map bW)=true
 |[]=>rfl
 |m::r=>by rw[ak];show(Gn (bW m) && rG (r.map bW))=true;rw[vT r];rfl
theorem aIw{c d:ε Mk}(h:c.Perm d)(u:Up c)(v:Up d):c=d:=zk (λa b _ _ e f=>ς e<|lj.mpr<|iv f) u v h
theorem aPt(T:Txt K mg A):FnOk P w K mg base (iY P w) 1 A.a_qa A.d_qa ["self"] (Ag A.c_Desk "kept"):=
 aKl T.F_qa aPa rfl T.cl_Desk T.nA_Desk λa b outer s H E c=>bG<|aJv (pv 0) Wn rfl
def Ti(C:ο):Ip:=λa b Q X=>∃x:Ξ,b=[.str x]/\(∀d,a.lookup x=γ d->Q (.dat d))/\(a.lookup x=none->X C)
theorem aGz(T:Txt K mg A):FnOk P w K mg base (iY P w) 1 A.a_qd A.d_qd ["self","name"] (uH K A.c_Desk "kept"<|Ti A.x_NoName):=by
 refine okR T.F_qd aOy (λa f Q E h=>?_) λg k outer s H E b=>?_
 ·obtain⟨_,rfl,_⟩:=h;rfl
 refine⟨_,(aT (eU (aJt (Ql (hu1 b.units) (pv 1) (Bd (pv 0) rfl))) (bG (eJ T.x_NoName b.hd eV rfl (aF cA aS))) cR)
   (bG (dL (aDg (hu1 b.units) (Bd (pv 0) rfl) (pv 1) (λ_ _=>rfl))))),_,(aG (bD (Ps 0 T.cl_Desk T.nA_Desk (aI 1)) (cL (aH aP aO)) aQ)
   (aW (aE (aFm 0 T.cl_Desk T.nA_Desk (aI 1))))),?_⟩
 rintro a f Q X ⟨x,rfl,i,j⟩;ac_nf;refine⟨a,rfl,?_⟩;cases e:a.lookup x with
 |none=>exact bT (λ_=>j e) λc=>ς rfl c
 |some d=>
  refine bT (λc=>ς c<|by simp) λ_=>?_;ext;exact⟨a,rfl,d,e,i d e⟩
def aQg:LG:=λb c R _=>∃(nm:Ξ)(a:ε Mk),c=[.str nm,.list<|(a.map iL).map .str]/\nm.length<=8/\mC nm=true/\1<=a.length/\M7 a/\b.length<1000/\R (putP b nm<|.list<|a.map bW) (.str "ok")
theorem aPs(T:Txt K mg A):FnOk P w K mg base (iY P w) 5 A.a_qc A.d_qc ["self","name","words"] (spG K A.c_Desk "kept" aQg):=by
 refine okG T.F_qc aOz (λkv v R ex h=>?_) λy S outer s H E g=>?_
 ·obtain⟨_,_,rfl,_⟩:=h;rfl
 refine⟨_,(aT (mV (kB (xH _ T) g (T.G 68) bV (aF (pv 1) aS)))
   (aT (aCz (hu1 g.units) (Bd (pv 0) rfl) (pv 1) (kB (Fz _ T) g (T.G 21) bV (aF (aGy (cap:=[none]) (NC:=["word"]) rfl (lcO rfl) (aJx (K:=K) rfl (pv 2)) (λ_ _ _ _=>(pgN 0 ["word"])) (λ_ _ _ _=>Aw) (λ_ _ _ _=>(kB (Bj _ T) g (T.G 62) bV (aF (pv 0) aS)))) aS)) rfl)
   (bG (dL cA)))),λU B W i j b=>⟨_,(Jx b (iT (aE (aC (vN 1 aB))))
   (aKp 1 b (Pd (wK (kv:=i) (C:=A.c_Desk) (f:="kept")) j T.cl_Desk T.nA_Desk) (bB (vE (bU (Ws (cC (aL 2)) (aJ 0) bM (aC (vN 0 aB)) (by decide) (by decide))) aB)) (λX=>(aW (aE aP))))),?_⟩⟩
 intro v R ex qQ0;refine q_ λwv=>?_;obtain⟨nm,c,rfl,D,o,F,Z,p,k⟩:=qQ0;apply wv;have G:=Z.n5;ext;refine⟨nm,rfl,‹1›,λ_=>?_,λz=>by rw[o]at z;cases z⟩;ext;refine⟨nm,rfl,?_⟩;have q:∀m∈c,pN (iL m)=γ (m7 m):=λm a=>aCk (Z.gd m a).lw
 refine bJ br mD (λx:Ξ=>[(pN x).getD ((0,1),(0,1),1)]) (c.map iL) (by rw[θ];exact 1) (λQ h=>by
   ext
   exact h) (λx I N J r=>?_) ?_
 ·refine q_ λwv=>?_;obtain⟨m,a,rfl⟩:=Ν.mp I;apply wv;have t:=q m a;have hlen:=pP<|Z.gd m a;ext;refine .inl ⟨_,rfl,‹1›,λY d=>?_,λu=>by rw[t]at u;cases u⟩;rw[t]at d r;cases d;ext;exact⟨rfl,r⟩
 ·rw[aN];have e:((c.map iL).map λx:Ξ=>(pN x).getD ((0,1),(0,1),1)).map mD=c.map bW:=by
   rw[jd,jd];refine fu λm a=>?_;show mD ((pN<|iL m).getD ((0,1),(0,1),1))=bW m;rw[q m a];rfl
  rw[e];refine⟨c,rfl,λm a=>?_,λz=>ς z<|di.mp F,λz=>ς G<|by lia,λz=>ς Z.nd z,λ_ _ _ L M O=>?_⟩
  ·have l:=(Z.gd m a).lw;exact⟨fJ (n:=10^40)<|bu l.a,fJ (n:=10^40)<|bu l.b⟩
  ·rw[aIw M O Z.up];ext;exact⟨vU _,vT _,p,k⟩
def aKy:LG:=λa d R ex=>∃(x:Ξ)(b:ε Ξ),d=[.str x]/\x.length<=90000/\Txt.split x (ζ " ")=b/\
 ((∃(nm:Ξ)(c:ε Mk),b=ζ "marks"::nm::c.map iL/\ aQg a [.str nm, .list ((c.map iL).map .str)] R ex) \/
  (∃nm,b=[ζ "drop",nm]/\(a.lookup nm).isSome=true/\R (dropP a nm) (.str "ok")))
theorem Bn(T:Txt K mg A)(b:qS w K A.g_COUNTS<|fK A):FnOk P w K mg base (iY P w) 13 A.a_qb A.d_qb ["self","row"] (spG K A.c_Desk "kept" aKy):=by
 have a:=sH (P:=P) (w:=w) (base:=base) T b;have n:=aPs (P:=P) (w:=w) (base:=base) T;have o:=aGz (P:=P) (w:=w) (base:=base) T;refine okG T.F_qb yT (λkv G R ex h=>?_) λI W outer s H E u=>?_
 ·obtain⟨_,_,rfl,_⟩:=h;rfl
 refine⟨_,(aT (oW 2 yT (kB a u (T.G 67) eV (aF (pv 1) aS)))
   (aT (eU (cN iQ (uX (K:=K) rfl (pv 2)) cA (dI _)) (bG sG) cR)
   (aT (eU (cN iQ (uX (K:=K) rfl (pv 2)) cA (dI _)) (bG (dL (jS (pv 0) T.cl_Desk T.M_qc n (u.mono (by decide)) T.b_qc .nil eV (aF (uX (K:=K) rfl (pv 2)) (aF (vB (aJe (K:=K) rfl) (pv 2) (mW bS) tN) aS))))) cR)
   (aT (oW 3 yT (jS (pv 0) T.cl_Desk T.M_qd o (u.mono (by decide)) T.b_qd .nil eV (aF (uX (K:=K) rfl (pv 2)) aS)))
   (aT (eU (cN iQ (uX (K:=K) rfl (pv 2)) cA (dI _)) (aT (mV (Wm (Bd (pv 0) rfl) (uX (K:=K) rfl (pv 2)) ⟨rfl,rfl,rfl,rfl⟩))
   (bG (dL cA))) cR)
   (aT sG
   (bG sG))))))),λJ L X i q g=>⟨_,(Jx g (aR 2 (aDl (vN 1 aB)))
   (Xk (tO cJ (aE (bE (aL 2) bI)) (aE aP)) aHd
   (Xk (tO cJ (aE (bE (aL 2) bI)) (aE aP)) (aEa (wK (kv:=i) (C:=A.c_Desk) (f:="kept")) q g (by decide) (vE (bE (aL 2) bI) (vE (bU (gP (aL 2) (cH bI) gQ)) aB)))
   (Jx g (gU 2 (Um (aMb (p:=J) (kv:=i) (C:=A.c_Desk) (f:="kept")) (by decide) (vE (bE (aL 2) bI) aB) (aJ 3)))
   (Xk (tO cJ (aE (bE (aL 2) bI)) (aE aP)) (aKq g (Pd (wK (kv:=i) (C:=A.c_Desk) (f:="kept")) q T.cl_Desk T.nA_Desk) (aE (bE (aL 2) bI)) (λY=>(aW (aE aP))))
   aHd))))),?_⟩⟩
 intro G R ex qQ0;refine q_ λwv=>?_;obtain⟨x,ws,rfl,M,v,F⟩:=qQ0;apply wv;have N:Ol ws:=by
  rcases F with⟨nm,r,e,O,y,B,_,_,h1,Z,_⟩|⟨nm,e,_⟩
  ·have S:(r.map iL).length=(y.map iL).length:=by
    have:=bt (λz:ε η=>match z with |[_,.list l]=>l.length|_=>0) B;simpa using this
   have n5:=Z.n5;rw[θ,θ]at S;exact⟨ζ "marks",nm::r.map iL,3,62,e,by decide +kernel,by rw[e];simp;lia,by rw[e];simp;lia⟩
  ·exact⟨ζ "drop",[nm],2,2,e,by decide +kernel,by rw[e];simp,by rw[e];simp⟩
 ext;refine .inl ⟨x,ws,rfl,M,v,λ_=>?_,λz=>ς N z⟩;ext;refine⟨yN ws,?_⟩;rcases F with⟨nm,r,e,U⟩|⟨nm,e,D,k⟩
 ·have m:=fA (ws:=ws) (j:=0) (x:=ζ "marks") (by rw[e];rfl);have t:=fA (ws:=ws) (j:=1) (x:=nm) (by rw[e];rfl);have B:eM (ws.map br) (γ 2) none=(r.map iL).map .str:=by
   rw[show(2:τ)=((2:ν):τ)from rfl,iW,e];rfl
  refine⟨_,m,?_⟩;ext;refine bT (λc=>ς c<|by decide +kernel) λ_=>?_;refine⟨_,m,?_⟩;ext;refine⟨_,t,?_⟩;ext;rw[B];exact U
 ·have m:=fA (ws:=ws) (j:=0) (x:=ζ "drop") (by rw[e];rfl);have t:=fA (ws:=ws) (j:=1) (x:=nm) (by rw[e];rfl);refine⟨_,m,?_⟩;ext;refine bT (λc=>ς c<|by decide +kernel) λ_=>?_;refine⟨_,m,?_⟩;ext;refine bT (λc=>ς c<|by decide +kernel) λ_=>?_;refine⟨_,t,nm,rfl,λd hd=>?_,λz=>by rw[z]at D;cases D⟩;ext;refine⟨_,m,?_⟩;ext;refine⟨_,t,?_⟩;ext;exact⟨D,k⟩
def SayT(F:Fs P w K mg base A)(a:ε Mk)(nm:Ξ)(b:ε Ξ)(t:υ Ξ):Prop:=(b=[ζ "show",nm]/\t=γ (pO a))\/∃c∈cK,aSk F a nm c b t
theorem SayT.good{F:Fs P w K mg base A}{c:ε Mk}{nm:Ξ}{a:ε Ξ}{t:υ Ξ}(h:SayT F c nm a t)(e:1<=c.length)(f:c.length<=5):Ol a/\a[1]? =γ nm/\∃b:Ξ,a[0]? =γ b/\b≠"names"/\b≠"marks"/\b≠"drop"/\(b="show"↔a=[ζ "show",nm]):=by
 rcases h with⟨rfl,_⟩|⟨g,_,⟨_,_,_,rfl,_⟩|⟨_,_,_,_,rfl,_⟩|⟨_,_,rfl,_⟩|⟨_,_,_,rfl,_⟩|⟨d,rfl,i,_⟩⟩
 ·exact⟨⟨ζ "show",_,2,2,rfl,by decide +kernel,by simp,by simp⟩,rfl,_,rfl,by decide +kernel,by decide +kernel,by decide +kernel,⟨λ_=>rfl,λ_=>rfl⟩⟩
 ·exact⟨⟨ζ "bend",_,4,4,rfl,by decide +kernel,by simp,by simp⟩,rfl,_,rfl,by decide +kernel,by decide +kernel,by decide +kernel,⟨λz=>ς z<|by decide +kernel,λz=>by injection z⟩⟩
 ·exact⟨⟨ζ "bend",_,4,4,rfl,by decide +kernel,by simp,by simp⟩,rfl,_,rfl,by decide +kernel,by decide +kernel,by decide +kernel,⟨λz=>ς z<|by decide +kernel,λz=>by injection z⟩⟩
 ·exact⟨⟨ζ "rise",_,3,3,rfl,by decide +kernel,by simp,by simp⟩,rfl,_,rfl,by decide +kernel,by decide +kernel,by decide +kernel,⟨λz=>ς z<|by decide +kernel,λz=>by injection z⟩⟩
 ·exact⟨⟨ζ "steps",_,4,4,rfl,by decide +kernel,by simp,by simp⟩,rfl,_,rfl,by decide +kernel,by decide +kernel,by decide +kernel,⟨λz=>ς z<|by decide +kernel,λz=>by injection z⟩⟩
 ·exact⟨⟨ζ "judge",_,4,63,rfl,by decide +kernel,by simp;lia,by simp;lia⟩,rfl,_,rfl,by decide +kernel,by decide +kernel,by decide +kernel,⟨λz=>ς z<|by decide +kernel,λz=>by injection z⟩⟩
def aTc(F:Fs P w K mg base A):Ip:=λc d Q X=>∃(x nm:Ξ)(b:ε Mk)(t:υ Ξ),d=[.str x]/\x.length<=90000/\c.lookup nm=γ (.list<|b.map bW)/\1<=b.length/\M7 b/\SayT F b nm (Txt.split x<|ζ " ") t/\(∀a,t=γ a->Q (.dat<|.str a))/\(t=none->X A.x_NoKind)
theorem qE(T:Txt K mg A)(F:Fs P w K mg base A)(d:qS w K A.g_COUNTS<|fK A):FnOk P w K mg base (iY P w) 13 A.a_qb A.d_qb ["self","row"] (uH K A.c_Desk "kept"<|aTc F):=by
 have b:=sH (P:=P) (w:=w) (base:=base) T d;have g:=aGz (P:=P) (w:=w) (base:=base) T;have f:=Wy (P:=P) (w:=w) (base:=base) T F;refine okR T.F_qb yT (λy J Q E h=>?_) λL Y outer s H E n=>?_
 ·obtain⟨_,_,_,_,rfl,_⟩:=h;rfl
 refine⟨_,(aT (oW 2 yT (kB b n (T.G 67) bV (aF (pv 1) aS)))
   (aT (eU (cN iQ (uX (K:=K) rfl (pv 2)) cA (dI _)) (bG sG) cR)
   (aT (eU (cN iQ (uX (K:=K) rfl (pv 2)) cA (dI _)) (bG sG) cR)
   (aT (oW 3 yT (jS (pv 0) T.cl_Desk T.M_qd g (n.mono (by decide)) T.b_qd .nil bV (aF (uX (K:=K) rfl (pv 2)) aS)))
   (aT (eU (cN iQ (uX (K:=K) rfl (pv 2)) cA (dI _)) (aT sG
   (bG sG)) cR)
   (aT (eU (cN iQ (uX (K:=K) rfl (pv 2)) cA (dI _)) (bG (dL (kB (xD _ T) n (T.G 66) bV (aF (pv 3) aS)))) cR)
   (bG (dL (kB f n (T.G 75) eV (aF (pv 2) (aF (pv 3) aS))))))))))),_,(aG (aR 2 (bB (vN 1 aB)))
   (aG (bD (tO cJ (aE (bE (aL 2) bI)) (aE aP)) yK aQ)
   (aG (bD (tO cJ (aE (bE (aL 2) bI)) (aE aP)) yK aQ)
   (aG (gU 2 (Uo 0 (by decide) (vE (bE (aL 2) bI) aB) (aJ 3)))
   (aG (bD (tO cJ (aE (bE (aL 2) bI)) (aE aP)) (aG yK
   yK) aQ)
   (aG (bD (tO cJ (aE (bE (aL 2) bI)) (aE aP)) (aW (aE (aC (vN 3 aB)))) aQ)
   (aW (aE (fH (vN 2 (vN 3 aB))))))))))),?_⟩
 intro y J Q X qQ0;refine q_ λwv=>?_;obtain⟨x,nm,B,t,rfl,M,C,D,Z,o,G,N⟩:=qQ0;obtain⟨i,k⟩:∃i,Txt.split x (ζ " ")=i:=⟨_,rfl⟩;apply wv;rw[k]at o;refine q_ λwv=>?_;obtain⟨O,R,w0,S,q,r,u,l⟩:=o.good D Z.n5;apply wv;have p:=fA (j:=0) S;have U:=fA (j:=1) R;ac_nf;refine .inl ⟨x,i,rfl,M,k,λ_=>?_,λz=>ς O z⟩;ext;refine⟨yN i,?_⟩;ac_nf;refine⟨_,p,?_⟩;ext;refine bT (λc=>ς c q) λ_=>?_;ac_nf;refine⟨_,p,?_⟩;ext;refine bT (λc=>ς c r) λ_=>?_;ac_nf;refine⟨y,rfl,_,U,nm,rfl,λd2 m=>?_,λz=>by rw[C]at z;cases z⟩;rw[C]at m;cases m;ext;ac_nf;refine⟨_,p,?_⟩;ext;refine bT (λc=>ς c u) λ_=>?_;ac_nf;refine⟨_,p,?_⟩;ext;refine bT (λc=>?_) λc=>?_
 ·rcases o with⟨_,rfl⟩|⟨I,_,v⟩
  ·refine⟨B,rfl,by have:=Z.n5;exact 1,Z.gd,?_⟩;ext;exact G _ rfl
  ·have:=l.mp c;rcases v with⟨_,_,_,e,_⟩|⟨_,_,_,_,e,_⟩|⟨_,_,e,_⟩|⟨_,_,_,e,_⟩|⟨_,e,_⟩ <;>(rw[e]at this;injection this with h _;exact ς h<|by decide +kernel)
 ·rcases o with⟨e,_⟩|⟨I,W,v⟩
  ·exact ς (l.mpr e) c
  refine⟨nm,I,B,i,t,rfl,W,D,Z,v,λa e=>⟨rfl,G a e⟩,N⟩
noncomputable def nZ(a:ε τ)(k:τ):τ:=if k<(a.length:τ)then a.getD k.toNat default else 5*k*k+11*k+2
theorem wQ(h:∀v∈a,az v<=1048576)(b:0<=k)(c:k<=1000):Bg 1048577 (nZ a k):=by
 unfold nZ;split
 ·exact Bg.of (Yd (p:=λv=>az v<=1048576) h<|by decide)
 ·refine Bg.small ?_ (by decide);have d:5*k*k<=5000*1000:=Int.mul_le_mul (by lia) c b ‹29›;have e:0<=5*k*k:=Int.mul_nonneg (by lia) b;lia
def aOk:DW:=λb Q _=>∃(a:ε τ)(k:τ),b=[.list<|a.map .int,.int k]/\0<=k/\k<=1000/\Q (.dat<|.int<|nZ a k)
theorem fM:Q 1 76 (λ_=>aOk):=by
 refine jU 76 ["script","k"] λA T R Z=>⟨_,by walk_at"t",_,(aG (bD (tO eR (aI 1) (aE (bR cI (vN 0 aB)))) (aW (aE (bE (aL 0) (aI 1)))) aQ)
   (aW (bO cG (bO cG (bO eZ (bO eZ bI (aI 1)) (aI 1)) (bO eZ bI (aI 1))) bI))),?_⟩
 rintro d Q X ⟨e,k,rfl,b,f,a⟩;unfold nZ at a;ac_nf;refine bT (λc=>?_) λc=>?_
 ·rw[Α c]at a;exact⟨_,Dc bj b c,a⟩
 ·rw[χ c]at a;ext;exact⟨fS (Sy)<|fJ (n:=1000)<|by lia,fS (fJ (n:=5000)<|by lia)<|fJ (n:=1000)<|by lia,fS (Sy)<|fJ (n:=1000)<|by lia,a⟩
def aTd:DW:=λa Q _=>∃t b:τ,a=[.int t,.int b]/\1<=b/\Wee b/\Q (.dat<|fr<|cD t b)
theorem nW:Q 1 77 (λ_=>aTd):=by
 refine jU 77 ["top","bottom","one","other"] λA T R Z=>⟨_,by walk_at"t",_,(sA 2 (bR uV (vN 0 aB)) (sA 3 (aY 1) (aG (kE (tO eR (aI 3) bI) (aJd 2 3 (aH (aY 3) (aH (cB eZ (aI 2) (aI 3)) aO))))
   (aW (aE (cQ (aH (cB eZ (aI 0) (aI 2)) (aH (cB eZ (aI 1) (aI 2)) aO)))))))),?_⟩
 rintro o Q X ⟨t,b,rfl,p,hw,k⟩;ac_nf;ac_nf;refine cV ?_;refine⟨λm e=>∃x y:τ,e=[γ<|.dat<|.int t,γ<|.dat<|.int b,γ<|.dat<|.int x,γ<|.dat<|.int y]/\m=y.toNat/\0<=x/\0<=y/\bq x y=bq t b,⟨_,_,b,rfl,rfl,by split <;>exact 50,‹50›,by rw[Fm.abs_if];simp[bq]⟩,?_⟩;intro m e qQ0;refine q_ λwv=>?_;obtain⟨x,y,rfl,rfl,i,j,f⟩:=qQ0;apply wv;ext;refine bT (λc=>?_) λc=>?_
 ·refine⟨c,_,?_,y,x%y,rfl,rfl,j,tq _<|‹21›,?_⟩
  ·have:=u5 x c;have:=tq x (show y≠0 by exact 21);lia
  ·rw[Fm.gcd_step x y c,f]
 ·have d:y=0:=by lia
  subst d;have ex:x=((bq t b:ν):τ):=by rw[<-f,Fm.gcd_zero i]
  have g:(0:τ)<((bq t b:ν):τ):=by have:=Fm.gcd_pos_right (a:=t) (b:=b) ‹21›;exact 19
  have h:Wee ((bq t b:ν):τ):=Lr (Fm.gcd_le_right (a:=t) (b:=b)<|‹21›) hw;obtain⟨l,n⟩:=Fm.fr_pos (t:=t) (b:=b) ‹51›;rw[ex];refine⟨⟨g,h⟩,⟨g,h⟩,?_⟩;rw[l,n];exact k
structure MkR(most:ν)(ms:ε Mk):Prop where
 nm:ms.length<=most
 up:ms.Pairwise λa b=>a.1<b.1
 g:∀m∈ms,Gd m
theorem aBf(a:1<=b)(c:b<=30):b∣LL:=by
 have:∀b:Fin 31,1<=b.1->b.1∣LL:=by decide +kernel
 exact this ⟨b,‹6›⟩ a
theorem aMd(a:0<b)(h:s<t):cD s b<cD t b:=by
 rw[qa,qa,ml,ml];exact hJ (Rat.intCast_lt_intCast.mpr h)<|A8.mpr<|ko.mpr a
theorem rR{t b:τ}{L B:ν}(e:1<=b)(a:b.toNat∣L)(d:t.natAbs<=B):Cm L B (cD t b):=by
 have c:=Cm.div (t:=t) (b:=b.toNat) (L:=L) (B:=B) (by lia) a (Β d<|j2 _<|by lia)
 rwa [show((b.toNat:ν):τ)=b by lia]at c
theorem aTv{b:τ}(c:1<=b)(a:b<=2):b.toNat∣2:=by
 have:b.toNat=1\/b.toNat=2:=by lia
 rcases this with e|e <;>rw[e] <;>decide
def aOd:DW:=λc Q _=>∃(a:ε τ)(st most:ν),c=[.list<|a.map .int,.int (st:τ),.int (most:τ)]/\(∀v∈a,az v<=1048576)/\a.length<=100/\3<=st/\st<=10/\1<=most/\most<=10/\∀b:ε Mk,1<=b.length->MkR most b->Q (.own<|b.map bW)
theorem Gc:Q 2 78 (λ_=>aOd):=by
 refine jU 78 ["script","start","most","some","place","k","cell","other","height"] λA T R Z=>⟨_,by walk_at"t",_,(aG (aR 3 (bN aO))
   (sA 4 (cB cG (aE (eC (k:=21) (by decide) (aE (aC (vN 0 (vE aX aB)))) aX)) bI) (aG (dU (aEp (vN 1 (vE (bR Vl (vE (cB cG (aI 1) bI) (vE (bR Vk (vE (bR cI (vN 0 aB)) (vE (cB cG (aI 1) (bO eZ bI (aI 2))) aB))) aB))) (vE aX aB)))) (aJ 5)
    (sA 6 (aC (vN 0 (vN 5 aB))) (sA 7 (aC (vN 0 (vE (cB cG (aI 5) bI) aB))) (sA 4 (cB cG (bO cG (aI 4) bI) (aE (eC (k:=3) (by decide) (aI 7) aX))) (sA 8 (aC (vE (cB cG (aE (eC (k:=13) (by decide) (aI 6) aX)) bI) (vE (cB cG bI (aE (eC (k:=3) (by decide) (aE (oR (k:=13) (Le) (aI 6) aX)) aX))) aB))) (oB (bD (tO cJ (aE (eC (k:=3) (by decide) (aE (aC (vN 0 (vE aX aB)))) aX)) bI) (eY (aC (vE (cB cG (aE (eC (k:=2000001) (by decide) (bO eZ (aI 6) bI) (xR (v:=2000001) (cB cG (bO eZ bI (bO eZ bI bI)) bI) (λex j Q h=>⟨aRo (by decide +kernel),fS (Sy) (Sy),Eq.mpr (bt (λz=>Q (.int z)) (by decide +kernel:(((2*(10^toNat 6))+1):τ)=2000001)) h⟩)))) (aE (xR (v:=1000000) (cB eZ bI bI) (λex j Q h=>⟨aRo (by decide +kernel),Eq.mpr (bt (λz=>Q (.int z)) (by decide +kernel:((10^toNat 6):τ)=1000000)) h⟩)))) (vE (cB cG bI (aE (eC (k:=30) (by decide) (aE (oR (k:=12) (Le) (aI 7) aX)) aX))) aB))) (aJ 8)) aQ)
   (jY 3 (cQ (aH (aC (vN 4 (vE (cB cG bI (aE (eC (k:=2) (by decide) (aE (oR (k:=21) (Le) (aE (aC (vN 0 (vE aX aB)))) aX)) aX))) aB))) (aH (aY 8) (aH (cB cG bI (aE (eC (k:=4) (by decide) (aE (oR (k:=3) (Le) (aI 7) aX)) aX))) aO)))))))))))
   (dM 3)))),?_⟩
 intro ds Q X qQ0;refine q_ λwv=>?_;obtain⟨c,st,most,rfl,hbits,hlen,a4,st10,a5,mo10,k⟩:=qQ0;obtain⟨B,s⟩:∃B:τ,nZ c 1=B:=⟨_,rfl⟩;obtain⟨c2,E⟩:∃c2:τ,nZ c 2=c2:=⟨_,rfl⟩;obtain⟨e,F⟩:∃e:τ,(2:τ)*(most:τ)=e:=⟨_,rfl⟩;apply wv;have a6:2<=e:=by lia
 have a7:e=2*(most:τ):=‹48›
 ac_nf;ac_nf;refine⟨c,1,rfl,by decide,by decide,?_⟩;ext;rw[s];obtain⟨C,G,a8⟩:∃C:τ,B%21-10=C/\C.natAbs<=10:=⟨_,rfl,by lia⟩;rw[G];obtain⟨q,H,a9,b0⟩:∃q:τ,(if (if (st:τ)+e<(c.length:τ)then(st:τ)+e else(c.length:τ))>(st:τ)+2 then(if (st:τ)+e<(c.length:τ)then(st:τ)+e else(c.length:τ))else(st:τ)+2)=q/\(st:τ)+2<=q/\q<=(st:τ)+e:=⟨_,rfl,by (repeat' split) <;>exact 50,by (repeat' split) <;>lia⟩;obtain⟨n,hn,n1,n2⟩:∃n:ν,eu (st:τ) q 2=(n:τ)/\1<=n/\n<=most:=by
  unfold eu;refine⟨((q-(st:τ)-1)/2+1).toNat,?_,by lia,by lia⟩;rw[Α<|by decide,Α<|‹36›];lia
 obtain⟨r,I,o,J⟩:∃r:τ,1+B/21%2=r/\1<=r/\r<=2:=⟨_,rfl,by lia,by lia⟩
 refine cV (nG (lo:=(st:τ)) (st:=2) (n:=n) (λQ h=>by
   ext
   refine⟨fS (Sy)<|fJ (n:=100)<|‹1›,?_⟩
   rw[F,H]
   exact⟨n,⟨by decide,by decide,Qb ⟨‹29›,by lia⟩ ⟨by lia,by lia⟩ (by decide)⟩,hn,h⟩)
  (λi j=>∃(f:ε Mk)(p:τ)(L N O S:υ Sl),j=[γ<|.dat<|.list<|c.map .int,γ<|.dat<|.int (st:τ),γ<|.dat<|.int (most:τ),γ<|.own<|f.map bW,γ<|.dat<|.int p,L,N,O,S]/\f.length=i/\p.natAbs<=10+3*i/\MkR i f/\∀m∈f,∃t:τ,t<=p/\m.1=cD t r)
  ⟨[],C,none,none,none,none,rfl,rfl,‹51›,⟨Η _,.nil,λm h=>nomatch h⟩,λm h=>nomatch h⟩ ?_ ?_)
 ·intro i j b1 qQ0;refine q_ λwv=>?_;obtain⟨f,p,L,N,O,S,rfl,g,hp,M,i5⟩:=qQ0;obtain⟨d,u,b2,b3⟩:∃d:τ,(st:τ)+(i:τ)*2=d/\0<=d/\d<=100:=⟨_,rfl,‹29›,by lia⟩;apply wv;rw[u];clear u;ac_nf;refine⟨c,d,rfl,‹51›,by lia,?_⟩;have bc:=wQ hbits (k:=d) ‹51› (by lia);obtain⟨D,U⟩:∃D:τ,nZ c d=D:=⟨_,rfl⟩;rw[U]at bc⊢;ac_nf;refine⟨c,d+1,rfl,by lia,by lia,?_⟩;obtain⟨x,W⟩:∃x:τ,nZ c (d+1)=x:=⟨_,rfl⟩;rw[W];ac_nf;refine q_ λwv=>?_;obtain⟨l,Y,b4,a0⟩:∃l:τ,p+1+x%3=l/\p<l/\l.natAbs<=10+3*(i+1):=⟨_,rfl,by lia,by lia⟩;apply wv;rw[Y];ac_nf;refine⟨_,_,rfl,by lia,fJ (n:=30)<|by lia,?_⟩;ext;refine oU (λj=>∃h:ψ,j=[γ<|.dat<|.list<|c.map .int,γ<|.dat<|.int (st:τ),γ<|.dat<|.int (most:τ),γ<|.own<|f.map bW,γ<|.dat<|.int l,γ<|.dat<|.int d,γ<|.dat<|.int D,γ<|.dat<|.int x,γ<|.dat<|fr h]/\Cm LL (10^6) h) ?_ ?_
  ·ext;refine⟨c,2,rfl,by decide,by decide,?_⟩;ext;rw[E];refine bT (λ_=>?_) (λ_=>?_)
   ·refine⟨Xd (Β bc.bits<|by decide)<|Sy,_,_,rfl,by lia,fJ (n:=30)<|by lia,?_⟩;ext;refine⟨_,rfl,rR (by lia) (aBf (by lia)<|by lia) ?_⟩;generalize D*48271=z;lia
   ·exact⟨_,rfl,rR (by lia) (aBf (by lia)<|by lia)<|by lia⟩
  ·intro j qQ0;refine q_ λwv=>?_;obtain⟨h,rfl,hh⟩:=qQ0;obtain⟨y,a1,a2,a3⟩:∃y:τ,1+x/3%4=y/\1<=y/\y<=4:=⟨_,rfl,by lia,by lia⟩;apply wv;ext;refine⟨c,1,rfl,by decide,by decide,?_⟩;rw[s];ext;rw[I];refine⟨_,_,rfl,o,fJ (n:=30)<|by lia,?_⟩;ext;rw[a1];refine⟨by rw[g];lia,f++[(cD l r,h,y)],l,_,_,_,_,by rw[ay];rfl,by rw[Γ,g];rfl,a0,⟨by rw[Γ,g];exact Η _,?_,λm hm=>?_⟩,λm hm=>?_⟩
   ·refine m2.mpr ⟨M.up,oh _ _,λa ha b hb=>?_⟩;obtain⟨t,h1,h2⟩:=i5 a ha;rw[Υ.mp hb,h2];exact aMd ‹51› (by lia)
   ·rcases eg.mp hm with z|z
    ·exact M.g m z
    ·rw[Υ.mp z];exact⟨rR o (aTv o J)<|by lia,hh,a2,a3⟩
   ·rcases eg.mp hm with z|z
    ·obtain⟨t,h1,h2⟩:=i5 m z;exact⟨t,by lia,h2⟩
    ·rw[Υ.mp z];exact⟨l,Int.le_refl _,rfl⟩
 ·intro j qQ0;refine q_ λwv=>?_;obtain⟨f,p,L,N,O,S,rfl,g,hp,M,_⟩:=qQ0;apply wv;ext;exact k f ‹48› ⟨‹48›,M.up,M.g⟩
theorem aTl(m:ψ)(a:ε ψ):oG m++ζ " | "++lP a=Py [[m],a]:=by
 refine gI ?_;unfold Py;rw[jB,fy,fy,gj,gj];rfl
theorem aOv(m:ψ)(a b:ε ψ):oG m++ζ " | "++lP a++ζ " | "++lP b=Py [[m],a,b]:=by
 refine gI ?_;unfold Py;rw[jB,fy,fy,fy,fy,gj,gj,gj,gj];show _=(lP [m]).cps.toList++_++((lP a).cps.toList++_++(lP b).cps.toList);rw[ek _ _ (lP b).cps.toList,ek _ (lP a).cps.toList _,ek (lP a).cps.toList];rfl
def aIq(F:Fs P w K mg base A):DW:=λf Q _=>∃(a:Ξ)(b:ε Mk)(c:ν),f=[.str a,.list<|b.map bW,.int (c:τ)]/\a∈cK/\1<=b.length/\M7 b/\(a≠"sum"->c<=3)/\
 ((a="sum"/\2<=c/\Q (.dat<|.str<|ζ "NoKind"))\/((a="sum"->c<=1)/\∃d e,Fit F a b c d e/\Q (.dat<|.str<|lnT a b d e)))
theorem Gg(T:Txt K mg A)(F:Fs P w K mg base A):FnOk P w K mg base (iY P w) 10 (A.a 83) (A.d 83) (pr 83) (oV K<|aIq F):=by
 have f:=Rt F.Gbl;have i:=Rt F.Gls;have j:=Rt F.Gln;refine Nj (T.G 83).F rY (by walk_at"l") λD S outer s H E R=>?_;have Z:=rY
 refine⟨_,by walk_at"t",_,(sA 3 Ks (oB (bD (tO Mu (aI 0) (aE aP)) (iH (vN 0 (vE (bU (gK (aL 1))) (vN 2 aB))) (aJ 3)) (bD (tO cJ (aI 2) bI) (iH (vE (bU (gK (aL 1))) aB) (aJ 3)) (bD (tO cJ (aI 2) bI) (iH (vE (bU (gK (aL 1))) aB) (aJ 3)) aQ)))
   (aG (bD (tO aJq (aI 3) (aE Ks)) (aW (aE aP)) aQ)
   (sA 4 (aC (vN 0 (vE (bU (gK (aL 1))) (vE (bU (bB (vE (eX 0 3) (vE (bU (gK (aL 1))) aB)))) aB)))) (aW (bO bY (bO bY (bO bY (bO bY (aE (aC (vN 4 aB))) (aE aP)) (aE (aC (vE (eX 0 3) aB)))) (aE aP)) (aE (aC (vE (eX 1 3) aB))))))))),?_⟩
 intro U Q X qQ0;refine q_ λwv=>?_;obtain⟨a,p,r,rfl,y,u,Z,G,k⟩:=qQ0;apply wv;have W:=Z.n5;ac_nf;refine oU (λz=>∃t:η,z=[γ<|.dat<|.str a,γ<|.dat<|.list<|p.map bW,γ<|.dat<|.int (r:τ),γ<|.dat t,none]/\((a="sum"/\2<=r/\t= .none)\/((a="sum"->r<=1)/\∃d g,LnF a p d g/\t= .tuple [.list<|d.map fr,.list<|g.map fr]/\Q (.dat<|.str<|lnT a p d g)))) ?_ ?_
 ·ext;refine bT (λc=>?_) (λc=>?_)
  ·have n:a≠"sum":=c;rcases k with⟨e,_⟩|⟨o,d,g,⟨e,L⟩,k⟩
   ·exact ς e n
   rw[χ n]at e;have v:a="far"\/a="square":=by
    have:a="far"\/a="sum"\/a="square":=by simpa[cK]using y
    rcases this with h|h|h
    ·exact .inl h
    ·exact ς h n
    ·exact .inr h
   refine⟨(a,p,r),rfl,⟨v,G n,Z⟩,?_⟩;rw[e];ext;exact⟨_,rfl,.inr ⟨o,d,g,L,rfl,k⟩⟩
  have n:a="sum":=gp.mp c;rcases k with⟨_,C,Y⟩|⟨o,d,g,⟨e,L⟩,k⟩
  ·rw[χ<|by lia,χ<|by lia];exact⟨_,rfl,.inl ⟨n,C,rfl⟩⟩
  rw[Α n]at e;refine bT (λc=>?_) λc=>?_
  ·rw[Α<|by lia]at e;refine⟨p,rfl,⟨u,Z⟩,?_⟩;rw[e];ext;exact⟨_,rfl,.inr ⟨o,d,g,L,rfl,k⟩⟩
  rw[χ<|by lia]at e;have:=o n;refine bT (λc=>?_) λc=>ς (by lia) c;refine⟨p,rfl,⟨u,Z⟩,?_⟩;rw[e];ext;exact⟨_,rfl,.inr ⟨o,d,g,L,rfl,k⟩⟩
 rintro z ⟨t,rfl,⟨I,C,rfl⟩|⟨o,d,g,L,rfl,J⟩⟩
 ·ac_nf;rcases k with⟨_,_,k⟩|⟨o,_⟩
  ·exact k
  ·have:=o I;lia
 clear k;have M:=L.n4;have pn:=L.pn;refine q_ λwv=>?_;obtain⟨V,B,l,b,N⟩:=L.z;apply wv;ac_nf;refine⟨d,p,500,4,rfl,‹1›,‹1›,L.n,λm O=>Z.xdg O,Β (Χ _ M)<|by decide,?_⟩;ext;refine⟨bP _,?_⟩;refine iU y (di.mp u) N (θ _) ?_;have l1:=gA L.m;have l2:=jF λq x=>(L.n q x).mono (by decide);have l3:=jF L.p;have l4:=Db;ext;refine⟨_,rfl,L.m,?_⟩;ext;refine⟨by lia,d,rfl,‹1›,λq x=>(L.n q x).mono<|by decide,?_⟩;ext;refine⟨by rw[ω];lia,by rw[ω,ω];lia,g,rfl,‹10›,L.p,?_⟩;ext;refine⟨by rw[ω,ω,ω];lia,?_⟩;rw[aOv];exact J
def NoN(x:Ξ):Prop:=∀c∈x.cps.toList,c≠78/\c<128
theorem NoN.ne{x:Ξ}(h:NoN x):x≠ζ "NoKind":=λz=>(h 78 (by rw[z];decide +kernel)).1 rfl
theorem NoN.ok{x:Ξ}(h:NoN x):PyData.strOk x=true:=by
 unfold PyData.strOk;rw[Array.all_eq_true'];intro c a;have:=h c<|si.mpr a;exact cj (ah this.2<|by decide)
theorem NoN.o{x:Ξ}(h:NoN x):∀a,γ x=γ a->NoN a:=λa e=>by cases e;exact h
theorem NoN.q{q:ψ}(h:Dg 570 q):NoN (oG q):=λc z=>by
 rcases Uz h c z with(y|y)|y <;>lia
theorem NoN.j{y:Ξ}{a:ε Ξ}(h:NoN y)(b:∀w∈a,NoN w):NoN (Txt.join y a):=λc z=>by
 rw[jB]at z;rcases zK z with z|⟨w,hw,z⟩
 ·exact h c z
 ·obtain⟨v,d,rfl⟩:=Ν.mp hw;exact b v d c z
theorem NoN.l{a:ε ψ}(h:∀q∈a,Dg 570 q):NoN (lP a):=NoN.j (by unfold NoN;decide +kernel) λw hw=>by
 obtain⟨q,b,rfl⟩:=Ν.mp hw;exact NoN.q<|h q b
theorem NoN.p{rows:ε<|ε ψ}(h:∀r∈rows,∀q∈r,Dg 570 q):NoN (Py rows):=NoN.j (by unfold NoN;decide +kernel) λw hw=>by
 obtain⟨q,a,rfl⟩:=Ν.mp hw;exact NoN.l<|h q a
theorem NoN.m{a:ε Mk}(h:∀m∈a,Gd m):NoN (pO a):=NoN.j (by unfold NoN;decide +kernel) λw hw=>by
 obtain⟨m,b,rfl⟩:=Ν.mp hw;exact λc z=>by rcases Va (h m b).lw.sm c z with(y|y)|y|y|y <;>lia
noncomputable def gJ(a:Ξ)(b k:ν)(c:ε ψ):ν->ε Ξ
 |0=>[ζ "bend",ζ "a",ζ "far",ζ<|toString ((b%4:ν):τ)]
 |1=>[ζ "bend",ζ "a",ζ "square",ζ<|toString ((b%4:ν):τ)]
 |2=>[ζ "bend",ζ "a",ζ "sum",ζ<|toString (b:τ)]
 |3=>[ζ "rise",ζ "a",a]
 |4=>[ζ "steps",ζ "a",a,ζ<|toString (k:τ)]
 |5=>ζ "judge"::ζ "a"::a::c.map oG
 |_=>[ζ "show",ζ "a"]
theorem Fit.non{F:Fs P w K mg base A}{b:Ξ}{c:ε Mk}{g:ν}{d e:ε ψ}(h:Fit F b c g d e):NoN (lnT b c d e):=NoN.p λr f q a=>by
 obtain⟨_,L⟩:=h;simp only[Ω,cn,ft]at f;rcases f with rfl|rfl|rfl
 ·rw[Υ.mp a];exact L.m
 ·exact(L.n q a).mono (by decide)
 ·exact L.p q a
def aOh(F:Fs P w K mg base A):DW:=λg Q _=>∃(c:ν)(e:Ξ)(d:ε Mk)(f k:ν)(b:ε ψ),g=[.int (c:τ),.str e,.list<|d.map bW,.int (f:τ),.int (k:τ),.list<|b.map fr]/\c<=6/\e∈cK/\1<=d.length/\M7 d/\f<=5/\k<=4/\b.length=d.length/\(∀q∈b,Cm LM (3*10^6) q)/\
 ∀t:υ Ξ,SayT F d (ζ "a") (gJ e f k b c) t->(∀a,t=γ a->NoN a)->Q (.dat<|.str<|t.getD<|ζ "NoKind")
theorem Jt(T:Txt K mg A)(F:Fs P w K mg base A):FnOk P w K mg base (iY P w) 11 (A.a 84) (A.d 84) (pr 84) (oV K<|aOh F):=by
 have u:=Gg (P:=P) (w:=w) (base:=base) T F;have m:=Rt F.Grl;have n:=F.Gsl;refine Nj (T.G 84).F uP (by walk_at"l") λM Ar outer s H E R=>?_;have Z:=uP
 refine⟨_,by walk_at"t",_,(aG (bD (tO eR (aI 0) bI) (aW (aE (aC (vE (bE (mF (bN (aH aP (aH aP aO)))) (aI 0)) (vN 2 (vE (eC (k:=4) (by decide) (aI 3) aX) aB)))))) aQ)
   (aG (bD (tO cJ (aI 0) bI) (aW (aE (aC (vE aP (vN 2 (vN 3 aB)))))) aQ)
   (aG (bD (tO cJ (aI 0) bI) (aG (iH (vN 1 (vE (bU (gK (aL 2))) aB)) (dW (bH (aJ 6) (bH (aJ 7) dY))))
   (aW (bO bY (bO bY (bO bY (bO bY (aE (aC (vE (aC (vN 1 (vE (bU (gK (aL 2))) (vN 6 aB)))) aB))) (aE aP)) (aE (aC (vN 6 aB)))) (aE aP)) (aE (aC (vN 7 aB)))))) aQ)
   (aG (bD (tO cJ (aI 0) bI) (aG (yM 0 (vN 1 (vE (bU (gK (aL 2))) (vN 4 aB))) (aJ 6))
   (aW (bO bY (bO bY (aE (aC (vE (aC (vN 1 (vE (bU (gK (aL 2))) (vN 6 aB)))) aB))) (aE aP)) (aE (aC (vN 6 aB)))))) aQ)
   (aG (bD (tO cJ (aI 0) bI) (aW (aE (aC (vE (aC (vN 1 (vE (bU (gK (aL 2))) (vN 5 aB)))) aB)))) aQ)
   (aW (aE (aC (vN 2 aB))))))))),?_⟩
 intro ds Q X qQ0;refine q_ λwv=>?_;obtain⟨d,g,a,bd,k,B,rfl,w6,p,h,Z,N,I,C,v,x⟩:=qQ0;apply wv;have n5:=Z.n5;have y:=Z.rz v;have l4:=Db;have J:ζ "far"∈cK:=by simp[cK]
 have L:ζ "square"∈cK:=by simp[cK]
 have G:ζ "sum"∈cK:=by simp[cK]
 have O:(bd:τ)%4=((bd%4:ν):τ):=by lia
 ac_nf;refine bT (λc=>?_) λc=>?_
 ·have hw:d=0\/d=1:=by lia
  ext;rw[O];rcases hw with rfl|rfl
  ·obtain⟨i,f,j⟩:=Km F (bd:=bd%4) J h Z (λ_=>by lia) (λz=>ς z<|by decide);refine⟨_,rfl,_,a,bd%4,rfl,J,h,Z,λ_=>by lia,.inr ⟨λz=>ς z<|by decide,i,f,j,?_⟩⟩;ext;exact x (γ<|lnT (ζ "far") a i f) (.inr ⟨_,J,.inl ⟨bd%4,i,f,rfl,λ_=>by lia,λz=>ς z<|by decide,j,rfl⟩⟩) j.non.o
  ·obtain⟨i,f,j⟩:=Km F (bd:=bd%4) L h Z (λ_=>by lia) (λz=>ς z<|by decide);refine⟨_,rfl,_,a,bd%4,rfl,L,h,Z,λ_=>by lia,.inr ⟨λz=>ς z<|by decide,i,f,j,?_⟩⟩;ext;exact x (γ<|lnT (ζ "square") a i f) (.inr ⟨_,L,.inl ⟨bd%4,i,f,rfl,λ_=>by lia,λz=>ς z<|by decide,j,rfl⟩⟩) j.non.o
 ac_nf;refine bT (λS=>?_) λS=>?_
 ·obtain rfl:d=2:=by lia
  ext;refine⟨_,a,bd,rfl,G,h,Z,λz=>ς rfl z,?_⟩;by_cases b:bd<=1
  ·obtain⟨i,f,j⟩:=Km F (bd:=bd) G h Z (λz=>ς rfl z) λ_=>b;refine .inr ⟨λ_=>b,i,f,j,?_⟩;ext;exact x (γ<|lnT (ζ "sum") a i f) (.inr ⟨_,G,.inl ⟨bd,i,f,rfl,λz=>ς rfl z,λ_=>b,j,rfl⟩⟩) j.non.o
  ·refine .inl ⟨rfl,by lia,?_⟩;ext;exact x none (.inr ⟨_,G,.inr<|.inl ⟨bd,rfl,by lia,N,rfl,rfl⟩⟩) (λ_ z=>by cases z)
 ac_nf;refine bT (λU=>?_) λU=>?_
 ·obtain rfl:d=3:=by lia
  refine q_ λwv=>?_;obtain⟨l,f,e,R⟩:=aCv F p h Z;apply wv;have C:=R.rn;have pn:=R.pn;have y:=Z.rz R.r;have t:Dg 570 (gE g a l):=(y.measDg g).mono (by decide);have W:=gA t;have Y:=jF<|fR R.r;have l3:=jF R.p;ac_nf;refine⟨(g,a),rfl,⟨p,h,Z⟩,?_⟩;rw[e];ext;refine iU p (di.mp h) y C ?_;ext;refine⟨_,rfl,t,?_⟩;ext;refine⟨by lia,l,rfl,‹10›,fR R.r,?_⟩;ext;refine⟨by rw[ω];lia,by rw[ω,ω];lia,f,rfl,‹10›,R.p,?_⟩;ext;refine⟨by rw[ω,ω,ω];lia,?_⟩;rw[aOv];refine x (γ<|Py [[gE g a l],l,f]) (.inr ⟨_,p,.inr<|.inr<|.inl ⟨l,f,rfl,e,R,rfl⟩⟩) (NoN.p λr R q D=>?_).o;simp only[Ω,cn,ft]at R;rcases R with rfl|rfl|rfl
  ·rw[Υ.mp D];exact t
  ·exact fR R.r q D
  ·exact R.p q D
 ac_nf;refine bT (λc4=>?_) λc4=>?_
 ·obtain rfl:d=4:=by lia
  refine q_ λwv=>?_;obtain⟨l,tb,e,C,v⟩:=aCj F p Z I;apply wv;have y:=Z.rz v;have t:Dg 570 (gE g a l):=(y.measDg g).mono (by decide);have W:=gA t;have Y:=jF<|fR v;ac_nf;refine⟨(g,a,k),rfl,⟨p,Z,I⟩,?_⟩;rw[e];ext;refine iU p (di.mp h) y C ?_;ext;refine⟨_,rfl,t,?_⟩;ext;refine⟨by lia,l,rfl,‹10›,fR v,?_⟩;ext;refine⟨by rw[ω];lia,?_⟩;rw[aTl];refine x (γ<|Py [[gE g a l],l]) (.inr ⟨_,p,.inr<|.inr<|.inr<|.inl ⟨k,l,tb,rfl,I,e,C,v,rfl⟩⟩) (NoN.p λr R q D=>?_).o;simp only[Ω,cn,ft]at R;rcases R with rfl|rfl
  ·rw[Υ.mp D];exact t
  ·exact fR v q D
 have t:Dg 570 (gE g a B):=(y.measDg g).mono (by decide);ac_nf;refine bT (λc5=>?_) λc5=>?_
 ·obtain rfl:d=5:=by lia
  ext;refine iU p (di.mp h) y C ?_;ext;refine⟨_,rfl,t,?_⟩;ext;exact x (γ<|oG<|gE g a B) (.inr ⟨_,p,.inr<|.inr<|.inr<|.inr ⟨B,rfl,C,v,rfl⟩⟩) (NoN.q t).o
 obtain rfl:d=6:=by lia
 ext;refine⟨a,rfl,‹1›,Z.gd,?_⟩;ext;exact x (γ<|pO a) (.inl ⟨rfl,rfl⟩) (NoN.m Z.gd).o
def aIp(F:Fs P w K mg base A):Ip:=λc d Q _=>∃(x nm:Ξ)(b:ε Mk)(t:υ Ξ),d=[.str x]/\x.length<=90000/\c.lookup nm=γ (.list<|b.map bW)/\1<=b.length/\M7 b/\SayT F b nm (Txt.split x<|ζ " ") t/\(∀a,t=γ a->Q (.dat<|.str a))/\(t=none->Q (.own [.bool true,.bool false]))
theorem Ge(T:Txt K mg A)(F:Fs P w K mg base A)(b:qS w K A.g_COUNTS<|fK A):FnOk P w K mg base (iY P w) 14 (A.a 85) (A.d 85) (pr 85) (uH K A.c_Desk "kept"<|aIp F):=by
 have c:=qE (P:=P) (w:=w) (base:=base) T F b;refine okR (T.G 85).F sc_law_said (λd f Q E h=>?_) λg r outer s H E j=>?_
 ·obtain⟨_,_,_,_,rfl,_⟩:=h;rfl
 refine⟨_,(aT (oW 2 sc_law_said Wj)
   (aT (Vx (i:=3) rfl rfl sc_law_said.nd rfl rfl rfl (Vw (Vv (i:=2) sc_law_said.nd rfl (Or.inl rfl) (pv 0) T.cl_Desk T.M_qb c (j.mono (by decide)) T.b_qb (aF (pv 1) aS))) (Or.inl ⟨rfl,T.x_MissError.mgx⟩) (λx=>(bG (oW 2 sc_law_said (gC (aF (dH (aHi (K:=K) rfl) rfl T.n_isinstance iF (aF (pv 3) (aF (fE rfl T.x_NoKind.mgx (show RelV (.ref _) (.ref _)from rfl)) aS))) (aF (dH (aHi (K:=K) rfl) rfl T.n_isinstance iF (aF (pv 3) (aF (fE rfl T.x_NoBend.mgx (show RelV (.ref _) (.ref _)from rfl)) aS))) aS)))))))
   (bG (dL (pv 2))))),_,(sA 2 Ks (aG (Ui (i:=3) (Uh (i0:=0) (i:=2) (by decide) (vN 1 aB)) (aR 2 (bN (aH (Yr Oc T.x_NoKind.ex T.xk_NoKind T.k_NoKind_NoKind) (aH (Yr Oc T.x_NoKind.ex T.xk_NoKind T.k_NoKind_NoBend) aO)))))
   (dM 2))),?_⟩
 intro d f Q X qQ0;refine q_ λwv=>?_;obtain⟨x,nm,k,t,rfl,l,m,n,Z,o,p,q⟩:=qQ0;apply wv;ac_nf;ext;refine⟨d,rfl,rfl,x,nm,k,t,rfl,l,m,n,Z,o,λa e=>?_,λe=>?_⟩
 ·ext;exact p a e
 ·refine⟨T.e_NoKind_MissError,?_⟩;ext;exact q e
abbrev jn(a:ε Ξ):Ξ:=Txt.join (ζ " ") a
theorem zL(y:ε ν):∀{ps ws:ε<|ε ν},ps≠[]->ws≠[]->iR y (ps++ws)=iR y ps++y++iR y ws
 |[],_,h,_=>ς rfl h
 |[p],w::ws,_,_=>rfl
 |[_],[],_,h=>ς rfl h
 |p::q::r,ws,_,hw=>by
  have a:=zL y (ps:=q::r) (ws:=ws) (by simp) hw;show p++y++iR y (q::r++ws)=p++y++iR y (q::r)++y++iR y ws;rw[a];simp only[ek]
theorem rA{a:Ξ}{pw ws:ε Ξ}(e:a.cps.toList=iR [32] (pw.map λw=>w.cps.toList)++[32])(b:pw≠[])(hw:ws≠[]):a++jn ws=jn (pw++ws):=by
 refine gI ?_;rw[fy,gj,jB,jB,ay,show(ζ " ").cps.toList=[32] by decide +kernel,zL _ (by simpa using b)<|by simpa using hw,e]
theorem Na{a:Ξ}{pw:ε Ξ}(e:a.cps.toList=iR [32] (pw.map λw=>w.cps.toList)++[32])(b:pw≠[])(w:Ξ):a++w=jn (pw++[w]):=rA (ws:=[w]) e b (by simp)
theorem kQ(a b c:Ξ):a++b++c=a++(b++c):=by
 refine gI ?_;simp only[fy,gj,ek]
theorem Xj(w:Ξ){ws:ε Ξ}(h:ws≠[]):w++(ζ " "++jn ws)=jn (w::ws):=by
 have e:=rA (a:=w++ζ " ") (pw:=[w]) (ws:=ws) (by rw[fy,gj,show(ζ " ").cps.toList=[32] by decide +kernel];rfl) (by simp) h;rw[kQ]at e;exact e
theorem lO{a:ε Ξ}(h:a≠[])(hw:∀w∈a,32∉w.cps.toList):Txt.split (jn a) (ζ " ")=a:=Ji Ux (by rw[wW];decide) h hw
theorem tr0(n:Ξ):ζ "bend a far "++n=jn [ζ "bend",ζ "a",ζ "far",n]:=Na (pw:=[ζ "bend",ζ "a",ζ "far"]) (by decide +kernel) (by simp) n
theorem tr1(n:Ξ):ζ "bend a square "++n=jn [ζ "bend",ζ "a",ζ "square",n]:=Na (pw:=[ζ "bend",ζ "a",ζ "square"]) (by decide +kernel) (by simp) n
theorem tr2(n:Ξ):ζ "bend a sum "++n=jn [ζ "bend",ζ "a",ζ "sum",n]:=Na (pw:=[ζ "bend",ζ "a",ζ "sum"]) (by decide +kernel) (by simp) n
theorem tr3(n:Ξ):ζ "rise a "++n=jn [ζ "rise",ζ "a",n]:=Na (pw:=[ζ "rise",ζ "a"]) (by decide +kernel) (by simp) n
theorem tr4(a n:Ξ):ζ "steps a "++a++ζ " "++n=jn [ζ "steps",ζ "a",a,n]:=by
 rw[kQ,kQ,show n=jn [n]from rfl,Xj a (ws:=[n])<|by simp];exact rA (pw:=[ζ "steps",ζ "a"]) (by decide +kernel) (by simp) (by simp)
theorem tr5(b:Ξ){a:ε ψ}(h:a≠[]):ζ "judge a "++b++ζ " "++lP a=jn (ζ "judge"::ζ "a"::b::a.map oG):=by
 rw[kQ,kQ,show lP a=jn (a.map oG)from rfl,Xj b<|by simpa using h];exact rA (pw:=[ζ "judge",ζ "a"]) (by decide +kernel) (by simp) (by simp)
theorem tr6:ζ "show a"=jn [ζ "show",ζ "a"]:=by decide +kernel
def Wd(w:Ξ):Prop:=32∉w.cps.toList/\w.length<=1145
theorem aIl{n:ν}(h:n<=5):Wd (ζ<|toString (n:τ)):=by
 have:∀n:Fin 6,Wd (ζ<|toString ((n.1:ν):τ)):=by unfold Wd;decide +kernel
 exact this ⟨n,‹6›⟩
theorem aOc{a:Ξ}(h:a∈cK):Wd a:=by
 have:a="far"\/a="sum"\/a="square":=by simpa[cK]using h
 rcases this with rfl|rfl|rfl <;>(unfold Wd;decide +kernel)
theorem aTb{q:ψ}(h:Dg 570 q):Wd (oG q):=⟨aJh h<|.inl rfl,gA h⟩
theorem aJn{c:Ξ}{b k:ν}{a:ε ψ}(d:c∈cK)(e:b<=5)(j:k<=4)(f:∀q∈a,Dg 570 q){i:ν}:∀w∈gJ c b k a i,Wd w:=by
 have l:∀w∈[ζ "bend",ζ "a",ζ "far",ζ "square",ζ "sum",ζ "rise",ζ "steps",ζ "judge",ζ "show"],Wd w:=by unfold Wd;decide +kernel
 have m:=aIl (n:=b%4) (by lia);have o:=aIl e;have p:=aIl (n:=k) ‹1›;have g:=aOc d;intro w hw
 match i,hw with
 |0,hw=>simp only[gJ,Ω,cn,ft]at hw;rcases hw with rfl|rfl|rfl|rfl;all_goals first|assumption|exact l _ (by simp)
 |1,hw=>simp only[gJ,Ω,cn,ft]at hw;rcases hw with rfl|rfl|rfl|rfl;all_goals first|assumption|exact l _ (by simp)
 |2,hw=>simp only[gJ,Ω,cn,ft]at hw;rcases hw with rfl|rfl|rfl|rfl;all_goals first|assumption|exact l _ (by simp)
 |3,hw=>simp only[gJ,Ω,cn,ft]at hw;rcases hw with rfl|rfl|rfl;all_goals first|assumption|exact l _ (by simp)
 |4,hw=>simp only[gJ,Ω,cn,ft]at hw;rcases hw with rfl|rfl|rfl|rfl;all_goals first|assumption|exact l _ (by simp)
 |5,hw=>
  simp only[gJ,Ω]at hw;rcases hw with rfl|rfl|rfl|hw
  ·exact l _ (by simp)
  ·exact l _ (by simp)
  ·exact g
  ·obtain⟨q,h,rfl⟩:=Ν.mp hw;exact aTb<|f q h
 |_+6,hw=>simp only[gJ,Ω,cn,ft]at hw;rcases hw with rfl|rfl;all_goals exact l _ (by simp)
theorem aJo{b:Ξ}{c k:ν}{a:ε ψ}(e:b∈cK)(f:c<=5)(g:k<=4)(l:∀q∈a,Dg 570 q)(m:a.length<=5)(i:ν):Txt.split (jn<|gJ b c k a i) (ζ " ")=gJ b c k a i/\(jn<|gJ b c k a i).length<=90000:=by
 have h:=aJn e f g l (i:=i);have d:gJ b c k a i≠[]/\(gJ b c k a i).length<=8:=by
  match i with
  |0|1|2|3|4=>exact⟨by simp[gJ],by simp[gJ]⟩
  |5=>exact⟨by simp[gJ],by simp[gJ];assumption⟩
  |_+6=>exact⟨by simp[gJ],by simp[gJ]⟩
 refine⟨lO d.1 λw hw=>(h w hw).1,?_⟩;have j:=Bz (ζ " ") (ws:=gJ b c k a i) (n:=1145) λw hw=>(h w hw).2;rw[gF]at j;exact Β j (Β (Χ (1145+1) d.2)<|by decide)
def aIr:Ip:=λc d Q _=>∃(b:ε τ)(a:ε Mk),d=[.list<|b.map .int,.list<|a.map bW]/\(∀v∈b,az v<=1048576)/\b.length<=100/\c.lookup (ζ "a")=γ (.list<|a.map bW)/\1<=a.length/\M7 a/\Q (.dat<|.bool true)
theorem Gh(T:Txt K mg A)(Fu:Fs P w K mg base A)(l:qS w K A.g_COUNTS<|fK A):FnOk P w K mg base (iY P w) 15 (A.a 86) (A.d 86) (pr 86) (uH K A.c_Desk "kept" aIr):=by
 have m:=Jt (P:=P) (w:=w) (base:=base) T Fu;have f:=Ge (P:=P) (w:=w) (base:=base) T Fu l;refine okR (T.G 86).F sc_law_asks (λR ds Q E h=>?_) λa9 Ar outer s H E p=>?_
 ·obtain⟨_,_,rfl,_⟩:=h;rfl
 refine⟨_,(aT (oW 3 sc_law_asks (nV (Hd (K:=K) rfl) (gC (aF cA (aF cA (aF cA aS)))) (cP iN (kB (fM _ T) p (T.G 76) bV (aF (pv 1) (aF bS aS))) bS) (λ_ _=>rfl)))
   (aT (oW 4 sc_law_asks (cP iN (cP lZ (kB (fM _ T) p (T.G 76) bV (aF (pv 1) (aF bS aS))) bS) bS))
   (aT (oW 5 sc_law_asks (cP iN (cP lZ (kB (fM _ T) p (T.G 76) bV (aF (pv 1) (aF bS aS))) bS) bS))
   (aT (Ew (i:=6) (cap:=[none,γ 1]) (NC:=["j","script"]) sc_law_asks.nd rfl rfl rfl ⟨rfl,rfl,by decide +kernel,by decide +kernel,⟨⟨_,rfl,rfl,rfl,rfl,rfl⟩,trivial⟩,(ax.2 ⟨rfl,(λ_ h=>nomatch h)⟩),rfl⟩ (mY rfl T.n_range (aF (dH (Xp (K:=K) rfl) rfl T.n_len tp (aF (pv 2) aS)) aS)) (λ_ _ _ _=>(pgN 0 ["j","script"])) (λ_ _ _ _=>Aw) (λ_ _ _ _=>(kB (nW _ T) p (T.G 77) bV (aF (cP Jp (cP iN (cP lZ (kB (fM _ T) p (T.G 76) bV (aF (pv 1) (aF bS aS))) (cP rD (pv 0) bS)) bS) bS) (aF (cP rD bS (cP iN (pv 0) bS)) aS)))))
   (aT (oW 7 sc_law_asks (cP iN (kB (fM _ T) p (T.G 76) bV (aF (pv 1) (aF bS aS))) bS))
   (aT (oW 8 sc_law_asks (gC (aF (cP cY cA (gX gO rfl T.n_str Dl.boot_str (aF (cP iN (pv 4) bS) aS))) (aF (cP cY cA (gX gO rfl T.n_str Dl.boot_str (aF (cP iN (pv 4) bS) aS))) (aF (cP cY cA (gX gO rfl T.n_str Dl.boot_str (aF (pv 4) aS))) aS)))))
   (aT (mV (pZ hU kl oj nE (pv 8) (aF (cP cY cA (pv 3)) aS)))
   (aT (oW 8 sc_law_asks (cP Ww (pv 8) (gC (aF (cP cY (cP cY (cP cY cA (pv 3)) cA) (gX gO rfl T.n_str Dl.boot_str (aF (pv 5) aS))) (aF (cP cY (cP cY (cP cY cA (pv 3)) cA) (kB (vI _ T) p (T.G 82) bV (aF (pv 6) aS))) (aF cA aS))))))
   (aT (Ay iu rfl (mY rfl T.n_range (aF bS aS)) (pgS 9 sc_law_asks)
    (aT (oW 10 sc_law_asks (cP iN (cP rD (pv 7) (cP mZ (pv 9) (cP rD bS (cP iN (pv 7) bS)))) bS))
   (aT (oW 11 sc_law_asks (kB m p (T.G 84) bV (aF (pv 10) (aF (pv 3) (aF (pv 2) (aF (pv 4) (aF (pv 5) (aF (pv 6) aS))))))))
   (aT (oW 12 sc_law_asks (kB f p (T.G 85) bV (aF (pv 0) (aF (nV (Hd (K:=K) rfl) (pv 8) (pv 10) (λ_ _=>rfl)) aS))))
   (aT (eU (cN iQ (pv 11) cA (dI _)) (bG (oW 11 sc_law_asks (gC (aF qA (aF qA aS))))) cR)
   (bG (eU (cN (neK (K:=K) rfl p.units) (pv 12) (pv 11) (dI _)) (bG (dL qA)) cR)))))))
   (bG (dL qA))))))))))),_,(sA 3 (bE (mF (bN (aH aP (aH aP (aH aP aO))))) (aE (eC (k:=3) (by decide) (aE (aC (vN 1 (vE aX aB)))) aX))) (sA 4 (eC (k:=6) (by decide) (aE (oR (k:=3) (Le) (aE (aC (vN 1 (vE aX aB)))) aX)) aX) (sA 5 (eC (k:=5) (by decide) (aE (oR (k:=18) (Le) (aE (aC (vN 1 (vE aX aB)))) aX)) aX) (aG (aR 6 (Ws (IvS.e (iD (vE (bR cI (vN 2 aB)) aB))) (aJ 0) bM (aC (vE (cB cG (aE (eC (k:=19) (by decide) (bO eZ (aE (aC (vN 1 (vE aX aB)))) (bO cG (aI 0) bI)) aX)) bI) (vE (cB cG bI (aE (eC (k:=3) (by decide) (aI 0) aX))) aB))) (by decide) (by decide)))
   (aG (gU 6 (eY (eC (k:=7) (by decide) (aE (aC (vN 1 (vE aX aB)))) aX) (aJ 7)))
   (aG (aR 8 (bN (aH (cB bY (aE aP) (aE (bR iM (vE (eC (k:=4) (by decide) (aI 4) aX) aB)))) (aH (cB bY (aE aP) (aE (bR iM (vE (eC (k:=4) (by decide) (aI 4) aX) aB)))) (aH (cB bY (aE aP) (aE (bR iM (vN 4 aB)))) aO)))))
   (aG (jY 8 (cB bY (aE aP) (aI 3)))
   (aG (aR 8 (gY (Bu 8) (eA (bN (aH (cB bY (bO bY (bO bY (aE aP) (aI 3)) (aE aP)) (aE (bR iM (vN 5 aB)))) (aH (cB bY (bO bY (bO bY (aE aP) (aI 3)) (aE aP)) (aE (aC (vN 6 aB)))) (aH aP aO)))))))
   (aG (gU 8 (dU (iD (vE aX aB)) (aJ 9)
    (sA 10 (eC (k:=7) (by decide) (bO cG (aI 7) (bO eZ (aI 9) (bO cG bI (aE (eC (k:=3) (by decide) (aI 7) aX))))) aX) (sA 11 (aC (vN 10 (vN 3 (vN 2 (vN 4 (vN 5 (vN 6 aB))))))) (aG (Uq 0 (vE (bE (aL 8) (aI 10)) aB) (aJ 12))
   (aG (bD (tO cJ (aI 11) (aE aP)) (tL 11 (aR 11 (bN (aH mK (aH mK aO))))) aQ)
   (bD (tO oH (aI 12) (aI 11)) (aW (aE mK)) aQ)))))))
   (aW (aE mK))))))))))),?_⟩
 intro R ds Q X qQ0;refine q_ λwv=>?_;obtain⟨v,I,rfl,hbits,hlen,S,n1,Z,kq⟩:=qQ0;have n5:=Z.n5;have U:=wQ hbits (k:=0) (by decide) (by decide);have W:=wQ hbits (k:=3) (by decide) (by decide);obtain⟨r,u⟩:∃r:τ,nZ v 0=r:=⟨_,rfl⟩;obtain⟨y,B⟩:∃y:τ,nZ v 3=y:=⟨_,rfl⟩;apply wv;rw[u]at U;rw[B]at W;ac_nf;refine⟨v,0,rfl,by decide,by decide,?_⟩;rw[u];ext;obtain⟨o,Y,hk⟩:∃o,kC [br<|ζ "far",br<|ζ "sum",br<|ζ "square"] (r%3)=γ (.str o)/\o∈cK:=by
  have:r%3=0\/r%3=1\/r%3=2:=by lia
  rcases this with e|e|e <;>rw[e] <;>exact⟨_,rfl,by simp[cK]⟩
 refine⟨_,Y,?_⟩;ac_nf;refine⟨v,0,rfl,by decide,by decide,?_⟩;rw[u];obtain⟨g,a0,b5⟩:∃g:ν,r/3%6=(g:τ)/\g<=5:=⟨(r/3%6).toNat,by lia,by lia⟩;ext;rw[a0];ac_nf;refine⟨v,0,rfl,by decide,by decide,?_⟩;rw[u];obtain⟨k,a1,k4⟩:∃k:ν,r/18%5=(k:τ)/\k<=4:=⟨(r/18%5).toNat,by lia,by lia⟩;ext;rw[a1];ac_nf
 refine bJ (λj:ν=>bj (0+(j:τ)*1)) fr (λj=>[cD (y/(0+(j:τ)*1+1)%19-9) (1+(0+(j:τ)*1)%3)]) (range I.length) (by rw[ar];exact 1) (λQ h=>by
   ext
   exact⟨⟨by lia,by lia⟩,h⟩) (λj hj N b0 hN=>?_) ?_
 ·have:=bA.mp hj;ext;refine⟨v,3,rfl,by decide,by decide,?_⟩;rw[B];ext;refine⟨⟨by lia,fJ (n:=10)<|by lia⟩,_,_,rfl,by lia,fJ (n:=10)<|by lia,?_⟩;ext;exact hN
 rw[aN];obtain⟨d,L,rn,rc⟩:∃d:ε ψ,(range I.length).map (λj:ν=>cD (y/(0+(j:τ)*1+1)%19-9)<|1+(0+(j:τ)*1)%3)=d/\d.length=I.length/\∀q∈d,Cm LM (3*10^6) q:=by
  refine⟨_,rfl,by rw[θ,ar],λq hq=>?_⟩;obtain⟨j,hj,rfl⟩:=Ν.mp hq;refine rR (by lia) ?_ (by generalize y/(0+(j:τ)*1+1)=z;lia);have:(1+(0+(j:τ)*1)%3).toNat=1\/(1+(0+(j:τ)*1)%3).toNat=2\/(1+(0+(j:τ)*1)%3).toNat=3:=by lia
  rcases this with e|e|e <;>rw[e] <;>decide +kernel
 rw[L];have rd:=fR rc;have a2:d≠[]:=λz=>by rw[z]at rn;simp at rn;lia
 have lr:=jF rd;ac_nf;refine⟨v,3,rfl,by decide,by decide,?_⟩;rw[B];refine q_ λwv=>?_;obtain⟨x,a3,b1⟩:∃x:ν,y%7=(x:τ)/\x<=6:=⟨(y%7).toNat,by lia,by lia⟩;apply wv;ext;rw[a3];have e4:(g:τ)%4=((g%4:ν):τ):=by lia
 have ln:∀{n:ν},n<=5->((n:τ).natAbs<10^571/\(ζ<|toString (n:τ)).length<=100):=λh=>⟨by rw[fi];exact eh h<|by decide +kernel,(Bq h).2⟩;refine q_ λwv=>?_;obtain⟨M,b2⟩:=ln (n:=g%4) (by lia);obtain⟨a4,b3⟩:=ln b5;obtain⟨a5,b4⟩:=ln (n:=k) ‹1›;apply wv;have b6:=(aOc hk).2;have ll:(ζ "bend a far ").length=11/\(ζ "bend a square ").length=14/\(ζ "bend a sum ").length=11/\(ζ "rise a ").length=7/\(ζ "steps a ").length=8/\(ζ "judge a ").length=8/\(ζ " ").length=1:=by decide +kernel
 ac_nf;ext;rw[e4];refine⟨tE M,by lia,tE M,by lia,tE a4,by lia,?_⟩;ac_nf;ext;refine⟨by lia,by decide,?_⟩;ac_nf;ext;refine⟨by lia,by rw[ω];lia,tE a5,by rw[ω,ω];lia,by lia,by rw[ω];lia,d,rfl,by lia,rd,?_⟩;ext;refine⟨by rw[ω,ω];lia,by simp,?_⟩;rw[tr0,tr1,tr2,tr3,tr4,tr5 o a2,tr6];obtain⟨O,a6,a7⟩:∃O:ε Ξ,[gJ o g k d 0,gJ o g k d 1,gJ o g k d 2,gJ o g k d 3,gJ o g k d 4,gJ o g k d 5,gJ o g k d 6].map jn=O/\∀i:ν,i<=6->kC (O.map br) (i:τ)=γ (.str<|jn<|gJ o g k d i):=by
  refine⟨_,rfl,λi hi=>fA ?_⟩
  match i,hi with
  |0,_|1,_|2,_|3,_|4,_|5,_|6,_=>rfl
 refine Eq.mpr (bt (λz=>Zq _ _ _ [_,_,_,_,_,_,_,_,γ<|Sl.own z,_,_,_,_]) (show _=O.map br by rw[<-a6];rfl)) ?_;ac_nf
 refine cV (nG (lo:=0) (st:=1) (n:=7) (λQ h=>by
   ext
   exact⟨⟨by decide,by decide⟩,h⟩)
  (λi δ=>∃s9 C D G:υ η,δ=[γ<|Sl.mon<|dskP A.c_Desk (ζ "kept") R,γ<|Sl.dat<|gv<|List.map bj v,γ<|Sl.dat<|gv<|List.map bW I,γ<|Sl.dat<|br o,γ<|Sl.dat<|bj g,γ<|Sl.dat<|bj k,γ<|Sl.dat<|gv<|List.map fr d,γ<|Sl.dat<|bj x,γ<|Sl.dat<|.list<|O.map .str,s9.map Sl.dat,C.map Sl.dat,D.map Sl.dat,G.map Sl.dat])
  ⟨none,none,none,none,rfl⟩ ?_ ?_)
 ·intro i δ hi qQ0;refine q_ λwv=>?_;obtain⟨s9,C,D,G,rfl⟩:=qQ0;apply wv;ac_nf;ext;refine⟨fS (fJ (n:=10)<|by lia)<|fJ (n:=10)<|by lia,?_⟩;refine q_ λwv=>?_;obtain⟨J,a8,w6⟩:∃J:ν,((x:τ)+(0+(i:τ)*1)*(1+(x:τ)%3))%7=(J:τ)/\J<=6:=⟨(((x:τ)+(0+(i:τ)*1)*(1+(x:τ)%3))%7).toNat,by lia,by lia⟩;apply wv;rw[a8];ac_nf;ext;refine⟨J,o,I,g,k,d,rfl,w6,hk,n1,Z,b5,k4,rn,rc,λt hs hn=>?_⟩;obtain⟨sp,xl⟩:=aJo hk b5 k4 rd (by lia) J;ac_nf;ext;refine⟨R,rfl,_,a7 J w6,_,_,I,t,rfl,xl,S,n1,Z,by rw[sp];exact hs,λa e=>?_,λe=>?_⟩
  ·subst e;have na:=hn a rfl;ac_nf;ext;refine bT (λc=>ς c na.ne) λ_=>?_;refine⟨_,Yu,⟨a,na.ok⟩,⟨a,na.ok⟩,rfl,rfl,λb hb=>?_⟩;rw[hb.mpr rfl];refine bT (λc=>nomatch c) λ_=>?_;exact⟨γ _,γ _,γ _,γ _,rfl⟩
  ·subst e;ac_nf;ext;refine⟨_,Yv aQw<|by decide,[true,false],[true,false],rfl,rfl,λb hb=>?_⟩;rw[hb.mpr rfl];refine bT (λc=>nomatch c) λ_=>?_;exact⟨γ _,γ _,γ _,γ _,rfl⟩
 ·intro δ qQ0;refine q_ λwv=>?_;obtain⟨s9,C,D,G,rfl⟩:=qQ0;apply wv;ext;exact kq
theorem aEr(b:ε τ):rG (b.map bj)=true:=by
 induction b with
 |nil=>rfl
 |cons a r c=>rw[ak];show(Gn (bj a) && rG (r.map bj))=true;rw[c];rfl
noncomputable def kO(x:υ η):υ η:=x.bind λd=>if Gn d=true then γ d else none
theorem Rh(x:υ η):wA (x.map Sl.dat)=(kO x).map Sl.dat:=by
 cases x with
 |none=>rfl
 |some d=>
  show(if Gn d=true then γ (Sl.dat d)else none)=(if Gn d=true then γ d else none).map Sl.dat;split <;>rfl
theorem uZ{a:Type}{b:ε a}{c st:υ τ}{x:a}(h:x∈fD b c st):x∈b:=by
 obtain⟨i,_,e⟩:=jh.mp h;exact ao e
theorem rB(n:ν){a:υ τ}{l:ν}(h:(a=none/\l=0)\/(a=γ 1/\l=1)):Fi n a (γ 2)=(range<|(n+1-l)/2).map λk=>l+2*k:=by
 have K:∀k:ν,(if (0:τ)<((k:ν):τ)then(((k:ν):τ)-0+2-1)/2 else 0).toNat=(k+1)/2:=by
  intro k;have e:((k:ν):τ)-0+2-1=((k+1:ν):τ):=by lia
  rw[e];cases k with
  |zero=>rfl
  |succ k=>rw[Α<|Int.natCast_pos.2<|Nat.succ_pos k];rfl
 cases n with
 |zero=>rcases h with⟨rfl,rfl⟩|⟨rfl,rfl⟩ <;>rfl
 |succ n=>
  have b:sliceBounds a none (γ 2) (n+1)=((l:τ),((n+1:ν):τ),2):=by
   rcases h with⟨rfl,rfl⟩|⟨rfl,rfl⟩ <;>simp[sliceBounds] <;>lia
  unfold Fi;rw[b];unfold sliceRange;dsimp only;rw[Α<|by decide];have e:(if (l:τ)<((n+1:ν):τ)then(((n+1:ν):τ)-l+2-1)/2 else 0).toNat=(n+1+1-l)/2:=by
   rcases h with⟨_,rfl⟩|⟨_,rfl⟩
   ·exact K<|n+1
   ·have:=K n;have d:(((n+1:ν):τ)-(1:ν)+2-1)=((n:ν):τ)-0+2-1:=by lia
    rw[d];by_cases c:(0:τ)<n
    ·rw[Α c]at this;rw[Α<|by lia];exact this
    ·rw[χ c]at this;rw[χ<|by lia];exact this
  rw[e];refine fu λk f=>?_;lia
theorem aDb{R:Mk->Mk->Prop}{d:ε Mk}(h:d.Pairwise R){c:υ τ}{l:ν}(e:(c=none/\l=0)\/(c=γ 1/\l=1)):(fD d c<|some 2).Pairwise R:=by
 unfold fD;rw[rB _ e,List.pairwise_filterMap,l5];refine pairwise_lt_range.imp λ{a b} f x g y i=>?_;obtain⟨j,k⟩:=ρ.mp g;obtain⟨m,n⟩:=ρ.mp i;rw[<-k,<-n];exact fx.mp h _ _ j m (by lia)
theorem Nc{c:ε Mk}(M:MkR 10 c){b:υ τ}{l:ν}(d:(b=none/\l=0)\/(b=γ 1/\l=1)):M7 (fD c b<|some 2):=by
 refine⟨?_,aDb M.up d,λm a=>(M.g m<|uZ a).x,λm a=>(M.g m<|uZ a).y,λm a=>(M.g m<|uZ a).w⟩;have nm:=M.nm;unfold fD;rw[rB _ d];refine Β (qc _ _) ?_;rw[θ,ar];lia
theorem aDc{a:ε Mk}(h:1<=a.length):1<=(fD a none<|some 2).length:=by
 refine di.mpr λz=>?_;unfold fD at z;rw[rB _<|.inl ⟨rfl,rfl⟩,List.filterMap_eq_nil_iff]at z;have:=z 0<|Ν.mpr ⟨0,bA.mpr<|by lia,rfl⟩;rw[oz]at this;lia
noncomputable def mX:Mk:=(⟨1,2,by decide,by decide⟩,⟨3,1,by decide,by decide⟩,2)
theorem aQd:M7 [mX]:=by
 have b:Cm 2 60 mX.1:=by
  have e:mX.1=cD 1 2:=(js mX.1).symm;rw[e];exact rR (by decide) (by decide) (by decide)
 have c:Cm LL (10^6) mX.2.1:=by
  have e:mX.2.1=cD 3 1:=(js mX.2.1).symm;rw[e];exact rR (by decide) (by decide) (by decide)
 exact⟨by decide,oh _ _,λm a=>by rw[Υ.mp a];exact b,λm a=>by rw[Υ.mp a];exact c,λm a=>by rw[Υ.mp a];decide⟩
theorem Eu(a:fI)(x:Ξ)(e:η):(putP a x e).length<=a.length+1:=by
 unfold putP;split
 ·rw[θ];exact 48
 ·rw[Γ];simp
theorem Gq(x y:Ξ)(e:η):∀b:fI,(b.map λq=>if q.1=x then(q.1,e)else q).lookup y=if y=x then(b.lookup y).map (λ_=>e)else b.lookup y
 |[]=>by simp
 |(z,d)::r=>by
  have f:=Gq x y e r;rw[ak];by_cases c:z=x
  ·subst c;dsimp only;rw[Α rfl,dr,dr,f];by_cases a:y=z
   ·subst a;simp
   ·rw[bb.mpr a]
  ·dsimp only;rw[χ c,dr,dr,f];by_cases a:y=z
   ·subst a;rw[gf];exact(χ c).symm
   ·rw[bb.mpr a]
theorem Gs(x:Ξ):∀b:fI,(b.any λq=>decide (q.1=x))=(b.lookup x).isSome
 |[]=>rfl
 |(z,d)::r=>by
  rw[qj,dr,Gs x r];by_cases a:x=z
  ·subst a;simp
  ·rw[bb.mpr a,Τ λw=>a w.symm];rfl
theorem Gr(y x:Ξ)(e:η):∀a:fI,(a++[(x,e)]).lookup y=(a.lookup y).or (if y=x then γ e else none)
 |[]=>by
  rw[uw,dr];by_cases h:y=x
  ·subst h;simp
  ·rw[bb.mpr h,χ h];rfl
 |(z,d)::r=>by
  rw[xr,dr,dr,Gr y x e r];cases (y==z) <;>rfl
theorem vY(b:fI)(x y:Ξ)(e:η):(putP b x e).lookup y=if y=x then γ e else b.lookup y:=by
 unfold putP;rw[Gs];split
 ·rename_i h
  rw[Gq];by_cases a:y=x
  ·subst a;rw[Α rfl,Α rfl];obtain⟨d,c⟩:=kz.mp h;rw[c];rfl
  ·rw[χ a,χ a]
 ·rename_i h
  rw[Gr];by_cases a:y=x
  ·subst a;rw[Α rfl,Α rfl,Option.not_isSome_iff_eq_none.mp h];rfl
  ·rw[χ a,χ a,Option.or_none]
theorem name_ab:mC (ζ "a")=true/\mC (ζ "b")=true:=by decide +kernel
theorem Xi{nm:Ξ}(b:32∉nm.cps.toList){a:ε Mk}(Z:M7 a):Txt.split (jn<|ζ "marks"::nm::a.map iL) (ζ " ")=ζ "marks"::nm::a.map iL:=lO (by simp) λw hw=>by
 simp only[Ω]at hw;rcases hw with rfl|rfl|hw
 ·decide +kernel
 ·exact b
 ·obtain⟨m,c,rfl⟩:=Ν.mp hw;exact aCp<|Z.gd m c
theorem aQb{a:ε Mk}(h:1<=a.length):ζ "marks a "++pO a=jn (ζ "marks"::ζ "a"::a.map iL):=rA (pw:=[ζ "marks",ζ "a"]) (by decide +kernel) (by simp) (λz=>by rw[uh]at z;rw[z]at h;simp at h)
theorem aQa{a:ε Mk}(h:1<=a.length):ζ "marks b "++pO a=jn (ζ "marks"::ζ "b"::a.map iL):=rA (pw:=[ζ "marks",ζ "b"]) (by decide +kernel) (by simp) (λz=>by rw[uh]at z;rw[z]at h;simp at h)
theorem En{b:fI}{R:RG}{ex:DX}{x nm:Ξ}{a:ε Mk}(c:1<=a.length)(Z:M7 a)(d:x.length<=90000)(e:x=jn (ζ "marks"::nm::a.map iL))(f:32∉nm.cps.toList)(g:nm.length<=8)(h:mC nm=true)(i:b.length<1000)(k:R (putP b nm<|.list<|a.map bW)<|.str "ok"):aKy b [.str x] R ex:=
 ⟨x,_,rfl,d,rfl,.inl ⟨nm,a,by rw[e];exact Xi f Z,nm,a,rfl,g,h,c,Z,i,k⟩⟩
theorem aCt{a:fI}{R:RG}{ex:DX}(b:(a.lookup<|ζ "a").isSome=true)(k:R (dropP a<|ζ "a")<|.str "ok"):aKy a [.str<|ζ "drop a"] R ex:=
 ⟨_,_,rfl,by decide +kernel,rfl,.inr ⟨ζ "a",by
  rw[show ζ "drop a"=jn [ζ "drop",ζ "a"] by decide +kernel]
  exact lO (by simp) (by decide +kernel),b,k⟩⟩
theorem aPr(T:Txt K mg A)(d:qS w K A.g_COUNTS<|fK A):FnOk P w K mg base (iY P w) 16 A.a_qe A.d_qe ["script"] (Mo K):=by
 obtain⟨F⟩:=aQr (P:=P) (w:=w) (base:=base) T;have S:=aPt (P:=P) (w:=w) (base:=base) T;have v:=Bn (P:=P) (w:=w) (base:=base) T d;have f:=qE (P:=P) (w:=w) (base:=base) T F d;have l:=Gh (P:=P) (w:=w) (base:=base) T F d;refine aKx<|Nj T.F_qe.F Eo (λds Q E h=>?_) λa9 Ar outer s H E o=>?_
 ·obtain⟨a,rfl,_⟩:=h;rfl
 refine⟨_,(aT (oW 1 Eo (kB (Gc _ T) o (T.G 78) bV (aF (pv 0) (aF bS (aF bS aS)))))
   (aT (oW 2 Eo (gC (aF (Nd (K:=K) rfl (pv 1) tN (mW bS)) (aF (Nd (K:=K) rfl (pv 1) (mW bS) (mW bS)) aS))))
   (aT (eU (cN (eqK (K:=K) rfl o.units) (uX (K:=K) rfl (pv 2)) (gC aS) (dI _)) (bG (Vz (gC (aF (rC (aF (rC (aF bS (aF bS aS))) (aF (rC (aF bS (aF bS aS))) (aF bS aS)))) aS)) (Wg (pv 2) bS El))) cR)
   (aT (oW 3 Eo (Wk T.mk_Desk S (o.mono (by decide)) rfl T.m_Desk T.b_qa .nil bV))
   (aT (Ay iu rfl (mY rfl T.n_range (aF bS aS)) (pgS 4 Eo)
    (aT (eU (PW.pt (Av (cN iQ (pv 4) bS (dI _)) (Av (cN iQ (cP iN (cP lZ (kB (fM _ T) o (T.G 76) bV (aF (pv 0) (aF bS aS))) bS) bS) bS (dI _)) (Au (cN Ni (jS (pv 3) T.cl_Desk T.M_qb v (o.mono (by decide)) T.b_qb .nil bV (aF cA aS)) cA (dI _)))))) (bG (dL qA)) cR)
   (aT (eU (cN Ni (jS (pv 3) T.cl_Desk T.M_qb v (o.mono (by decide)) T.b_qb .nil bV (aF (cP cY cA (kB (gL _ T) o (T.G 81) bV (aF (nV (Hd (K:=K) rfl) (pv 2) (pv 4) (λ_ _=>rfl)) aS))) aS)) cA (dI _)) (bG (dL qA)) cR)
   (aT (eU (cN Ni (jS (pv 3) T.cl_Desk T.M_qb v (o.mono (by decide)) T.b_qb .nil bV (aF (cP cY cA (kB (gL _ T) o (T.G 81) bV (aF (nV (Hd (K:=K) rfl) (pv 2) (cP Jp bS (pv 4)) (λ_ _=>rfl)) aS))) aS)) cA (dI _)) (bG (dL qA)) cR)
   (bG (eU (Jn (Ax (kB l o (T.G 86) bV (aF (pv 3) (aF (pv 0) (aF (nV (Hd (K:=K) rfl) (pv 2) (pv 4) (λ_ _=>rfl)) aS)))))) (bG (dL qA)) cR))))))
   (bG (dL (Nf (eqK (K:=K) rfl o.units) (gC (aF (jS (pv 3) T.cl_Desk T.M_qb f (o.mono (by decide)) T.b_qb .nil bV (aF cA aS)) (aF (jS (pv 3) T.cl_Desk T.M_qb f (o.mono (by decide)) T.b_qb .nil bV (aF cA aS)) aS))) (gC (aF (kB (gL _ T) o (T.G 81) bV (aF (uX (K:=K) rfl (pv 2)) aS)) (aF (kB (gL _ T) o (T.G 81) bV (aF (uX (K:=K) rfl (pv 2)) aS)) aS))) (dI _))))))))),_,(aG (aR 1 (bB (vN 0 (vE aX (vE aX aB))))) (aG (aR 2 (bN (aH (bU (Nh (aL 1) gQ (cH bI))) (aH (bU (Nh (aL 1) (cH bI) (cH bI))) aO)))) (oB (bD (tO qZ (aE (bE (aL 2) bI)) (aE (bU (bN aO)))) (pH 2 (bU (bN (aH (cQ (aH (cQ (aH aX (aH aX aO))) (aH (cQ (aH aX (aH aX aO))) (aH aX aO)))) aO))) bI) aQ)
  (gU 1 (gU 2 (Uk (dwA:=λp_=>_) (λb0 p_ b1 g=>
   (Kc (aEc g.good (λp=>(vE aX aB)) (λp=>(aJ 4))
    (aKr (Nw (Tu (Md g.good.mono (λp=>(tO cJ (aI 4) bI))) (Tu (Md g.good.mono (λp=>(tO cJ (aE (eC (k:=2) (by decide) (aE (oR (k:=7) (Le) (aE (aC (vN 0 (vE aX aB)))) aX)) aX)) bI))) (Ts [(3,p_)] g (by decide) (λp=>(vE aP aB)) (λp=>aP)))) (tS g.good.mono (λp=>(aW (aE mK)))) tT)
    (Kc (Nw (Ts [(3,p_)] g (by decide) (λp=>(vE (cB bY (aE aP) (aE (aC (vE (bE (aL 2) (aI 4)) aB)))) aB)) (λp=>aP)) (tS g.good.mono (λp=>(aW (aE mK)))) tT)
    (Kc (Nw (Ts [(3,p_)] g (by decide) (λp=>(vE (cB bY (aE aP) (aE (aC (vE (bE (aL 2) (bO cG bI (aI 4))) aB)))) aB)) (λp=>aP)) (tS g.good.mono (λp=>(aW (aE mK)))) tT)
    (Nw (aIx (Tt g (λp=>(vN 0 (vE (bE (aL 2) (aI 4)) aB))))) (tS g.good.mono (λp=>(aW (aE mK)))) tT)))))
   (Xm (iO:=3) g (λp=>(aW (bO qZ (aE (bU (bN (aH (Hx 3 (by decide) (vE aP aB)) (aH (Hx 3 (by decide) (vE aP aB)) aO))))) (aE (bU (bN (aH (aC (vE (bE (aL 2) bI) aB)) (aH (aC (vE (bE (aL 2) bI) aB)) aO))))))))))))))))),?_⟩
 intro ds Q X qQ0;refine q_ λwv=>?_;obtain⟨I,rfl,hlen,hbits,k⟩:=qQ0;apply wv;ac_nf;refine⟨I,4,10,rfl,hbits,‹1›,by decide,by decide,by decide,by decide,λO a4 M=>?_⟩;ext;refine⟨vU _,?_⟩;ac_nf;ext;rw[Fh,Fh];have y:=Nc M<|.inl ⟨rfl,rfl⟩;have B:=Nc M<|.inr ⟨rfl,rfl⟩;have na:=aDc a4;refine q_ λwv=>?_;obtain⟨r,U⟩:∃r,fD O none (γ 2)=r:=⟨_,rfl⟩;obtain⟨W,Y⟩:∃W,fD O (γ 1) (γ 2)=W:=⟨_,rfl⟩;apply wv;rw[U]at y na⊢;rw[Y]at B⊢;clear U Y;refine oU (λt=>∃n:ε Mk,t=[γ<|.dat<|.list<|I.map .int,γ<|.own<|O.map bW,γ<|.own [.list<|r.map bW,.list<|n.map bW],none,none]/\1<=n.length/\M7 n) ?_ ?_
 ·ext;refine⟨_,rfl,_,Yv aQu<|by decide,W,[],rfl,rfl,λb hb=>?_⟩;cases b with
  |true=>
   refine bT (λ_=>?_) λc=>ς rfl c;ext;exact⟨1,rfl,[mX],rfl,by decide,aQd⟩
  |false=>
   refine bT (λc=>nomatch c) λ_=>?_;have a5:W≠[]:=λz=>by have:=hb.mpr z;cases this
   exact⟨W,rfl,di.mpr a5,B⟩
 intro t qQ0;refine q_ λwv=>?_;obtain⟨n,rfl,nb,B⟩:=qQ0;apply wv;ext;intro q;have J:=aEr I;have L:=vT O;obtain⟨C,D⟩:∃C,[gv<|r.map bW,gv<|n.map bW]=C:=⟨_,rfl⟩;have N:rG C=true:=by rw[<-D];show(rG (r.map bW) && (rG (n.map bW) && true))=true;rw[vT,vT];rfl
 have A0:kC C 0=γ (.list<|r.map bW):=by rw[<-D];rfl
 have A1:kC C 1=γ (.list<|n.map bW):=by rw[<-D];rfl
 rw[D];have G:=Rh;simp only[wA]at G;have m3:∀{t:bF},slot t 3=γ (Sl.mon<|Oe q)->∀m:ν×ο,m∈[(3,q)]->slot t m.1=γ (.mon<|Oe m.2):=λh m hm=>by rw[Υ.mp hm];exact h
 refine⟨rfl,?_⟩;ext;refine⟨2,rfl,by decide,by decide,λi t R=>∃(s4:υ η)(j:fI),t=[γ<|.dat<|.list<|I.map .int,γ<|.dat<|.list<|O.map bW,γ<|.dat<|.list C,γ<|.mon<|Oe q,s4.map Sl.dat]/\R=[j]/\j.length<=2*i/\(i=1->(j.lookup<|ζ "a").isSome=true)/\(i=2->j.lookup (ζ "a")=γ (.list<|n.map bW)/\j.lookup (ζ "b")=γ (.list<|r.map bW)),⟨none,[],rfl,rfl,by decide,(λz=>nomatch z),λz=>nomatch z⟩,?_,?_⟩
 ·intro i t R hi qQ0;refine q_ λwv=>?_;obtain⟨s4,j,rfl,rfl,Z,ka,_⟩:=qQ0;apply wv;ext;obtain⟨u,x,a0,a6,nk,Zk,no,Zo,a1⟩:∃u x:ε Mk,kC C (0+(i:τ))=γ (.list<|u.map bW)/\kC C (1-(0+(i:τ)))=γ (.list<|x.map bW)/\1<=u.length/\M7 u/\1<=x.length/\M7 x/\(i=1->u=n/\x=r):=by
   have:i=0\/i=1:=by lia
   rcases this with rfl|rfl
   ·exact⟨r,n,A0,A1,na,y,nb,B,λz=>nomatch z⟩
   ·exact⟨n,r,A1,A0,nb,B,na,y,λ_=>⟨rfl,rfl⟩⟩
  refine⟨λt R=>∃j:fI,t=[γ<|.dat<|.list<|I.map .int,γ<|.dat<|.list<|O.map bW,γ<|.dat<|.list C,γ<|.mon<|Oe q,γ<|.dat<|.int<|0+(i:τ)]/\R=[j]/\j.length<=2*i,?_,?_⟩
  ·ext;refine bT (λc=>?_) λc=>⟨j,rfl,Z⟩;refine⟨I,3,rfl,by decide,by decide,?_⟩;ext;refine bT (λc=>?_) λc=>⟨j,rfl,Z⟩;simp only[ri,zr,J,L,N,Gn,G];ext;exact⟨m3 rfl,j,rfl,aCt (ka<|by lia) ⟨_,rfl,_,rfl,bT (λc=>ς rfl c) λ_=>⟨_,rfl,Β (r6 _ _) Z⟩⟩⟩
  intro t R qQ0;refine q_ λwv=>?_;obtain⟨j,rfl,rfl,Z⟩:=qQ0;apply wv;clear ka;have b2:=Zk.n5;have b3:=Zo.n5;have b4:=uJ ‹1› Zk.gd;have b5:=uJ ‹1› Zo.gd;have ll:(ζ "marks a ").length=8/\(ζ "marks b ").length=8:=by decide +kernel
  ext;simp only[ri,zr,J,L,N,Gn,G];ext;refine⟨m3 rfl,_,a0,u,rfl,‹1›,Zk.gd,?_⟩;ext;refine⟨by lia,j,rfl,En nk Zk (by rw[ω];lia) (aQb nk) (by decide +kernel) (by decide +kernel) name_ab.1 (by lia) ?_⟩;refine⟨_,rfl,_,rfl,bT (λc=>ς rfl c) λ_=>?_⟩;refine⟨m3 rfl,_,a6,x,rfl,‹1›,Zo.gd,?_⟩;ext;have b6:=Eu j (ζ "a")<|.list<|u.map bW;have b7:=Eu (putP j (ζ "a")<|.list<|u.map bW) (ζ "b")<|.list<|x.map bW;refine⟨by lia,_,rfl,En no Zo (by rw[ω];lia) (aQa no) (by decide +kernel) (by decide +kernel) name_ab.2 (by lia) ?_⟩;simp only[ri,zr,J,L,N,Gn,G];ext;refine⟨_,rfl,_,rfl,bT (λc=>ς rfl c) λ_=>?_⟩;have ea:(putP (putP j (ζ "a")<|.list<|u.map bW) (ζ "b")<|.list<|x.map bW).lookup (ζ "a")=γ (.list<|u.map bW):=by
   rw[vY,χ<|by decide +kernel,vY,Α rfl]
  have eb:(putP (putP j (ζ "a")<|.list<|u.map bW) (ζ "b")<|.list<|x.map bW).lookup (ζ "b")=γ (.list<|x.map bW):=by
   rw[vY,Α rfl]
  refine⟨_,a0,_,rfl,I,u,rfl,hbits,‹1›,ea,nk,Zk,?_⟩;refine⟨true,rfl,bT (λc=>nomatch c) λ_=>?_⟩;refine⟨γ<|.int<|0+(i:τ),_,rfl,rfl,by lia,λ_=>by rw[ea];rfl,λz=>?_⟩;obtain⟨rfl,rfl⟩:=a1 (by lia);exact⟨ea,eb⟩
 ·intro t R qQ0;refine q_ λwv=>?_;obtain⟨s4,j,rfl,rfl,Z,_,kf⟩:=qQ0;obtain⟨a7,a8⟩:=kf rfl;apply wv;ext;have b8:=uJ (by have:=y.n5;exact 1) y.gd;have sa:Txt.split (ζ "show a") (ζ " ")=[ζ "show",ζ "a"]:=by
   rw[tr6];exact lO (by simp) (by decide +kernel)
  have sb:Txt.split (ζ "show b") (ζ " ")=[ζ "show",ζ "b"]:=by
   rw[show ζ "show b"=jn [ζ "show",ζ "b"] by decide +kernel];exact lO (by simp) (by decide +kernel)
  have a2:=(NoN.m y.gd).ok;have a3:=(NoN.m B.gd).ok;refine⟨j,rfl,j,rfl,_,_,n,γ<|pO n,rfl,by decide +kernel,a7,nb,B,.inl ⟨sa,rfl⟩,λa e=>?_,λe=>nomatch e⟩;cases e;ext;refine⟨j,rfl,_,_,r,γ<|pO r,rfl,by decide +kernel,a8,na,y,.inl ⟨sb,rfl⟩,λa e=>?_,λe=>nomatch e⟩;cases e;ext;refine⟨_,A1,n,rfl,by have:=B.n5;exact 1,B.gd,?_⟩;ext;refine⟨_,A0,r,rfl,by have:=y.n5;exact 1,y.gd,?_⟩;ext;refine⟨_,Yv Yu<|by decide,[⟨pO n,a3⟩,⟨pO r,a2⟩],[⟨pO n,a3⟩,⟨pO r,a2⟩],rfl,rfl,λb hb=>?_⟩;rw[hb.mpr rfl];exact k
@[elab_as_elim] theorem el1 {P:ε ξ->Prop}:∀b:ε ξ,b.length=1->(∀a:ξ,P [a])->P b
 |[],h,_=>by cases h
 |[a],_,h=>h a
 |_::_::_,h,_=>by simp at h
@[elab_as_elim] theorem el2 {P:ε ξ->Prop}:∀c:ε ξ,c.length=2->(∀a b:ξ,P [a,b])->P c
 |[],h,_=>by cases h
 |[_],h,_=>by cases h
 |[a,b],_,h=>h a b
 |_::_::_::_,h,_=>by simp at h
@[elab_as_elim] theorem el3 {P:ε ξ->Prop}:∀d:ε ξ,d.length=3->(∀a b c:ξ,P [a,b,c])->P d
 |[],h,_=>by cases h
 |[_],h,_=>by cases h
 |[_,_],h,_=>by cases h
 |[a,b,c],_,h=>h a b c
 |_::_::_::_::_,h,_=>by simp at h
@[elab_as_elim] theorem el4 {P:ε ξ->Prop}:∀e:ε ξ,e.length=4->(∀a b c d:ξ,P [a,b,c,d])->P e
 |[],h,_=>by cases h
 |[_],h,_=>by cases h
 |[_,_],h,_=>by cases h
 |[_,_,_],h,_=>by cases h
 |[a,b,c,d],_,h=>h a b c d
 |_::_::_::_::_::_,h,_=>by simp at h
@[elab_as_elim] theorem el6 {P:ε ξ->Prop}:∀g:ε ξ,g.length=6->(∀a b c d e f:ξ,P [a,b,c,d,e,f])->P g
 |[],h,_=>by cases h
 |[_],h,_=>by cases h
 |[_,_],h,_=>by cases h
 |[_,_,_],h,_=>by cases h
 |[_,_,_,_],h,_=>by cases h
 |[_,_,_,_,_],h,_=>by cases h
 |[a,b,c,d,e,f],_,h=>h a b c d e f
 |_::_::_::_::_::_::_::_,h,_=>by simp at h
local macro_rules|`(tactic|walk_at"b")=>`(tactic|(intro _ _ _ _ _ _ us hl;first|exact el1 us hl λ_=>rfl|exact el2 us hl λ_ _=>rfl|exact el3 us hl λ_ _ _=>rfl|exact el4 us hl λ_ _ _ _=>rfl|exact el6 us hl λ_ _ _ _ _ _=>rfl))
def FsP(K:μ):ε (Ξ×ν×ε Ξ)->Prop
 |[]=>yk
 |r::l=>(∃a d,Fg K r.1 (top r.2.1) a d)/\FsP K l
theorem Ye{K:μ}(x:ο)(y:FuncData):∀l,FsP K l->∃(a:ν->ο)(d:ν->FuncData),∀i,i<l.length->Fg K (l.getD i ("",0,[])).1 (top (l.getD i ("",0,[])).2.1) (a i) (d i)
 |[],_=>⟨λ_=>x,λ_=>y,λi h=>ς h<|l7 _⟩
 |r::l,h=>by
  refine q_ λwv=>?_;obtain⟨⟨b,c,e⟩,f⟩:=h;obtain⟨a,d,g⟩:=Ye x y l f;apply wv;refine⟨λi=>Nat.casesOn i b a,λi=>Nat.casesOn i c d,λi j=>?_⟩;cases i with
  |zero=>exact e
  |succ i=>exact g i<|Nat.lt_of_succ_lt_succ j
theorem aEu{i:ν}(h:i<tb.length):tr i∈tb:=by
 unfold tr;rw[Μ,Ι h];exact cq _
theorem bs:∀r∈tb,∀(kV a d:ξ)(e:υ ο)(b ct:ξ)(c:ε ξ),c.length=r.2.2.length->bindArgs (W.fnOf r.1 r.1 (jX<|top r.2.1) (eP<|top r.2.1) (aM<|top r.2.1) .none kV a d e b ct) ⟨c,[]⟩=pure (r.2.2.zip c):=by
 unfold tb
 repeat' (first|refine' ax.2 ⟨by walk_at"b",?_⟩|exact λ_ h=>nomatch h)
theorem all_mk{l:W.OpenLaw}{w:gb}{K:μ}{h:ei}{mg:Ξ->υ ξ}{fa g0 g1 g2 g3 g9 f t z b x u B C U Y D c y j k m n o p q r:ο}(X:K.In h)(G:h.Ns mainGlobals mg)(h1:mg "law"=γ (.ref fa))
  {h2 h3 h4 h5 h0:FuncData}
  (oa_Desk:W.nsIn K mainGlobals "Desk"=γ (γ<|.ref c)) (pg_Desk:W.plainGet K c Str.empty=true) (hd_Desk:W.hasDictIn K c=true) (po_Desk:W.plainOver K c=true) (sa_Desk:W.findIn K (.ref c) "__setattr__"=γ (γ<|.builtin "object.__setattr__")) (mk_Desk:W.makesIn K c=true) (kc_Desk:W.keepIn K (.ref c)=true) (na_Desk:W.findIn K (.ref c) "kept"=γ none)
  (Fs:FsP K tb) (Fl:Fg K "law" aJi g9 h0)
  (a87:W.findIn K (.ref c) "__init__"=γ (γ<|.ref g0)) (i87:W.isFn K (.ref g0)=true)
  (F87:Fun K "__init__" "Desk.__init__" aJm g0 h2)
  (a88:W.findIn K (.ref c) "say"=γ (γ<|.ref g1)) (i88:W.isFn K (.ref g1)=true)
  (F88:Fun K "say" "Desk.say" aJl g1 h3)
  (a89:W.findIn K (.ref c) "lay"=γ (γ<|.ref g2)) (i89:W.isFn K (.ref g2)=true)
  (F89:Fun K "lay" "Desk.lay" aJk g2 h4)
  (a90:W.findIn K (.ref c) "marks_by"=γ (γ<|.ref g3)) (i90:W.isFn K (.ref g3)=true)
  (F90:Fun K "marks_by" "Desk.marks_by" aJj g3 h5)
  (ax_MissError:W.nsIn K mainGlobals "MissError"=γ (γ<|.ref f)) (xx_MissError:W.excIn K f [.type "ValueError",.type "Exception",.type "BaseException",.type "object"] "ValueError.__new__"=true)
  (ax_NoNumber:W.nsIn K mainGlobals "NoNumber"=γ (γ<|.ref t)) (xx_NoNumber:W.excIn K t [.type "ValueError",.type "Exception",.type "BaseException",.type "object"] "ValueError.__new__"=true)
  (ax_NoMarks:W.nsIn K mainGlobals "NoMarks"=γ (γ<|.ref z)) (xx_NoMarks:W.excIn K z [.type "ValueError",.type "Exception",.type "BaseException",.type "object"] "ValueError.__new__"=true)
  (ax_NoKind:W.nsIn K mainGlobals "NoKind"=γ (γ<|.ref b)) (xx_NoKind:W.excIn K b [.type "ValueError",.type "Exception",.type "BaseException",.type "object"] "ValueError.__new__"=true)
  (ax_NoBend:W.nsIn K mainGlobals "NoBend"=γ (γ<|.ref x)) (xx_NoBend:W.excIn K x [.type "ValueError",.type "Exception",.type "BaseException",.type "object"] "ValueError.__new__"=true)
  (ax_NoAnswer:W.nsIn K mainGlobals "NoAnswer"=γ (γ<|.ref u)) (xx_NoAnswer:W.excIn K u [.type "ValueError",.type "Exception",.type "BaseException",.type "object"] "ValueError.__new__"=true)
  (ax_NoText:W.nsIn K mainGlobals "NoText"=γ (γ<|.ref B)) (xx_NoText:W.excIn K B [.type "ValueError",.type "Exception",.type "BaseException",.type "object"] "ValueError.__new__"=true)
  (ax_NoName:W.nsIn K mainGlobals "NoName"=γ (γ<|.ref C)) (xx_NoName:W.excIn K C [.type "ValueError",.type "Exception",.type "BaseException",.type "object"] "ValueError.__new__"=true)
  (ax_NoRow:W.nsIn K mainGlobals "NoRow"=γ (γ<|.ref U)) (xx_NoRow:W.excIn K U [.type "ValueError",.type "Exception",.type "BaseException",.type "object"] "ValueError.__new__"=true)
  (xkg_NoKind:W.findIn K (.ref b) "__getattribute__"=γ (γ<|.builtin "BaseException.__getattribute__"))
  (xka_NoKind:W.findIn K (.ref b) "__getattr__"=γ none)
  (xkc_NoKind:W.findIn K (.ref b) "__class__"=γ (γ<|.builtin "object.__class__"))
  (xko_NoKind:W.subIn K (.ref b) (.type "object")=γ true)
  (xkb_NoKind:W.subIn K (.ref b) (.type "BaseException")=γ true)
  (em_NoKind_MissError:W.exmOne K (.ref b) (.ref f)=γ true)
  (kt_NoKind_NoKind:W.kitOne K (.ref b) (.ref b)=γ true)
  (kt_NoKind_NoBend:W.kitOne K (.ref b) (.ref x)=γ false)
  (z_abs:W.nsIn K mainGlobals "abs"=γ none)
  (z_all:W.nsIn K mainGlobals "all"=γ none)
  (z_bool:W.nsIn K mainGlobals "bool"=γ none)
  (z_enumerate:W.nsIn K mainGlobals "enumerate"=γ none)
  (z_int:W.nsIn K mainGlobals "int"=γ none)
  (z_isinstance:W.nsIn K mainGlobals "isinstance"=γ none)
  (z_len:W.nsIn K mainGlobals "len"=γ none)
  (z_list:W.nsIn K mainGlobals "list"=γ none)
  (z_max:W.nsIn K mainGlobals "max"=γ none)
  (z_min:W.nsIn K mainGlobals "min"=γ none)
  (z_range:W.nsIn K mainGlobals "range"=γ none)
  (z_reversed:W.nsIn K mainGlobals "reversed"=γ none)
  (z_sorted:W.nsIn K mainGlobals "sorted"=γ none)
  (z_str:W.nsIn K mainGlobals "str"=γ none)
  (z_sum:W.nsIn K mainGlobals "sum"=γ none)
  (z_zip:W.nsIn K mainGlobals "zip"=γ none)
  {I J L M N O R S:ui} {Z a0 a1 a2 a3 a4 a5 a6:τ} {g4:ν} (zc_COUNTS:W.nsIn K mainGlobals "COUNTS"=γ (γ<|.ref y)) (lk_COUNTS:K.lookup y=γ ⟨.type "dict",none,.dict #[⟨Z,.str "marks" I,.ref j⟩,⟨a0,.str "drop" J,.ref k⟩,⟨a1,.str "names" L,.ref m⟩,⟨a2,.str "show" M,.ref n⟩,⟨a3,.str "bend" N,.ref o⟩,⟨a4,.str "rise" O,.ref p⟩,⟨a5,.str "steps" R,.ref q⟩,⟨a6,.str "judge" S,.ref r⟩] g4,#[]⟩)
  {a9 b0:ui} {c6:υ ο} {c7:ν} {c8:Array<|υ ξ} (lt0_COUNTS:K.lookup j=γ ⟨.type "tuple",c6,.seq #[(.int 3 a9),(.int 62 b0)] c7,c8⟩)
  {b1 b2:ui} {c9:υ ο} {d0:ν} {d1:Array<|υ ξ} (lt1_COUNTS:K.lookup k=γ ⟨.type "tuple",c9,.seq #[(.int 2 b1),(.int 2 b2)] d0,d1⟩)
  {b3 b4:ui} {d3:υ ο} {d4:ν} {d5:Array<|υ ξ} (lt2_COUNTS:K.lookup m=γ ⟨.type "tuple",d3,.seq #[(.int 1 b3),(.int 1 b4)] d4,d5⟩)
  {b5 b6:ui} {d6:υ ο} {d7:ν} {d8:Array<|υ ξ} (lt3_COUNTS:K.lookup n=γ ⟨.type "tuple",d6,.seq #[(.int 2 b5),(.int 2 b6)] d7,d8⟩)
  {b7 b8:ui} {d9:υ ο} {e0:ν} {e1:Array<|υ ξ} (lt4_COUNTS:K.lookup o=γ ⟨.type "tuple",d9,.seq #[(.int 4 b7),(.int 4 b8)] e0,e1⟩)
  {b9 c0:ui} {e2:υ ο} {e3:ν} {e4:Array<|υ ξ} (lt5_COUNTS:K.lookup p=γ ⟨.type "tuple",e2,.seq #[(.int 3 b9),(.int 3 c0)] e3,e4⟩)
  {c1 c2:ui} {e5:υ ο} {e6:ν} {e7:Array<|υ ξ} (lt6_COUNTS:K.lookup q=γ ⟨.type "tuple",e5,.seq #[(.int 4 c1),(.int 4 c2)] e6,e7⟩)
  {c3 c4:ui} {e8:υ ο} {e9:ν} {f0:Array<|υ ξ} (lt7_COUNTS:K.lookup r=γ ⟨.type "tuple",e8,.seq #[(.int 4 c3),(.int 63 c4)] e9,f0⟩)
  (kl_COUNTS:W.KeysLit w.params [⟨Z,.str "marks" I,.ref j⟩,⟨a0,.str "drop" J,.ref k⟩,⟨a1,.str "names" L,.ref m⟩,⟨a2,.str "show" M,.ref n⟩,⟨a3,.str "bend" N,.ref o⟩,⟨a4,.str "rise" O,.ref p⟩,⟨a5,.str "steps" R,.ref q⟩,⟨a6,.str "judge" S,.ref r⟩]) (nz_COUNTS:(y==sysModules)=false)
  {f1:ui} (zc_FIGURES:W.nsIn K mainGlobals "FIGURES"=γ (γ<|.str "0123456789" f1))
  {f5 f6 f7:ui} {g5:υ ο} {g8:ν} {g6:Array<|υ ξ} (zc_KINDS:W.nsIn K mainGlobals "KINDS"=γ (γ<|.ref Y))
  (lk_KINDS:K.lookup Y=γ ⟨.type "tuple",g5,.seq #[(.str "far" f5),(.str "sum" f6),(.str "square" f7)] g8,g6⟩)
  {f2:ui} (zc_LETTERS:W.nsIn K mainGlobals "LETTERS"=γ (γ<|.str "abcdefghijklmnopqrstuvwxyz" f2))
  {c5:ui} (zc_MOST_BEND:W.nsIn K mainGlobals "MOST_BEND"=γ (γ<|.int 3 c5))
  {E:ui} (zc_MOST_FIGURES:W.nsIn K mainGlobals "MOST_FIGURES"=γ (γ<|.int 40 E))
  {F:ui} (zc_MOST_LETTERS:W.nsIn K mainGlobals "MOST_LETTERS"=γ (γ<|.int 8 F))
  {a7:ui} (zc_MOST_MARKS:W.nsIn K mainGlobals "MOST_MARKS"=γ (γ<|.int 60 a7))
  {H:ui} (zc_MOST_NUMBERS:W.nsIn K mainGlobals "MOST_NUMBERS"=γ (γ<|.int 4 H))
  {a8:ui} (zc_MOST_STEPS:W.nsIn K mainGlobals "MOST_STEPS"=γ (γ<|.int 59 a8))
  {f3 f4:ui} {f8:υ ο} {g7:ν} {f9:Array<|υ ξ} (zc_NOUGHT:W.nsIn K mainGlobals "NOUGHT"=γ (γ<|.ref D))
  (lk_NOUGHT:K.lookup D=γ ⟨.type "tuple",f8,.seq #[(.int 0 f3),(.int 1 f4)] g7,f9⟩)
  :∃fd:FuncData,(∀(s:Ζ)(v:ξ),BindsTo s fd ⟨[v],[]⟩ [("script",v)])/\∀base:ei,K.In base->base.Ns mainGlobals mg->FnOk l.prog w K mg base (iY l.prog w) 16 fa fd ["script"] (Mo K):=by
 obtain⟨a,d,g⟩:=Ye g9 h0 tb Fs;have e:=h1.symm.trans<|gw X G Fl.a;cases e;refine q_ λwv=>?_;obtain⟨_,_,_,_,_,_,_,_,_,rfl,_,_⟩:=Fl.F.ex;apply wv;have T:Txt K mg ⟨a,d,g0,_,g1,_,g2,_,g3,_,fa,_,f,t,z,b,x,u,B,C,U,Y,D,c,y,j,k,m,n,o,p,q,r⟩:=⟨λi hi=>(g i hi).fd X G<|bs _<|aEu hi,F87,⟨a87,i87,F87.kp⟩,F87.binds<|by walk_at"b",F88,⟨a88,i88,F88.kp⟩,F88.binds<|by walk_at"b",F89,⟨a89,i89,F89.kp⟩,F89.binds<|by walk_at"b",F90,⟨a90,i90,F90.kp⟩,F90.binds<|by walk_at"b",Fl.fd X G<|by walk_at"b",⟨xx_MissError,gw X G ax_MissError⟩,⟨xx_NoNumber,gw X G ax_NoNumber⟩,⟨xx_NoMarks,gw X G ax_NoMarks⟩,⟨xx_NoKind,gw X G ax_NoKind⟩,⟨xx_NoBend,gw X G ax_NoBend⟩,⟨xx_NoAnswer,gw X G ax_NoAnswer⟩,⟨xx_NoText,gw X G ax_NoText⟩,⟨xx_NoName,gw X G ax_NoName⟩,⟨xx_NoRow,gw X G ax_NoRow⟩,⟨xkg_NoKind,xka_NoKind,xkc_NoKind,xko_NoKind,xkb_NoKind⟩,em_NoKind_MissError,kt_NoKind_NoKind,kt_NoKind_NoBend,fe X G z_abs,fe X G z_all,fe X G z_bool,fe X G z_enumerate,fe X G z_int,fe X G z_isinstance,fe X G z_len,fe X G z_list,fe X G z_max,fe X G z_min,fe X G z_range,fe X G z_reversed,fe X G z_sorted,fe X G z_str,fe X G z_sum,fe X G z_zip,gw X G oa_Desk,⟨pg_Desk,hd_Desk,po_Desk,sa_Desk⟩,⟨mk_Desk,a87,i87,kc_Desk⟩,na_Desk,gw X G zc_COUNTS,⟨_,gw X G zc_FIGURES⟩,gw X G zc_KINDS,xK (xs:=[(.str "far"),(.str "sum"),(.str "square")]) lk_KINDS (bu<|bQ<|show 3<=1000 by decide) (.cons ⟨_,rfl⟩<|.cons ⟨_,rfl⟩<|.cons ⟨_,rfl⟩ .nil) λ_=>.cons (.str "far")<|.cons (.str "sum")<|.cons (.str "square") .nil,⟨_,gw X G zc_LETTERS⟩,⟨_,gw X G zc_MOST_BEND⟩,⟨_,gw X G zc_MOST_FIGURES⟩,⟨_,gw X G zc_MOST_LETTERS⟩,⟨_,gw X G zc_MOST_MARKS⟩,⟨_,gw X G zc_MOST_NUMBERS⟩,⟨_,gw X G zc_MOST_STEPS⟩,gw X G zc_NOUGHT,xK (xs:=[(.int 0),(.int 1)]) lk_NOUGHT (bu<|bQ<|show 2<=1000 by decide) (.cons ⟨_,rfl⟩<|.cons ⟨_,rfl⟩ .nil) λ_=>.cons (.int 0)<|.cons (.int 1) .nil⟩;exact⟨_,λs v=>.of_eq rfl,λbase _ _=>aPr T ⟨nz_COUNTS,_,_,lk_COUNTS,kl_COUNTS,.cons ⟨⟨_,rfl⟩,rfl⟩<|.cons ⟨⟨_,rfl⟩,rfl⟩<|.cons ⟨⟨_,rfl⟩,rfl⟩<|.cons ⟨⟨_,rfl⟩,rfl⟩<|.cons ⟨⟨_,rfl⟩,rfl⟩<|.cons ⟨⟨_,rfl⟩,rfl⟩<|.cons ⟨⟨_,rfl⟩,rfl⟩<|.cons ⟨⟨_,rfl⟩,rfl⟩<|.nil,(ax.2 ⟨xK (xs:=[(.int 3),(.int 62)]) lt0_COUNTS (bu<|bQ<|show 2<=1000 by decide) (.cons ⟨_,rfl⟩<|.cons ⟨_,rfl⟩<|.nil) λ_=>.cons (.int 3)<|.cons (.int 62)<|.nil,(ax.2 ⟨xK (xs:=[(.int 2),(.int 2)]) lt1_COUNTS (bu<|bQ<|show 2<=1000 by decide) (.cons ⟨_,rfl⟩<|.cons ⟨_,rfl⟩<|.nil) λ_=>.cons (.int 2)<|.cons (.int 2)<|.nil,(ax.2 ⟨xK (xs:=[(.int 1),(.int 1)]) lt2_COUNTS (bu<|bQ<|show 2<=1000 by decide) (.cons ⟨_,rfl⟩<|.cons ⟨_,rfl⟩<|.nil) λ_=>.cons (.int 1)<|.cons (.int 1)<|.nil,(ax.2 ⟨xK (xs:=[(.int 2),(.int 2)]) lt3_COUNTS (bu<|bQ<|show 2<=1000 by decide) (.cons ⟨_,rfl⟩<|.cons ⟨_,rfl⟩<|.nil) λ_=>.cons (.int 2)<|.cons (.int 2)<|.nil,(ax.2 ⟨xK (xs:=[(.int 4),(.int 4)]) lt4_COUNTS (bu<|bQ<|show 2<=1000 by decide) (.cons ⟨_,rfl⟩<|.cons ⟨_,rfl⟩<|.nil) λ_=>.cons (.int 4)<|.cons (.int 4)<|.nil,(ax.2 ⟨xK (xs:=[(.int 3),(.int 3)]) lt5_COUNTS (bu<|bQ<|show 2<=1000 by decide) (.cons ⟨_,rfl⟩<|.cons ⟨_,rfl⟩<|.nil) λ_=>.cons (.int 3)<|.cons (.int 3)<|.nil,(ax.2 ⟨xK (xs:=[(.int 4),(.int 4)]) lt6_COUNTS (bu<|bQ<|show 2<=1000 by decide) (.cons ⟨_,rfl⟩<|.cons ⟨_,rfl⟩<|.nil) λ_=>.cons (.int 4)<|.cons (.int 4)<|.nil,(ax.2 ⟨xK (xs:=[(.int 4),(.int 63)]) lt7_COUNTS (bu<|bQ<|show 2<=1000 by decide) (.cons ⟨_,rfl⟩<|.cons ⟨_,rfl⟩<|.nil) λ_=>.cons (.int 4)<|.cons (.int 63)<|.nil,(λ_ h=>nomatch h)⟩)⟩)⟩)⟩)⟩)⟩)⟩)⟩)⟩⟩
end My
namespace PySem.W.Fast
def tw4915662429043114572:=()
def tw2901020571736146876:=()
def tw5390632656695925161:=()
def tw11768326361391526688:=()
def tw13864942994053339713:=()
def tw13641169443900417466:=()
def tw12402308992934041599:=()
def tw9678199077272397165:=()
def tw12273294692244134594:=()
def tw11465379859047599800:=()
def tw17590831447001915337:=()
def tw10096855262549210916:=()
def tw11075818817395951193:=()
def tw4070052370186542590:=()
def tw7948994929274283614:=()
def tw17978094669588924672:=()
def tw5162257056954846669:=()
def tw5591012501483865388:=()
def tw16744104921135690257:=()
def tw5949024369105564724:=()
def tw12967491830234888534:=()
def tw16399058924519535374:=()
def tw1794591211682803689:=()
def tw5926196720134123678:=()
def tw10860061180503264346:=()
def tw17634313375517893179:=()
def tw2446988414122986433:=()
def tw17252446302976946401:=()
def tw16493269011985099110:=()
def tw6761878076188445682:=()
def tw9265173134975031791:=()
def tw6343298968183892982:=()
def tw12890959969897563595:=()
def tw3543930315303463926:=()
def tw5646771182848125950:=()
def tw9314269916778400932:=()
def tw14776893252737718338:=()
def tw10572637927132569572:=()
def tw1145213735986020067:=()
def tw11552629711785856816:=()
def tw7873152397836725857:=()
def tw471062551866404765:=()
def tw6942624035696688759:=()
def tw21065655016247376:=()
def tw11034518894427744521:=()
def tw1104223547226742981:=()
def tw15094122365844575839:=()
def tw178086705729635683:=()
def tw8610382400270797909:=()
def tw1130602193850970229:=()
def tw12248611239954855745:=()
def tw10706098092960956344:=()
def tw2750521261246108315:=()
def tw3243519928673931191:=()
def tw1544973804871292980:=()
def tw447344636615803603:=()
def tw9300778862557916411:=()
def tw10707019800208622106:=()
def tw9600307951297785592:=()
def tw17693237741648215050:=()
def tw13854502970970618941:=()
def tw9269383962052763620:=()
def tw14123960694298148504:=()
def tw10152304272254769246:=()
def tw2964090710590599035:=()
def tw11878209473470783319:=()
def tw4217746841983350741:=()
def tw4632869026099624060:=()
def tw16529896571032200337:=()
def tw702252867668378586:=()
def tw15236797592387675969:=()
def tw3860579979341360412:=()
def tw9391055496362556890:=()
def tw11486690599617394851:=()
def tw14899162467213439904:=()
def tw15546293063173270924:=()
def tw17471802519847329987:=()
def tw18097796385884851480:=()
def tw14652850610932985231:=()
def tw10531621885827310556:=()
def tw156700337111177119:=()
def tw9410907704628545936:=()
def tw1543553063056260273:=()
def tw1547650908909069415:=()
def tw4420589687166733676:=()
def tw17884302431209124599:=()
def tw7708385658096219687:=()
def tw17457612672269730270:=()
def tw2478121041503207319:=()
def tw13859526400537251766:=()
def tw4455140468754392773:=()
def tw11379714451525536235:=()
def tw915505605880077199:=()
def tw9199104071170581581:=()
def tw11659673743206901118:=()
def tw13722742688751956460:=()
def tw3049308668108611900:=()
def tw1031859814951238900:=()
def tw4029085665587177960:=()
def tw8954729844658179944:=()
def tw12091821415264338346:=()
def tw15323094927578099281:=()
def tw1517479903396796635:=()
def tw13419561281410354740:=()
def tw9631566588655501740:=()
def tw15323365921303185398:=()
def tw474298499695290829:=()
def tw1033582709431359546:=()
def tw10235217859663029296:=()
def tw4518156844449876510:=()
def tw13979212035707607091:=()
def tw6370992022779484018:=()
def tw17161033291202457759:=()
def tw6962831662767502846:=()
def tw15982977935574582236:=()
def tw15647844708476129010:=()
def tw9833329151636559991:=()
def tw10720999224453111034:=()
def tw13534468471804793026:=()
def tw2604187743626706109:=()
def tw4004072789500545165:=()
def tw9824159108760515102:=()
def tw88664504522790814:=()
def tw17034723354890632480:=()
def tw12531488204200925139:=()
def tw2099680259390268295:=()
def tw1582105276617798990:=()
def tw766660743639215076:=()
def tw7507975392414479991:=()
def tw2804199044727742092:=()
def tw5596983022530227419:=()
def tw17700002577481224876:=()
def tw730970607046591225:=()
def tw8833547782617078873:=()
def tw4145640803477176951:=()
def tw14562248584780821247:=()
def tw6376979443014323285:=()
def tw14191875529386834639:=()
def tw13530583182897154990:=()
def tw4898492652562020538:=()
def tw7052882399232896905:=()
def tw6550074279602531875:=()
def tw3155977127105045558:=()
def tw18330181873686472451:=()
def tw14650753318803229256:=()
def tw12407061034973562697:=()
def tw3368740597215661690:=()
def tw8227262951181479029:=()
def tw16893052301834924042:=()
def tw17376117937656408834:=()
def tw9085622025788194749:=()
def tw5242207247050665021:=()
def tw7536797815332415939:=()
def tw520841046703821501:=()
def tw3504173428008543319:=()
def tw14793897702397216180:=()
def tw7770688608101728774:=()
def tw13123033775590360361:=()
def tw15422950273412278044:=()
def tw10669735977326685430:=()
def tw7755692307425135303:=()
def tw15643526255844125989:=()
def tw8884145507881442368:=()
def tw2480152632233787464:=()
def tw5702387938683247881:=()
def tw2959946987249959266:=()
def tw16581487491647519664:=()
def tw16933100167397281847:=()
def tw678961329605334225:=()
def tw2445951421512488378:=()
def tw14863994552677279468:=()
def tw3304524103081560529:=()
def tw12961918658845866344:=()
def tw6281186716471791331:=()
def tw1680950705492363869:=()
def tw5836424859703975079:=()
def tw2467592448556005886:=()
def tw2692402054003205044:=()
def tw15514452690318331249:=()
def tw4887326981355645461:=()
def tw3360706846209095351:=()
def tw4227692655878848641:=()
def tw11580795383816016892:=()
def tw9332621166287134104:=()
def tw10089370228366598219:=()
def tw18256919052414316415:=()
def tw7275321504683828540:=()
def tw13771613257540370297:=()
def tw8861731106615398626:=()
def tw15374387583028477224:=()
def tw13438736243526568578:=()
def tw3155042013200369915:=()
def tw1645694958824052558:=()
def tw919312313179812664:=()
def tw2295728823701970670:=()
def tw3262773861505738799:=()
def tw12905696167602756285:=()
def tw12083588727981037713:=()
def tw309157285135614801:=()
def tw10433127342337630079:=()
def tw7690974319254252689:=()
def tw18385691414882144935:=()
def tw8461239092719387444:=()
def tw8483332054743710998:=()
def tw15362618157923001110:=()
def tw14921299526895100229:=()
def tw6007456830889409353:=()
def tw11571404213967437503:=()
def tw5082844319690415808:=()
def tw16499260198117712828:=()
def tw2784511479956390228:=()
def tw9822644768926595153:=()
def tw4426196656714066988:=()
def tw5004823299206135460:=()
def tw17302179849119805089:=()
def tw15647116607421815849:=()
def tw3542143810338889280:=()
def tw2322353280489918299:=()
def tw14377511521117212955:=()
def tw18224459227205880569:=()
def tw13702684105435531858:=()
def tw2443993201540413250:=()
def tw4454691449849065070:=()
def tw10136641715370253172:=()
def tw8277492325011574053:=()
def tw12311532774526030581:=()
def tw2290503426481579496:=()
def tw8377286866802435522:=()
def tw4502902133417955515:=()
def tw4234413920434049451:=()
def tw7902764523556631590:=()
def tw2820688004530427259:=()
def tw962306982840735303:=()
def tw1224609522409698405:=()
def tw13396188184026724707:=()
def tw4365647167793156617:=()
def tw18125903226519183324:=()
def tw14604624220597240686:=()
def tw10074730650742729193:=()
def tw13427275042792622290:=()
def tw17376115217762800893:=()
def tw10479444563171949544:=()
def tw7032018633114823252:=()
def tw392155046840044675:=()
def tw5200278829478517003:=()
def tw7651362626180517228:=()
def tw13375160552512702296:=()
def tw2788157709058539258:=()
def tw7271208370400050137:=()
def tw8145020180764912752:=()
def tw13915832229694508001:=()
def tw8890753570128660747:=()
def tw8672090931005170649:=()
def tw7266711386731228416:=()
def tw6433509657168572919:=()
def tw6305349522109598380:=()
def tw5395959465680573751:=()
def tw3505235125515567318:=()
def tw2542911103360012917:=()
def tw17140677549432194158:=()
def tw11797412707780246592:=()
def tw5996239840221192369:=()
def tw10848614519651603367:=()
def tw5655198440673223833:=()
def tw8739878824670513454:=()
def tw14263839548449884875:=()
def tw6709260813716210231:=()
def tw9586966987149896370:=()
def tw10149373714373153749:=()
def tw12400217517563598769:=()
def tw10435339308286444389:=()
def tw9439834098435223885:=()
def tw14995010708212343552:=()
def tw14381641627545876129:=()
def tw6585458169772968433:=()
def tw14826290445707648577:=()
def tw10262284935172393356:=()
def tw10918086078288604804:=()
def tw13900852542992167297:=()
def tw12862825522822608359:=()
def tw11306679361906766250:=()
def tw14390264363488242304:=()
def tw12933631838652670628:=()
def tw7023330591600042874:=()
def tw4013069870735846905:=()
def tw11970873060808010070:=()
def tw10832510991383131645:=()
def tw7353925002289509422:=()
def tw2537560217083527470:=()
def tw10815702251543962562:=()
def tw9930892660136568273:=()
def tw5549096972224822307:=()
def tw2883324719951665410:=()
def tw11550498801726291356:=()
def tw14889732992433555990:=()
def tw12277875239993251537:=()
def tw11067910225737434405:=()
def tw17833157746563306931:=()
def tw9798646700968962171:=()
def tw15853443899073006494:=()
def tw1006732589729309530:=()
def tw7060246251252102104:=()
def tw1828615776974845347:=()
def tw15070761521781336561:=()
def tw9233369634011567900:=()
def tw17965484375294493232:=()
def tw14596919484018258908:=()
def tw1867992086772356175:=()
def tw5244790083624731069:=()
def tw14210660105543588582:=()
def tw11246550466881818789:=()
def tw8571705751103787426:=()
def tw14027939579000048508:=()
def tw13671111820468437235:=()
def tw1293174555935467314:=()
def tw8300075993385842793:=()
def tw9471572078189097921:=()
def tw11180517499980749817:=()
def tw11160326273180268689:=()
def tw8689974081283464862:=()
def tw1625713803619701478:=()
def tw3523490024989511941:=()
def tw199004015480709970:=()
def tw1595241095177363867:=()
def tw15124829061493893434:=()
def tw11683872998669257969:=()
def tw11136651313458723212:=()
def tw8605183071205138791:=()
def tw17297365281557418543:=()
def tw14729752608928638876:=()
def tw14269649222508928899:=()
def tw13574577235166923312:=()
def tw10490551271063627704:=()
def tw9106423259189372601:=()
def tw6789720787731189837:=()
def tw5579701409185437104:=()
def tw16322137611469948514:=()
def tw15962224888102704026:=()
def tw3162184830509942192:=()
def tw10639732367574861575:=()
def tw3075764288776489010:=()
def tw17921205554811183765:=()
def tw15473943755802753692:=()
def tw5381601839933876254:=()
def tw2421483612892090684:=()
def tw2146894185763651812:=()
def tw17198595255336853875:=()
def tw16026346840004328080:=()
def tw10758810414827478843:=()
def tw5976017503306582811:=()
def tw2620483156839507723:=()
def tw574328660226977971:=()
def tw9742169103649012898:=()
def tw16482248497881406019:=()
def tw8203629906565349658:=()
def tw3829439929109993654:=()
def tw16651362015934729960:=()
def tw14537213125986987089:=()
def tw7201600379483635406:=()
def tw5117424576017335429:=()
def tw15395959802965674113:=()
def tw13695821305063373291:=()
def tw13106201654401471050:=()
def tw10440093685056733900:=()
def tw15720602621866044440:=()
def tw885078699755031094:=()
def tw6302013300846722639:=()
def tw17503102465046233762:=()
def tw16186348371302652804:=()
def tw13790244064517898977:=()
def tw15836326204148622011:=()
def tw16707719845901933215:=()
def tw2715651901216546179:=()
def tw18014627412161641091:=()
def tw1434289063189698652:=()
def tw13148195367933454513:=()
def tw9384926675088888412:=()
def tw6375939585983783865:=()
def tw16675603019713884883:=()
def tw6172430881887435276:=()
def tw2524451085460149728:=()
def tw15710962712999987781:=()
def tw8724033874850479917:=()
def tw8577300158479041702:=()
def tw7745709249433373155:=()
def tw16113786441076711511:=()
def tw1951628571221253075:=()
def tw1599719376212795709:=()
def tw8148340358878315477:=()
def tw3225950922515071292:=()
def tw919693239077859389:=()
def tw5456277958477158287:=()
def tw4402518537549967129:=()
def tw17698528694803150147:=()
def tw16218094265804762213:=()
def tw15767406842360241331:=()
def tw13999672234877839818:=()
def tw10977180206366857135:=()
def tw1072539196678355267:=()
def tw5800493526204745230:=()
def tw9358409460470367547:=()
def tw4911467019143919840:=()
def tw18410935536110313527:=()
def tw10203022269869814404:=()
def tw4470892904881852991:=()
def tw1751602836480904502:=()
def tw7792429807032272684:=()
def tw865568727189644743:=()
def tw17168161363495249559:=()
def tw7733129955627964922:=()
def tw4882966401283402224:=()
def tw12881829602584994652:=()
def tw14481648080163719330:=()
def tw9718630903824037326:=()
def tw1029363758229792058:=()
def tw8285509259202490308:=()
def tw12136815472853234663:=()
def tw6594955020822617665:=()
def tw9695974375002994387:=()
def tw15726810050458775582:=()
def tw5704493310038176798:=()
def tw5602056433249034704:=()
def tw3711634868363235005:=()
def tw12187992036842559780:=()
def tw18078484403454801382:=()
def tw9854721772663370199:=()
def tw17402726576268455097:=()
def tw10108058693171850988:=()
def tw8683294219733030903:=()
def tw5118788324361850303:=()
def tw11721557972273013989:=()
def tw8736668297284060494:=()
def tw18041526926763143568:=()
def tw3497012250245447683:=()
def tw5022862993126602452:=()
def tw16851713932070209534:=()
def tw1602139827203828970:=()
def tw15564672184348475599:=()
def tw11797815075167482896:=()
def tw11575685135324482833:=()
def tw10157311759488569913:=()
def tw7663677290332620578:=()
def tw6976309473763024111:=()
def tw17924617251132969324:=()
def tw2120810206658714364:=()
def tw12977286422312774707:=()
def tw14805034113456394816:=()
def tw6816902985200475431:=()
def tw865632863156217183:=()
def tw1757187370264234226:=()
def tw13251472412809417288:=()
def tw10155965619420582558:=()
def tw7675358666537259452:=()
def tw16839605663544317382:=()
def tw8374158630957362843:=()
def tw10354733293098273251:=()
def tw8577130565830467179:=()
def tw215302786221103375:=()
def tw17653969802096251916:=()
def tw15557113217256561740:=()
def tw13746841178163666109:=()
def tw10184369082227246534:=()
def tw998968441956221890:=()
def tw16893803961776502481:=()
def tw272837447230897186:=()
def tw10909066261592947974:=()
def tw7510718810028237799:=()
def tw4947214413056469711:=()
def tw4629404984022453610:=()
def tw14557760424423707074:=()
def tw14540753499995560904:=()
def tw14303681707110013985:=()
def tw13962644421383326568:=()
def tw13557626084886828130:=()
def tw13268470993233546122:=()
def tw13089143847855510699:=()
def tw11625893315098037918:=()
def tw8265978564955545837:=()
def tw8115424059572201381:=()
def tw708596145882083463:=()
def tw5450502400169045192:=()
def tw2699248928065249137:=()
def tw221288390887209449:=()
def tw17548344965353182012:=()
def tw17059900645142988406:=()
def tw1543093955794052025:=()
def tw11970230223704901806:=()
def tw8372092643958637492:=()
def tw7706432432089616085:=()
def tw12134874512488720667:=()
def tw8108993028817383037:=()
def tw7464106790636469672:=()
def tw6389211284828939606:=()
end PySem.W.Fast
end
open PySem PySem.W PyProof.Rows
set_option maxRecDepth 100000 in
set_option maxHeartbeats 0 in
theorem PySem.Challenge.cw_leastmiss_k74_desk_answers_holds : PySem.Challenge.rw_leastmiss_k74_desk_answers.Holds := by
  w_on;o_law;k_head;(case hw=>w_witness2)
  k_fill
  refine Lx.walkB (l:=PySem.Challenge.rw_leastmiss_k74_desk_answers) (k:=16) rfl rfl ⟨rfl,by decide,by decide⟩ (λw h Y=>PySem.W.kIn_of Y) ?F
  case F=>
    intro w d e h b G a
    refine' My.all_mk b G a ?oa_Desk ?pg_Desk ?hd_Desk ?po_Desk ?sa_Desk ?mk_Desk ?kc_Desk ?na_Desk ?Fs ?Fl ?a87 ?i87 ?F87 ?a88 ?i88 ?F88 ?a89 ?i89 ?F89 ?a90 ?i90 ?F90 ?ax_MissError ?xx_MissError ?ax_NoNumber ?xx_NoNumber ?ax_NoMarks ?xx_NoMarks ?ax_NoKind ?xx_NoKind ?ax_NoBend ?xx_NoBend ?ax_NoAnswer ?xx_NoAnswer ?ax_NoText ?xx_NoText ?ax_NoName ?xx_NoName ?ax_NoRow ?xx_NoRow ?xkg_NoKind ?xka_NoKind ?xkc_NoKind ?xko_NoKind ?xkb_NoKind ?em_NoKind_MissError ?kt_NoKind_NoKind ?kt_NoKind_NoBend ?z_abs ?z_all ?z_bool ?z_enumerate ?z_int ?z_isinstance ?z_len ?z_list ?z_max ?z_min ?z_range ?z_reversed ?z_sorted ?z_str ?z_sum ?z_zip ?zc_COUNTS ?lk_COUNTS ?lt0_COUNTS ?lt1_COUNTS ?lt2_COUNTS ?lt3_COUNTS ?lt4_COUNTS ?lt5_COUNTS ?lt6_COUNTS ?lt7_COUNTS ?kl_COUNTS ?nz_COUNTS ?zc_FIGURES ?zc_KINDS ?lk_KINDS ?zc_LETTERS ?zc_MOST_BEND ?zc_MOST_FIGURES ?zc_MOST_LETTERS ?zc_MOST_MARKS ?zc_MOST_NUMBERS ?zc_MOST_STEPS ?zc_NOUGHT ?lk_NOUGHT
    (case oa_Desk=>k_is)
    (case pg_Desk=>k_is)
    (case hd_Desk=>k_is)
    (case po_Desk=>k_is)
    (case sa_Desk=>k_is)
    (case mk_Desk=>k_is)
    (case kc_Desk=>k_is)
    (case na_Desk=>k_is)
    (case Fs=>dsimp only[My.FsP,My.tb];(repeat' (first|exact trivial|apply And.intro)) <;>(refine' ⟨_,_,?xy⟩;(case xy=>refine' My.fg_mk ?xa ?xl ?xc ?xk;(case xa=>k_is);(case xl=>k_is);(case xc=>k_is);(case xk=>k_is))))
    (case Fl=>refine' My.fg_mk ?xa ?xl ?xc ?xk;(case xa=>k_is);(case xl=>k_is);(case xc=>k_is);(case xk=>k_is))
    (case a87=>k_is)
    (case i87=>k_is)
    (case F87=>refine' L2.fun_mk ?l ?c ?k;(case l=>k_is);(case c=>k_is);(case k=>k_is))
    (case a88=>k_is)
    (case i88=>k_is)
    (case F88=>refine' L2.fun_mk ?l ?c ?k;(case l=>k_is);(case c=>k_is);(case k=>k_is))
    (case a89=>k_is)
    (case i89=>k_is)
    (case F89=>refine' L2.fun_mk ?l ?c ?k;(case l=>k_is);(case c=>k_is);(case k=>k_is))
    (case a90=>k_is)
    (case i90=>k_is)
    (case F90=>refine' L2.fun_mk ?l ?c ?k;(case l=>k_is);(case c=>k_is);(case k=>k_is))
    (case ax_MissError=>k_is)
    (case xx_MissError=>k_exc)
    (case ax_NoNumber=>k_is)
    (case xx_NoNumber=>k_exc)
    (case ax_NoMarks=>k_is)
    (case xx_NoMarks=>k_exc)
    (case ax_NoKind=>k_is)
    (case xx_NoKind=>k_exc)
    (case ax_NoBend=>k_is)
    (case xx_NoBend=>k_exc)
    (case ax_NoAnswer=>k_is)
    (case xx_NoAnswer=>k_exc)
    (case ax_NoText=>k_is)
    (case xx_NoText=>k_exc)
    (case ax_NoName=>k_is)
    (case xx_NoName=>k_exc)
    (case ax_NoRow=>k_is)
    (case xx_NoRow=>k_exc)
    (case xkg_NoKind=>k_is)
    (case xka_NoKind=>k_is)
    (case xkc_NoKind=>k_is)
    (case xko_NoKind=>k_is)
    (case xkb_NoKind=>k_is)
    (case em_NoKind_MissError=>kts_exm)
    (case kt_NoKind_NoKind=>kit_is)
    (case kt_NoKind_NoBend=>kit_is)
    (case z_abs=>k_is)
    (case z_all=>k_is)
    (case z_bool=>k_is)
    (case z_enumerate=>k_is)
    (case z_int=>k_is)
    (case z_isinstance=>k_is)
    (case z_len=>k_is)
    (case z_list=>k_is)
    (case z_max=>k_is)
    (case z_min=>k_is)
    (case z_range=>k_is)
    (case z_reversed=>k_is)
    (case z_sorted=>k_is)
    (case z_str=>k_is)
    (case z_sum=>k_is)
    (case z_zip=>k_is)
    (case zc_COUNTS=>k_is)
    (case lk_COUNTS=>k_is)
    (case lt0_COUNTS=>k_is)
    (case lt1_COUNTS=>k_is)
    (case lt2_COUNTS=>k_is)
    (case lt3_COUNTS=>k_is)
    (case lt4_COUNTS=>k_is)
    (case lt5_COUNTS=>k_is)
    (case lt6_COUNTS=>k_is)
    (case lt7_COUNTS=>k_is)
    (case kl_COUNTS=>exact⟨⟨_,_,rfl,rfl⟩,⟨⟨_,_,rfl,rfl⟩,⟨⟨_,_,rfl,rfl⟩,⟨⟨_,_,rfl,rfl⟩,⟨⟨_,_,rfl,rfl⟩,⟨⟨_,_,rfl,rfl⟩,⟨⟨_,_,rfl,rfl⟩,⟨⟨_,_,rfl,rfl⟩,trivial⟩⟩⟩⟩⟩⟩⟩⟩)
    (case nz_COUNTS=>rfl)
    (case zc_FIGURES=>k_is)
    (case zc_KINDS=>k_is)
    (case lk_KINDS=>k_is)
    (case zc_LETTERS=>k_is)
    (case zc_MOST_BEND=>k_is)
    (case zc_MOST_FIGURES=>k_is)
    (case zc_MOST_LETTERS=>k_is)
    (case zc_MOST_MARKS=>k_is)
    (case zc_MOST_NUMBERS=>k_is)
    (case zc_MOST_STEPS=>k_is)
    (case zc_NOUGHT=>k_is)
    (case lk_NOUGHT=>k_is)
