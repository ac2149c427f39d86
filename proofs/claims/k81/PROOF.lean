import PyProof.Rows.All
import KE.LcSums
import KE.KIntText
import KE.KSortAsk
import KE.KRevIter
import KE.KIsAll
import KE.IntBitsLaws
import PySem.Challenge.RW_leastmiss_k81_whole_bent_lines_by_text
set_option Elab.async false
set_option linter.all false
set_option maxRecDepth 100000
set_option autoImplicit true
set_option maxHeartbeats 0
set_option compiler.extract_closed false
noncomputable section
open List (range getD Pairwise take drop length foldl pairwise_lt_range)
open PySem.Heap (SameBut IsList)
open Int (toNat natAbs)
def qq3(q:Array Lean.Term)(s:String):Lean.Term:=
 let a:=((s.splitOn " ").foldl (λ(k:List (Array Lean.Term)) y=>match y,k with
  |"(",k=>#[]::k
  |")",a::b::k=>(b.push (Lean.Syntax.mkApp a[0]! (a.extract 1 a.size)))::k
  |y,a::k=>(a.push (if y=="?" then q[0]! else if y=="_" then q[1]! else if y=="%" then q[2]! else if y=="@" then q[3]! else ⟨Lean.mkIdent y.toName⟩))::k
  |_,k=>k) [#[]]).head!
 Lean.Syntax.mkApp a[0]! (a.extract 1 a.size)
def qq4(q:Array Lean.Term)(s:String):Lean.MacroM (Array (Lean.TSyntax `tactic)):=(s.splitOn "|").toArray.mapM λx=>do
 let w:=x.startsWith "!"
 let y:=qq3 q (if w then (x.drop 1).toString else x)
 let z<-if x.contains '?' then `(tactic|refine' $y) else `(tactic|exact $y)
 if w then `(tactic|with_reducible $z:tactic) else pure z
open Option renaming some->γ,none->ν,isSome_iff_exists->pA,map_eq_some_iff->rg,getD_none->wx,map_some->x8,isSome_map->yt,getD_some->zh
open _root_ renaming List->ε,Rat->θ,if_neg->ι,Nat->π,if_pos->ρ,Int->χ,absurd->ψ,Option->Θ,False->ag,decide_eq_false->aA,decide_eq_true->cD,congrArg->ea,beq_eq_false_iff_ne->ei,of_decide_eq_true->fb,beq_self_eq_true->fu,or_false->gz,decide_eq_true_eq->kr,beq_iff_eq->kx,decide_eq_false_iff_not->me,if_true->mi,if_false->qf,True->wj,decide_eq_decide->xf,and_true->AL,not_or->By
open PySem.Str renaming ofString->ζ,length_append->Φ,cps_append->uc
open List renaming length_map->η,mem_cons_of_mem->ο,mem_cons_self->υ,mem_map->Β,getElem?_eq_some_iff->Δ,length_cons->Ε,zipWith_cons_cons->Κ,length_append->Λ,map_cons->Μ,getD_eq_getElem?_getD->Ο,mem_cons->Υ,mem_of_getElem?->Ω,zipWith->af,getElem?_eq_getElem->ah,length_take->ao,getElem_mem->ax,length_drop->az,length_zipWith->ba,replicate->bp,mem_singleton->br,size_toArray->bt,map_append->bu,append_assoc->bx,take_of_length_le->bA,mem_append_right->cc,mem_append->cj,getElem_of_mem->cn,mem_of_mem_take->cv,length_range->cw,getElem?_append_right->cx,map_congr_left->df,mem_range->di,getElem_map->dr,length_zip->dR,not_mem_nil->dV,length_replicate->eg,of_mem_zip->eh,getElem?_append_left->ek,getElem?_map->el,nodup_iff_pairwise_ne->er,cons_append->fi,pairwise_iff_getElem->fj,pairwise_cons->fv,drop_eq_getElem_cons->gm,lookup_cons->gp,length_eq_zero_iff->gq,filter_cons_of_pos->gv,forall_mem_cons->gw,getElem_range->hE,map_map->ia,mem_append_left->ib,getElem?_set_ne->ic,nil_append->ij,filter_cons_of_neg->ip,reverse_cons->iq,pairwise_map->iu,filterMap_cons->ix,replicate_succ->iy,getElem?_zip_eq_some->i9,getElem?_set_self->ja,getElem_zipWith->jh,take_append_drop->jq,ext_getElem->j1,append_nil->j2,mem_eraseIdx_iff_getElem->j8,zip_cons_cons->ka,length_reverse->kb,take_length->kh,pairwise_append->kq,mem_filter->ku,nodup_cons->ky,length_singleton->k9,getElem?_take_of_lt->lj,mem_of_mem_eraseIdx->lr,mem_replicate->l4,length_set->l9,getElem_zip->mf,flatten_cons->mj,eraseIdx_eq_take_drop_succ->mu,drop_zero->mx,mem_filterMap->m8,mem_reverse->ng,mem_of_mem_drop->ny,take_sublist->n3,find?_cons->oj,map_take->ou,range_succ->oz,getElem_append_right->pa,map_nil->pd,all_eq_true->pe,map_reverse->px,getElem_replicate->pz,getElem?_drop->qa,getElem_append_left->qb,getElem?_replicate->qd,getElem?_reverse->qj,getElem?_eq_none->qk,zipWith_nil_left->qr,perm_append_comm->qv,drop_drop->qx,take_add_one->rj,foldl_append->ro,getElem_take->rx,length_eraseIdx->r6,length_dropLast->r8,getElem?_toArray->se,dropLast_eq_take->si,map_drop->tf,getElem?_of_mem->tq,map_zipWith->t8,reverse_reverse->t9,zip_eq_zipWith->ud,drop_left->ue,flatMap_append->uf,length_pos_iff->ug,length_nil->u2,filterMap_map->u7,find?_toArray->u9,map_singleton->vc,flatMap_cons->v8,getElem?_set->v9,pairwise_lt_range->wa,reverse_perm->wb,filter_cons->wy,zipIdx_cons->w8,mem_flatMap->xg,nil_sublist->xh,drop_length->xp,foldl_cons->xu,zipIdx_nil->yc,forIn_cons->ye,head?_cons->yh,any_cons->yr,forIn_nil->y2,sum_cons->y4,take_left->y8,all_map->zz,map_id'->zA,map_id->AR
open PySem renaming PyData->μ,wpAny_bind->ξ,Value->Γ,Addr->Ζ,Shared->aj,wpAny_pure->aq,wpAny->ar,Str->bf,wpAny_mono->fk,Heap->gy,mem_of_lookup->hB,wpAny_truthy_bool->hJ,wpAny_seqItems->iz,wpAny_nextOf_list_item->jl,wpAny_holding->jm,wpAny_field->jn,wpAny_passesOwn->jw,wpAny_pyIter_list->jy,wpAny_getItem_str_slice->kc,call_meets->ki,wpAny_setField_rec->kl,World->kn,wpAny_onRaise->lu,boot_len->l0,wpAny_Call_Name_kw->l7,typeIs_str->l8,wpAny_nextOf_list_end->mv,wpAny_pyIter_zip->my,wpAny_standAt->m4,wpAny_letGo->nc,wpAny_execs_nil->nj,wpAny_specialOf->nk,wpAny_ite_split->nq,post_val_or_str->nt,tupleKind_room_in1->om,wpAny_getItem_list_slice->p0,wpAny_comprehension_free->p5,wpAny_callSpecial?_slot->ql,wpAny_pyNext_range_end->qy,wpAny_pyIter_rangeiter->qz,codeAny_mono->rb,wpAny_isTrue_Compare1->r9,builtinLookup_eq_fast->sd,wpAny_pyIter_revIter->tj,intText_digits->ua,evalPart_none->uo,wpAny_pyIter_range->uy,call_reversed_list->u5,Tok->vh,wpAny_assign_Name->vj,wpAny_newObj_type->vm,seqIndex_neg->vp,intText_neg->we,wpAny_execs_cons->wk,wpAny_getItem_of->wz,wpAny_isInstance->w6,wpAny_call_entry->xa,seqIndex_of->xk,typeLookup_type->x9,wpAny_updateSeq->ya,wpAny_Name->yk,wpAny_rule->yl,wpAny_bindName->ym,typeIs_int->yq,wpAny_notIn_of->yu,wpAny_newEntry->yv,call_list_seq->zc,wpAny_attempt->zd,sizeLine_eq->AH,wpAny_Slice->AJ,wpAny_call->A6,strKind_is->BB
open PySem.W renaming Frag->ς,mg_none_of->gh,mg_of->ie,kia_one->jx,hideAll_get->uj,plainGet_of->um,cellsFrom_some->wq,kitx_list->xj,hideAll_none->yj,of_hideAll->zi,kitx_tuple->zk,callWith_K->zl,kitx_dict->AI,mapOf_K->BM
open Nat renaming le_refl->ω,le_trans->Α,pow_le_pow_right->Ρ,mul_le_mul->Τ,mul_le_mul_left->Χ,mul_le_mul_right->Ψ,lt_of_lt_of_le->av,le_of_lt->cg,dvd_refl->dA,pos_of_ne_zero->dX,lt_of_le_of_lt->eH,pow_succ->eT,mul_comm->fm,mul_pos->fq,dvd_mul_right->fx,le_mul_of_pos_right->gg,mul_assoc->gi,pow_le_pow_left->gx,ne_of_lt->ig,pow_zero->ir,dvd_mul_left->iv,zero_le->iw,one_mul->jc,pow_add->jd,min_eq_left->je,exists_eq_add_of_le->jf,add_sub_cancel_left->jg,lt_irrefl->jo,pow_pos->jt,mul_one->ju,lt_or_gt_of_ne->k6,pow_dvd_pow->k8,gcd_pos_of_pos_left->lq,add_mul->l5,succ_mul->mm,lt_trans->m9,gcd_dvd_left->n4,dvd_trans->oa,not_lt_zero->og,le_mul_of_pos_left->ot,sub_self->oy,div_le_self->pf,add_comm->qg,le_add_right->qm,succ_le_succ->qo,mul_dvd_mul_left->qu,pow_mul->rq,add_sub_cancel->t7,mul_left_comm->uu,eq_zero_or_pos->u3,add_right_comm->va,one_le_pow->vd,ne_of_gt->vn,gcd_dvd_right->vw,add_sub_of_le->v5,mul_add->v7,lt_trichotomy->wg,lt_succ_self->wo,le_of_dvd->wR,le_self_pow->yg,log2_lt->yi,sub_zero->yy,max_le->y6,add_assoc->zf,le_of_eq->zj,mul_succ->zw,dvd_zero->AM,le_zero->AO,pow_one->AQ,not_lt->A7,one_dvd->BI
open PySem.Txt renaming partition->Η,contains->bo,slice->et,slice_le->ik
open Rat renaming intCast_natCast->Ι,mul_nonneg->Ν,intCast_mul->ae,le_refl->au,intCast_le_intCast->bh,divInt->bz,le_of_lt->cq,intCast_neg->ee,pow_succ->eo,one_mul->fh,mul_zero->fo,natCast_mul->fy,intCast_pos->gb,mul_eq_zero->gc,mul_one->gf,div_mul_cancel->gj,mul_pos->gu,intCast_nonneg->hF,mul_inv_cancel->i5,div_def->jb,add_zero->ji,not_lt->jk,pow_zero->js,intCast_add->j0,mul_assoc->j9,zero_mul->kf,num_nonneg->ma,mul_lt_mul_of_pos_right->md,num_divInt_den->mq,sub_eq_add_neg->mr,mul_le_mul_of_nonneg_right->mw,mul_comm->n6,not_le->oD,intCast_sub->pw,le_total->qi,intCast_eq_zero_iff->qq,num_eq_zero->sy,inv_mul_cancel->tx,divInt_eq_div->ur,lt_irrefl->uv,den_divInt->u4,le_trans->vA,zero_add->vR,natCast_add->xm,le_antisymm->xt,num_divInt->yx,add_assoc->ze,ext->zp,inv_pos->zu,neg_mul->AN,lt_iff->A8
open PySem.Heap renaming get?_push_of_some->Ξ,get?_push_size->aw,lt_size->cu,get?_update_other->mh,size_push->n7,get?_update_self->qe
open PySem.PyData renaming tuple->ay,str->dB,int->ep,list->gk
open Bool renaming false_ne_true->bg,and_eq_true->jz,eq_iff_iff->ko,and_self->ly,not_false->ow,false_eq_true->p8,and_true->p9,and_eq_false_iff->qw,not_eq_true'->rh,true_and->uq,or_eq_true->xx,or_false->zb
open PySem.Builtin.Int renaming intBits->bj
open Option.some renaming inj->bw,injEq->BF
open PySem.Value renaming ref->cb,int->qc
open PySem.Builtin.Str renaming occurrences->cf
open Int renaming gcd->ck,natAbs_mul->dj,natAbs_natCast->en,toNat_natCast->ft,mul_ne_zero->kg,fdiv_eq_ediv_of_nonneg->kj,mul_fdiv_cancel_left->kz,natCast_ediv->mn,mul_pos->ni,tdiv_eq_ediv_of_dvd->nz,sign_eq_one_of_pos->oo,mul_one->pb,emod_nonneg->pq,mul_ediv_cancel_left->p6,divExact_eq_tdiv->qh,gcd_natCast_natCast->qp,le_trans->ri,add_zero->rz,natCast_mul->r4,natAbs_neg->sj,one_mul->sv,ofNat_dvd_left->sx,emod_lt_of_pos->tp,le_of_lt->vq,lt_trans->vr,gcd_comm->vt,gcd_dvd_right->vu,natAbs_add_le->vx,gcd_dvd_left->w4,natAbs_pow->y3,pow_zero->zr,pow_succ->zt,zero_add->zv,sub_zero->zx,mul_comm->zy
open PyProof.Rows renaming callWith_type1->dh,assignInOrder_cons->oi,subscriptTail_builtinR->rf,boot_list->rk,signs_ofString->ub,Subscript_->uR,toString_length_le->ve,assignInOrder_nil->vk,slice_closes_from->wc,callWith_builtin1->wu,boot_isinstance->yf,Call_->yn,boot_range->yo,tail_any->yp,floordiv_int->zm,boot_bool->zq,boot_abs->z0,boot_int->As,boot_min->AA,boot_max->AB,isTrue_and->A0,find_whole->BD
open PySem.Builtin.Range renaming rangeSize->eu
open False renaming elim->ew
open Decidable renaming not_not->h8
open Array renaming getElem?_eq_some_iff->jr,getElem?_eq_getElem->jv,getElem?_toList->sf,length_toList->uk,toList_append->uw,append_assoc->ux,ext'->A9
open PySem.F renaming plainAttrs_str->ke,slot_str_split->la,slot_zip_next->nr,slot_str_join->nv,args_str_split_2->ov,entry_str_split->ph,plainAttrs_list->pj,type_str_join->r0,excBase_ValueError->sr,slot_str_partition->tm,slot_list_append->u1,slot_list_insert->u6,args_zip_next_1->vy,slot_list_index->vz,entry_zip_next->xb,type_str_split->xc,slot_int_rmul->xw
open Classical renaming byContradiction->lb,epsilon_spec->ry
open PySem.Calls renaming Name_function_global->oh,evalArgs_plain->sk,spliced_cons->uz,spliced_nil->vo
open PySem.PassesOwn renaming leaving->pk
open PyProof renaming noPylong_of_log2->p4,noPylong_small->zo
open PySem.AutoListH renaming list_insert_list_int_val_1->rn,list___mul___list_int_3->vf
open PySem.StrLaws renaming partsBetween_eq->uh,sub_whole->wh,subAt_eq->xi,strSub_toList->AD,glued_eq_join->AE,partsFrom_ne->AS,joinTotal->BG,found_one->BJ,occ_tight->BN
open PySem.Paired renaming length->ui,snoc->AK
open PySem.Heap.IsSliceOf renaming new->u0
open PySem.SeqAt renaming notIn_tuple_reads->xq,in_list_reads->za
open List.cons renaming injEq->xy
open Subtype renaming ext_iff->yb
open PySem.IntMulOk renaming of_le->yw
open PySem.Walks renaming list->yz,range->AF
open PySem.NumText renaming toDigits_digitsVal->y9
open PyProof.Rows.IsTup renaming new->zg
open List.Perm renaming append_left->AC
open PySem.IsRange renaming new->AG
open PySem.EqMixed renaming eq_bool_str->AU,eq_str_bool->AV,ne_bool_str->AW,ne_str_bool->AX,eq_int_str->A1,eq_str_int->A2,ne_int_str->A3,ne_str_int->A4
open PySem.SeqAt.EqAt renaming int_str->AY,str_int->AZ
open PySem.P renaming str_of_int->A5,add_list->BL
open PySem.Reads renaming unique->BA
open List.Nodup renaming sublist->BC
open PySem.Heap.Ns1 renaming of_empty->BE
open Iff renaming rfl->BH
open PySem.IsL renaming update->BK
open PySem.Heap.DictOf renaming new->BO
open Prod renaming ext->BP
open Prod.mk renaming injEq->BQ
open PySem.W.Looks renaming here->BR
open Sum.inl renaming inj->BS
open Sum.inr renaming inj->BU
open PySem.ItemsOf renaming nil->BV
local macro_rules|`(‹$n:num›)=>`((by exact $n:num))
local macro_rules|`(tactic|exact $n:num)=>do
 let q:=#[<-`(?_),<-`(_),<-`(by decide),<-`(‹_›)]
 let s:="Nat.le_of_lt @|Nat.le_trans @ %|Nat.le_trans @ @|Nat.le_succ_of_le @|Nat.lt_of_le_of_lt @ @|Nat.lt_trans @ @|Nat.lt_of_le_of_lt @ %|Nat.le_sub_one_of_lt @|Nat.add_lt_of_lt_sub @|Nat.add_lt_of_lt_sub' @|Nat.le_trans ( Nat.le_of_eq @ ) ( Nat.le_trans @ % )|Nat.le_trans @ ( Nat.le_trans @ % )|Nat.lt_of_le_of_lt ( Nat.sub_le _ _ ) @|Nat.lt_of_le_of_ne ( Nat.le_of_lt_succ @ ) @|Int.natAbs_sub_le _ _|Iff.mpr Int.natAbs_pos @|Iff.mpr Int.natAbs_ne_zero @|Nat.lt_of_lt_of_le @ ( Nat.min_le_left _ _ )|Nat.lt_of_lt_of_le @ ( Nat.min_le_right _ _ )|Iff.mpr Int.ofNat_le @|Iff.mp Int.ofNat_le @|Int.ne_of_gt @|Nat.add_sub_of_le @|Eq.symm ( Nat.add_sub_of_le @ )|Iff.mp Nat.not_lt @|Iff.mpr Nat.not_lt @|Iff.mpr Nat.not_le @|Iff.mp Int.not_lt @|Iff.mpr Int.ofNat_ne_zero @|Int.natCast_nonneg _|Eq.symm ( Int.ofNat_natAbs_of_nonpos ( Int.le_of_lt @ ) )|Nat.sub_lt @ %|Eq.symm ( Int.toNat_of_nonneg @ )|Int.sub_nonneg_of_le @|Nat.ne_of_gt @|Nat.ne_of_lt @|Int.le_of_lt @|Nat.zero_lt_of_lt @|!Nat.lt_of_lt_of_eq @ @|!absurd @ ( Nat.not_lt_zero _ )|Rat.le_of_lt @|Rat.ne_of_gt @|Rat.ne_of_lt @|Rat.le_trans @ @|Rat.add_nonneg @ @|Rat.mul_comm _ _|Rat.mul_assoc _ _ _|Eq.symm ( Rat.mul_assoc _ _ _ )"
 let b<-qq4 q "Nat.sub_add_cancel ?|Eq.symm ( Nat.sub_add_cancel ? )|Nat.sub_lt_sub_right ? ?|Nat.lt_sub_of_add_lt ?|Nat.min_eq_left ?|Nat.add_sub_of_le ?"
 let c<-qq4 q "!Nat.le_trans ( Nat.min_le_left _ _ ) ?|!Nat.le_trans ( Nat.min_le_right _ _ ) ?|!Nat.le_trans ( Nat.sub_le _ _ ) ?"
 match n.getNat with|48=>`(tactic|(simp +arith only[*];done))|49=>`(tactic|(rw[sj];assumption))|51=>`(tactic|assumption)|50=>let a:=(<-qq4 q s).extract 0 40;`(tactic|first|assumption|(first $[|$a:tactic]*)|(rw[sj];assumption)|((with_reducible first $[|$b:tactic]*)<;>exact 50)|(first $[|($c:tactic;exact 50)]*)|(simp +arith only[*];done)|lia)|n=>do
  let x:=(s.splitOn "|")[n%100]!
  if 99<n then return<-`(tactic|first|$((<-qq4 q x)[0]!):tactic|lia)
  let y:=qq3 #[q[0]!,q[1]!,q[0]!,q[0]!] (x.dropWhile (·=='!')).toString
  let z<-`(tactic|(refine' $y<;>first|assumption|decide))
  let z<-if x.startsWith "!" then `(tactic|with_reducible $z:tactic) else pure z
  if n<40 then `(tactic|first|$z:tactic|lia) else `(tactic|first|$z:tactic|grind)
theorem qq0{p:Prop}(h:¬¬p):p:=Classical.byContradiction h
namespace L2
variable{K:ς}
open PySem PySem.Spec PyProof.Rows
abbrev gY:=Sum χ bf
def wO:gY->Γ->Bool
 | .inl k,v=>Value.isInt k v
 | .inr x,v=>Value.isStrOf x v
def aWj(w:kn):gY->χ
 | .inl k=>hashInt k
 | .inr x=>hashStr w x
theorem eE:∀{k:gY}{v:Γ},wO k v=true->(∃i t,k=Sum.inl i/\v=qc i t)\/(∃x t,k=Sum.inr x/\v=Value.str x t)
 | .inl i,v,h=>by
  obtain⟨t,e⟩:=Value.isInt_shape (k:=i) (v:=v) h;exact .inl ⟨i,t,rfl,e⟩
 | .inr x,v,h=>by
  obtain⟨t,e⟩:=Value.isStrOf_shape (x:=x) (v:=v) h;exact .inr ⟨x,t,rfl,e⟩
theorem Uc(i:χ)(t:vh):wO (.inl i) (.int i t)=true:=by simp[wO,Value.isInt]
theorem Ub(x:bf)(t:vh):wO (.inr x) (.str x t)=true:=by simp[wO,Value.isStrOf]
theorem aNi(a b:χ):decide ((Sum.inl a:gY)=Sum.inl b)=(a==b):=by
 by_cases e:a=b
 ·subst e;simp
 ·have h:¬(Sum.inl a:gY)=Sum.inl b:=λq=>e<|BS q;rw[aA h];exact(ei.mpr e).symm
theorem aNf(a b:bf):decide ((Sum.inr a:gY)=Sum.inr b)=decide (a=b):=by
 by_cases e:a=b
 ·subst e;simp
 ·have h:¬(Sum.inr a:gY)=Sum.inr b:=λq=>e<|BU q;rw[aA h,aA e]
theorem aNh(a:χ)(b:bf):decide ((Sum.inl a:gY)=Sum.inr b)=false:=aA λq=>nomatch q
theorem aNg(a:bf)(b:χ):decide ((Sum.inr a:gY)=Sum.inl b)=false:=aA λq=>nomatch q
def fP(prog:Program)(w:kn):PySem.KeyKind prog w gY where
 is:=wO
 hash:=aWj w
 inj:=λv a b g f=>by
  rcases eE g with⟨i,t,rfl,rfl⟩|⟨x,t,rfl,rfl⟩
  ·rcases eE f with⟨j,u,rfl,e⟩|⟨y,u,rfl,e⟩
   ·injection e with c _;rw[c]
   ·exact nomatch e
  ·rcases eE f with⟨j,u,rfl,e⟩|⟨y,u,rfl,e⟩
   ·exact nomatch e
   ·injection e with c _;rw[c]
 byValue:=λk v h=>by
  rcases eE h with⟨i,t,rfl,rfl⟩|⟨x,t,rfl,rfl⟩ <;>rfl
 pyHash:=λd h=>by
  rcases eE d with⟨i,t,rfl,rfl⟩|⟨x,t,rfl,rfl⟩
  ·exact wpAny_pyHash_int h
  ·exact wpAny_pyHash_str h
 eqBool:=λl d h=>by
  rcases eE l with⟨i,t,rfl,rfl⟩|⟨x,t,rfl,rfl⟩
  ·rcases eE d with⟨j,u,rfl,rfl⟩|⟨y,u,rfl,rfl⟩
   ·rw[aNi]at h;exact wpAny_eqBool_int h
   ·rw[aNh]at h;exact AY i t y u _ _ _ _ h
  ·rcases eE d with⟨j,u,rfl,rfl⟩|⟨y,u,rfl,rfl⟩
   ·rw[aNg]at h;exact AZ x t j u _ _ _ _ h
   ·rw[aNf]at h;exact wpAny_eqBool_str h
 «strs»:=λk x t v h=>by
  rcases eE h with⟨i,u,rfl,e⟩|⟨y,u,rfl,e⟩
  ·exact nomatch e
  ·injection e with c _
   subst c;cases v <;>rfl
theorem Im(prog:Program)(w:kn)(i:χ)(t:vh):(fP prog w).is (.inl i) (.int i t)=true:=Uc i t
theorem Il(prog:Program)(w:kn)(x:bf)(t:vh):(fP prog w).is (.inr x) (.str x t)=true:=Ub x t
inductive V where
 |non|bl (b:Bool)|int (i:χ)|str (x:bf)|byt (b:Array UInt8)|flt (b:UInt64)|ref (a:Ζ)|ty (n:String)
 deriving DecidableEq
def RelV:V->Γ->Prop
 | .non,u=>u=Value.none
 | .bl b,u=>u=Value.bool b
 | .int i,u=>∃t,u=qc i t
 | .str x,u=>∃t,u=Value.str x t
 | .byt b,u=>∃t,u=Value.bytes b t
 | .flt b,u=>∃t,u=Value.float b t
 | .ref a,u=>u=cb a
 | .ty n,u=>u=Value.type n
abbrev Vals:ε V->ε Γ->Prop:=Paired RelV
theorem Vals.length(r:Vals a b):a.length=b.length:=ui r
theorem Vals.get:∀{a:ε V}{b:ε Γ}{i:π}{x:V},Vals a b->a[i]? =γ x->∃u,b[i]? =γ u/\RelV x u
 |_,_,_,_,.nil,e=>by simp at e
 |_,_,0,_,.cons r _,e=>by simp at e;subst e;exact⟨_,rfl,r⟩
 |_,_,i+1,x,.cons _ t,e=>by
  obtain⟨u,c,d⟩:=Vals.get (i:=i) (x:=x) t (by simpa using e);exact⟨u,by simpa using c,d⟩
theorem Vals.set(r:RelV x u):∀{a:ε V}{b:ε Γ}(i:π),Vals a b->Vals (a.set i x) (b.set i u)
 |_,_,_,.nil=>.nil
 |_,_,0,.cons _ t=>.cons r t
 |_,_,i+1,.cons q t=>.cons q<|Vals.set r i t
theorem Vals.append:∀{a b:ε V}{c d:ε Γ},Vals a c->Vals b d->Vals (a++b) (c++d)
 |_,_,_,_,.nil,s=>s
 |_,_,_,_,.cons r t,s=>.cons r<|Vals.append t s
theorem Vals.take:∀{a:ε V}{b:ε Γ}(n:π),Vals a b->Vals (a.take n) (b.take n)
 |_,_,0,_=>.nil
 |_,_,_+1,.nil=>.nil
 |_,_,n+1,.cons r t=>.cons r<|Vals.take n t
theorem Vals.drop:∀{a:ε V}{b:ε Γ}(n:π),Vals a b->Vals (a.drop n) (b.drop n)
 |_,_,0,r=>r
 |_,_,_+1,.nil=>.nil
 |_,_,n+1,.cons _ t=>Vals.drop n t
def RelO:Θ V->Θ Γ->Prop
 |some v,γ u=>RelV v u
 |none,ν=>wj
 |_,_=>ag
def KV{a:Type}:ε (a×V)->ε (a×Γ)->Prop:=Paired λ(p:a×V)(q:a×Γ)=>p.1=q.1/\RelV p.2 q.2
def kV:gY->V
 | .inl i=>.int i
 | .inr x=>.str x
inductive HO where
  |lst (xs:ε V)
  |tup (xs:ε V)
  |dK (kvs:ε<|gY×V)|dT (kvs:ε<|ε gY×V)
  |set (S:χ->Bool) (n:π)
  |ins (C dx:Ζ) (fs:ε<|bf×V)
  |own (x:Ζ)
  |xd (fs:ε<|bf×V)
  |met (f x:Ζ)
  |rng (lo hi:χ)
  |frz (o:Obj) (u:HO)
  |tbl (ps:Array Γ)
  |ext (φ:gy->Prop)
abbrev Hp:=Ζ->Θ HO
def fA(H:Hp)(a:Ζ)(o:HO):Hp:=λb=>if b=a then γ o else H b
theorem bJ:fA H a o a=γ o:=by unfold fA;rw[ρ rfl]
theorem aV(h:b≠a):fA H a o b=H b:=by unfold fA;rw[ι h]
theorem aSo{H:Hp}(h:H a=γ o)(c:H b=γ u)(d:o≠u):a≠b:=by
 intro e;subst e;rw[h]at c;exact d<|bw c
theorem bT{H:Hp}(h:H a=γ o)(c:H b=ν):a≠b:=by
 intro e;subst e;rw[h]at c;cases c
section
variable(P:Program)(w:kn)
def ObjOk(H:Hp)(h:gy)(a:Ζ):HO->Prop
 | .lst d=>d.length<=sizeLine/\∃(b:ε Γ)(n:π),Vals d b/\h.get? a=γ {cls:=.type "list",data:=.seq b.toArray n}
 | .tup d=>d.length<=sizeLine/\∃b:ε Γ,Vals d b/\IsTup h a b.toArray
 | .dK c=>c.length<=sizeLine/\(a==sysModules)=false/\∃k,KV c k/\h.DictOf (fP P w) a k
 | .dT c=>c.length<=sizeLine/\(a == sysModules) = false/\∃ d:ε (ε gY × Ζ × Γ),
   Paired (λ(p:ε gY×V)(q:ε gY×Ζ×Γ)=>p.1=q.1/\H q.2.1=γ (.tup<|p.1.map kV)/\RelV p.2 q.2.2) c d/\
   ∃o l s,h.get? a=γ o/\o.ExactDict/\o.data= .dict l s/\l.toList=d.map (entryOfKey<|tupleKind<|fP P w)/\(d.map (·.1)).Nodup
 | .set S n=>h.SetOf (intKind P w) a S n
 | .ins C i g=>H i = γ (.own a)/\g.length<=1000/\i ≠ a/\h.get? a = γ (W.instObj C i) /\
   ∃e,h.Ns1 i e/\(∀f,RelO (g.lookup f)<|e f)/\Within e (g.map (·.1))
 | .own _=>∃o,h.get? a=γ o
 | .xd g=>∃e,h.Ns1 a e/\∀f,RelO (g.lookup f)<|e f
 | .rng y z=>∃t u v,h.get? a=γ {cls:=.type "range",data:=.fields #[.int y t,.int z u,.int 1 v]}
 | .frz o u=>h.get? a=γ o/\ObjOk H h a u
 | .tbl A=>h.get? a=γ {cls:=.none,data:=.fields A}
 | .met f x=>h.get? a=γ (W.methodObj (.ref f)<|.ref x)
 | .ext j=>j h/\(∃o,h.get? a=γ o)/\∀m r:gy,j m->(∀o,m.get? a=γ o->r.get? a=γ o)->j r
def HOk(H:Hp)(h:gy):Prop:=∀a o,H a=γ o->ObjOk P w H h a o
end
theorem ObjOk.lt(x:ObjOk P w H h a o):a<h.objs.size:=by
 cases o with
 |lst c=>obtain⟨_,_,_,_,e⟩:=x;exact cu e
 |tup c=>obtain⟨_,_,_,p⟩:=x;exact p.lt
 |dK b=>obtain⟨_,_,_,_,o,_,_,e,_⟩:=x;exact cu e
 |dT b=>obtain⟨_,_,_,_,o,_,_,e,_⟩:=x;exact cu e
 |set S n=>obtain⟨o,_,_,_,e,_⟩:=x;exact cu e
 |ins C g d=>obtain⟨_,_,_,e,_⟩:=x;exact cu e
 |own y=>obtain⟨_,e⟩:=x;exact cu e
 |xd d=>obtain⟨_,⟨_,_,_,e,_⟩,_⟩:=x;exact cu e
 |rng i j=>obtain⟨_,_,_,e⟩:=x;exact cu e
 |frz k u=>obtain⟨e,_⟩:=x;exact cu e
 |tbl l=>exact cu (show h.get? a=γ _ from x)
 |met f y=>exact cu (show h.get? a=γ _ from x)
 |ext m=>obtain⟨_,⟨_,e⟩,_⟩:=x;exact cu e
theorem Paired.mapP:∀{c:ε e}{d:ε g},Paired F c d->(∀a b,F a b->G a b)->Paired G c d
 |_,_,.nil,_=>.nil
 |_,_,.cons r t,f=>.cons (f _ _ r)<|Paired.mapP t f
theorem ObjOk.stay(x:ObjOk P w H h a o)(k:∀b u,(b=a\/H b=γ (.own a))->h.get? b=γ u->h'.get? b=γ u)
  (E:∀b,H b=γ (.own a)->T b=γ (.own a)) (F:∀b m,H b=γ (.tup m)->T b=γ (.tup m)):ObjOk P w T h' a o:=by
 induction o with
 |lst m=>obtain⟨z,l,n,r,e⟩:=x;exact⟨z,l,n,r,k _ _ (.inl rfl) e⟩
 |tup m=>obtain⟨z,l,r,g,e,c⟩:=x;exact⟨z,l,r,g,k _ _ (.inl rfl) e,c⟩
 |dK s=>refine qq0 λqq2=>?_;obtain⟨z,y,G,r,g,i,j,e,c⟩:=x;refine qq2 ?_;clear qq2;exact⟨z,y,G,r,g,i,j,k _ _ (.inl rfl) e,c⟩
 |dT s=>
  refine qq0 λqq2=>?_;obtain⟨z,y,m,r,g,i,j,e,c⟩:=x;refine qq2 ?_;clear qq2;exact⟨z,y,m,Paired.mapP r λp q z=>⟨z.1,F _ _ z.2.1,z.2.2⟩,g,i,j,k _ _ (.inl rfl) e,c⟩
 |set S n=>obtain⟨g,i,j,t,e,c⟩:=x;exact⟨g,i,j,t,k _ _ (.inl rfl) e,c⟩
 |ins C M I=>
  refine qq0 λqq2=>?_;obtain⟨d,z,J,e,A,⟨B,i,j,K,c⟩,r⟩:=x;refine qq2 ?_;clear qq2;exact⟨E _ d,z,J,k _ _ (.inl rfl) e,A,⟨B,i,j,k _ _ (.inr d) K,c⟩,r⟩
 |own y=>obtain⟨g,e⟩:=x;exact⟨g,k _ _ (.inl rfl) e⟩
 |xd I=>obtain⟨A,⟨B,i,j,e,c⟩,r⟩:=x;exact⟨A,⟨B,i,j,k _ _ (.inl rfl) e,c⟩,r⟩
 |rng N O=>obtain⟨t,u,v,e⟩:=x;exact⟨t,u,v,k _ _ (.inl rfl) e⟩
 |frz g u L=>obtain⟨e,q⟩:=x;exact⟨k _ _ (.inl rfl) e,L q⟩
 |tbl D=>
  have e:h.get? a=γ {cls:=.none,data:=.fields D}:=x;show h'.get? a=γ {cls:=.none,data:=.fields D};exact k a _ (.inl rfl) e
 |met f y=>
  have e:h.get? a=γ (W.methodObj (.ref f)<|.ref y):=x;show h'.get? a=γ (W.methodObj (.ref f)<|.ref y);exact k a _ (.inl rfl) e
 |ext R=>obtain⟨p,⟨o,e⟩,st⟩:=x;exact⟨st _ _ p λo q=>k _ _ (.inl rfl) q,⟨o,k _ _ (.inl rfl) e⟩,st⟩
theorem HOk.lt(x:HOk P w H h)(e:H a=γ o):a<h.objs.size:=(x a o e).lt
theorem HOk.fresh(x:HOk P w H h)(e:h.objs.size<=a):H a=ν:=by
 cases q:H a with
 |none=>rfl
 |some u=>exact ψ (av (x.lt q) e)<|jo _
theorem HOk.kept(x:HOk P w H h)(k:∀b u,h.get? b=γ u->h'.get? b=γ u):HOk P w H h':=λa o e=>
 (x a o e).stay (λb u _ q=>k b u q) (λ_ q=>q) λ_ _ q=>q
theorem HOk.laid(x:HOk P w H h)(k:∀b u,h.get? b=γ u->h'.get? b=γ u)(i:h.objs.size<=a)(d:ObjOk P w (fA H a o) h' a o):HOk P w (fA H a o) h':=λb u e=>by
 have f:=x.fresh i;by_cases g:b=a
 ·subst g;rw[bJ]at e;cases e;exact d
 ·rw[aV g]at e;exact(x b u e).stay (λc v _ q=>k c v q) (λc q=>by rw[aV<|bT q f];exact q) λc j q=>by rw[aV<|bT q f];exact q
def Rd(H:Hp)(a:Ζ)(u:HO):Prop:=H a=γ u\/∃o,H a=γ (.frz o u)
theorem Rd.ok(r:Rd H a u)(x:HOk P w H h):ObjOk P w H h a u:=by
 rcases r with r|⟨o,r⟩
 ·exact x a u r
 ·obtain⟨_,q⟩:=x a _ r;exact q
def Mut:Θ HO->Prop
 |some (.lst _)=>wj
 |some (.dK _)=>wj
 |some (.dT _)=>wj
 |some (.set _ _)=>wj
 |some (.ins _ _ _)=>wj
 |some (.ext _)=>wj
 |_=>ag
theorem HOk.write(ok:HOk P w H h)(g:Mut<|H x)(o:e=x\/H e=γ (.own x))(k:∀b u,b≠e->h.get? b=γ u->h'.get? b=γ u)(m:∃u,h'.get? e=γ u)
  (n:ObjOk P w (fA H x t) h' x t):HOk P w (fA H x t) h':=λb u q=>by
 have d:∀c y,H c=γ (.own y)->c≠x:=λc y r z=>by subst z;rw[r]at g;exact g
 have f:∀c i,H c=γ (.tup i)->c≠x:=λc i r z=>by subst z;rw[r]at g;exact g
 by_cases j:b=x
 ·subst j;rw[bJ]at q;cases q;exact n
 ·rw[aV j]at q;by_cases a:b=e
  ·have p:H b=γ (.own x):=by
    rcases o with z|z
    ·exact ψ (a.trans z) j
    ·rw[a];exact z
   rw[q]at p;cases p;obtain⟨v,s⟩:=m;exact⟨v,by rw[a];exact s⟩
  ·refine(ok b u q).stay (λc v l r=>k c v ?_ r) (λc r=>by rw[aV<|d c b r];exact r) λc i r=>by rw[aV<|f c i r];exact r
   rcases l with rfl|l
   ·exact a
   ·rintro rfl;rcases o with z|z
    ·exact d c b l z
    ·rw[l]at z;cases z;exact j rfl
structure Un(fs ex:ε Ζ)(H H':Hp)(h h':gy):Prop where
 keep:∀b o,h.get? b=γ o->H b=ν->b∉fs->b∉ex->h'.get? b=γ o
 slot:∀b o,h.get? b=γ o->H b=ν->b∈fs->b∉ex->∃sl,h'.get? b=γ {o with slots:=sl}
 free:∀b o,h.get? b=γ o->H b=ν->b∉ex->H' b=ν
 there:∀b o,h.get? b=γ o->b∉ex->∃o',h'.get? b=γ o'
 tups:∀b xs,H b=γ (.tup xs)->H' b=γ (.tup xs)
 frzs:∀b o u,H b=γ (.frz o u)->H' b=γ (.frz o u)
 tbls:∀b ps,H b=γ (.tbl ps)->∃more,H' b=γ (.tbl<|ps++more)
theorem Un.any(u:Un i k H l h j)(q:h.get? b=γ c)(n:H b=ν)(d:b∉k):∃g,j.get? b=γ {c with slots:=g}:=by
 by_cases f:b∈i
 ·exact u.slot b c q n f d
 ·exact⟨c.slots,u.keep b c q n f d⟩
theorem Un.trans(a:Un u v H y h z)(b:Un u v y A z w):Un u v H A h w where
 keep:=λc d q n i f=>b.keep c d (a.keep c d q n i f) (a.free c d q n f) i f
 slot:=λc d q n i f=>by
  obtain⟨t,g⟩:=a.slot c d q n i f;obtain⟨k,l⟩:=b.slot c _ g (a.free c d q n f) i f;exact⟨k,l⟩
 free:=λc d q n f=>by
  obtain⟨m,g⟩:=a.there c d q f;exact b.free c m g (a.free c d q n f) f
 there:=λc d q f=>by
  obtain⟨m,g⟩:=a.there c d q f;exact b.there c m g f
 tups:=λc j q=>b.tups c j<|a.tups c j q
 frzs:=λc d j q=>b.frzs c d j<|a.frzs c d j q
 tbls:=λc p q=>by
  obtain⟨r,g⟩:=a.tbls c p q;obtain⟨s,l⟩:=b.tbls c _ g;exact⟨r++s,by rw[l,ux]⟩
theorem Un.kept(k:∀b u,h.get? b=γ u->h'.get? b=γ u):Un f g H H h h':=
 ⟨λb c q _ _ _=>k b c q,λb c q _ _ _=>⟨c.slots,k b c q⟩,λ_ _ _ n _=>n,λb c q _=>⟨c,k b c q⟩,λ_ _ q=>q,λ_ _ _ q=>q,λ_ d q=>⟨#[],by rw[q];simp⟩⟩
theorem Un.refl:Un b c H H h h:=Un.kept λ_ _ q=>q
theorem Un.laid(k:∀b u,h.get? b=γ u->h'.get? b=γ u)(d:h.objs.size<=a)(c:H a=ν):Un i j H (fA H a o) h h' where
 keep:=λb u q _ _ _=>k b u q
 slot:=λb u q _ _ _=>⟨u.slots,k b u q⟩
 free:=λb u q n _=>by rw[aV<|ig<|av (cu q) d];exact n
 there:=λb u q _=>⟨u,k b u q⟩
 tups:=λb f q=>by rw[aV<|bT q c];exact q
 frzs:=λb u f q=>by rw[aV<|bT q c];exact q
 tbls:=λb g q=>⟨#[],by rw[aV<|bT q c,q];simp⟩
theorem Un.write(d:Mut<|H x)(l:e=x\/H e=γ (.own x))(k:∀b u,b≠e->h.get? b=γ u->h'.get? b=γ u)(f:∃u,h'.get? e=γ u):Un s t H (fA H x o) h h':=by
 have i:∀b,H b=ν->b≠x:=λb n z=>by subst z;rw[n]at d;exact d
 have j:∀b,H b=ν->b≠e:=λb n z=>by
  subst z;rcases l with r|r
  ·exact i b n r
  ·rw[n]at r;cases r
 have g:∀b u,H b=γ u->¬Mut (γ u)->b≠x:=λb u q nm z=>by subst z;rw[q]at d;exact nm d
 refine⟨λb u q n _ _=>k b u (j b n) q,λb u q n _ _=>⟨u.slots,k b u (j b n) q⟩,λb u q n _=>by rw[aV (i b n)];exact n,λb u q _=>?_,
  λb m q=>by rw[aV (g b _ q λz=>z)];exact q,λb u m q=>by rw[aV (g b _ q λz=>z)];exact q,λb p q=>⟨#[],by rw[aV (g b _ q λz=>z),q];simp⟩⟩
 by_cases c:b=e
 ·subst c;exact f
 ·exact⟨u,k b u c q⟩
def trk(h:gy)(H:Hp):ε Ζ:=(range h.objs.size).filter λa=>(H a).isSome
def Dt(h:gy)(H:Hp):gy:=W.hideAll h<|trk h H
theorem Uj(h:gy)(H:Hp):(Dt h H).objs.size=h.objs.size:=W.hideAll_size _ _
theorem Zw(e:h.get? b=γ o)(n:H b=ν):(Dt h H).get? b=γ o:=
 uj _ e λa=>by
  have q:(H b).isSome=true:=(ku.mp a).2;rw[n]at q;simp at q
theorem aEz(e:(Dt h H).get? b=γ o):h.get? b=γ o/\H b=ν:=by
 have a:h.get? b=γ o:=zi (trk h H) e;refine⟨a,?_⟩;cases q:H b with
 |none=>rfl
 |some x=>
  have c:b∈trk h H:=ku.mpr ⟨di.mpr<|cu a,by simp[q]⟩;have z:(Dt h H).get? b=ν:=yj (trk h H) c;rw[z]at e;cases e
def aHg(g h:gy)(L:Ζ):ε (Ζ×Obj):=(range h.objs.size).filterMap λa=>if a=L\/(g.get? a).isSome=true then ν else(h.get? a).map λo=>(a,o)
def rest(g h:gy)(L d:Ζ):ε (Ζ×Obj):=(aHg g h L).filter λp=>decide (p.1≠d)
structure Mod(K:ς)(mg:bf->Θ Γ)(base:gy):Prop where
 kin:K.In base
 glob:base.Ns mainGlobals mg
 blt:∃mb,base.Ns builtinsNs mb/\∀x:bf,x≠"__name__"->mb x=bootBuiltins x
 nolimit:base.NoLimit
structure Cx where
 prog:Program
 w:kn
 K:ς
 mg:bf->Θ Γ
 base:gy
 A:Around
 N:ε bf
 s₀:aj
 H₀:Hp
 env:Env
 outer:ε Env
 stack:ε Env
 ex:ε Ζ
 fn:bf->Bool
 calm:Bool
 pn:ε<|Ζ×Obj
 xe:Γ->aj->Prop
def rW(l:ε Env):ε Ζ:=l.filterMap (·.frame)
abbrev Cx.fs(X:Cx):ε Ζ:=rW X.outer
def Vis(a:Scope)(x:bf):Prop:=a.names.lookup x=γ .local\/a.names.lookup x=γ .cell\/a.names.lookup x=γ .free
def Loc(a:Scope)(x:bf):Prop:=a.names.lookup x=γ .local\/a.names.lookup x=γ .cell
def aWy(a:Env)(h:gy)(m:bf->Θ Γ)(x:bf)(u:Γ):Prop:=
 (a.kindOf x=γ .local/\m x=γ u)\/((a.kindOf x=γ .cell\/a.kindOf x=γ .free)/\∃c,a.cells.lookup x=γ c/\h.IsCell c (γ u))
structure Cx.Ok(X:Cx):Prop where
 mod:Mod X.K X.mg X.base
 kind:X.env.scope.kind= .function
 glob:X.env.globals=mainGlobals
 blt:X.env.builtins=builtinsNs
 above:X.s₀.heap.objs.size<=X.env.locals
 inj:∀x y c,X.env.cells.lookup x=γ c->X.env.cells.lookup y=γ c->x=y
 has:∀x,(X.env.kindOf x=γ .cell\/X.env.kindOf x=γ .free)->∃c,X.env.cells.lookup x=γ c
 cab:∀x c,X.fn x=true->X.env.cells.lookup x=γ c->X.s₀.heap.objs.size<=c
 hd:X.calm=true->X.A.handled=ν
 frames:X.A.frames=γ X.stack
 stk:X.stack=X.outer\/(X.stack=X.env::X.outer/\X.env.frame=γ X.env.locals)
 exf:∀b∈X.ex,b≠X.env.locals/\∀x c,X.env.cells.lookup x=γ c->c≠b
 bs:∀b o,X.base.get? b=γ o->X.s₀.heap.get? b=γ o/\X.H₀ b=ν
 bsz:X.base.objs.size<=X.s₀.heap.objs.size
 noex:∀b o,X.base.get? b=γ o->b∉X.ex
 exfs:∀b∈X.ex,b∉X.fs
 funs:X.s₀.heap.FunFrames X.base X.outer
 frf:∀b∈X.fs,X.H₀ b=ν
structure Inv(X:Cx)(pins:ε<|Ζ×Obj)(σ:ε<|Θ V)(H:Hp)(s:aj):Prop where
 ok:X.Ok
 os:s.os=X.s₀.os
 bare:AllBare s.gens
 base:Un X.fs X.ex X.H₀ H X.s₀.heap s.heap
 loc:∃m,s.heap.Ns X.env.locals m/\∀(i:π)(x:bf)(v:V),X.N[i]? =γ x->σ[i]? =γ (γ v)->Vis X.env.scope x->∃u,RelV v u/\aWy X.env s.heap m x u
 cell:∀x c,X.env.cells.lookup x=γ c->∃v,s.heap.IsCell c v
 free:H X.env.locals=ν
 freeC:∀x c,X.env.cells.lookup x=γ c->H c=ν
 pin:∀p∈X.pn++pins,s.heap.get? p.1=γ p.2/\H p.1=ν/\p.1≠X.env.locals/\p.1∉X.fs/\∀v,p.2.data≠ .cell v
 hok:HOk X.prog X.w H s.heap
 len:σ.length=X.N.length
section
variable{X:Cx}{pins:ε (Ζ×Obj)}{σ:ε (Θ V)}{H H':Hp}{s:aj}{h':gy}
theorem Cx.Ok.nofr(ok:X.Ok)(e:X.base.get? b=γ o):b∉X.fs:=λa=>by
 have:=(ok.funs.mem a).1;rw[e]at this;cases this
theorem Inv.bs(I:Inv X pins σ H s):∀b o,X.base.get? b=γ o->s.heap.get? b=γ o/\H b=ν:=λb o e=>
 ⟨I.base.keep b o (I.ok.bs b o e).1 (I.ok.bs b o e).2 (I.ok.nofr e)<|I.ok.noex b o e,I.base.free b o (I.ok.bs b o e).1 (I.ok.bs b o e).2<|I.ok.noex b o e⟩
theorem Inv.bk(I:Inv X pins σ H s):∀b o,X.base.get? b=γ o->s.heap.get? b=γ o:=λb o e=>(I.bs b o e).1
theorem Inv.mod(I:Inv X pins σ H s):Mod X.K X.mg X.base:=I.ok.mod
theorem Inv.kIn(I:Inv X pins σ H s):X.K.In s.heap:=I.ok.mod.kin.keeps I.bk
theorem Inv.lt(I:Inv X pins σ H s):X.env.locals<s.heap.objs.size:=let⟨_,a,_⟩:=I.loc;a.lt
theorem Inv.sz(I:Inv X pins σ H s):X.s₀.heap.objs.size<=s.heap.objs.size:=Α I.ok.above<|cg I.lt
theorem Inv.nofs(I:Inv X pins σ H s)(h:s.heap.objs.size<=a):a∉X.fs:=λb=>by
 obtain⟨_,o,c,_⟩:=I.ok.funs.mem b;exact ψ (av (cu c)<|Α I.sz h)<|jo _
theorem Inv.cne(I:Inv X pins σ H s):∀x c,X.env.cells.lookup x=γ c->c≠X.env.locals:=λx c e z=>by
 obtain⟨v,o,d,f⟩:=I.cell x c e;obtain⟨m,⟨g,h,i,a,b,_⟩,_⟩:=I.loc;rw[z,a]at d;cases d;rw[b]at f;cases f
theorem Inv.funs(I:Inv X pins σ H s):s.heap.FunFrames X.base X.outer:=by
 have a:∀(l:ε Env),(∀b∈rW l,b∈X.fs)->X.s₀.heap.FunFrames X.base l->s.heap.FunFrames X.base l:=by
  intro l
  induction l with
  |nil=>intro _ _;trivial
  |cons h r i=>
   intro g j;refine qq0 λqq2=>?_;obtain⟨k,⟨L,o,c,m,n,p⟩,q⟩:=j;refine qq2 ?_;clear qq2;have d:L∈X.fs:=g L (by unfold rW;rw[ix,c];exact υ);obtain⟨t,e⟩:=I.base.slot L o n (I.ok.frf L d) d λz=>I.ok.exfs L z d;exact⟨k,⟨L,_,c,m,e,p⟩,i (λb f=>g b (by unfold rW;rw[ix,c];exact ο _ f)) q⟩
 exact a X.outer (λ_ f=>f) I.ok.funs
theorem Inv.stack(I:Inv X pins σ H s):s.heap.FunFrames X.base X.stack:=by
 rcases I.ok.stk with e|⟨e,a⟩
 ·rw[e];exact I.funs
 ·rw[e];obtain⟨m,b,_⟩:=I.loc;refine .cons (by rw[I.ok.kind];decide) a b ?_ I.funs;exact Heap.get?_none_of_le<|Α I.ok.bsz I.ok.above
theorem Inv.stkSub(I:Inv X pins σ H s):∀b∈rW X.stack,b∈X.env.locals::X.fs:=λb a=>by
 rcases I.ok.stk with e|⟨e,c⟩
 ·rw[e]at a;exact ο _ a
 ·rw[e]at a;unfold rW at a;rw[ix,c]at a;exact a
theorem Inv.stkFree(I:Inv X pins σ H s):∀b∈rW X.stack,H b=ν:=λb a=>by
 rcases Υ.mp (I.stkSub b a)with e|a
 ·rw[e];exact I.free
 ·obtain⟨_,o,c,_⟩:=I.ok.funs.mem a;exact I.base.free b o c (I.ok.frf b a) λz=>I.ok.exfs b z a
theorem Inv.step{ch:ε Ζ}(I:Inv X pins σ H s)
  (f:∀b∈ch,(b∈X.ex\/X.s₀.heap.objs.size<=b)/\b≠X.env.locals/\(∀x c,X.env.cells.lookup x=γ c->c≠b)/\∀p∈X.pn++pins,p.1≠b)
  (keep:∀b o,b≠X.env.locals->b∉X.fs->b∉ch->s.heap.get? b=γ o->H b=ν->h'.get? b=γ o)
  (slot:∀b o,b≠X.env.locals->b∈X.fs->b∉ch->s.heap.get? b=γ o->H b=ν->∃J,h'.get? b=γ {o with slots:=J}) (free:∀b o,b∉ch->s.heap.get? b=γ o->H b=ν->H' b=ν)
  (there:∀b o,b∉ch->s.heap.get? b=γ o->∃A,h'.get? b=γ A)
  (B:∀b t,H b=γ (.tup t)->H' b=γ (.tup t)) (C:∀b o u,H b=γ (.frz o u)->H' b=γ (.frz o u)) (D:∀b G,H b=γ (.tbl G)->∃more,H' b=γ (.tbl<|G++more))
  (T:∀m,s.heap.Ns X.env.locals m->h'.Ns X.env.locals m) (K:HOk X.prog X.w H' h') (U:AllBare g'):
  Inv X pins σ H' {s with heap:=h',gens:=g',drawn:=d',toks:=S}:=by
 have E:∀b o,X.s₀.heap.get? b=γ o->b≠X.env.locals:=λb o e=>ig<|av (cu e) I.ok.above;have h:∀b o,X.s₀.heap.get? b=γ o->b∉X.ex->b∉ch:=λb o e a w=>by
  rcases(f b w).1 with z|z
  ·exact a z
  ·exact ψ (av (cu e) z)<|jo _
 have cellK:∀x c,X.env.cells.lookup x=γ c->∀v,s.heap.IsCell c v->h'.IsCell c v:=λx c e v ⟨o,y,L⟩=>by
  have g:c∉ch:=λz=>(f c z).2.2.1 x c e rfl;by_cases N:c∈X.fs
  ·obtain⟨J,q⟩:=slot c o (I.cne x c e) N g y<|I.freeC x c e;exact⟨_,q,L⟩
  ·exact⟨o,keep c o (I.cne x c e) N g y<|I.freeC x c e,L⟩
 refine⟨I.ok,I.os,U,⟨λb o e n w a=>?_,λb o e n w a=>?_,λb o e n a=>?_,λb o e a=>?_,λb t e=>B b t<|I.base.tups b t e,λb o t e=>C b o t<|I.base.frzs b o t e,λb G e=>?_⟩,?_,λx c e=>?_,?_,λx c e=>?_,λp O=>?_,K,I.len⟩
 ·exact keep b o (E b o e) w (h b o e a) (I.base.keep b o e n w a)<|I.base.free b o e n a
 ·obtain⟨J,j⟩:=I.base.slot b o e n w a;obtain⟨M,F⟩:=slot b _ (E b o e) w (h b o e a) j<|I.base.free b o e n a;exact⟨M,F⟩
 ·obtain⟨A,j⟩:=I.base.there b o e a;exact free b A (h b o e a) j<|I.base.free b o e n a
 ·obtain⟨A,j⟩:=I.base.there b o e a;exact there b A (h b o e a) j
 ·obtain⟨W,j⟩:=I.base.tbls b G e;obtain⟨Y,F⟩:=D b _ j;exact⟨W++Y,by rw[F,ux]⟩
 ·refine qq0 λqq2=>?_;obtain⟨m,Z,hl⟩:=I.loc;refine qq2 ?_;refine⟨m,T m Z,λi x v j F e3=>?_⟩;obtain⟨u,r,l⟩:=hl i x v j F e3;refine⟨u,r,?_⟩;rcases l with l|⟨k,c,e,z⟩
  ·exact .inl l
  ·exact .inr ⟨k,c,e,cellK x c e _ z⟩
 ·obtain⟨v,z⟩:=I.cell x c e;exact⟨v,cellK x c e v z⟩
 ·obtain⟨m,⟨o,_,_,y,_⟩,_⟩:=I.loc;exact free _ o (λz=>(f _ z).2.1 rfl) y I.free
 ·obtain⟨v,o,y,L⟩:=I.cell x c e;exact free c o (λz=>(f c z).2.2.1 x c e rfl) y<|I.freeC x c e
 ·refine qq0 λqq2=>?_;obtain⟨e,n,P,R,d⟩:=I.pin p O;refine qq2 ?_;have g:p.1∉ch:=λz=>(f p.1 z).2.2.2 p O rfl;exact⟨keep p.1 p.2 P R g e n,free p.1 p.2 g e n,P,R,d⟩
theorem Inv.un(I:Inv X pins σ H s)(u:Un X.fs [] H H' s.heap h')(c:HOk X.prog X.w H' h'):Inv X pins σ H' {s with heap:=h',toks:=t'}:=by
 refine qq0 λqq2=>?_;obtain⟨m,⟨o,l,p,h,r⟩,_⟩:=id I.loc;obtain⟨q,i⟩:=u.any h I.free (by simp);refine qq2 ?_
 exact I.step (g':=s.gens) (d':=s.drawn) (ch:=[]) (λ_ z=>nomatch z) (λb o _ d _ e n=>u.keep b o e n d (by simp)) (λb o _ d _ e n=>u.slot b o e n d (by simp)) (λb o _ e n=>u.free b o e n (by simp)) (λb o _ e=>u.there b o e (by simp)) u.tups u.frzs u.tbls (λt j=>by
  obtain⟨v,f,g,a,k⟩:=j
  rw[h]at a;cases a
  exact⟨_,f,g,i,k⟩) c I.bare
theorem Inv.call(I:Inv X pins σ H s)(u:Un (rW X.stack) ch H H' s.heap h')(g:HOk X.prog X.w H' h')(l:AllBare g')
  (d:∀b∈ch,(b∈X.ex\/X.s₀.heap.objs.size<=b)/\b≠X.env.locals/\(∀x c,X.env.cells.lookup x=γ c->c≠b)/\∀p∈X.pn++pins,p.1≠b):
  Inv X pins σ H' {s with heap:=h',gens:=g',drawn:=d',toks:=t'}:=by
 refine qq0 λqq2=>?_;obtain⟨m,⟨o,w,y,k,r⟩,_⟩:=id I.loc;refine qq2 ?_;obtain⟨A,h⟩:=u.any k I.free λz=>(d _ z).2.1 rfl
 exact I.step (ch:=ch) d (λb o h q a e n=>u.keep b o e n (λz=>(Υ.mp (I.stkSub b z)).elim h q) a) (λb o _ _ a e n=>u.any e n a) (λb o a e n=>u.free b o e n a) (λb o a e=>u.there b o e a) u.tups u.frzs u.tbls (λB t=>by
  obtain⟨C,i,j,f,v⟩:=t
  rw[k]at f;cases f
  exact⟨_,i,j,h,v⟩) g l
theorem Inv.turned(I:Inv X pins σ H s)(k:∀b o,b≠it->s.heap.get? b=γ o->h'.get? b=γ o)(g:H it=ν)(f:it≠X.env.locals)
  (h:it∈X.ex\/X.s₀.heap.objs.size<=it) (i:∀x c,X.env.cells.lookup x=γ c->c≠it) (j:∀p∈X.pn++pins,p.1≠it):Inv X pins σ H {s with heap:=h',toks:=t'}:=by
 have d:∀b u,H b=γ u->b≠it:=λb u e z=>by rw[z,g]at e;cases e
 refine I.step (g':=s.gens) (d':=s.drawn) (ch:=[it]) (λb l=>?_) (λb o _ _ a e _=>k b o (λz=>a<|by simp[z]) e) (λb o _ _ a e _=>⟨o.slots,k b o (λz=>a<|by simp[z]) e⟩) (λ_ _ _ _ n=>n)
  (λb o a e=>⟨o,k b o (λz=>a<|by simp[z]) e⟩) (λ_ _ e=>e) (λ_ _ _ e=>e) (λb B e=>⟨#[],by rw[e];simp⟩) (λm t=>?_) (λb u e=>?_) I.bare
 ·have e:b=it:=by simpa using l
  subst e;exact⟨h,f,i,j⟩
 ·obtain⟨o,w,y,A,r⟩:=t;exact⟨o,w,y,k _ o (Ne.symm f) A,r⟩
 ·refine(I.hok b u e).stay (λc v a q=>k c v ?_ q) (λ_ q=>q) λ_ _ q=>q;rcases a with z|z
  ·rw[z];exact d b u e
  ·exact d c _ z
theorem Inv.tok(I:Inv X pins σ H s)(t:π):Inv X pins σ H {s with toks:=t}:=I.un (h':=s.heap) (t':=t) Un.refl I.hok
theorem Inv.kept(I:Inv X pins σ H s)(k:∀b u,s.heap.get? b=γ u->h'.get? b=γ u):Inv X pins σ H {s with heap:=h',toks:=t'}:=I.un (Un.kept k)<|I.hok.kept k
theorem Inv.laid(I:Inv X pins σ H s)(k:∀b u,s.heap.get? b=γ u->h'.get? b=γ u)(c:s.heap.objs.size<=a)(d:ObjOk X.prog X.w (fA H a o) h' a o):
  Inv X pins σ (fA H a o) {s with heap:=h',toks:=t'}:=I.un (Un.laid k c<|I.hok.fresh c)<|I.hok.laid k c d
theorem Inv.write(I:Inv X pins σ H s)(d:Mut<|H x)(f:e=x\/H e=γ (.own x))(k:∀b u,b≠e->s.heap.get? b=γ u->h'.get? b=γ u)(a:∃u,h'.get? e=γ u)
  (c:ObjOk X.prog X.w (fA H x o) h' x o):Inv X pins σ (fA H x o) {s with heap:=h',toks:=g}:=I.un (Un.write d f k a)<|I.hok.write d f k a c
theorem Inv.pins_of(I:Inv X pins σ H s)(h:∀p∈a,s.heap.get? p.1=γ p.2/\H p.1=ν/\p.1≠X.env.locals/\p.1∉X.fs/\∀v,p.2.data≠ .cell v):Inv X a σ H s:=
 ⟨I.ok,I.os,I.bare,I.base,I.loc,I.cell,I.free,I.freeC,λp b=>(cj.mp b).elim (λz=>I.pin p<|ib _ z)<|h p,I.hok,I.len⟩
theorem Ih{N:ε bf}(c:N.Nodup){i j:π}(a:N[i]? =γ x)(b:N[j]? =γ x):i=j:=by
 obtain⟨f,d⟩:=Δ.mp a;obtain⟨g,e⟩:=Δ.mp b;exact(List.getElem_inj c).mp<|d.trans e.symm
theorem zD(I:Inv X pins σ H s)(hN:X.N.Nodup)(K:X.N[i]? =γ x)(t:Loc X.env.scope x)(r:RelV v u)
  (h:∀W,Inv X pins (σ.set i<|some v) H W->(∃a,SameBut a s.heap W.heap/\(a=X.env.locals\/X.env.cells.lookup x=γ a))->Q () W) (hf:X.fn x=true\/X.env.scope.names.lookup x=γ .local:=by first|exact .inl rfl|exact .inr rfl|assumption):ar M A (storeName X.env x u) Q E s:=by
 obtain⟨m,Y,hl⟩:=id I.loc;have L:(X.env.scope.kind== .class||(X.env.scope.kind== .module && X.env.locals !=X.env.globals))=false:=by rw[I.ok.kind];rfl
 have B:i<σ.length:=by rw[I.len];exact(Δ.mp K).1
 have D:=I.cne;have tracked:∀{a:Ζ}{h':gy},(∃o,s.heap.get? a=γ o/\H a=ν)->SameBut a s.heap h'->HOk X.prog X.w H h':=λ{a h'} ha f b ob e=>by
  obtain⟨_,_,hfree⟩:=ha;refine(I.hok b ob e).stay (λc S l q=>(f.2 c ?_).trans q) (λ_ q=>q) λ_ _ q=>q;rintro rfl;rcases l with rfl|l
  ·rw[hfree]at e;cases e
  ·rw[hfree]at l;cases l
 rcases t with C|C
 ·refine wpAny_storeName_local C Y (λh' Z f=>?_) L;obtain⟨oL,_,_,a0,_⟩:=id Y;refine h _ ⟨I.ok,I.os,I.bare,⟨λb o e n F t=>?_,λb o e n F t=>?_,I.base.free,λb o e t=>?_,I.base.tups,I.base.frzs,I.base.tbls⟩,⟨_,Z,λj y v' g w e3=>?_⟩,λy c e=>?_,I.free,I.freeC,λp hp=>?_,tracked ⟨oL,a0,I.free⟩ f,by simpa using I.len⟩ ⟨_,f,.inl rfl⟩
  ·exact(f.2 b<|ig<|av (cu e) I.ok.above).trans<|I.base.keep b o e n F t
  ·obtain⟨sl,g⟩:=I.base.slot b o e n F t;exact⟨sl,(f.2 b<|ig<|av (cu e) I.ok.above).trans g⟩
  ·obtain⟨o',g⟩:=I.base.there b o e t;exact⟨o',(f.2 b<|ig<|av (cu e) I.ok.above).trans g⟩
  ·by_cases G:j=i
   ·subst G;rw[K]at g;cases g;rw[ja B]at w;cases w;exact⟨u,r,.inl ⟨C,by simp⟩⟩
   ·rw[ic<|Ne.symm G]at w;obtain⟨u',r',q⟩:=hl j y v' g w e3;refine⟨u',r',?_⟩;rcases q with⟨k,e⟩|⟨k,c,e,z⟩
    ·refine .inl ⟨k,?_⟩;have:y≠x:=λe=>G<|Ih hN g<|e▸K;simp[this,e]
    ·exact .inr ⟨k,c,e,z.sameBut f<|D y c e⟩
  ·obtain⟨S,z⟩:=I.cell y c e;exact⟨S,z.sameBut f<|D y c e⟩
  ·refine qq0 λqq2=>?_;obtain⟨e,n,T,nf,d⟩:=I.pin p hp;refine qq2 ?_;exact⟨(f.2 p.1 T).trans e,n,T,nf,d⟩
 ·have J:X.fn x=true:=by
   rcases hf with z|z
   ·exact z
   ·rw[z]at C;cases C
  obtain⟨c,l⟩:=I.ok.has x<|.inl C;obtain⟨S,z⟩:=I.cell x c l;refine wpAny_storeName_cell I.ok.kind C l z λh' N f=>?_;obtain⟨oc,O,P⟩:=id z;refine h {s with heap:=h'} ⟨I.ok,I.os,I.bare,⟨λb o e n F t=>?_,λb o e n F t=>?_,I.base.free,λb o e t=>?_,I.base.tups,I.base.frzs,I.base.tbls⟩,⟨m,Y.sameBut f<|Ne.symm<|D x c l,λj y v' g w e3=>?_⟩,λy U e=>?_,I.free,I.freeC,λp hp=>?_,tracked ⟨oc,O,I.freeC x c l⟩ f,by simpa using I.len⟩ ⟨c,f,.inr l⟩
  ·exact(f.2 b<|ig<|av (cu e)<|I.ok.cab x c J l).trans<|I.base.keep b o e n F t
  ·obtain⟨sl,g⟩:=I.base.slot b o e n F t;exact⟨sl,(f.2 b<|ig<|av (cu e)<|I.ok.cab x c J l).trans g⟩
  ·obtain⟨o',g⟩:=I.base.there b o e t;exact⟨o',(f.2 b<|ig<|av (cu e)<|I.ok.cab x c J l).trans g⟩
  ·by_cases G:j=i
   ·subst G;rw[K]at g;cases g;rw[ja B]at w;cases w;exact⟨u,r,.inr ⟨.inl C,c,l,N⟩⟩
   ·rw[ic<|Ne.symm G]at w;obtain⟨u',r',q⟩:=hl j y v' g w e3;refine⟨u',r',?_⟩;rcases q with q|⟨k,U,e,z'⟩
    ·exact .inl q
    ·refine .inr ⟨k,U,e,z'.sameBut f ?_⟩;rintro rfl;exact G<|Ih hN g<|I.ok.inj _ _ _ e l▸K
  ·by_cases R:U=c
   ·subst R;exact⟨_,N⟩
   ·obtain⟨w2,z2⟩:=I.cell y U e;exact⟨w2,z2.sameBut f R⟩
  ·refine qq0 λqq2=>?_;obtain⟨e,n,T,nf,d⟩:=I.pin p hp;refine qq2 ?_;refine⟨(f.2 p.1 ?_).trans e,n,T,nf,d⟩;intro q;rw[q,O]at e;have q':oc=p.2:=bw e;exact d S (by rw[<-q'];exact P)
theorem pK(I:Inv X pins σ H s)(b:X.N.Nodup)(c:X.N[i]? =γ x)(d:Loc X.env.scope x)(r:RelV v u)
  (h:∀a,Inv X pins (σ.set i<|some v) H a->Q () a) (e:X.fn x=true\/X.env.scope.names.lookup x=γ .local:=by first|exact .inl rfl|exact .inr rfl|assumption):ar M A (storeName X.env x u) Q E s:=
 zD I b c d r (λa f _=>h a f) e
theorem Inv.call'(I:Inv X pins σ H s)(f:s'.os=s.os)(u:Un (rW X.stack) ch H H' s.heap s'.heap)(a:HOk X.prog X.w H' s'.heap)(g:AllBare s'.gens)
  (d:∀b∈ch,(b∈X.ex\/X.s₀.heap.objs.size<=b)/\b≠X.env.locals/\(∀x c,X.env.cells.lookup x=γ c->c≠b)/\∀p∈X.pn++pins,p.1≠b):Inv X pins σ H' s':=by
 obtain⟨h',g',d',t',h⟩:=s';have e:h=s.os:=f;subst e;exact I.call (g':=g') (t':=t') (d':=d') u a g d
end
abbrev XK:=Γ->Θ Ζ->Hp->Prop
abbrev St:=ε<|Θ V
abbrev VK:=V->Hp->Prop
abbrev TE:=St->Hp->VK->Prop
abbrev TT:=St->Hp->(Bool->Hp->Prop)->Prop
abbrev TA:=St->Hp->(ε V->Hp->Prop)->Prop
structure Ends where
 nx:St->Hp->Prop
 rt:VK
 bk:St->Hp->Prop:=λ_ _=>ag
 ct:St->Hp->Prop:=λ_ _=>ag
abbrev TS:=Ends->St->Hp->Prop
def EP(X:Cx)(pins:ε<|Ζ×Obj)(b:St)(Q:VK)(u:Γ)(c:aj):Prop:=∃v a,Inv X pins b a c/\RelV v u/\Q v a
def TP(X:Cx)(pins:ε<|Ζ×Obj)(c:St)(Q:Bool->Hp->Prop)(b:Bool)(d:aj):Prop:=∃a,Inv X pins c a d/\Q b a
def AP(X:Cx)(pins:ε<|Ζ×Obj)(c:St)(Q:ε V->Hp->Prop)(d:ε Γ)(e:aj):Prop:=∃a b,Inv X pins c b e/\Vals a d/\Q a b
def SP(X:Cx)(pins:ε<|Ζ×Obj)(D:Ends)(f:Flow)(c:aj):Prop:=
 match f with
 | .next=>∃a b,Inv X pins a b c/\D.nx a b
 | .brk=>∃a b,Inv X pins a b c/\D.bk a b
 | .cont=>∃a b,Inv X pins a b c/\D.ct a b
 | .ret u=>∃v a b,Inv X pins a b c/\RelV v u/\D.rt v b
def PE(X:Cx)(e:Expr)(t:TE):Prop:=
 ∀(pins:ε<|Ζ×Obj)(s:aj)(a:St)(H:Hp)(Q:VK),Inv X pins a H s->t a H Q->ar (model X.prog X.w) X.A (eval e X.env) (EP X pins a Q) X.xe s
def PT(X:Cx)(e:Expr)(t:TT):Prop:=
 ∀(pins:ε<|Ζ×Obj)(s:aj)(a:St)(H:Hp)(Q:Bool->Hp->Prop),Inv X pins a H s->t a H Q->ar (model X.prog X.w) X.A (isTrue e X.env<|eval e X.env) (TP X pins a Q) X.xe s
def PW(X:Cx)(e:Expr)(t:TT):Prop:=
 ∀(whole:Sem Γ)(pins:ε<|Ζ×Obj)(s:aj)(a:St)(H:Hp)(Q:Bool->Hp->Prop),Inv X pins a H s->t a H Q->ar (model X.prog X.w) X.A (isTrue e X.env whole) (TP X pins a Q) X.xe s
theorem PW.pt(h:PW X e t):PT X e t:=h _
def PA(X:Cx)(c:ε Expr)(t:TA):Prop:=
 ∀(a:Pos)(pins:ε<|Ζ×Obj)(s:aj)(b:St)(H:Hp)(Q:ε V->Hp->Prop),Inv X pins b H s->t b H Q->ar (model X.prog X.w) X.A (spliced<|backTo a<|starEach c X.env) (AP X pins b Q) X.xe s
def PS(X:Cx)(st:Stmt)(t:TS):Prop:=
 ∀(pins:ε<|Ζ×Obj)(s:aj)(a:St)(H:Hp)(D:Ends),Inv X pins a H s->t D a H->ar (model X.prog X.w) X.A (exec st X.env) (SP X pins D) X.xe s
def Kq(X:Cx)(st:ε Stmt)(t:TS):Prop:=
 ∀(pins:ε<|Ζ×Obj)(s:aj)(a:St)(H:Hp)(D:Ends),Inv X pins a H s->t D a H->ar (model X.prog X.w) X.A (execs st X.env) (SP X pins D) X.xe s
theorem eP{t:Sem b}{Q Q':b->aj->Prop}(h:ar M A t Q E s)(c:∀a s,Q a s->Q' a s):ar M A t Q' E s:=fk h c λ_ _ x=>x
section
variable{X:Cx}
def iI(i:π):TE:=λa H Q=>∃v,a[i]? =γ (γ v)/\Q v H
def tC(v:V):TE:=λ_ H Q=>Q v H
theorem aMf(k:X.N[i]? =γ x)(n:Vis X.env.scope x)(f:(x==("__debug__":bf))=false:=by decide)(g:(x==("__classdict__":bf))=false:=by decide):PE X (.Name x d) (iI i):=by
 intro pins s o H Q I h;refine qq0 λqq2=>?_;obtain⟨v,e,h⟩:=h;obtain⟨m,p,q⟩:=I.loc;obtain⟨u,r,l⟩:=q i x v k e n;refine qq2 ?_;have a:EP X pins o Q u s:=⟨v,H,I,r,h⟩;rcases l with⟨b,t⟩|⟨b,c,j,hcell⟩
 ·exact yk (wpAny_loadName_local I.ok.kind b p t a) f
 ·rcases b with b|b
  ·exact yk (wpAny_loadName_cell I.ok.kind b j hcell a) f
  ·exact yk (wpAny_loadName_free I.ok.kind b j hcell a g) f
theorem dH:PE X (.Constant (.int i) j a) (tC<|.int i):=λ_ _ _ H _ I h=>wpAny_Constant_int ⟨.int i,H,I.tok _,⟨_,rfl⟩,h⟩
theorem sH:PE X (.Constant (.bool b) j a) (tC<|.bl b):=λ_ _ _ H _ I h=>Constant_bool ⟨.bl b,H,I,rfl,h⟩
theorem Yg:PE X (.Constant .none j a) (tC .non):=λ_ _ _ H _ I h=>Constant_none ⟨.non,H,I,rfl,h⟩
theorem dN:PE X (.Constant (.str x) j a) (tC<|.str x):=λ_ _ _ H _ I h=>Calls.Constant_str ⟨.str x,H,I.tok _,⟨_,rfl⟩,h⟩
def Gl(X:Cx)(x:bf):Prop:=X.env.kindOf x=γ .globalImplicit
theorem uA(I:Inv X pins b H s)(c:Gl X x)(d:X.mg x=γ u)(h:Q u s)
  (e:(x==("__debug__":bf))=false:=by decide):ar (model X.prog X.w) X.A (eval (.Name x a) X.env) Q E s:=
 oh I.ok.kind c (Calls.loadGlobal_global (by rw[I.ok.glob];exact I.mod.glob.keeps I.bk) d h) e
theorem jK(I:Inv X pins b H s)(c:Gl X x)(d:X.mg x=ν)(e:bootBuiltins x=γ u)(h:Q u s)
  (f:x≠"__name__":=by decide) (g:(x==("__debug__":bf))=false:=by decide):ar (model X.prog X.w) X.A (eval (.Name x a) X.env) Q E s:=by
 obtain⟨k,i,j⟩:=I.mod.blt;exact oh I.ok.kind c (Calls.loadGlobal_builtin (by rw[I.ok.glob];exact I.mod.glob.keeps I.bk) d (by rw[I.ok.blt];exact i.keeps I.bk) ((j x f).trans e) h) g
theorem gR(b:Gl X x)(c:X.mg x=γ u)(r:RelV v u)(d:(x==("__debug__":bf))=false:=by decide):PE X (.Name x a) (tC v):=
 λ_ _ _ H _ I h=>uA I b c ⟨v,H,I,r,h⟩ d
theorem tW(b:Gl X x)(c:X.mg x=ν)(d:bootBuiltins x=γ u)(r:RelV v u)(e:x≠"__name__":=by decide)(f:(x==("__debug__":bf))=false:=by decide):PE X (.Name x a) (tC v):=
 λ_ _ _ H _ I h=>jK I b c d ⟨v,H,I,r,h⟩ e f
variable{a b:Expr}{ta tb:TE}{pos:Pos}
def PC(X:Cx)(f:CmpOp)(a b:Expr)(t:TE):Prop:=
 ∀(pins:ε<|Ζ×Obj)(s:aj)(e:St)(H:Hp)(Q:VK),Inv X pins e H s->t e H Q ->
  ar (model X.prog X.w) X.A (eval a X.env) (λv c=>ar (model X.prog X.w) X.A (eval b X.env) (λu d=>ar (model X.prog X.w) X.A (compareOp f v u) (EP X pins e Q) X.xe d) X.xe c) X.xe s
def tB(t:TE):TT:=λd H Q=>t d H λx e=>∃c,x= .bl c/\Q c e
theorem aLy(h:PC X e a b t)(f:behindInMarks e b=false:=by first|exact nobehind _ (by decide) (by decide)|rfl):PT X (.Compare a [e] [b] pos) (tB t):=by
 intro pins s g H Q I hw;refine r9 (eP (h pins s g H _ I hw) λv n f=>eP f λu o i=>eP i λc p ⟨x,j,k,l,m⟩=>?_) f;obtain⟨d,rfl,q⟩:=m;cases l;exact hJ ⟨j,k,q⟩
theorem vH(h:PE X e t)(c:∀whole,isTrue e X.env whole=(do let v <-whole;standAt e.pos;holding [v]<|truthy v):=by intro _;rfl):PT X e (tB t):=by
 intro pins s f H Q I hw;refine isTrue_plain (eP (h pins s f H _ I hw) λv l ⟨x,g,i,j,k⟩=>?_)<|c _;obtain⟨d,rfl,q⟩:=k;cases j;exact hJ ⟨g,i,q⟩
variable{tA tB':TT}{rest:ε Expr}
def aRf(t u:TT):TT:=λd H Q=>t d H λc e=>if c=true then u d e Q else Q false e
def tOr(t u:TT):TT:=λd H Q=>t d H λc e=>if c=true then Q true e else u d e Q
def aRb(t:TT):TT:=λd H Q=>t d H λc e=>Q (!c) e
theorem aEh(d:PT X a tA):PW X (.BoolOp .And [a] pos) tA:=by
 intro g pins s f H Q I h;refine A0<|eP (d pins s f H Q I h) λc i e=>?_;cases c with
 |true=>exact isTrue_and_nil e
 |false=>exact e
theorem rJ(d:PT X a tA):PW X (.BoolOp .Or [a] pos) tA:=by
 intro g pins s f H Q I h;refine isTrue_or<|eP (d pins s f H Q I h) λc i e=>?_;cases c with
 |false=>exact isTrue_or_nil e
 |true=>exact e
theorem aLx(i:PT X a tA)(j:PW X (.BoolOp .And (b::rest) pos) tB'):PW X (.BoolOp .And (a::b::rest) pos) (aRf tA tB'):=by
 intro k pins s d H Q I h;refine A0<|eP (i pins s d H _ I h) λc l ⟨e,f,g⟩=>?_;cases c with
 |true=>exact j k pins l d e Q f g
 |false=>exact⟨e,f,g⟩
theorem sG(i:PT X a tA)(j:PW X (.BoolOp .Or (b::rest) pos) tB'):PW X (.BoolOp .Or (a::b::rest) pos) (tOr tA tB'):=by
 intro k pins s d H Q I h;refine isTrue_or<|eP (i pins s d H _ I h) λc l ⟨e,f,g⟩=>?_;cases c with
 |true=>exact⟨e,f,g⟩
 |false=>exact j k pins l d e Q f g
theorem Ce(d:PT X a tA):PT X (.UnaryOp .Not a pos) (aRb tA):=by
 intro pins s e H Q I h;exact isTrue_not<|d pins s e H (λc f=>Q (!c) f) I h
def aHw(ta tb:TE):TE:=λd H Q=>ta d H λx e=>∃c,x= .bl c/\if c=true then tb d e Q else Q (.bl false) e
def aRa(ta tb:TE):TE:=λd H Q=>ta d H λx e=>∃c,x= .bl c/\if c=true then Q (.bl true) e else tb d e Q
def aHs(ta:TE):TE:=λd H Q=>ta d H λx e=>∃c,x= .bl c/\Q (.bl<|!c) e
theorem aMg(h:PE X a t):PE X (.BoolOp c [a] pos) t:=λpins s d H Q I hw=>BoolOp_one<|h pins s d H Q I hw
theorem aMj(i:PE X a ta)(j:PE X (.BoolOp .And (b::rest) pos) tb):PE X (.BoolOp .And (a::b::rest) pos) (aHw ta tb):=by
 intro pins s e H Q I h;refine BoolOp_and<|eP (i pins s e H _ I h) λv k ⟨x,f,g,l,d⟩=>?_;refine qq0 λqq2=>?_;obtain⟨c,rfl,d⟩:=d;refine qq2 ?_;cases l;refine hJ ?_;cases c with
 |true=>exact j pins k e f Q g d
 |false=>exact⟨.bl false,f,g,rfl,d⟩
theorem aRy(i:PE X a ta)(j:PE X (.BoolOp .Or (b::rest) pos) tb):PE X (.BoolOp .Or (a::b::rest) pos) (aRa ta tb):=by
 intro pins s e H Q I h;refine BoolOp_or<|eP (i pins s e H _ I h) λv k ⟨x,f,g,l,d⟩=>?_;refine qq0 λqq2=>?_;obtain⟨c,rfl,d⟩:=d;refine qq2 ?_;cases l;refine hJ ?_;cases c with
 |false=>exact j pins k e f Q g d
 |true=>exact⟨.bl true,f,g,rfl,d⟩
theorem aMh(e:PE X a ta):PE X (.UnaryOp .Not a pos) (aHs ta):=by
 intro pins s f H Q I h;refine UnaryOp_<|eP (e pins s f H _ I h) λv k ⟨x,g,i,j,d⟩=>?_;obtain⟨c,rfl,d⟩:=d;cases j;exact not_of<|hJ ⟨.bl<|!c,g,i,rfl,d⟩
def tIf(t:TT)(ta tb:TE):TE:=λd H Q=>t d H λc e=>if c=true then ta d e Q else tb d e Q
theorem Yi(k:PT X c tA)(l:PE X a ta)(m:PE X b tb):PE X (.IfExp c a b pos) (tIf tA ta tb):=by
 intro pins s e H Q I h;refine wpAny_IfExp<|eP (k pins s e H _ I h) λd f ⟨g,i,j⟩=>?_;cases d with
 |true=>exact l pins f e g Q i j
 |false=>exact m pins f e g Q i j
end
def SqL(K:ς)(H:Hp)(a:Ζ)(c:ε V):Prop:=
 Rd H a (.lst c) \/
  ∃(o:Obj)(b:Array Γ)(n:π),K.lookup a=γ o/\o.cls= .type "list"/\o.dict=ν/\o.data= .seq b n/\b.size<=sizeLine/\Vals c b.toList
def SqT(K:ς)(H:Hp)(a:Ζ)(c:ε V):Prop:=
 Rd H a (.tup c) \/
  ∃(o:Obj)(b:Array Γ)(n:π),K.lookup a=γ o/\o.cls= .type "tuple"/\o.data= .seq b n/\b.size<=sizeLine/\Vals c b.toList
def aWs:Γ->Θ V
 | .none=>γ .non
 | .bool b=>γ<|.bl b
 | .int i _=>γ<|.int i
 | .str x _=>γ<|.str x
 | .bytes b _=>γ<|.byt b
 | .float b _=>γ<|.flt b
 | .ref a=>γ<|.ref a
 | .type n=>γ<|.ty n
 |_=>ν
theorem RelV.abs(r:RelV x u):aWs u=γ x:=by
 cases x with
 |non=>cases r;rfl
 |bl _=>cases r;rfl
 |int _=>obtain⟨t,rfl⟩:=r;rfl
 |str _=>obtain⟨t,rfl⟩:=r;rfl
 |byt _=>obtain⟨t,rfl⟩:=r;rfl
 |flt _=>obtain⟨t,rfl⟩:=r;rfl
 |ref _=>cases r;rfl
 |ty _=>cases r;rfl
theorem RelV.inj(r:RelV x u)(q:RelV y u):x=y:=bw<|r.abs.symm.trans q.abs
theorem Vals.inj:∀{a b:ε V}{c:ε Γ},Vals a c->Vals b c->a=b
 |_,_,_,.nil,.nil=>rfl
 |_,_,_,.cons r t,.cons d e=>by rw[r.inj d,Vals.inj t e]
theorem SqL.of{K:ς}(h:H a=γ (.lst xs)):SqL K H a xs:=.inl<|.inl h
theorem SqT.of{K:ς}(h:H a=γ (.tup xs)):SqT K H a xs:=.inl<|.inl h
theorem Inv.list(I:Inv X j k H s)(h:SqL X.K H a xs):∃b:ε Γ,Vals xs b/\PlainL s.heap a b.toArray/\xs.length<=sizeLine:=by
 rcases h with h|⟨o,b,n,c,d,f,g,i,r⟩
 ·refine qq0 λqq2=>?_;obtain⟨z,b,n,r,e⟩:=h.ok I.hok;refine qq2 ?_;exact⟨b,r,⟨_,n,e,rfl,rfl,rfl⟩,z⟩
 ·refine⟨b.toList,r,⟨o,n,I.kIn a o c,d,f,by simpa using g⟩,?_⟩;have e:=r.length;simp only[uk]at e;exact 10
theorem Inv.tuple(I:Inv X i j H s)(h:SqT X.K H a xs):∃b:ε Γ,Vals xs b/\IsTup s.heap a b.toArray/\xs.length<=sizeLine:=by
 rcases h with h|⟨o,b,n,c,d,f,g,r⟩
 ·obtain⟨z,b,r,p⟩:=h.ok I.hok;exact⟨b,r,p,z⟩
 ·refine⟨b.toList,r,⟨o,I.kIn a o c,d,n,by simpa using f⟩,?_⟩;have e:=r.length;simp only[uk]at e;exact 10
theorem Inv.list_inj(I:Inv X p q H s)(h:SqL X.K H a xs)(i:SqL X.K H a ys):xs=ys:=by
 obtain⟨c,r,⟨o,n,e,_,_,d⟩,_⟩:=I.list h;obtain⟨b,j,⟨l,m,f,_,_,g⟩,_⟩:=I.list i;rw[e]at f;cases f;rw[d]at g;injection g with k _
 have:c=b:=by simpa using ea Array.toList k
 subst this;exact r.inj j
abbrev Cx.wish(X:Cx)(E:Γ->aj->Prop):Cx:={X with xe:=E}
abbrev Cx.nox(X:Cx):Cx:=X.wish λ_ _=>ag
section
variable{X:Cx}{st:Stmt}{rest:ε Stmt}{t u:TS}{e:Expr}{te:TE}{pos:Pos}
def Oo:TS:=λD a H=>D.nx a H
def xQ(t u:TS):TS:=λD a H=>t {D with nx:=u D} a H
theorem dL:Kq X [] Oo:=λ_ _ a H _ I h=>nj ⟨a,H,I,h⟩
theorem aY(b:PS X st t)(c:Kq X rest u):Kq X (st::rest) (xQ t u):=by
 intro pins s d H D I h;refine wk<|eP (b pins s d H {D with nx:=u D} I h) λf g q=>?_;cases f with
 |next =>
  refine qq0 λqq2=>?_;obtain⟨a,i,j,q⟩:=q;refine qq2 ?_;exact c pins g a i D j q
 |ret v=>exact q
 |brk=>exact q
 |cont=>exact q
theorem cB(a:PS X st t):Kq X [st] t:=by
 intro pins s b H D I h;refine wk<|eP (a pins s b H D I h) λf c q=>?_;cases f with
 |next=>exact nj q
 |ret v=>exact q
 |brk=>exact q
 |cont=>exact q
theorem Inv.quiet(I:Inv X pins a H s):interactive X.env=false:=by simp[interactive,I.ok.kind]
def Op(te:TE):TS:=λD a H=>te a H λ_ b=>D.nx a b
theorem Pk(b:PE X e te)(c:swapsWith e ν pos.line X.env=pure false:=by rfl):PS X (.Expr e pos) (Op te):=by
 intro pins s a H D I h;exact wpAny_Expr_any (eP (b pins s a H _ I h) λv i ⟨x,d,f,j,g⟩=>⟨a,d,f,g⟩) I.quiet c
def Fu(te:TE):TS:=λD a H=>te a H D.rt
theorem fV(b:PE X e te):PS X (.Return (γ e) pos) (Fu te):=by
 intro pins s a H D I h;exact wpAny_Return_some<|eP (b pins s a H _ I h) λv i ⟨x,c,d,f,g⟩=>⟨x,a,c,d,f,g⟩
def Wl(c:TT)(t u:TS):TS:=λD a H=>c a H λb d=>if b=true then t D a d else u D a d
theorem fX(m:PT X c g)(n:Kq X a t)(o:Kq X b u):PS X (.If c a b pos) (Wl g t u):=by
 intro pins s f H D I h;refine wpAny_If<|eP (m pins s f H _ I h) λd i ⟨j,k,l⟩=>?_;cases d with
 |true=>exact n pins i f j D k l
 |false=>exact o pins i f j D k l
end
abbrev TG:=V->St->Hp->(St->Hp->Prop)->Prop
abbrev Vd:=ε V->St->Hp->(St->Hp->Prop)->Prop
def PG(X:Cx)(target:Expr)(t:TG):Prop:=
 ∀(pins:ε<|Ζ×Obj)(s:aj)(b:St)(H:Hp)(v:V)(u:Γ)(Q:St->Hp->Prop),Inv X pins b H s->RelV v u->t v b H Q ->
  ar (model X.prog X.w) X.A (assign target X.env u) (λ_ d=>∃a c,Inv X pins a c d/\Q a c) X.xe s
def PGs(X:Cx)(f:ε Expr)(t:Vd):Prop:=
 ∀(pins:ε<|Ζ×Obj)(s:aj)(b:St)(H:Hp)(c:ε V)(d:ε Γ)(Q:St->Hp->Prop),Inv X pins b H s->Vals c d->t c b H Q ->
  ar (model X.prog X.w) X.A (assignInOrder ((assignEach f X.env).map (·.2)) d) (λ_ g=>∃a e,Inv X pins a e g/\Q a e) X.xe s
abbrev aPm:=V->V->V->Hp->(Hp->Prop)->Prop
def aUm(X:Cx)(t:aPm):Prop:=
 ∀(pins:ε<|Ζ×Obj)(s:aj)(a:St)(H:Hp)(o i v:V)(b c u:Γ)(Q:Hp->Prop),Inv X pins a H s->RelV o b->RelV i c->RelV v u->t o i v H Q ->
  ar (model X.prog X.w) X.A (setItem b c u) (λ_ e=>∃d,Inv X pins a d e/\Q d) X.xe s
def kR(i:π):TG:=λv a H Q=>Q (a.set i<|some v) H
theorem tV(a:X.N.Nodup)(b:X.N[i]? =γ x)(c:Loc X.env.scope x)(d:X.fn x=true\/X.env.scope.names.lookup x=γ .local:=by first|exact .inl rfl|exact .inr rfl|assumption):PG X (.Name x j) (kR i):=by
 intro pins s f H v u Q I r h;exact vj<|pK I a b c r (λg e=>⟨_,H,e,h⟩) d
def aTb:Vd:=λa b H Q=>a=[]/\Q b H
def aIn(t:TG)(u:Vd):Vd:=λb c H Q=>∃v r,b=v::r/\t v c H λa d=>u r a d Q
theorem Ck:PGs X [] aTb:=by
 intro pins s a H b c Q I r h;obtain⟨e,h⟩:=h;subst e;cases r;exact vk ⟨a,H,I,h⟩
theorem mM(c:PG X e t)(d:PGs X a u)
  (f:(assignEach (e::a) X.env).map (·.2)=assign e X.env::(assignEach a X.env).map (·.2):=by rfl):PGs X (e::a) (aIn t u):=by
 intro pins s g H n o Q I r h;refine qq0 λqq2=>?_;obtain⟨v,p,i,h⟩:=h;refine qq2 ?_;subst i;cases r with
 |cons r rr=>
  rw[f];refine oi<|eP (c pins s g H _ _ _ I r h) λ_ j ⟨b,k,l,m⟩=>?_;exact d pins j b k _ _ Q l rr m
def aNw(K:ς)(n:π)(t:Vd):TG:=λv c H Q=>∃a b,v= .ref a/\SqT K H a b/\b.length=n/\t b c H Q
theorem aMd(i:X.calm=true)(h:PGs X c t)
  (j:(assignEach c X.env).length=n:=by rfl) (d:(assignEach c X.env).findIdx? (·.1)=ν:=by rfl):PG X (.Tuple c k C) (aNw X.K n t):=by
 intro pins s f H v u Q I r hw;refine qq0 λqq2=>?_;obtain⟨a,l,m,p,q,hw⟩:=hw;refine qq2 ?_;subst m;cases r;refine qq0 λqq2=>?_;obtain⟨w,g,x,B⟩:=I.tuple p;refine qq2 ?_;refine assign_Tuple_tuple (I.ok.hd i) x (by simp[j,<-q,g.length]) d λy z=>?_;have A:Inv X pins f H {s with heap:=y}:=I.kept (t':=s.toks) λb o e=>z b o (ig<|cu e) e;exact h pins _ f H l _ Q A (by simpa using g) hw
def aTa(b c:TE)(t:aPm):TG:=λv a H Q=>b a H λo d=>c a d λi e=>t o i v e λf=>Q a f
theorem aMe(f:PE X o d)(g:PE X i e)(j:aUm X t)
  (k:∀v,assign (.Subscript o i J) X.env v=(do
   let a <-holding [v] (eval o X.env)
   let b <-holding [v,a] (eval i X.env)
   standAt J
   holding [v,a,b] (setItem a b v)
   release [v,a,b] []):=by intro _;rfl):PG X (.Subscript o i J) (aTa d e t):=by
 intro pins s c H v u Q I r h;rw[k];refine ξ<|jm<|eP (f pins s c H _ I h) λa l ⟨x,m,n,p,q⟩=>?_;refine ξ<|jm<|eP (g pins l c m _ n q) λb w ⟨y,z,A,B,C⟩=>?_;refine ξ<|m4<|ξ<|jm<|eP (j pins w c z x y v a b u _ A p B r C) λ_ G ⟨D,E,F⟩=>?_;exact wpAny_release ⟨c,D,E,F⟩
def nW(b:TE)(g:TG):TS:=λD a H=>b a H λx c=>g x a c D.nx
theorem Lj(c:PE X e a)(d:PG X tg g)(f:swapsWithSole [tg] e p.line X.env=pure false:=by rfl)(hw:swappedStores [tg] e X.env=pure ν:=by rfl)
  (i:(assignEach [tg] X.env).map (·.2)=[assign tg X.env]:=by rfl):PS X (.Assign [tg] e p) (nW a g):=by
 intro pins s b H D I h;refine wpAny_Assign_stores (eP (c pins s b H _ I h) λv j ⟨x,k,l,m,n⟩=>?_) f hw;rw[i];exact eP (d pins j b k x v _ l m n) λ_ o q=>q
theorem Xz(b:X.N.Nodup)(c:X.N[i]? =γ x)(d:Loc X.env.scope x)(f:PE X e a)(g:swapsWith e (γ<|.Name x pos') t.line X.env=pure false:=by rfl)(j:X.fn x=true\/X.env.scope.names.lookup x=γ .local:=by first|exact .inl rfl|exact .inr rfl|assumption):
  PS X (.Assign [.Name x pos'] e t) (nW a<|kR i):=by
 intro pins s k H D I h;refine wpAny_Assign_Name (eP (f pins s k H _ I h) λv q ⟨y,l,m,n,o⟩=>?_) g;exact pK m b c d n (λr p=>⟨_,l,p,o⟩) j
def aQz(i j:π)(b:TA):TS:=λD a H=>b a H λc d=>∃v w,c=[v,w]/\D.nx ((a.set i<|some v).set j<|some w) d
theorem aLz(L:X.calm=true)(C:X.N.Nodup)(M:X.N[i]? =γ x)(N:X.N[j]? =γ y)(t:i≠j)
  (E:X.env.scope.names.lookup x=γ .local) (F:X.env.scope.names.lookup y=γ .local) (O:PA X [a,b] B)
  (hw:swappedStores [.Tuple [.Name x k,.Name y l] n m] (.Tuple [a,b] r c) X.env=pure (γ [x,y]))
  (P:swapsWithSole [.Tuple [.Name x k,.Name y l] n m] (.Tuple [a,b] r c) pos.line X.env=pure false:=by rfl):
  PS X (.Assign [.Tuple [.Name x k,.Name y l] n m] (.Tuple [a,b] r c) pos) (aQz i j B):=by
 intro pins s G H D I h;rw[exec_Assign_arm];refine ξ<|m4 ?_;rw[P];refine ξ<|aq ?_;rw[ι<|by decide];refine ξ<|Tuple_<|eP (O _ pins s G H _ I h) λR d ⟨vs,J,S,T,u⟩=>?_;refine qq0 λqq2=>?_;obtain⟨v,w,U,u⟩:=u;refine qq2 ?_;subst U;obtain⟨f,g,rfl,W,z⟩:∃f g,R=[f,g]/\RelV v f/\RelV w g:=by
  cases T with
  |cons p q=>
   cases q with
   |cons Y Z=>
    cases Z;exact⟨_,_,rfl,p,Y⟩
 refine vm ?_ (by show 2<=sizeLine;decide);have I2:Inv X pins G J {d with heap:=d.heap.push {cls:=.type "tuple",data:=.seq [f,g].toArray}}:=S.kept (t':=d.toks) λb o e=>Ξ _ e;rw[hw];refine ξ<|aq ?_;show ar (model X.prog X.w) X.A (do rule "assign.swapped-stores";let items <-unpackItems (.ref d.heap.objs.size) 2 ν;assignInOrder [λv=>bindName X.env y v,λv=>bindName X.env x v] items.reverse;pure Flow.next) _ _ _;refine ξ<|yl<|ξ<|unpackItems_tuple (items:=#[f,g]) (I.ok.hd L) (zg d.heap _) λh' A=>?_;have I3:=I2.kept (h':=h') (t':=d.toks) λb o e=>A b o (ig<|cu e) e;show ar _ _ (assignInOrder [λv=>bindName X.env y v,λv=>bindName X.env x v] [g,f]>>=λ_=>pure Flow.next) _ _ _;refine ξ<|oi<|ym<|pK I3 C N (.inl F) z (λs2 I4=>?_)<|.inr F;refine oi<|ym<|pK I4 C M (.inl E) W (λs3 K=>vk<|aq ?_)<|.inr E;rw[List.set_comm _ _<|Ne.symm t]at K;exact⟨_,J,K,u⟩
def Wj(c:TT)(tb:TS):TS:=λD a H=>∃W:π->St->Hp->Prop,(∃m,W m a H)/\∀m a H,W m a H ->
 c a H λb e=>if b=true then ∃N:St->Hp->Prop,(∀d f,N d f->∃g,g<m/\W g d f)/\tb {D with nx:=N,ct:=N,bk:=D.nx} a e else D.nx a e
theorem Xy(r:PassesOwn (model X.prog X.w) X.A X.env X.xe)(z:PT X c q)(A:Kq X body tb):PS X (.While c body [] O) (Wj q tb):=by
 intro pins s B H D I h;refine qq0 λqq2=>?_;obtain⟨W,⟨C,E⟩,turn⟩:=h;refine qq2 ?_;refine wpAny_While<|codeAny_whileLoop (λn F=>∃e t,Inv X pins e t F/\W n e t) ?_ C ⟨B,H,I,E⟩;intro n G qQ0;refine qq0 λqq2=>?_;obtain⟨d,u,J,K⟩:=qQ0;refine qq2 ?_;refine jw r<|eP (z pins G d u _ J<|turn n d u K) λb L ⟨w,x,i⟩=>?_;cases b with
 |true=>
  refine qq0 λqq2=>?_;obtain⟨N,y,i⟩:=i;refine qq2 ?_;rw[ρ rfl];refine jw r<|eP (A pins L d w _ x i) λf M j=>?_;cases f with
  |next =>
   refine qq0 λqq2=>?_;obtain⟨a,g,k,l⟩:=j;obtain⟨m,o,p⟩:=y a g l;refine qq2 ?_;exact⟨m,o,a,g,k,p⟩
  |cont=>
   refine qq0 λqq2=>?_;obtain⟨a,g,k,l⟩:=j;obtain⟨m,o,p⟩:=y a g l;refine qq2 ?_;exact⟨m,o,a,g,k,p⟩
  |brk=>exact j
  |ret v=>exact j
 |false=>
  rw[ι bg];exact nj ⟨d,w,x,i⟩
structure It where
 go:π->Hp->Prop
 yld:π->Hp->V->Hp->Prop
 stop:π->Hp->Prop
def lN(X:Cx)(pins:ε<|Ζ×Obj)(H:Hp)(b:Ζ):Prop:=
 H b=ν/\b≠X.env.locals/\b∉X.fs/\(b∈X.ex\/X.s₀.heap.objs.size<=b)/\(∀x c,X.env.cells.lookup x=γ c->c≠b)/\∀p∈X.pn++pins,p.1≠b
theorem Inv.fpOk(I:Inv X pins f H s)(a:s.heap.objs.size<=b)(g:d b=ν):lN X pins d b:=by
 refine⟨g,vn<|av I.lt a,I.nofs a,.inr<|Α I.sz a,λx c e z=>?_,λp h z=>?_⟩
 ·obtain⟨v,q⟩:=I.cell x c e;exact ψ (av q.lt (by rw[z];exact a))<|jo _
 ·exact ψ (av (cu (I.pin p h).1) (by rw[z];exact a))<|jo _
structure Turn(P:Program)(w:kn)(K:ς)(tg:Expr)(J:It)(fp:ε Ζ)(it:Ζ)(tn:π->gy->Prop):Prop where
 mem:it∈fp
 obj:∀i h,tn i h->∀b∈fp,∃o,h.get? b=γ o/\∀v,o.data≠ .cell v
 keep:∀i h h',tn i h->(∀b∈fp,∀o,h.get? b=γ o->h'.get? b=γ o)->tn i h'
 item:∀(X:Cx),X.prog=P->X.w=w->X.K=K->X.calm=true->∀(i:π)(pins:ε<|Ζ×Obj)(s:aj)(σ:St)(H:Hp)(E:Γ->aj->Prop),Inv X pins σ H s->(∀b∈fp,lN X pins H b)->tn i s.heap->J.go i H ->
  ar (model P w) X.A (pyNext (.ref it)) (λr s1=>∃u,r=γ u/\
   ar (model P w) X.A (letOwnedTupleGo tg (.ref it) u) (λ_ s2=>∃x H',Inv X pins σ H' s2/\RelV x u/\J.yld i H x H'/\tn (i+1) s2.heap/\∀b∈fp,H' b=ν) E s1) E s
 done:∀(X:Cx),X.prog=P->X.w=w->X.K=K->X.calm=true->∀(i:π)(pins:ε<|Ζ×Obj)(s:aj)(σ:St)(H:Hp)(E:Γ->aj->Prop),Inv X pins σ H s->(∀b∈fp,lN X pins H b)->tn i s.heap->J.stop i H ->
  ar (model P w) X.A (pyNext<|.ref it) (λr s1=>r=ν/\Inv X pins σ H s1) E s
 self:∀(A:Around)(i:π)(s:aj)(Q:Γ->aj->Prop)(E:Γ->aj->Prop),tn i s.heap->Q (.ref it) s->ar (model P w) A (pyIter<|.ref it) Q E s
abbrev TI:=St->Hp->(It->Hp->Prop)->Prop
def PIE(X:Cx)(pins:ε<|Ζ×Obj)(h:St)(tg:Expr)(R:It->Hp->Prop)(a:Γ)(d:aj):Prop:=
 ∃(e:Ζ)(f:ε Ζ)(g:π->gy->Prop)(J:It)(c:Hp),a= .ref e/\Inv X pins h c d/\Turn X.prog X.w X.K tg J f e g/\g 0 d.heap/\(∀b∈f,lN X pins c b)/\R J c
def PI(X:Cx)(tg iter:Expr)(b:TI):Prop:=
 ∀(pins:ε<|Ζ×Obj)(s:aj)(a:St)(H:Hp)(R:It->Hp->Prop),Inv X pins a H s->b a H R ->
  ar (model X.prog X.w) X.A (eval iter X.env) (λv c=>ar (model X.prog X.w) X.A (pyIter v) (PIE X pins a tg R) X.xe c) X.xe s
theorem Ad(d:s.heap.get? b=γ o)(e:o.cls= .type n)(f:o.data= .fields c)
  (g:["enumerate","zip","dict_itemiterator","dict_reverseitemiterator","odict_iterator","itertools.zip_longest","itertools.pairwise"].contains n=false) (a:Q () s):ar M A (letOwnedTupleGo tg (.ref b) u) Q E s:=by
 unfold letOwnedTupleGo;cases tg <;>first
  |exact aq a
  | (cases u <;> first
    |exact aq a
    | (refine ξ (wpAny_load d ?_)
       rw[e,f]
       show ar M A (if (["enumerate","zip","dict_itemiterator","dict_reverseitemiterator","odict_iterator","itertools.zip_longest","itertools.pairwise"].contains n && c[0]? ==γ (rawInt _))=true then _ else _) Q E s
       rw[ι (by intro h;rw[g,Bool.false_and]at h;cases h)]
       exact aq a))
def Itl(K:ς)(a:Ζ):It:=
 ⟨λi H=>∃b x,SqL K H a b/\b[i]? =γ x,λi H x c=>c=H/\∀b,SqL K H a b->b[i]? =γ x,λi H=>∃b,SqL K H a b/\b.length<=i⟩
def Itr(a:χ)(n:π):It:=⟨λi _=>i<n,λi H x b=>b=H/\x= .int (a+i),λi _=>n<=i⟩
theorem Sj{K:ς}(a f:Ζ):Turn P w K tg (Itl K a) [f] f (λi h=>h.IsListIter f a i) where
 mem:=by simp
 obj:=λi h st b g=>by
  have e:b=f:=by simpa using g
  subst e;obtain⟨o,e,c,d⟩:=st;exact⟨o,e,λv z=>by rw[d]at z;cases z⟩
 keep:=λi h l st k=>st.at λo e=>k f (by simp) o e
 item:=by
  intro X q hw r L i pins s M H E I m st t;subst q hw r;refine qq0 λqq2=>?_;obtain⟨N,x,n,y⟩:=t;obtain⟨A,B,p,O⟩:=I.list n;obtain⟨u,R,S⟩:=B.get y;obtain⟨C,D,T,F,G,J⟩:=m f (by simp);refine qq2 ?_;refine wpAny_pyNext_list_item st p.isList (x:=u) (by simpa using R) λl j U=>?_;have Y:Inv X pins M H {s with heap:=l}:=I.turned (t':=s.toks) (λb o g e=>(U.2 b g).trans e) C D F G J;refine qq0 λqq2=>?_;obtain⟨o,e,c,d⟩:=id j;refine qq2 ?_;exact⟨u,rfl,Ad (s:={s with heap:=l}) e c d (by decide) ⟨x,H,Y,S,⟨rfl,λys Z=>by rw[I.list_inj Z n];exact y⟩,j,λb g=>(m b g).1⟩⟩
 done:=by
  intro X q hw r L i pins s M H E I m st t;subst q hw r;refine qq0 λqq2=>?_;obtain⟨N,n,y⟩:=t;obtain⟨A,B,p,O⟩:=I.list n;obtain⟨C,D,T,F,G,J⟩:=m f (by simp);refine qq2 ?_;have hl:=B.length;exact wpAny_pyNext_list_end (I.ok.hd L) st p.isList (by simp;lia) λl eb=>⟨rfl,I.turned (t':=s.toks) (λb o g e=>eb b o g e) C D F G J⟩
 self:=λ_ _ _ _ _ st h=>wpAny_pyIter_listiter st h
theorem Kv{K:ς}(a:Ζ)(f:χ)(n:π):Turn P w K tg (Itr f n) [a] a (λi h=>IsRangeIter h a (f+(i:π)*1) ((n:χ)-(i:π)) 1) where
 mem:=by simp
 obj:=λi h st b c=>by
  have e:b=a:=by simpa using c
  subst e
  exact⟨_,st,λv z=>by
   have C:Data.fields _=Data.cell v:=z
   cases C⟩
 keep:=λi h g st k=>k a (by simp) _ st
 item:=by
  intro X l hw m p i pins s B H E I j st q;subst l hw m;refine qq0 λqq2=>?_;obtain⟨r,u,D,x,y,A⟩:=j a (by simp);refine qq2 ?_;have W:=AF (prog:=X.prog) (w:=X.w) (I.ok.hd p) a f 1 n;refine W.item i s _ _ q st λv g tk F d G=>?_;refine qq0 λqq2=>?_;obtain⟨t,rfl⟩:=F;refine qq2 ?_;have J:Inv X pins B H {s with heap:=g,toks:=tk}:=I.turned (λb o c e=>G b o (by simpa using c) e) r u x y A;refine⟨_,rfl,Ad (s:={s with heap:=g,toks:=tk}) (n:="range_iterator") d rfl rfl (by decide) ⟨.int<|f+i,H,J,⟨t,?_⟩,⟨rfl,rfl⟩,d,λb c=>(j b c).1⟩⟩;rw[pb]
 done:=by
  intro X l hw m p i pins s B H E I j st q;subst l hw m;refine qq0 λqq2=>?_;obtain⟨r,u,D,x,y,A⟩:=j a (by simp);refine qq2 ?_;exact qy (I.ok.hd p) st (by have:n<=i:=q;lia) λg L=>⟨rfl,I.turned (t':=s.toks) (λb o c e=>L b o c e) r u x y A⟩
 self:=λ_ _ _ _ _ st h=>qz st h
def Qm(K:ς)(c:TE):TI:=λd H R=>c d H λx b=>∃a,x= .ref a/\(∃e,SqL K b a e)/\R (Itl K a) b
theorem aEm(g:PE X l f):PI X z l (Qm X.K f):=by
 intro pins s i H R I h;refine eP (g pins s i H _ I h) λv c ⟨x,j,d,k,m⟩=>?_;refine qq0 λqq2=>?_;obtain⟨a,e,⟨u,n⟩,q⟩:=m;refine qq2 ?_;subst e;cases k;obtain⟨r,w,p,y⟩:=d.list n;refine jy p.isList ?_;refine⟨c.heap.objs.size,[c.heap.objs.size],_,_,j,rfl,d.kept (t':=c.toks) λb o e=>Ξ _ e,Sj a _,⟨_,aw _ rfl,rfl,rfl⟩,λb t=>?_,q⟩;have e:b=c.heap.objs.size:=by simpa using t
 subst e;exact d.fpOk (ω _)<|d.hok.fresh<|ω _
theorem Go{a c:χ}(I:Inv X pins d H s)(g:-(2^62)<=a)(h:a<2^62)(i:-(2^62)<=c)(j:c<2^62)
  (q:R (Itr a (c-a).toNat) H):ar (model X.prog X.w) X.A (pyIter<|.ref s.heap.objs.size) (PIE X pins d n R) E {s with heap:=s.heap.push {cls:=.type "range",data:=.fields #[.int a t,.int c u,.int 1 v]},toks:=tk}:=by
 refine uy (AG ..) (small_one g h i j) ?_;have f:Inv X pins d H {s with heap:=s.heap.push {cls:=.type "range",data:=.fields #[.int a t,.int c u,.int 1 v]},toks:=tk}:=I.kept λb o e=>Ξ _ e
 refine⟨(s.heap.push {cls:=.type "range",data:=.fields #[.int a t,.int c u,.int 1 v]}).objs.size,[(s.heap.push {cls:=.type "range",data:=.fields #[.int a t,.int c u,.int 1 v]}).objs.size],_,_,H,rfl,
  f.kept (t':=tk) λb o e=>Ξ _ e,Kv _ a (c-a).toNat,?_,λb k=>?_,q⟩
 ·have l:a+((0:π):χ)*1=a:=by simp
  have m:(((c-a).toNat:π):χ)-((0:π):χ)=eu a c 1:=by rw[rangeSize_one];split <;>lia
  show IsRangeIter _ _ (a+((0:π):χ)*1) ((((c-a).toNat:π):χ)-((0:π):χ)) 1;rw[l,m];exact aw _ rfl
 ·have e:b=(s.heap.push {cls:=.type "range",data:=.fields #[.int a t,.int c u,.int 1 v]}).objs.size:=by simpa using k
  subst e;exact f.fpOk (ω _)<|f.hok.fresh<|ω _
def aIl(a:TA):TI:=λb H R=>a b H λc d=>∃j:χ,c=[.int j]/\-(2^62)<=j/\j<2^62/\R (Itr 0 j.toNat) d
def aIk(a:TA):TI:=λb H R=>a b H λc d=>∃i j:χ,c=[.int i,.int j]/\(-(2^62)<=i/\i<2^62/\-(2^62)<=j/\j<2^62)/\R (Itr i (j-i).toNat) d
theorem Ta(f:Gl X "range")(g:X.mg "range"=ν)(i:PA X [a] d)(k:starEach [a] X.env=[(false,eval a X.env)]:=by rfl):PI X y (.Call (.Name "range" p) [a] [] b) (aIl d):=by
 intro pins s l H R I h;refine yn<|jK I f g yo<|dh (eP (i b pins s l H _ I h) λu v ⟨w,x,m,n,c⟩=>?_) k rfl;refine qq0 λqq2=>?_;obtain⟨j,e,c,o,q⟩:=c;refine qq2 ?_;subst e;cases n with
 |cons r rr=>
  cases rr;obtain⟨t,rfl⟩:=r;exact call_range_1 (Go m ‹29› ‹29› c o<|by simpa using q)
theorem zN(k:Gl X "range")(l:X.mg "range"=ν)(m:PA X [a,b] g)(n:starEach [a,b] X.env=[(false,eval a X.env),(false,eval b X.env)]:=by rfl)(d:starEach [b] X.env=[(false,eval b X.env)]:=by rfl):
  PI X F (.Call (.Name "range" p) [a,b] [] c) (aIk g):=by
 intro pins s o H R I h;refine yn<|jK I k l yo<|dh (eP (m c pins s o H _ I h) λA B ⟨C,D,u,v,f⟩=>?_) (by rw[n,d]) (by rw[d];rfl);refine qq0 λqq2=>?_;obtain⟨i,j,e,⟨f,w,x,y⟩,q⟩:=f;refine qq2 ?_;subst e;cases v with
 |cons r rr=>
  cases rr with
  |cons z rr=>
   cases rr;refine qq0 λqq2=>?_;obtain⟨t,rfl⟩:=r;obtain⟨E,rfl⟩:=z;refine qq2 ?_;exact call_range_2<|Go u f w x y q
def aRd(f:TI)(g:TG)(tb:TS):TS:=λD a H=>f a H λJ h=>∃W:π->π->St->Hp->Prop,(∃m,W 0 m a h)/\∀i m a H,W i m a H ->
 (J.stop i H/\D.nx a H)\/(J.go i H/\∃N:St->Hp->Prop,(∀b c,N b c->∃e,e<m/\W (i+1) e b c)/\∀x c,J.yld i H x c->g x a c λd j=>tb {D with nx:=N,ct:=N,bk:=D.nx} d j)
def vL(a:ε Ζ)(h:gy):ε (Ζ×Obj):=a.filterMap λb=>(h.get? b).map λo=>(b,o)
theorem lH(c:b∈a)(e:h.get? b=γ o):(b,o)∈vL a h:=m8.mpr ⟨b,c,by rw[e];rfl⟩
theorem Tf(c:p∈vL a h):p.1∈a/\h.get? p.1=γ p.2:=by
 obtain⟨b,d,e⟩:=m8.mp c;cases q:h.get? b with
 |none=>rw[q]at e;cases e
 |some o=>
  rw[q]at e;have f:(b,o)=p:=bw e;subst f;exact⟨d,q⟩
theorem Inv.pinned(I:Inv X pins c H s)(h:∀b∈a,lN X pins H b)(i:∀b∈a,∃o,s.heap.get? b=γ o/\∀v,o.data≠ .cell v):Inv X (pins++vL a s.heap) c H s:=
 I.pins_of λp j=>(cj.mp j).elim (λz=>I.pin p<|cc _ z) λz=>by
  refine qq0 λqq2=>?_;obtain⟨f,e⟩:=Tf z;obtain⟨k,l,m,_⟩:=h p.1 f;obtain⟨o,g,d⟩:=i p.1 f;refine qq2 ?_;rw[e]at g;cases g;exact⟨e,k,l,m,d⟩
theorem Inv.unpinned(I:Inv X (pins++b) a H s):Inv X pins a H s:=I.pins_of λp c=>I.pin p<|cc _<|ib _ c
theorem Ya(z:PassesOwn (model X.prog X.w) X.A X.env X.xe)(U:X.calm=true)(hi:PI X tg iter S)(hg:PG X tg g)(c:Kq X body tb)
  (hs:∀x,foldedSetIterable iter X.env x=pure x:=by intro _;rfl):PS X (.For tg iter body [] G) (aRd S g tb):=by
 intro pins s Y H D I h;refine wpAny_For (eP (hi pins s Y H _ I h) λv s1 h1=>eP h1 λa0 s2 h2=>?_) hs;refine qq0 λqq2=>?_;obtain⟨it,A,Z,J,H2,e,I2,T,K,f2,W,⟨m0,w0⟩,turn⟩:=h2;refine qq2 ?_;subst e;have j:∀{t:Hp},(∀b∈A,t b=ν)->∀b∈A,lN X pins t b:=λhn b c=>⟨hn b c,(f2 b c).2⟩;refine codeAny_forLoop_any (λn s'=>∃i k t,Inv X pins k t s'/\Z i s'.heap/\(∀b∈A,t b=ν)/\W i n k t) ?_ m0 ⟨0,Y,H2,I2,K,λb c=>(f2 b c).1,w0⟩;intro n s3 qQ0;refine qq0 λqq2=>?_;obtain⟨i,l,F,I3,B,C,w3⟩:=qQ0;refine qq2 ?_;rcases turn i n l F w3 with⟨stop,qn⟩|⟨go,N,hN,step⟩
 ·refine jw z<|eP (T.done X rfl rfl rfl U i pins s3 l F X.xe I3 (j C) B stop) λr s4 ⟨L,I4⟩=>?_;subst L;exact nj ⟨l,F,I4,qn⟩
 ·refine jw z<|eP (T.item X rfl rfl rfl U i pins s3 l F X.xe I3 (j C) B go) λr s4 ⟨u,L,h4⟩=>?_;subst L;refine jw z<|eP h4 λ_ s5 ⟨x,H5,I5,r5,y5,y,M⟩=>?_;have O:=I5.pinned (j M)<|T.obj _ _ y;refine jw z<|eP (hg _ s5 l H5 x u _ O r5<|step x H5 y5) λ_ s6 ⟨P,H6,I6,q6⟩=>?_;refine jw z<|eP (c _ s6 P H6 _ I6 q6) λf R w=>?_;have again:∀{a:St}{p:Hp},Inv X (pins++vL A s5.heap) a p R->N a p->∃m,m<n/\∃i k t,Inv X pins k t R/\Z i R.heap/\(∀b∈A,t b=ν)/\W i m k t:=λ{a p} q E=>by
   obtain⟨m',hm,w7⟩:=hN a p E;refine⟨m',hm,i+1,a,p,q.unpinned,T.keep _ _ _ y λb c o e=>(q.pin (b,o)<|cc _<|cc _<|lH c e).1,λb c=>?_,w7⟩;obtain⟨o,e,d⟩:=T.obj _ _ y b c;exact(q.pin (b,o)<|cc _<|cc _<|lH c e).2.1
  cases f with
  |next=>refine qq0 λqq2=>?_;obtain⟨a,p,q,E⟩:=w;refine qq2 ?_;exact again q E
  |cont=>refine qq0 λqq2=>?_;obtain⟨a,p,q,E⟩:=w;refine qq2 ?_;exact again q E
  |brk=>refine qq0 λqq2=>?_;obtain⟨a,p,q,w⟩:=w;refine qq2 ?_;exact⟨a,p,q.unpinned,w⟩
  |ret v=>refine qq0 λqq2=>?_;obtain⟨x7,a,p,q,r7,w⟩:=w;refine qq2 ?_;exact⟨x7,a,p,q.unpinned,r7,w⟩
abbrev R2:=V->V->Hp->VK->Prop
def lM(X:Cx)(f:Γ->Γ->Sem Γ)(r:R2):Prop:=
 ∀(pins:ε<|Ζ×Obj)(s:aj)(a:St)(H:Hp)(x y:V)(v u:Γ)(Q:VK),Inv X pins a H s->RelV x v->RelV y u->r x y H Q ->
  ar (model X.prog X.w) X.A (f v u) (EP X pins a Q) X.xe s
def UnR(X:Cx)(f:Γ->Sem Γ)(r:V->Hp->VK->Prop):Prop:=
 ∀(pins:ε<|Ζ×Obj)(s:aj)(a:St)(H:Hp)(x:V)(v:Γ)(Q:VK),Inv X pins a H s->RelV x v->r x H Q ->
  ar (model X.prog X.w) X.A (f v) (EP X pins a Q) X.xe s
def iM(X:Cx)(f:Γ)(r:ε V->Hp->VK->Prop):Prop:=
 ∀(pins:ε<|Ζ×Obj)(s:aj)(a:St)(H:Hp)(b:ε V)(c:ε Γ)(Q:VK),Inv X pins a H s->Vals b c->r b H Q ->
  ar (model X.prog X.w) X.A (call f c) (EP X pins a Q) X.xe s
def yZ(r:R2)(b tb:TE):TE:=λa H Q=>b a H λx c=>tb a c λy d=>r x y d Q
def tUn(r:V->Hp->VK->Prop)(a:TE):TE:=λb H Q=>a b H λx c=>r x c Q
def rI(C:χ->χ->Prop)(g:χ->χ->V):R2:=λx y H Q=>∃i j,x= .int i/\y= .int j/\C i j/\Q (g i j) H
def Ve(g:χ->χ->V):R2:=λx y H Q=>∃i j,x= .int i/\y= .int j/\Q (g i j) H
def rU(g:χ->V):V->Hp->VK->Prop:=λx H Q=>∃i,x= .int i/\Q (g i) H
theorem aOy(l:PE X a A)(m:PE X b B){R:V->V->Hp->Prop}(I:Inv X pins d H s)
  (h:A d H λx k=>B d k λy e=>R x y e)  {f:Γ->Γ->Sem Γ}
  (n:∀v u j x y e,Inv X pins d e j->RelV x v->RelV y u->R x y e->ar (model X.prog X.w) X.A (f v u) Q X.xe j):
  ar (model X.prog X.w) X.A (eval a X.env) (λv g=>ar (model X.prog X.w) X.A (eval b X.env) (λu i=>ar (model X.prog X.w) X.A (f v u) Q X.xe i) X.xe g) X.xe s:=by
 refine eP (l pins s d H _ I h) λv o ⟨x,k,p,q,r⟩=>?_;refine eP (m pins o d k _ p r) λu j ⟨y,e,t,w,z⟩=>?_;exact n v u j x y e t q w z
theorem fS(e:lM X (binaryOp d) r)(f:PE X a o)(g:PE X b p):PE X (.BinOp a d b t) (yZ r o p):=by
 intro pins s i H Q I h;exact wpAny_BinOp<|aOy f g I h λv u j x y k l m n q=>e pins j i k x y v u Q l m n q
theorem aIc(f:UnR X (unaryOp d) r)(g:PE X a n):PE X (.UnaryOp d a o) (tUn r n):=by
 intro pins s e H Q I h;exact UnaryOp_<|eP (g pins s e H _ I h) λv i ⟨x,j,k,l,m⟩=>f pins i e j x v Q k l m
theorem lU(f:lM X (inplaceOp e) r)(I:Inv X pins d H s)
  (g:RelV x v) (h:RelV y u) (q:r x y H Q):ar (model X.prog X.w) X.A (inplaceOp e v u) (EP X pins d Q) X.xe s:=f pins s d H x y v u Q I g h q
theorem opI{g:χ->χ->χ}
  (rule:∀(i j:χ)(t u:vh)(s:aj)(Q:Γ->aj->Prop)(E:Γ->aj->Prop),C i j->Q (.int (g i j) s.toks) {s with toks:=s.toks+1}->ar (model X.prog X.w) X.A (f (.int i t)<|.int j u) Q E s):
  lM X f (rI C λi j=>.int<|g i j):=by
 intro pins s m H x y v u Q I d e h;refine qq0 λqq2=>?_;obtain⟨i,j,rfl,rfl,k,q⟩:=h;obtain⟨t,rfl⟩:=d;obtain⟨l,rfl⟩:=e;refine qq2 ?_;exact rule i j t l s _ _ k ⟨.int<|g i j,H,I.tok _,⟨_,rfl⟩,q⟩
theorem aSc{g:χ->χ->χ}
  (rule:∀(i j:χ)(t u:vh)(s:aj)(Q:Γ->aj->Prop)(E:Γ->aj->Prop),Q (.int (g i j) s.toks) {s with toks:=s.toks+1}->ar (model X.prog X.w) X.A (f (.int i t)<|.int j u) Q E s):
  lM X f (Ve λi j=>.int<|g i j):=by
 intro pins s l H x y v u Q I d e h;refine qq0 λqq2=>?_;obtain⟨i,j,rfl,rfl,q⟩:=h;obtain⟨t,rfl⟩:=d;obtain⟨k,rfl⟩:=e;refine qq2 ?_;exact rule i j t k s _ _ ⟨.int<|g i j,H,I.tok _,⟨_,rfl⟩,q⟩
theorem aEx{g:χ->χ->Bool}
  (rule:∀(i j:χ)(t u:vh)(s:aj)(Q:Γ->aj->Prop)(E:Γ->aj->Prop),Q (.bool<|g i j) s->ar (model X.prog X.w) X.A (f (.int i t)<|.int j u) Q E s):
  lM X f (Ve λi j=>.bl<|g i j):=by
 intro pins s l H x y v u Q I d e h;refine qq0 λqq2=>?_;obtain⟨i,j,rfl,rfl,q⟩:=h;obtain⟨t,rfl⟩:=d;obtain⟨k,rfl⟩:=e;refine qq2 ?_;exact rule i j t k s _ _ ⟨.bl<|g i j,H,I,rfl,q⟩
def aUx(i j:χ):Prop:=0<=j/\j<=1000000/\i.natAbs<2^64
def CMul(i j:χ):Prop:=(-(2^64)<i/\i<2^64)\/(-(2^64)<j/\j<2^64)
theorem Yn:lM X (binaryOp .Add) (Ve λi j=>.int<|i+j):=aSc λ_ _ _ _ _ _ _ q=>add_int q
theorem aMk:lM X (binaryOp .Sub) (Ve λi j=>.int<|i-j):=aSc λ_ _ _ _ _ _ _ q=>sub_int q
theorem rK:lM X (binaryOp .Mod) (rI (λ_ j=>0<j) λi j=>.int<|i%j):=opI λi j _ _ _ _ _ d q=>by
 have e:(0:χ)<j:=d;exact mod_int' ‹21› (by rw[Int.fmod_eq_emod_of_nonneg i<|‹36›];exact q)
theorem aMm:lM X (binaryOp .Pow) (rI aUx λi j=>.int<|i^j.toNat):=opI λ_ _ _ _ _ _ _ d q=>pow_int_small d.1 d.2.1 d.2.2 q
theorem unI{g:χ->χ}
  (rule:∀(i:χ)(t:vh)(s:aj)(Q:Γ->aj->Prop)(E:Γ->aj->Prop),Q (.int (g i) s.toks) {s with toks:=s.toks+1}->ar (model X.prog X.w) X.A (f<|.int i t) Q E s):
  UnR X f (rU λi=>.int<|g i):=by
 intro pins s e H x v Q I d h;refine qq0 λqq2=>?_;obtain⟨i,rfl,q⟩:=h;obtain⟨t,rfl⟩:=d;refine qq2 ?_;exact rule i t s _ _ ⟨.int<|g i,H,I.tok _,⟨_,rfl⟩,q⟩
theorem Wc:UnR X (unaryOp .USub) (rU λi=>.int<|-i):=unI λ_ _ _ _ _ q=>neg_int q
def aRj:V->V->Bool
 | .non,.non=>true| .non,.int _=>true| .int _,.non=>true| .non,.bl _=>true| .bl _,.non=>true| .non,.str _=>true| .str _,.non=>true
 | .int _,.int _=>true| .bl _,.bl _=>true| .str _,.str _=>true| .byt _,.byt _=>true
 | .int _,.str _=>true| .str _,.int _=>true| .bl _,.str _=>true| .str _,.bl _=>true
 |_,_=>false
def rEq:R2:=λx y H Q=>aRj x y=true/\Q (.bl<|decide (x=y)) H
def rNe:R2:=λx y H Q=>aRj x y=true/\Q (.bl<|!decide (x=y)) H
theorem Ra:decide (V.int i=V.int j)=(i==j):=by
 rw[ko];simp
theorem aBa:decide (V.bl i=V.bl j)=(i==j):=by
 rw[ko];simp
theorem Qz:decide (V.str i=V.str j)=(i==j):=by
 rw[ko];simp
theorem Rb:decide (V.byt i=V.byt j)=(i.toList==j.toList):=by
 rw[ko];cases i;cases j;simp
theorem cQ(I:Inv X pins d H s)(q:Q (.bl k) H)(e:k=f):EP X pins d Q (.bool f) s:=by
 subst e;exact⟨.bl k,H,I,rfl,q⟩
theorem nO:lM X (compareOp .Eq) rEq:=by
 intro pins s k H x y v u Q I g d h;obtain⟨f,q⟩:=h;cases x with
 |non=>
  cases g;cases y with
  |non=>cases d;exact EqNone.eq_none_none (cQ I q<|by simp)
  |bl j=>cases d;exact EqNone.eq_none_bool (cQ I q<|by simp)
  |int j=>obtain⟨e,rfl⟩:=d;exact EqNone.eq_none_int (cQ I q<|by simp)
  |str j=>obtain⟨e,rfl⟩:=d;exact EqNone.eq_none_str (cQ I q<|by simp)
  |_=>exact ψ (show false=true from f) bg
 |bl i=>
  cases g;cases y with
  |non=>cases d;exact EqNone.eq_bool_none (cQ I q<|by simp)
  |bl j=>cases d;exact eq_bool<|cQ I q aBa
  |str j=>obtain⟨e,rfl⟩:=d;exact AU (cQ I q<|by simp)
  |_=>exact ψ (show false=true from f) bg
 |int i=>
  obtain⟨t,rfl⟩:=g;cases y with
  |non=>cases d;exact EqNone.eq_int_none (cQ I q<|by simp)
  |int j=>obtain⟨e,rfl⟩:=d;exact eq_int<|cQ I q Ra
  |str j=>obtain⟨e,rfl⟩:=d;exact A1 (cQ I q<|by simp)
  |_=>exact ψ (show false=true from f) bg
 |str i=>
  obtain⟨t,rfl⟩:=g;cases y with
  |non=>cases d;exact EqNone.eq_str_none (cQ I q<|by simp)
  |bl j=>cases d;exact AV (cQ I q<|by simp)
  |int j=>obtain⟨e,rfl⟩:=d;exact A2 (cQ I q<|by simp)
  |str j=>obtain⟨e,rfl⟩:=d;exact eq_str<|cQ I q Qz
  |_=>exact ψ (show false=true from f) bg
 |byt i=>
  obtain⟨t,rfl⟩:=g;cases y with
  |byt j=>obtain⟨e,rfl⟩:=d;exact W.eq_bytes<|cQ I q Rb
  |_=>exact ψ (show false=true from f) bg
 |_=>cases y <;>exact ψ (show false=true from f) bg
theorem zQ:lM X (compareOp .NotEq) rNe:=by
 intro pins s k H x y v u Q I g d h;obtain⟨f,q⟩:=h;cases x with
 |non=>
  cases g;cases y with
  |non=>cases d;exact EqNone.ne_none_none (cQ I q<|by simp)
  |bl j=>cases d;exact EqNone.ne_none_bool (cQ I q<|by simp)
  |int j=>obtain⟨e,rfl⟩:=d;exact EqNone.ne_none_int (cQ I q<|by simp)
  |str j=>obtain⟨e,rfl⟩:=d;exact EqNone.ne_none_str (cQ I q<|by simp)
  |_=>exact ψ (show false=true from f) bg
 |bl i=>
  cases g;cases y with
  |non=>cases d;exact EqNone.ne_bool_none (cQ I q<|by simp)
  |bl j=>cases d;exact ne_bool<|cQ I q<|ea not aBa
  |str j=>obtain⟨e,rfl⟩:=d;exact AW (cQ I q<|by simp)
  |_=>exact ψ (show false=true from f) bg
 |int i=>
  obtain⟨t,rfl⟩:=g;cases y with
  |non=>cases d;exact EqNone.ne_int_none (cQ I q<|by simp)
  |int j=>obtain⟨e,rfl⟩:=d;exact ne_int<|cQ I q<|ea not Ra
  |str j=>obtain⟨e,rfl⟩:=d;exact A3 (cQ I q<|by simp)
  |_=>exact ψ (show false=true from f) bg
 |str i=>
  obtain⟨t,rfl⟩:=g;cases y with
  |non=>cases d;exact EqNone.ne_str_none (cQ I q<|by simp)
  |bl j=>cases d;exact AX (cQ I q<|by simp)
  |int j=>obtain⟨e,rfl⟩:=d;exact A4 (cQ I q<|by simp)
  |str j=>obtain⟨e,rfl⟩:=d;exact ne_str<|cQ I q<|ea not Qz
  |_=>exact ψ (show false=true from f) bg
 |byt i=>
  obtain⟨t,rfl⟩:=g;cases y with
  |byt j=>obtain⟨e,rfl⟩:=d;exact W.ne_bytes<|cQ I q<|ea not Rb
  |_=>exact ψ (show false=true from f) bg
 |_=>cases y <;>exact ψ (show false=true from f) bg
theorem Yl:lM X (compareOp .Lt) (Ve λi j=>.bl<|decide (i<j)):=aEx λ_ _ _ _ _ _ _ q=>lt_int q
theorem aSa:lM X (compareOp .LtE) (Ve λi j=>.bl<|decide (i<=j)):=aEx λ_ _ _ _ _ _ _ q=>le_int q
theorem aIe:lM X (compareOp .Gt) (Ve λi j=>.bl<|decide (j<i)):=aEx λ_ _ _ _ _ _ _ q=>gt_int q
theorem aSb:lM X (compareOp .GtE) (Ve λi j=>.bl<|decide (j<=i)):=aEx λ_ _ _ _ _ _ _ q=>ge_int q
theorem Tc:lM X (compareOp .In) (λx y H Q=>∃i j,x= .str i/\y= .str j/\Q (.bl<|!(cf j i 0 j.length 1).isEmpty) H):=by
 intro pins s f H x y v u Q I d e h;refine qq0 λqq2=>?_;obtain⟨i,j,rfl,rfl,q⟩:=h;obtain⟨t,rfl⟩:=d;obtain⟨g,rfl⟩:=e;refine qq2 ?_;exact in_str<|cQ I q rfl
theorem aMo:lM X (compareOp .Is) (λx y H Q=>y= .non/\Q (.bl<|decide (x= .non)) H):=by
 intro pins s f H x y v u Q I d e h;obtain⟨rfl,q⟩:=h;cases e;refine is_none_gen<|cQ I q ?_;cases x <;>first
  |(cases d;rfl)
  |(obtain⟨t,rfl⟩:=d;rfl)
theorem Cn:lM X (compareOp .NotIn) (λx y H Q=>∃i j,x= .str i/\y= .str j/\Q (.bl<|!(!(cf j i 0 j.length 1).isEmpty)) H):=by
 intro pins s f H x y v u Q I d e h;refine qq0 λqq2=>?_;obtain⟨i,j,rfl,rfl,q⟩:=h;obtain⟨t,rfl⟩:=d;obtain⟨g,rfl⟩:=e;refine qq2 ?_;exact notIn_str<|cQ I q rfl
theorem eM(b:Expr)(h:d≠ .In:=by decide)(e:d≠ .NotIn:=by decide):behindInMarks d b=false:=by
 have f:(d==CmpOp.In)=false:=by cases d <;>first|rfl|exact ψ rfl h
 have g:(d==CmpOp.NotIn)=false:=by cases d <;>first|rfl|exact ψ rfl e
 cases b <;>simp[behindInMarks,f,g]
theorem aEo(e:lM X (compareOp d) r)(f:PE X a p)(g:PE X b t)(i:behindInMarks d b=false):PE X (.Compare a [d] [b] w) (yZ r p t):=by
 intro pins s j H Q I h;exact wpAny_Compare1 (aOy f g I h λv u k x y l m n o q=>e pins k j l x y v u Q m n o q) i
def Ol(t:TE):TT:=λd H Q=>t d H λx e=>∃k,x= .bl k/\Q k e
theorem dF(g:lM X (compareOp d) r)(i:PE X a L)(j:PE X b M)(l:behindInMarks d b=false):PT X (.Compare a [d] [b] N) (Ol<|yZ r L M):=by
 intro pins s f H Q I h
 refine r9 (eP (i pins s f H _ I h) λv m ⟨x,n,o,p,q⟩=>eP (j pins m f n _ o q) λu t ⟨y,w,A,B,C⟩=>
  eP (g pins t f w x y v u _ A p B C) λc J ⟨z,D,E,F,k,e,G⟩=>?_) l
 subst e;cases F;exact hJ ⟨D,E,G⟩
def Wn(r f:R2)(l m n:TE):TE:=λd H Q=>l d H λx g=>m d g λy h=>r x y h λz e=>∃k,z= .bl k/\
 (if k=true then n d e λi j=>f y i j Q else Q (.bl false) e)
theorem Yk(q:lM X (compareOp i) r)(j:lM X (compareOp f) l)(t:PE X a Z)(w:PE X b tb)(A:PE X c tc)
  (B:lastMarks [i,f] [b,c]=false:=by with_unfolding_all rfl):PE X (.Compare a [i,f] [b,c] pos) (Wn r l Z tb tc):=by
 intro pins s g H Q I h
 refine Compare_chain (eP (t pins s g H _ I h) λv C ⟨x,D,E,F,G⟩=>chain_link (eP (w pins C g D _ E G) λu J ⟨y,K,L,m,M⟩=>
  eP (q pins J g K x y v u _ L F m M) λd N ⟨z,n,o,O,k,e,p⟩=>?_)) B
 subst e;cases O;refine hJ ?_;cases k with
 |false=>exact ite_ff ⟨.bl false,n,o,rfl,p⟩
 |true=>exact ite_tt<|chain_last<|eP (A pins N g n _ o p) λP R ⟨S,T,U,W,Y⟩=>j pins R g T y S u P Q U m W Y
theorem oN:(sizeLine:π)<2^63:=by rw[AH];decide
theorem fK:lM X (binaryOp .Add) (λx y H Q=>∃i j,x= .str i/\y= .str j/\i.length+j.length<=sizeLine/\Q (.str<|i++j) H):=by
 intro pins s k H x y v u Q I d e h;refine qq0 λqq2=>?_;obtain⟨i,j,rfl,rfl,f,q⟩:=h;obtain⟨t,rfl⟩:=d;obtain⟨g,rfl⟩:=e;refine qq2 ?_;exact add_str (λg tk=>⟨.str<|i++j,H,I.tok _,⟨_,rfl⟩,q⟩) f
theorem jB(r:Vals [x] d):∃u,d=[u]/\RelV x u:=by
 cases r with
 |cons e f=>cases f;exact⟨_,rfl,e⟩
theorem yU(r:Vals [x,y] d):∃u e,d=[u,e]/\RelV x u/\RelV y e:=by
 cases r with
 |cons f g=>
  cases g with
  |cons h i=>cases i;exact⟨_,_,rfl,f,h⟩
theorem xH:iM X (.builtin "abs") (λd H Q=>∃i,d=[.int i]/\Q (.int<|if i<0 then -i else i) H):=by
 intro pins s e H d f Q I r h;refine qq0 λqq2=>?_;obtain⟨i,rfl,q⟩:=h;obtain⟨u,rfl,t,rfl⟩:=jB r;refine qq2 ?_;exact call_abs_int λu tk=>⟨.int<|if i<0 then -i else i,H,I.tok _,⟨_,rfl⟩,q⟩
theorem Az(f:X.calm=true):iM X (.builtin "max") (λe H Q=>∃i j,e=[.int i,.int j]/\Q (.int<|if j>i then j else i) H):=by
 intro pins s g H e l Q I r h;refine qq0 λqq2=>?_;obtain⟨i,j,rfl,q⟩:=h;obtain⟨u,m,rfl,⟨t,rfl⟩,⟨n,rfl⟩⟩:=yU r;refine qq2 ?_;refine max_two_ints (I.ok.hd f) λo tk k=>⟨_,H,I.kept k,?_,q⟩;by_cases d:j>i
 ·rw[ρ d,ρ d];exact⟨_,rfl⟩
 ·rw[ι d,ι d];exact⟨_,rfl⟩
theorem Ay(f:X.calm=true):iM X (.builtin "min") (λe H Q=>∃i j,e=[.int i,.int j]/\Q (.int<|if j<i then j else i) H):=by
 intro pins s g H e l Q I r h;refine qq0 λqq2=>?_;obtain⟨i,j,rfl,q⟩:=h;obtain⟨u,m,rfl,⟨t,rfl⟩,⟨n,rfl⟩⟩:=yU r;refine qq2 ?_;refine min_two_ints (I.ok.hd f) λo tk k=>⟨_,H,I.kept k,?_,q⟩;by_cases d:j<i
 ·rw[ρ d,ρ d];exact⟨_,rfl⟩
 ·rw[ι d,ι d];exact⟨_,rfl⟩
theorem Ux:iM X (.type "int") (λd H Q=>(∃i,d=[.int i]/\Q (.int i) H)\/∃k,d=[.bl k]/\Q (.int<|if k then 1 else 0) H):=by
 intro pins s f H d g Q I r h;rcases h with⟨i,rfl,q⟩|⟨k,rfl,q⟩
 ·refine qq0 λqq2=>?_;obtain⟨u,rfl,t,rfl⟩:=jB r;refine qq2 ?_;exact call_int_int ⟨.int i,H,I,⟨_,rfl⟩,q⟩
 ·obtain⟨u,rfl,e⟩:=jB r;cases e;exact call_int_bool ⟨.int<|if k then 1 else 0,H,I.tok _,⟨_,rfl⟩,q⟩
theorem qX:iM X (.type "str") (λd H Q=>∃i,d=[.int i]/\i.natAbs.log2<1920/\Q (.str<|toString i) H):=by
 intro pins s f H d g Q I r h;refine qq0 λqq2=>?_;obtain⟨i,rfl,e,q⟩:=h;obtain⟨u,rfl,t,rfl⟩:=jB r;refine qq2 ?_;exact A5 e ⟨.str _,H,I.tok _,⟨_,rfl⟩,q⟩
structure ObjM(h:gy)(x dx C:Ζ)(mA:bf->Θ Γ):Prop where
 obj:h.get? x=γ (W.instObj C dx)
 ns:h.Ns1 dx mA
 ne:dx≠x
theorem Tx{h:gy}(n:h.Ns1 c d):∃f,h.get? c=γ f/\∀name,W.lookIn name f=γ (d name):=by
 refine qq0 λqq2=>?_;obtain⟨o,g,r,i,j,k,_,l⟩:=n;refine qq2 ?_;refine⟨o,i,λname=>?_⟩;have e:=l name;unfold nsFind findBy at e;rw[<-Array.find?_toList]at e;unfold W.lookIn;rw[j];dsimp only;split
 ·rename_i y q
  rw[q]at e;exact ea γ e
 ·rename_i q
  rw[q]at e;have a:g.toList.any (·.refKey)=false:=by
   rw[List.any_eq_false];intro y m;obtain⟨z,t,b⟩:=k y<|Array.mem_toList_iff.mp m;simp[DictEntry.refKey,b]
  have p:¬g.toList.any (·.refKey)=true:=by rw[a];exact bg
  rw[ι p];exact ea γ e
theorem ObjM.look(I:ObjM h x b C c):∃a,W.InstAt h x (W.instObj C b) C (γ a)/\∀name,W.lookIn name a=γ (c name):=
 let⟨a,d,e⟩:=Tx I.ns
 ⟨a,⟨I.obj,rfl,rfl,d⟩,e⟩
theorem aGa(X:K.In s.heap)(I:ObjM s.heap x k C j)(b:W.plainGet K C name=true)(c:W.hasDictIn K C=true)
  (d:W.findIn K (.ref C) name=γ ν) (e:j name=γ v) (a:W.handedIn v=true) (h:Q v {s with toks:=s.toks+1}):
  ar (model prog w) A (getAttr (.ref x) name expr) Q E s:=by
 obtain⟨i,J,g⟩:=I.look;exact W.get_value X J (um b).1 (W.findObj_own c d rfl<|by rw[g,e]) a h
theorem aAc(X:K.In s.heap)(I:ObjM s.heap x k C j)(a:W.plainGet K C name=true)
  (c:W.findIn K (.ref C) name=γ (γ<|.ref f)) (d:W.isFn K (.ref f)=true) (e:j name=ν) (h:Q (.ref f,[.ref x]) s):
  ar (model prog w) A (getMethod (.ref x) name b) Q E s:=by
 obtain⟨g,J,i⟩:=I.look;exact W.method_fn X J (um a).1 (um a).2 c (kx.mp d) (by show(W.lookIn name g).map (·.isSome)=γ false;rw[i,e];rfl) h
theorem aEf(X:K.In s.heap)(I:ObjM s.heap x L C M)
  (m:W.findIn K (.ref C) "__setattr__"=γ (γ<|.builtin "object.__setattr__")) (n:W.plainOver K C=true) (o:W.takerIn K C name=γ ν) (p:W.hasDictIn K C=true)
  (hw:Within M l) (q:l.length<=sizeLine)
  (h:∀e,ObjM e x L C (λy=>if y=name then γ v else M y)->SameBut L s.heap e->Q () {s with heap:=e,toks:=s.toks+2}):
  ar (model prog w) A (setAttr (.ref x) name v) Q E s:=by
 obtain⟨D,J,F⟩:=I.look;refine W.set_plain X J m<|W.osa_open (s:={s with toks:=s.toks+1}) (r:=ν) X J n o λb=>?_;refine qq0 λqq2=>?_;obtain⟨G,t,g⟩:=W.any_some p;refine qq2 ?_;have u:s.heap.get? x=γ ⟨.ref C,γ L,.plain,#[]⟩:=I.obj;refine ξ<|aq<|ξ<|ξ<|wpAny_loadPart u<|ξ<|BR (s:={s with toks:=s.toks+1}) (W.looks_clsIn X t) ?_;rw[g];refine aq (a:=γ L)<|ξ<|aq<|ξ ?_;refine wpAny_nsSet1 (s:={s with toks:=s.toks+1}) I.ns λe c d=>?_;obtain⟨H,z,B,i,j,k⟩:=c.count<|Within.cons name v hw;refine ξ<|wpAny_lookBehind i (by rw[j];exact pastItsLine_dict<|Α k (by rw[Ε];exact 6)) ?_;exact aq<|h _ ⟨(d.2 _<|Ne.symm I.ne).trans I.obj,c,I.ne⟩ d
theorem Zi(X:K.In s.heap)(c:W.makesIn K C=true)
  (e:W.findIn K (.ref C) "__init__"=γ (γ<|.ref f)) (i:W.typeIn K (.ref f)=γ (.type "function"))
  (h:codeAny (model prog w) (A.under (.builtin "type.__call__" ⟨.ref C::a,b⟩)) (.call (.ref f) ⟨.ref (s.heap.objs.size+1)::a,b⟩) (W.InitBack (s.heap.objs.size+1) R)
   {s with heap:=(s.heap.push W.emptyDict).push (W.instObj C s.heap.objs.size)}):
  codeAny (model prog w) A (.call (.ref C) ⟨a,b⟩) R s:=by
 obtain⟨j,g,d,t,k⟩:=s;exact W.make_core (W.makes_of X c) (W.looks_findIn X e) (λself=>W.bind_fn X self i) (.inl rfl) h
def nL(f:bf)(v:V):ε (bf×V)->ε (bf×V)
 |[]=>[(f,v)]
 |(g,x)::r=>if g=f then(g,v)::r else(g,x)::nL f v r
theorem sQ(f g:bf)(v:V):∀c:ε<|bf×V,(nL f v c).lookup g=if g=f then γ v else c.lookup g
 |[]=>by
  show List.lookup g [(f,v)]=_;by_cases h:g=f
  ·have a:(g==f)=true:=kx.mpr h;simp only[List.lookup,a,ρ h]
  ·have a:(g==f)=false:=ei.mpr h;simp only[List.lookup,a,ι h]
 |(k,x)::r=>by
  have d:=sQ f g v r;rw[show nL f v ((k,x)::r)=(if k=f then(k,v)::r else(k,x)::nL f v r)from rfl];by_cases b:k=f
  ·rw[ρ b];by_cases h:g=k
   ·have a:(g==k)=true:=kx.mpr h;simp only[List.lookup,a,ρ<|h.trans b]
   ·have a:(g==k)=false:=ei.mpr h;simp only[List.lookup,a,ι λe:g=f=>h<|e.trans b.symm]
  ·rw[ι b];by_cases h:g=k
   ·have a:(g==k)=true:=kx.mpr h;simp only[List.lookup,a,ι λe:g=f=>b<|h.symm.trans e]
   ·have a:(g==k)=false:=ei.mpr h;simp only[List.lookup,a];exact d
theorem rQ(f:bf)(v:V):∀a:ε<|bf×V,f∈(nL f v a).map (·.1)/\∀g,g∈a.map (·.1)->g∈(nL f v a).map (·.1)
 |[]=>⟨by simp[nL],λg h=>by simp at h⟩
 |(k,x)::r=>by
  obtain⟨c,d⟩:=rQ f v r;rw[show nL f v ((k,x)::r)=(if k=f then(k,v)::r else(k,x)::nL f v r)from rfl];by_cases b:k=f
  ·rw[ρ b];subst b;exact⟨by simp,λg h=>by simpa using h⟩
  ·rw[ι b];refine⟨?_,λg h=>?_⟩
   ·rw[Μ];exact ο _ c
   ·rw[Μ]at h⊢;rcases Υ.mp h with e|e
    ·exact Υ.mpr<|.inl e
    ·exact ο _<|d g e
theorem sU(f:bf)(v:V):∀a:ε<|bf×V,(nL f v a).length<=a.length+1
 |[]=>by simp[nL]
 |(k,x)::r=>by
  have c:=sU f v r;rw[show nL f v ((k,x)::r)=(if k=f then(k,v)::r else(k,x)::nL f v r)from rfl];by_cases b:k=f
  ·rw[ρ b,Ε,Ε];exact 48
  ·rw[ι b,Ε,Ε];exact 48
theorem RelO.some_of(r:RelO (γ v) o):∃u,o=γ u/\RelV v u:=by
 cases o with
 |none=>exact(show ag from r).elim
 |some u=>exact⟨u,rfl,r⟩
theorem RelO.none_of(r:RelO ν o):o=ν:=by
 cases o with
 |none=>rfl
 |some u=>exact(show ag from r).elim
theorem Uk(r:RelV v u):W.handedIn u=true:=by
 cases v with
 |non=>cases (show u=Value.none from r);rfl
 |bl b=>cases (show u=Value.bool b from r);rfl
 |int i=>obtain⟨t,e⟩:=(show ∃t,u=qc i t from r);cases e;rfl
 |str x=>obtain⟨t,e⟩:=(show ∃t,u=Value.str x t from r);cases e;rfl
 |byt b=>obtain⟨t,e⟩:=(show ∃t,u=Value.bytes b t from r);cases e;rfl
 |flt b=>obtain⟨t,e⟩:=(show ∃t,u=Value.float b t from r);cases e;rfl
 |ref a=>cases (show u=cb a from r);rfl
 |ty n=>cases (show u=Value.type n from r);rfl
theorem uB(c:HOk P w H h)(e:H a=γ (.ins C k j)):∃b,ObjM h a k C b/\(∀f,RelO (j.lookup f)<|b f)/\Within b (j.map (·.1))/\j.length<=1000/\H k=γ (.own a):=by
 refine qq0 λqq2=>?_;obtain⟨d,z,g,i,b,n,r,q⟩:=(show ObjOk P w H h a (.ins C k j)from c a _ e);refine qq2 ?_;exact⟨b,⟨i,n,g⟩,r,q,z,d⟩
structure Cls(K:ς)(C:Ζ):Prop where
 pg:W.plainGet K C Str.empty=true
 hd:W.hasDictIn K C=true
 po:W.plainOver K C=true
 sa:W.findIn K (.ref C) "__setattr__"=γ (γ<|.builtin "object.__setattr__")
theorem Cls.get{K:ς}(c:Cls K C)(f:bf):W.plainGet K C f=true:=c.pg
def NoAttr(K:ς)(C:Ζ)(f:bf):Prop:=W.findIn K (.ref C) f=γ ν
theorem NoAttr.taker{K:ς}(n:NoAttr K C f):W.takerIn K C f=γ ν:=by
 unfold W.takerIn;rw[show W.findIn K (.ref C) f=γ ν from n];rfl
structure Con(K:ς)(C:Ζ)(f:bf)(v:V)(u:Γ):Prop where
 at_:W.findIn K (.ref C) f=γ (γ u)
 rel:RelV v u
 get:W.specialIn K u "__get__"=γ ν
 cp:W.copiedNames.contains f=false
structure Meth(K:ς)(C:Ζ)(m:bf)(f:Ζ):Prop where
 at_:W.findIn K (.ref C) m=γ (γ<|.ref f)
 fn:W.isFn K (.ref f)=true
 kp:W.keepIn K (.ref f)=true
theorem Mv(I:Inv X k p H s)(e:H a=γ (.ins C q m))(c:Cls X.K C)(n:NoAttr X.K C f)(l:m.lookup f=γ v)
  (h:∀u d,Inv X k p H d->RelV v u->Q u d):ar (model X.prog X.w) A (getAttr (.ref a) f b) Q E s:=by
 refine qq0 λqq2=>?_;obtain⟨i,O,r,_,_,_⟩:=uB I.hok e;obtain⟨u,j,g⟩:=RelO.some_of (v:=v) (o:=i f) (by rw[<-l];exact r f);refine qq2 ?_;exact aGa I.kIn O (c.get f) c.hd n j (Uk g)<|h u _ (I.tok _) g
theorem Mu(I:Inv X j p H s)(e:H a=γ (.ins C o n))(c:Cls X.K C)(k:Meth X.K C m g)(l:n.lookup m=ν)
  (h:Q (.ref g,[.ref a]) s):ar (model X.prog X.w) A (getMethod (.ref a) m b) Q E s:=by
 refine qq0 λqq2=>?_;obtain⟨d,O,r,_,_,_⟩:=uB I.hok e;refine qq2 ?_;have i:d m=ν:=RelO.none_of (by rw[<-l];exact r m);exact aAc I.kIn O (c.get m) k.at_ k.fn i h
theorem Ld(I:Inv X M P H s)(e:H a=γ (.ins C N L))(c:Cls X.K C)(n:NoAttr X.K C f)(J:L.length<1000)(m:RelV y u)
  (h:∀i,Inv X M P (fA H a<|.ins C N<|nL f y L) i->Q () i):ar (model X.prog X.w) A (setAttr (.ref a) f u) Q E s:=by
 refine qq0 λqq2=>?_;obtain⟨j,O,r,k,_,l⟩:=uB I.hok e;refine qq2 ?_;have p:(L.map (·.1)).length<=sizeLine:=by rw[η,AH];exact 101
 refine aEf I.kIn O c.sa c.po n.taker c.hd k p λt d w=>h _ ?_;have B:∃o,t.get? N=γ o:=let⟨o,_,_,D,_⟩:=d.ns;⟨o,D⟩
 refine I.write (x:=a) (e:=N) (by rw[e];exact True.intro) (.inr l) (λb q F z=>(w.2 b F).trans z) B ?_;refine⟨by rw[aV O.ne];exact l,?_,O.ne,d.obj,_,d.ns,λg=>?_,λg G=>?_⟩
 ·have:=sU f y L;exact 102
 ·show RelO ((nL f y L).lookup g) (if g=f then γ u else j g);rw[sQ];by_cases q:g=f
  ·rw[ρ q,ρ q];exact m
  ·rw[ι q,ι q];exact r g
 ·by_cases q:g=f
  ·rw[q];exact(rQ f y L).1
  ·refine(rQ f y L).2 g<|k g λz=>G ?_;show(if g=f then γ u else j g)=ν;rw[ι q];exact z
theorem Inv.made(I:Inv X l m H s):Inv X l m (fA (fA H s.heap.objs.size<|.own<|s.heap.objs.size+1) (s.heap.objs.size+1)<|.ins C s.heap.objs.size [])
  {s with heap:=(s.heap.push W.emptyDict).push<|W.instObj C s.heap.objs.size}:=by
 have c:(s.heap.push W.emptyDict).get? s.heap.objs.size=γ W.emptyDict:=aw s.heap rfl;have g:((s.heap.push W.emptyDict).push<|W.instObj C s.heap.objs.size).get? (s.heap.objs.size+1)=γ (W.instObj C s.heap.objs.size):=by
  have:=aw (s.heap.push W.emptyDict) (o:=W.instObj C s.heap.objs.size) rfl
  rwa [n7]at this
 have h:(s.heap.push W.emptyDict).Ns s.heap.objs.size (λ_=>ν):=⟨W.emptyDict,#[],_,c,rfl,(λe i=>ψ i<|by simp),λ_=>rfl⟩;have j:=I.laid (a:=s.heap.objs.size) (o:=.own<|s.heap.objs.size+1) (h':=s.heap.push W.emptyDict) (t':=s.toks) (λb u q=>Ξ _ q) (ω _) ⟨_,c⟩;refine j.laid (a:=s.heap.objs.size+1) (o:=.ins C s.heap.objs.size []) (t':=s.toks) (λb u q=>Ξ _ q) (zj<|n7 _ _) ?_;have d:s.heap.objs.size≠s.heap.objs.size+1:=ig<|wo _;refine⟨by rw[aV d,bJ],iw _,d,g,λ_=>ν,(BE h).at λo q=>Ξ _ q,λ_=>True.intro,λy k=>ψ rfl k⟩
theorem aHc(g:attributeBase e f b (eval e b)=eval e b)
  (h:ar (model prog w) A (eval e b) (λo c=>ar (model prog w) A (getAttr o f true) Q E c) E s):ar (model prog w) A (eval (.Attribute e f d) b) Q E s:=
 Attribute_any_ h (by rw[arm_eval_Attribute,g])
def aDv(K:ς)(d:TE)(f:bf):TE:=λe H Q=>d e H λx b=>∃a C g c v,x= .ref a/\b a=γ (.ins C g c)/\Cls K C/\NoAttr K C f/\c.lookup f=γ v/\Q v b
def aRn(K:ς)(g h:TE)(f:bf):TS:=λD b H=>h b H λy i=>g b i λx d=>∃a C e c,x= .ref a/\d a=γ (.ins C e c)/\Cls K C/\NoAttr K C f/\c.length<1000/\
 D.nx b (fA d a<|.ins C e<|nL f y c)
theorem Lm(b:PE X e D)(d:attributeBase e f X.env (eval e X.env)=eval e X.env):PE X (.Attribute e f E) (aDv X.K D f):=by
 intro pins s g H Q I h;refine aHc d<|eP (b pins s g H _ I h) λu w ⟨x,i,j,k,a,C,y,z,v,m,p,c,n,l,q⟩=>?_;subst m;obtain rfl:u=cb a:=k;exact Mv j p c n l λA B r t=>⟨v,i,r,t,q⟩
theorem aMa(d:PE X o O)(g:PE X L P)(i:swapsWith L (γ<|.Attribute o f M) N.line X.env=pure false):PS X (.Assign [.Attribute o f M] L N) (aRn X.K O P f):=by
 intro pins s b H D I h;refine plainObj_wpAny_Assign_Attribute (eP (g pins s b H _ I h) λu j ⟨y,k,m,p,q⟩=>eP (d pins j b k _ m q) λr E ⟨x,F,t,v,a,C,G,J,w,z,c,n,l,A⟩=>?_) i;subst w;obtain rfl:r=cb a:=v;exact Ld t z c n l p λK B=>⟨b,_,B,A⟩
section
variable{X:Cx}{pins:ε (Ζ×Obj)}{σ:St}{H:Hp}{s:aj}{A:Around}{E:Γ->aj->Prop}{Q:Γ->aj->Prop}{c:Γ}{b:Bool}
inductive TyOf(K:ς)(H:Hp):V->Γ->Prop where
 |non:TyOf K H .non<|.type "NoneType"
 |bl (x:Bool):TyOf K H (.bl x)<|.type "bool"
 |int (i:χ):TyOf K H (.int i)<|.type "int"
 |str (x:bf):TyOf K H (.str x)<|.type "str"
 |flt (x:UInt64):TyOf K H (.flt x)<|.type "float"
 |lst {a:Ζ} {xs:ε V} (e:H a=γ (.lst xs)):TyOf K H (.ref a)<|.type "list"
 |frz {a:Ζ} {o:Obj} {xs:ε V} (e:H a=γ (.frz o<|.lst xs)):TyOf K H (.ref a)<|.type "list"
 |tup {a:Ζ} {xs:ε V} (e:H a=γ (.tup xs)):TyOf K H (.ref a)<|.type "tuple"
 |dK {a:Ζ} {kvs:ε<|gY×V} (e:H a=γ (.dK kvs)):TyOf K H (.ref a)<|.type "dict"
 |dT {a:Ζ} {kvs:ε<|ε gY×V} (e:H a=γ (.dT kvs)):TyOf K H (.ref a)<|.type "dict"
 | ins {a C dx:Ζ} {fs:ε (bf × V)} (e:H a = γ (.ins C dx fs)) (cl:Cls K C) (ha:W.findIn K (.ref C) "__class__" = γ (γ (.builtin "object.__class__")))
   (hn:W.specialIn K (.builtin "object.__class__") "__get__"=γ (γ<|.builtin "getset_descriptor.__get__")) (htk:W.takesIn K (.builtin "object.__class__")=γ true)
   (hm:W.mroIn K C (.type "object")=γ true):TyOf K H (.ref a)<|.ref C
theorem jA(I:Inv X pins σ H s)(d:RelV x u)(ty:TyOf X.K H x t)(e:W.kitOne X.K t c=γ b)(h:∀tk,Q (.bool b) {s with toks:=tk}):
  ar (model X.prog X.w) A (call (.builtin "isinstance") [u,c]) Q E s:=by
 cases ty with
 |non=>cases (show u=Value.none from d);exact jx W.kitx_none I.kIn True.intro e (λz=>nomatch z) h
 |bl y=>cases (show u=Value.bool y from d);exact jx W.kitx_bool I.kIn True.intro e (λz=>nomatch z) h
 |int i=>obtain⟨t,q⟩:=(show ∃t,u=qc i t from d);cases q;exact jx W.kitx_int I.kIn True.intro e (λz=>nomatch z) h
 |str y=>obtain⟨t,q⟩:=(show ∃t,u=Value.str y t from d);cases q;exact jx W.kitx_str I.kIn True.intro e (λz=>nomatch z) h
 |flt y=>obtain⟨t,q⟩:=(show ∃t,u=Value.float y t from d);cases q;exact jx W.kitx_float I.kIn True.intro e (λz=>nomatch z) h
 |@lst a k f=>
  cases (show u=cb a from d);refine qq0 λqq2=>?_;obtain⟨_,_,n,_,g⟩:=(show ObjOk X.prog X.w H s.heap a (.lst k)from I.hok a _ f);refine qq2 ?_;exact jx xj I.kIn ⟨_,g,rfl⟩ e (λz=>nomatch z) h
 |@frz a v k f=>
  cases (show u=cb a from d);refine qq0 λqq2=>?_;obtain⟨_,_,_,n,_,g⟩:=(show ObjOk X.prog X.w H s.heap a (.frz v<|.lst k)from I.hok a _ f);refine qq2 ?_;exact jx xj I.kIn ⟨_,g,rfl⟩ e (λz=>nomatch z) h
 |@tup a k f=>
  cases (show u=cb a from d);refine qq0 λqq2=>?_;obtain⟨_,_,_,p⟩:=(show ObjOk X.prog X.w H s.heap a (.tup k)from I.hok a _ f);obtain⟨o,g,l,_⟩:=p;refine qq2 ?_;exact jx zk I.kIn ⟨o,g,l⟩ e (λz=>nomatch z) h
 |@dK a j f=>
  cases (show u=cb a from d);refine qq0 λqq2=>?_;obtain⟨_,_,K,_,p⟩:=(show ObjOk X.prog X.w H s.heap a (.dK j)from I.hok a _ f);obtain⟨o,w,B,g,l,_⟩:=p;refine qq2 ?_;exact jx AI I.kIn ⟨o,g,l.1⟩ e (λz=>nomatch z) h
 |@dT a j f=>
  cases (show u=cb a from d);refine qq0 λqq2=>?_;obtain⟨_,_,k,_,o,w,B,g,l,_⟩:=(show ObjOk X.prog X.w H s.heap a (.dT j)from I.hok a _ f);refine qq2 ?_;exact jx AI I.kIn ⟨o,g,l.1⟩ e (λz=>nomatch z) h
 |@ins a C L M f r D F m G=>
  cases (show u=cb a from d);refine qq0 λqq2=>?_;obtain⟨N,O,_⟩:=uB I.hok f;obtain⟨P,J,_⟩:=O.look;refine qq2 ?_;exact jx (W.kitx_own (r.get _) r.hd D F m G) I.kIn J e (λz=>nomatch z) h
end
structure Room(k:π)(A:Around):Prop where
 hd:A.handled=ν
 dp:A.depth+3*k+5<recursionLimit
 un:A.units+16*k+200<cLine
theorem Room.mono(r:Room k A)(h:j<=k):Room j A:=⟨r.hd,by have:=r.dp;lia,by have:=r.un;lia⟩
theorem Room.deeper(r:Room (k+1) A)(a:Env):Room k (A.deeper a):=
 ⟨r.hd,by have:=r.dp;show A.depth+1+3*k+5<_;lia,by have:=r.un;show A.units+3+16*k+200<_;lia⟩
theorem Mm{A:Around}:(A.under<|.builtin "type.__call__" ⟨.ref C::a,b⟩).depth=A.depth+1:=by
 first|rfl|simp[Around.under,Code.weight,Code.isCreation,Code.isGuard,Code.isCaller,Code.frames,Code.isFrame,guardIds]
theorem Ml{A:Around}:(A.under<|.builtin "type.__call__" ⟨.ref C::a,b⟩).units=A.units+1:=by
 first|rfl|simp[Around.under,Code.cUnits,Code.frames,Code.isFrame]
theorem Room.make(r:Room (k+1) A)(C:Ζ)(a:ε Γ)(b:ε<|bf×Γ):Room k (A.under<|.builtin "type.__call__" ⟨.ref C::a,b⟩):=
 ⟨r.hd,by have:=r.dp;rw[Mm];lia,by have:=r.un;rw[Ml];lia⟩
theorem Room.depth(r:Room k A):A.depth<recursionLimit:=by have:=r.dp;lia
theorem Room.units(r:Room k A):A.units+64<cLine:=by have:=r.un;lia
def jP:TA:=λ_ H Q=>Q [] H
def eF(b:TE)(tr:TA):TA:=λa H Q=>b a H λx c=>tr a c λd e=>Q (x::d) e
theorem aX:PA X [] jP:=λ_ _ _ _ H Q I h=>vo ⟨[],H,I,.nil,h⟩
theorem aJ(b:PE X e y)(c:PA X w t)(d:starEach (e::w) X.env=(false,eval e X.env)::starEach w X.env:=by rfl):PA X (e::w) (eF y t):=by
 intro v pins s a H Q I h;rw[d];show ar _ _ (spliced<|(false,eval e X.env)::backTo v (starEach w X.env)) _ _ s;refine uz<|eP (b pins s a H _ I h) λu f ⟨x,g,i,j,k⟩=>?_;exact eP (c v pins f a g _ i k) λq r ⟨l,m,n,o,p⟩=>⟨x::l,m,n,.cons j o,p⟩
def aKw(t:TA):TE:=λc H Q=>t c H λa b=>a.length<=sizeLine/\∀p,b p=ν->Q (.ref p) (fA b p<|.tup a)
def aKx(t:TA):TE:=λc H Q=>t c H λa b=>a.length<=sizeLine/\∀p,b p=ν->Q (.ref p) (fA b p<|.lst a)
theorem Yf(h:PA X n t):PE X (.Tuple n f m) (aKw t):=by
 intro pins s g H Q I i;refine wpAny_Tuple_spliced<|eP (h m pins s g H _ I i) λj a ⟨k,c,d,r,z,q⟩=>⟨by rw[<-r.length];exact z,?_⟩;have l:c a.heap.objs.size=ν:=d.hok.fresh<|ω _;refine⟨.ref a.heap.objs.size,fA c a.heap.objs.size<|.tup k,d.laid (t':=a.toks) (λb u e=>Ξ _ e) (ω _) ?_,rfl,q _ l⟩;exact⟨z,j,r,⟨_,aw _ rfl,rfl,_,rfl⟩⟩
theorem lG(h:PA X m t):PE X (.List m l) (aKx t):=by
 intro pins s f H Q I g;refine wpAny_List_spliced<|eP (h l pins s f H _ I g) λi a ⟨j,c,d,r,z,q⟩=>⟨by rw[<-r.length];exact z,?_⟩;have k:c a.heap.objs.size=ν:=d.hok.fresh<|ω _;refine⟨.ref a.heap.objs.size,fA c a.heap.objs.size<|.lst j,d.laid (t':=a.toks) (λb u e=>Ξ _ e) (ω _) ?_,rfl,q _ k⟩;exact⟨z,i,0,r,aw _ rfl⟩
abbrev Sp:=ε V->Hp->VK->XK->Prop
abbrev Nw:=ε Env->Hp->aj->XK->Γ->aj->Prop
structure Env0(P:Program)(w:kn)(K:ς)(mg:bf->Θ Γ)(base:gy)(A:Around)(outer:ε Env)(s:aj)(H:Hp):Prop where
 frames:A.frames=γ outer
 mod:Mod K mg base
 bs:∀b o,base.get? b=γ o->s.heap.get? b=γ o/\H b=ν
 bsz:base.objs.size<=s.heap.objs.size
 funs:s.heap.FunFrames base outer
 frf:∀b∈rW outer,H b=ν
 hok:HOk P w H s.heap
 bare:AllBare s.gens
def CE(outer:ε Env)(P:Program)(w:kn)(H:Hp)(s:aj)(Q:VK)(u:Γ)(a:aj):Prop:=
 ∃v b,a.os=s.os/\AllBare a.gens/\Un (rW outer) [] H b s.heap a.heap/\HOk P w b a.heap/\RelV v u/\Q v b
def CR(b:Nw)(outer:ε Env)(P:Program)(w:kn)(H:Hp)(s:aj)(Q:VK)(E:XK)(r:Result)(a:aj):Prop:=
 match r with
 | .ok (.ret u)=>CE outer P w H s Q u a
 | .ok _=>ag
 | .error e=>b outer H s E e a
structure FnOk(P:Program)(w:kn)(K:ς)(mg:bf->Θ Γ)(base:gy)(CX:Nw)(k:π)(f:Ζ)(fd:FuncData)(ps:ε bf)(sp:Sp):Prop where
 len:∀vs H Q E,sp vs H Q E->vs.length=ps.length
 run:∀(A:Around)(outer:ε Env)(s:aj)(H:Hp)(args:Args)(us:ε Γ)(vs:ε V)(Q:VK)(E:XK),Room k A->Env0 P w K mg base A outer s H->BindsTo s fd args (ps.zip us)->Vals vs us->sp vs H Q E ->
  codeAny (model P w) A (.call (.ref f) args) (CR CX outer P w H s Q E) s
theorem FnOk.imp{K:ς}(F:FnOk P w K c base d k f e g i)
  (h:∀a H Q E,b a H Q E->i a H Q E):FnOk P w K c base d k f e g b:=
 ⟨λa H Q E q=>F.len a H Q E<|h _ _ _ _ q,λA outer s H args j a Q E l m n o p=>F.run A outer s H args j a Q E l m n o<|h _ _ _ _ p⟩
theorem Env0.make{K:ς}(e:Env0 P w K a base A outer s H)(C:Ζ)(b:ε Γ)(c:ε<|bf×Γ):
  Env0 P w K a base (A.under<|.builtin "type.__call__" ⟨.ref C::b,c⟩) outer s H:=⟨by first|exact e.frames|(simpa[Around.under,Code.envs,Code.isFrame,pushEnvs]using e.frames),e.mod,e.bs,e.bsz,e.funs,e.frf,e.hok,e.bare⟩
theorem Inv.env0(I:Inv X a b H s):Env0 X.prog X.w X.K X.mg X.base X.A X.stack s H:=
 ⟨I.ok.frames,I.ok.mod,I.bs,Α I.ok.bsz I.sz,I.stack,I.stkFree,I.hok,I.bare⟩
theorem Inv.after(I:Inv X j k H s)(h:CE X.stack X.prog X.w H s Q u s'):EP X j k Q u s':=by
 refine qq0 λqq2=>?_;obtain⟨v,e,f,bare,un,a,r,q⟩:=h;obtain⟨i,g,d,t,c⟩:=s';obtain rfl:c=s.os:=f;refine qq2 ?_;exact⟨v,e,I.call (h':=i) (g':=g) (d':=d) (t':=t) (ch:=[]) un a bare λb z=>ψ z<|by simp,r,q⟩
def jD(b:Sp)(a:ε V)(E:XK)(t:TA):TE:=λc H Q=>t c H λd e=>b (d++a) e Q E
def Fv(C:Ζ)(m:bf)(f:Sp)(b:ε V)(E:XK)(g:TE)(t:TA):TE:=λc H Q=>g c H λx d=>∃a h e,x= .ref a/\d a=γ (.ins C h e)/\e.lookup m=ν/\
 t c d λi j=>f (x::(i++b)) j Q E
def aHt(C:Ζ)(d:Sp)(b:ε V)(E:XK)(t:TA):TE:=λe H Q=>t e H λf c=>∀x a,c x=ν->c a=ν->a≠x ->
 d (.ref x::(f++b)) (fA (fA c a<|.own x) x<|.ins C a []) (λv g=>v= .non/\Q (.ref x) g) E
def Binds(K:ς)(d:FuncData)(b:ε bf)(c:ε Γ):Prop:=
 ∀(s:aj)(a:ε Γ),K.In s.heap->(a++c).length=b.length->BindsTo s d ⟨a,[]⟩ (b.zip<|a++c)
theorem Binds.all{K:ς}(h:∀a:ε Γ,a.length=b.length->bindArgs c ⟨a,[]⟩=pure (b.zip a)):Binds K c b []:=λs a _ d=>by
 rw[j2]at d⊢;exact .of_eq<|h a d
def iR(b:Nw)(X:Cx)(E:XK):Prop:=∀(pins:ε<|Ζ×Obj)(c:St)(H:Hp)(s:aj)(e:Γ)(a:aj),Inv X pins c H s->b X.stack H s E e a->X.xe e a
section
variable{X:Cx}{CX:Nw}{k:π}{f C:Ζ}{fd:FuncData}{ps:ε bf}{sp:Sp}{dvs:ε V}{ds:ε Γ}{E:XK}{x m:bf}{p pos apos:Pos}{e o:Expr}{es:ε Expr}{ta:TE}{t:TA}
theorem Xj(F:FnOk X.prog X.w X.K X.mg X.base CX k f fd ps sp)(d:Room k X.A)(g:Binds X.K fd ps ds)(i:Vals dvs ds)(j:iR CX X E)
  (I:Inv X pins b H s) (r:Vals vs us) (h:sp (vs++dvs) H Q E):ar (model X.prog X.w) X.A (call (.ref f) us) (EP X pins b Q) X.xe s:=by
 have c:Vals (vs++dvs) (us++ds):=r.append i;have l:(us++ds).length=ps.length:=by rw[<-c.length];exact F.len _ _ _ _ h
 refine A6<|rb (F.run X.A X.stack s H ⟨us,[]⟩ (us++ds) (vs++dvs) Q E d I.env0 (g s us I.kIn l) c h) λr n a=>?_;cases r with
 |error e=>exact j pins b H s e n I a
 |ok q=>
  cases q with
  |ret u=>exact I.after a
  |next=>exact ew a
  |brk=>exact ew a
  |cont=>exact ew a
theorem aEp(F:FnOk X.prog X.w X.K X.mg X.base CX k f fd ps sp)(d:Room k X.A)(g:Gl X x)(i:X.mg x=γ (.ref f))(j:W.keepIn X.K (.ref f)=true)(l:Binds X.K fd ps ds)(n:Vals dvs ds)(u:iR CX X E)
  (v:PA X (e::es) t) (a:(x==("__debug__":bf))=false:=by decide) (w:starEach (e::es) X.env=(false,eval e X.env)::starEach es X.env:=by rfl) (b:(backTo pos<|starEach es X.env).any (·.1)=false:=by rfl):
  PE X (.Call (.Name x p) (e::es) [] pos) (jD sp dvs E t):=by
 intro pins s y H Q I h;refine l7<|uA I g i ?_ a;refine zl (h₀:=X.base) I.ok.mod.kin j (eP (v pos pins s y H _ I h) λz A ⟨B,D,c,r,q⟩=>⟨c.kIn,?_⟩) w b;exact Xj F d l n u c r q
theorem qD(w:PE X o ta)(c:Cls X.K C)(g:Meth X.K C m f)(F:FnOk X.prog X.w X.K X.mg X.base CX k f fd ps sp)(y:Room k X.A)(z:Binds X.K fd ps ds)(A:Vals dvs ds)(B:iR CX X E)(D:PA X (e::es) t)
  (b:starEach (e::es) X.env=(false,eval e X.env)::starEach es X.env:=by rfl) (d:(backTo pos<|starEach es X.env).any (·.1)=false:=by rfl)
  (G:eval (.Call (.Attribute o m apos) (e::es) [] pos) X.env=(do
   let i <-eval o X.env
   standAt apos.atName
   let(f,first) <-holding [i] (getMethod i m pl)
   callWith pos f first (backTo pos (starEach (e::es) X.env)) (backToKw pos (keywordEach [] X.env))):=by rfl):
  PE X (.Call (.Attribute o m apos) (e::es) [] pos) (Fv C m sp dvs E ta t):=by
 intro pins s j H Q I h;refine W.methodCall_KW (pl:=pl) (eP (w pins s j H _ I h) λu J ⟨x,K,n,L,a,P,R,M,N,l,q⟩=>?_) G;subst M;obtain rfl:u=cb a:=L;refine Mu n N c g l ?_;refine zl (first:=[.ref a]) (h₀:=X.base) I.ok.mod.kin g.kp (eP (D pos pins J j K _ n q) λus S ⟨vs,T,v,r,O⟩=>⟨v.kIn,?_⟩) b d;exact Xj (us:=.ref a::us) (vs:=.ref a::vs) F y z A B v (.cons rfl r) O
structure Mk(K:ς)(C f:Ζ):Prop where
 makes:W.makesIn K C=true
 init:W.findIn K (.ref C) "__init__"=γ (γ<|.ref f)
 fn:W.isFn K (.ref f)=true
 kp:W.keepIn K (.ref C)=true
theorem Xi(M:Mk X.K C f)(F:FnOk X.prog X.w X.K X.mg X.base CX k f fd ps sp)(l:Room (k+1) X.A)(n:Binds X.K fd ps ds)(q:Vals dvs ds)
  (w:iR CX X E) (I:Inv X pins d H s) (r:Vals g us)
  (h:∀x b,H x=ν->H b=ν->b≠x->sp (.ref x::(g++dvs)) (fA (fA H b<|.own x) x<|.ins C b []) (λv y=>v= .non/\Q (.ref x) y) E):
  ar (model X.prog X.w) X.A (call (.ref C) us) (EP X pins d Q) X.xe s:=by
 have i:=h (s.heap.objs.size+1) s.heap.objs.size (I.hok.fresh<|Nat.le_succ _) (I.hok.fresh<|ω _)<|ig<|wo _;have c:=Inv.made (C:=C) I;have j:Vals (V.ref (s.heap.objs.size+1)::(g++dvs)) (cb (s.heap.objs.size+1)::(us++ds)):=.cons rfl<|r.append q;have z:(cb (s.heap.objs.size+1)::us++ds).length=ps.length:=by
  have e:=j.length;rw[F.len _ _ _ _ i]at e;exact e.symm
 refine A6 (Zi (f:=f) I.kIn M.makes M.init (kx.mp M.fn) (rb (F.run _ X.stack _ _ ⟨cb (s.heap.objs.size+1)::us,[]⟩ (cb (s.heap.objs.size+1)::(us++ds)) _ _ E (l.make C us [])
  (c.env0.make C us []) (n _ (cb (s.heap.objs.size+1)::us) c.kIn z) j i) λr A a=>?_))
 cases r with
 |error e=>exact w pins d _ _ e A c a
 |ok B=>
  cases B with
  |ret u=>
   refine qq0 λqq2=>?_;obtain⟨v,D,G,J,K,L⟩:=c.after a;refine qq2 ?_;subst K;exact⟨J,⟨V.ref<|s.heap.objs.size+1,D,G,rfl,L⟩⟩
  |next=>exact ew a
  |brk=>exact ew a
  |cont=>exact ew a
theorem Yh(M:Mk X.K C f)(F:FnOk X.prog X.w X.K X.mg X.base CX k f fd ps sp)(b:Room (k+1) X.A)(c:Gl X x)(d:X.mg x=γ (.ref C))(g:Binds X.K fd ps ds)(i:Vals dvs ds)(j:iR CX X E)
  (a:(x==("__debug__":bf))=false:=by decide):PE X (.Call (.Name x p) [] [] pos) (aHt C sp dvs E jP):=by
 intro pins s l H Q I h;refine l7<|uA I c d ?_ a;exact W.callWith_K0 I.kIn M.kp<|Xi (us:=[]) M F b g i j I .nil h
end
section
variable{X:Cx}{CX:Nw}{k:π}{f C:Ζ}{fd:FuncData}{ps ks:ε bf}{sp:Sp}{E:XK}{x m:bf}{p pos apos kpos:Pos}{e o:Expr}{es:ε Expr}{kws:ε Keyword}{te ta:TE}{t tk:TA}{nm:Θ bf}
structure KBinds(K:ς)(fd:FuncData)(ps ks:ε bf)(g:ε Γ->ε Γ->ε Γ)(gV:ε V->ε V->ε V):Prop where
 to:∀(s:aj)(us ws:ε Γ),K.In s.heap->(g us ws).length=ps.length->BindsTo s fd ⟨us,ks.zip ws⟩ (ps.zip<|g us ws)
 rel:∀{vs:ε V}{us:ε Γ}{zs:ε V}{ws:ε Γ},Vals vs us->Vals zs ws->Vals (gV vs zs) (g us ws)
variable{g:ε Γ->ε Γ->ε Γ}{gV:ε V->ε V->ε V}
end
structure FnScope(N P:ε bf)(sc:Scope):Prop where
 kind:sc.kind= .function
 co:sc.isCoroutine=false
 gen:sc.isGenerator=false
 nd:N.Nodup
 pre:N.take P.length=P
 par:∀x∈P,sc.names.lookup x=γ .local\/sc.names.lookup x=γ .cell
 nofree:∀y∈sc.names,y.2≠ .free
theorem Ba{kindOf:bf->Θ NameKind}:∀{binds:ε<|bf×Γ}{m:bf->Θ Γ},(∀v,(x,v)∉binds)->bindL kindOf binds m x=m x
 |[],_,_=>rfl
 |(n,v)::r,m,h=>by
  unfold bindL;rw[Ba λw hw=>h w<|ο _ hw];split
  ·have:x≠n:=by rintro rfl;exact h v υ
   simp[this]
  ·rfl
theorem Bc{kindOf:bf->Θ NameKind}:∀{binds:ε<|bf×Γ}{m:bf->Θ Γ},(∀v,(x,v)∉binds)->bindC kindOf binds m x=m x
 |[],_,_=>rfl
 |(n,v)::r,m,h=>by
  unfold bindC;rw[Bc λw hw=>h w<|ο _ hw];split
  ·rfl
  ·have:x≠n:=by rintro rfl;exact h v υ
   simp[this]
theorem Bb{kindOf:bf->Θ NameKind}:∀{P:ε bf}{a:ε Γ}{i:π}{m:bf->Θ Γ},P.Nodup->P[i]? =γ x->a[i]? =γ v->kindOf x=γ .local ->
  bindL kindOf (P.zip a) m x=γ v
 |[],_,_,_,_,h,_,_=>by simp at h
 |_::_,[],_,_,_,_,h,_=>by simp at h
 |p::P,w::a,0,m,d,b,c,e=>by
  simp at b c;subst b;subst c;show bindL kindOf ((p,w)::P.zip a) m p=_;unfold bindL;rw[Ba λv f=>(ky.mp d).1 (eh f).1,ρ e];simp
 |p::P,w::a,i+1,m,d,b,c,e=>by
  show bindL kindOf ((p,w)::P.zip a) m x=_;unfold bindL;exact Bb (i:=i) (ky.mp d).2 (by simpa using b) (by simpa using c) e
theorem Bd{kindOf:bf->Θ NameKind}:∀{P:ε bf}{a:ε Γ}{i:π}{m:bf->Θ Γ},P.Nodup->P[i]? =γ x->a[i]? =γ v->kindOf x≠γ .local ->
  bindC kindOf (P.zip a) m x=γ v
 |[],_,_,_,_,h,_,_=>by simp at h
 |_::_,[],_,_,_,_,h,_=>by simp at h
 |p::P,w::a,0,m,d,b,c,e=>by
  simp at b c;subst b;subst c;show bindC kindOf ((p,w)::P.zip a) m p=_;unfold bindC;rw[Bc λv f=>(ky.mp d).1 (eh f).1,ι e];simp
 |p::P,w::a,i+1,m,d,b,c,e=>by
  show bindC kindOf ((p,w)::P.zip a) m x=_;unfold bindC;exact Bd (i:=i) (ky.mp d).2 (by simpa using b) (by simpa using c) e
def start(N:ε bf)(a:ε V):St:=a.map γ++bp (N.length-a.length) ν
def qW(c:Nw)(P:Program)(w:kn)(K:ς)(mg:bf->Θ Γ)(base:gy)(N:ε bf)(qual:bf)(scope:Scope)(f:Ζ)(b:Γ)(A:Around)(outer:ε Env)(s:aj)(H:Hp)(E:XK):Cx where
 prog:=P
 w:=w
 K:=K
 mg:=mg
 base:=base
 A:=A.deeper<|envOfC qual scope s.heap.objs.size f b
 N:=N
 s₀:=s
 H₀:=H
 env:=envOfC qual scope s.heap.objs.size f b
 outer:=outer
 stack:=envOfC qual scope s.heap.objs.size f b::outer
 ex:=[]
 calm:=true
 fn:=λ_=>true
 pn:=[]
 xe:=λe d=>ar (model P w) (A.deeper<|envOfC qual scope s.heap.objs.size f b) (leaving (envOfC qual scope s.heap.objs.size f b) e) (λ_ a=>c outer H s E e a) (λg a=>c outer H s E g a) d
theorem Ki{a:Scope}(h:a.names.lookup x=γ .cell):∃c,(cellsFrom n a.names []).lookup x=γ c:=by
 have q:=wq a.names n []<|.inl h;exact pA.mp q
theorem Uh{K:ς}
  (S:FnScope N j scope) (R:A.handled=ν) (g:Env0 P w K G base A outer s H) (Y:l.length=j.length) (r:Vals l I)
  (x:InCallC s s.heap.objs.size (bindL (envOfC qual scope s.heap.objs.size f C).kindOf (j.zip I) λ_=>ν) (cellsFrom (s.heap.objs.size+1) scope.names []) (bindC (envOfC qual scope s.heap.objs.size f C).kindOf (j.zip I) λ_=>ν) L):
  Inv (qW J P w K G base N qual scope f C A outer s H E) [] (start N l) H L:=by
 have T:j.length<=N.length:=by have:=ea length S.pre;rw[ao]at this;lia
 refine qq0 λqq2=>?_;obtain⟨D,tk,rfl,M⟩:=x.done;refine qq2 ?_;have m:∀b:Ζ,b∉(qW J P w K G base N qual scope f C A outer s H E).ex:=λb z=>ψ (show b∈([]:ε Ζ)from z) (by simp)
 refine⟨⟨g.mod,S.kind,rfl,rfl,ω _,λy z c D d=>?_,λy o=>?_,λy c _ h=>?_,λ_=>R,Around.frames_deeper g.frames,.inr ⟨rfl,rfl⟩,λb z=>ψ z (m b),g.bs,g.bsz,λb _ _=>m b,λb z=>ψ z (m b),g.funs,g.frf⟩,
  rfl,g.bare,Un.kept M,⟨_,x.toInCall.ns,λi y v D d Z=>?_⟩,λy c h=>⟨_,x.cell y c h⟩,g.hok.fresh (ω _),λy c h=>?_,λp t=>ψ (show p∈([]:ε (Ζ×Obj))from t) (by simp),g.hok.kept M,?_⟩
 ·exact name_of_addr x.apart (hB D)<|hB d
 ·have o:scope.names.lookup y=γ .cell\/scope.names.lookup y=γ .free:=o;rcases o with o|o
  ·exact Ki o
  ·exact ψ rfl<|S.nofree _<|hB o
 ·exact cg<|x.above y c<|hB h
 ·have F:i<l.length:=by
   unfold start at d;by_cases F:i<l.length
   ·exact F
   ·rw[cx<|by simpa using F]at d;rw[qd]at d;split at d <;>cases d
  have U:l[i]? =γ v:=by
   unfold start at d;rw[ek<|by simpa using F,el]at d;cases e:l[i]? with
   |none=>rw[e]at d;cases d
   |some a=>rw[e]at d;cases d;rfl
  refine qq0 λqq2=>?_;obtain⟨u,O,X⟩:=r.get U;refine qq2 ?_;have t:j[i]? =γ y:=by
   rw[<-S.pre,lj<|‹138›];exact D
  have B:j.Nodup:=by rw[<-S.pre];exact S.nd.sublist<|n3 _ _
  refine⟨u,X,?_⟩;rcases S.par y (Ω t)with k|k
  ·exact .inl ⟨k,Bb B t O k⟩
  ·obtain⟨c,e⟩:=Ki (n:=s.heap.objs.size+1) k;refine .inr ⟨.inl k,c,e,?_⟩;have q:=x.cell y c e;rw[Bd B t O (by show scope.names.lookup y≠_;rw[k];decide)]at q;exact q
 ·exact g.hok.fresh<|cg<|x.above y c<|hB h
 ·unfold start;show _=N.length;rw[Λ,η,eg];exact 50
theorem aTc{K:ς}{X kV l Y a Z oc:Γ}
     (lk:K.lookup f=γ ⟨oc,od,.func<|W.fnOf name qual params body scope X kV l Y an a Z,G⟩) (M:W.codeIn K a qual=true) (S:FnScope N F scope)
  (m:∀c H Q E,L c H Q E->c.length=F.length)
  (h:∀(A:Around)(outer:ε Env)(s:aj)(H:Hp)(c:ε V)(Q:VK)(E:XK),Room k (A.deeper (envOfC qual scope s.heap.objs.size f a))->L c H Q E ->
   ∃t,Kq (qW C P w K D base N qual scope f a A outer s H E) body t/\t {nx:=λ_ g=>Q .non g,rt:=Q} (start N c) H):
  FnOk P w K D base C (k+1) f (W.fnOf name qual params body scope X kV l Y an a Z) F L:=by
 refine⟨m,λA outer s H args us c Q E O p hb r z=>?_⟩;have hl:=m _ _ _ _ z;have KX:K.In s.heap:=p.mod.kin.keeps λb o e=>(p.bs b o e).1;have R:s.heap.NoLimit:=p.mod.nolimit.keeps λb o e=>(p.bs b o e).1;have i:∀y∈F.zip us,scope.names.lookup y.1=γ .local\/(scope.names.lookup y.1=γ .cell/\((cellsFrom (s.heap.objs.size+1) scope.names []).lookup y.1).isSome=true):=λ⟨n,v⟩ hy=>by
  rcases S.par n (eh hy).1 with q|q
  ·exact .inl q
  ·exact .inr ⟨q,wq _ _ _<|.inl q⟩
 refine codeAny_call_function O.depth (KX _ _ lk) rfl S.co S.gen rfl (W.codeRec_of KX M)<|hb _ _ _ _ ?_;refine wpAny_newFunctionEnv_cells S.kind i λa0 he s1 x=>?_;subst he;refine⟨R.keeps x.toInCall.keep,codeAny_func ?_⟩;refine qq0 λqq2=>?_;obtain⟨t,ht,hq⟩:=h A outer s H c Q E (O.deeper _) z;refine qq2 ?_;have I:Inv (qW C P w K D base N qual scope f a A outer s H E) [] (start N c) H s1:=Uh S O.hd p hl r x;refine fk (ht [] s1 (start N c) H _ I hq) (λfl T j=>?_) λe T j=>j;have B:∀{d:St}{g:Hp}{v:V}{u:Γ},Inv (qW C P w K D base N qual scope f a A outer s H E) [] d g T->RelV v u->Q v g->CE outer P w H s Q u T:=
  λ{d g v u} J U q=>⟨v,g,J.os,J.bare,J.base,J.hok,U,q⟩
 cases fl with
 |ret u=>
  refine qq0 λqq2=>?_;obtain⟨v,d,g,J,U,q⟩:=j;refine qq2 ?_;exact B J U q
 |next =>
  obtain⟨d,g,J,q⟩:=j;exact B (v:=V.non) (u:=Value.none) J rfl q
 |brk=>
  obtain⟨_,_,_,q⟩:=j;exact ew q
 |cont=>
  obtain⟨_,_,_,q⟩:=j;exact ew q
section
variable{X:Cx}{x:bf}{p pos:Pos}{e:Expr}{es:ε Expr}{t:TA}{id T:String}{r:ε V->Hp->VK->Prop}
def tCB(r:ε V->Hp->VK->Prop)(t:TA):TE:=λa H Q=>t a H λb c=>r b c Q
theorem cO(d:iM X (.builtin id) r)(f:Gl X x)(g:X.mg x=ν)(i:bootBuiltins x=γ (.builtin id))(j:PA X (e::es) t)(k:x≠"__name__":=by decide)(a:(x==("__debug__":bf))=false:=by decide)
  (l:starEach (e::es) X.env=(false,eval e X.env)::starEach es X.env:=by rfl) (b:(backTo pos<|starEach es X.env).any (·.1)=false:=by rfl):PE X (.Call (.Name x p) (e::es) [] pos) (tCB r t):=by
 intro pins s c H Q I h;refine l7<|jK I f g i ?_ k a;exact wu (eP (j pos pins s c H _ I h) λm n ⟨o,q,u,v,w⟩=>d pins n c q o m Q u v w) l b
theorem kL(d:iM X (.type T) r)(f:Gl X x)(g:X.mg x=ν)(i:bootBuiltins x=γ (.type T))(j:PA X (e::es) t)(k:x≠"__name__":=by decide)(a:(x==("__debug__":bf))=false:=by decide)
  (l:starEach (e::es) X.env=(false,eval e X.env)::starEach es X.env:=by rfl) (b:(backTo pos<|starEach es X.env).any (·.1)=false:=by rfl):PE X (.Call (.Name x p) (e::es) [] pos) (tCB r t):=by
 intro pins s c H Q I h;refine l7<|jK I f g i ?_ k a;exact dh (eP (j pos pins s c H _ I h) λm n ⟨o,q,u,v,w⟩=>d pins n c q o m Q u v w) l b
end
end L2
namespace HT
open PySem PyProof.Rows
def sIx(n d:π):Θ χ->π
 |none=>d
 |some v=>if v<0 then(v+(n:χ)).toNat else min v.toNat n
theorem sIx_none(n d:π):sIx n d ν=d:=rfl
theorem sIx_nat(n d k:π):sIx n d (γ (k:χ))=min k n:=by
 show(if (k:χ)<0 then((k:χ)+(n:χ)).toNat else min (k:χ).toNat n)=min k n;rw[ι<|by lia,ft]
end HT
namespace L2
open PySem PySem.Spec PyProof.Rows
abbrev TO:=St->Hp->(Θ χ->Hp->Prop)->Prop
def PO(X:Cx)(e:Θ Expr)(t:TO):Prop:=
 ∀(pins:ε<|Ζ×Obj)(s:aj)(a:St)(H:Hp)(Q:Θ χ->Hp->Prop),Inv X pins a H s->t a H Q ->
  ar (model X.prog X.w) X.A (evalPart e X.env) (λu c=>∃o b,Inv X pins a b c/\IsPart u o/\Q o b) X.xe s
def Om:TO:=λ_ H Q=>Q ν H
def aHr(t:TE):TO:=λa H Q=>t a H λx b=>∃i,x= .int i/\Q (γ i) b
section
variable{X:Cx}{e:Expr}{te:TE}{lo hi:Θ Expr}{tl th:TO}{pos p2:Pos}
theorem qC:PO X ν Om:=by
 intro pins s a H Q I h;rw[uo];exact aq ⟨ν,H,I,.none,h⟩
theorem qB(h:PE X e te):PO X (γ e) (aHr te):=by
 intro pins s a H Q I hw;rw[evalPart_some];refine eP (h pins s a H _ I hw) λu g ⟨x,b,c,d,f⟩=>?_;refine qq0 λqq2=>?_;obtain⟨i,rfl,q⟩:=f;obtain⟨t,rfl⟩:=d;refine qq2 ?_;exact⟨γ i,b,c,.int i t,q⟩
def SlR(X:Cx)(r:V->Θ χ->Θ χ->Hp->VK->Prop):Prop:=
 ∀(pins:ε<|Ζ×Obj)(s:aj)(a:St)(H:Hp)(x:V)(v b c:Γ)(lo hi:Θ χ)(d:Ζ)(Q:VK),Inv X pins a H s->RelV x v->s.heap.IsSliceOf d b c .none->IsPart b lo->IsPart c hi->r x lo hi H Q ->
  ∃T id,typeLookup (.type T) "__getitem__"=pure (γ<|.builtin id)/\s.TypeIs v T/\ar (model X.prog X.w) X.A (getItem v<|.ref d) (EP X pins a Q) X.xe s
def tSl(r:V->Θ χ->Θ χ->Hp->VK->Prop)(te:TE)(tl th:TO):TE:=λa H Q=>te a H λx b=>tl a b λl c=>th a c λu d=>r x l u d Q
theorem mO(i:SlR X r)(j:PE X e te)(k:PO X lo tl)(m:PO X hi th):PE X (.Subscript e (.Slice lo hi ν p2) pos) (tSl r te tl th):=by
 intro pins s c H Q I h;refine uR<|eP (j pins s c H _ I h) λv n ⟨x,o,p,t,w⟩=>?_;refine AJ<|eP (k pins n c o _ p w) λd y ⟨l,z,A,B,C⟩=>eP (m pins y c z _ A C) λf a ⟨u,g,D,E,F⟩=>?_;rw[uo];refine aq ?_;have G:Inv X pins c g {a with heap:=a.heap.push {cls:=.type "slice",data:=.fields #[d,f,.none]}}:=D.kept (t':=a.toks) λb M q=>Ξ _ q;refine qq0 λqq2=>?_;obtain⟨T,id,J,K,L⟩:=i pins {a with heap:=a.heap.push {cls:=.type "slice",data:=.fields #[d,f,.none]}} c g x v d f l u a.heap.objs.size Q G t (u0 ..) B E F;refine qq2 ?_;show ar (model X.prog X.w) X.A (subscriptTail e (.Slice lo hi ν p2) v<|.ref a.heap.objs.size) (EP X pins c Q) X.xe {a with heap:=a.heap.push {cls:=.type "slice",data:=.fields #[d,f,.none]}};exact yp (ops:=[.ref a.heap.objs.size,v]) K J L (by with_unfolding_all rfl)
def Nf(a:ε V)(lo hi:Θ χ):ε V:=(a.drop<|HT.sIx a.length 0 lo).take<|HT.sIx a.length a.length hi-HT.sIx a.length 0 lo
theorem Kf(a:ε V)(lo hi:Θ χ):(Nf a lo hi).length<=a.length:=by
 unfold Nf;rw[ao,az];exact 50
end
def Uf(n:π)(i:χ):Θ π:=if 0<=i then(if i<n then γ i.toNat else ν)else if -(n:χ)<=i then γ (i+n).toNat else ν
def oX{a:Type}(b:ε a)(i:χ):Θ a:=(Uf b.length i).bind λj=>b[j]?
theorem Qj(h:Uf n i=γ j):seqIndex? i n=γ j/\j<n/\-(n:χ)<=i/\i<n:=by
 unfold Uf at h;by_cases b:0<=i
 ·rw[ρ b]at h;by_cases a:i<n
  ·rw[ρ a]at h;have e:i.toNat=j:=bw h;exact⟨by rw[xk b a,e],by lia,by lia,a⟩
  ·rw[ι a]at h;cases h
 ·rw[ι b]at h;by_cases a:-(n:χ)<=i
  ·rw[ρ a]at h;have e:(i+n).toNat=j:=bw h;exact⟨by rw[vp (by lia) a,e],by lia,a,by lia⟩
  ·rw[ι a]at h;cases h
theorem Et{a:ε b}{v:b}(h:oX a i=γ v):∃j,seqIndex? i a.length=γ j/\a[j]? =γ v/\j<a.length/\-(a.length:χ)<=i/\i<a.length:=by
 unfold oX at h;cases e:Uf a.length i with
 |none=>rw[e]at h;cases h
 |some j=>
  rw[e]at h;refine qq0 λqq2=>?_;obtain⟨c,d,f,g⟩:=Qj e;refine qq2 ?_;exact⟨j,c,h,d,f,g⟩
theorem fQ{a:ε b}{j:π}{v:b}(h:a[j]? =γ v):oX a (j:χ)=γ v:=by
 have c:j<a.length:=(Δ.mp h).1;have e:Uf a.length (j:χ)=γ j:=by
  unfold Uf;rw[ρ<|‹29›,ρ<|‹19›];simp
 unfold oX;rw[e];exact h
def aHh(b:Expr):Prop:=∀o i,subscripted b false o i=operate [o,i] (getItem o i)
def IxR(X:Cx)(r:R2):Prop:=
 ∀(value slice:Expr)(pins:ε<|Ζ×Obj)(s:aj)(a:St)(H:Hp)(x y:V)(v u:Γ)(Q:VK),Inv X pins a H s->RelV x v->RelV y u->r x y H Q ->
  subscripted slice false v u=operate [v,u] (getItem v u)->ar (model X.prog X.w) X.A (subscriptTail value slice v u) (EP X pins a Q) X.xe s
def MtR(X:Cx)(id:String)(r:V->ε V->Hp->VK->Prop):Prop:=
 ∀(pins:ε<|Ζ×Obj)(s:aj)(a:St)(H:Hp)(x:V)(b:ε V)(v:Γ)(c:ε Γ)(Q:VK),Inv X pins a H s->RelV x v->Vals b c->r x b H Q ->
  ar (model X.prog X.w) X.A (call (.builtin id)<|v::c) (EP X pins a Q) X.xe s
section
variable{X:Cx}{a b:Expr}{ta tb:TE}{pos:Pos}
theorem Gz(c:IxR X r)(d:PE X a ta)(e:PE X b tb)(f:aHh b):PE X (.Subscript a b pos) (yZ r ta tb):=by
 intro pins s g H Q I h;exact uR<|aOy d e I h λv u i x y j k l m q=>c a b pins i g j x y v u Q k l m q<|f _ _
def aEg(K:ς):R2:=λx y H Q=>∃p c i v,x= .ref p/\y= .int i/\SqL K H p c/\oX c i=γ v/\Q v H
def Xt(K:ς):R2:=λx y H Q=>∃p c i v,x= .ref p/\y= .int i/\SqT K H p c/\oX c i=γ v/\Q v H
def aRq:R2:=λx y H Q=>∃z i c,x= .str z/\y= .int i/\z.length<=sizeLine/\oX z.cps.toList i=γ c/\Q (.str ⟨#[c]⟩) H
theorem aFv:IxR X (aEg X.K):=by
 intro value slice pins s l H x y v u Q I A B h m;refine qq0 λqq2=>?_;obtain⟨p,L,i,z,rfl,rfl,C,D,q⟩:=h;refine qq2 ?_;cases A;refine qq0 λqq2=>?_;obtain⟨t,rfl⟩:=B;obtain⟨e,r,f,M⟩:=I.list C;obtain⟨j,d,E,N,F,G⟩:=Et D;obtain⟨w,n,g⟩:=r.get E;refine qq2 ?_;have J:=r.length;have O:=oN;have c:EP X pins l Q w s:=⟨z,H,I,g,q⟩;by_cases o:0<=i
 ·have k:i.toNat=j:=by
   rw[xk o G]at d;exact bw d
  exact item_listR f.isList o (by lia) (by rw[k];simpa using n) c m
 ·have k:(i+(e.toArray.size:χ)).toNat=j:=by
   rw[vp (by lia) F]at d;rw[bt,<-J];exact bw d
  exact rf (x:=w) f.isList.typeIs slot_list_getitem.lookup
   (wpAny_getItem_list_neg (Q:=λr K=>r=w/\EP X pins l Q r K) f.isList (by lia) (by rw[bt] <;>lia) (by lia) (by rw[k];simpa using n) ⟨rfl,c⟩) m
theorem aNl:IxR X (Xt X.K):=by
 intro value slice pins s e H x y v u Q I g k h l;refine qq0 λqq2=>?_;obtain⟨p,F,i,z,rfl,rfl,m,n,q⟩:=h;refine qq2 ?_;cases g;refine qq0 λqq2=>?_;obtain⟨t,rfl⟩:=k;obtain⟨o,r,f,G⟩:=I.tuple m;obtain⟨j,A,B,J,K,L⟩:=Et n;obtain⟨w,C,c⟩:=r.get B;refine qq2 ?_;have D:=r.length;have M:=oN;have d:EP X pins e Q w s:=⟨z,H,I,c,q⟩;exact rf (x:=w) f.typeIs slot_tuple_getitem.lookup
  (getItem_tuple (j:=j) (Q:=λr E=>r=w/\EP X pins e Q r E) f (by lia) (by lia) (by rw[bt,<-D];exact A) (by simpa using C) ⟨rfl,d⟩) l
theorem aNn:IxR X aRq:=by
 intro value slice pins s w H x y v u Q I e f h g;refine qq0 λqq2=>?_;obtain⟨z,i,c,rfl,rfl,A,k,q⟩:=h;obtain⟨t,rfl⟩:=e;obtain⟨B,rfl⟩:=f;obtain⟨j,d,l,C,m,n⟩:=Et k;refine qq2 ?_;have o:z.cps.toList.length=z.length:=by simp[Str.length]
 rw[o]at d m n;have D:=oN
 exact yp (l8 s z t) slot_str_getitem.lookup (getItem_str (c:=c) (by
  have p:decide (i< -(2^63:χ))=false:=aA (by lia)
  have r:decide (i>=2^63)=false:=aA (by lia)
  rw[p,r,zb]) (by rw[d];simpa using l) ⟨.str ⟨#[c]⟩,H,I.tok _,⟨_,rfl⟩,q⟩) g
theorem Mj(c:ε Γ)(n j:π)(u:Γ):Obj.mapSeq (·.setIfInBounds j u) {cls:=.type "list",data:=.seq c.toArray n}={cls:=.type "list",data:=.seq (c.set j u).toArray n}:=by
 simp[Obj.mapSeq]
theorem Inv.lst(I:Inv X pins f H s)(h:H p=γ (.lst d)):
  ∃(c:ε Γ)(n:π),Vals d c/\s.heap.get? p=γ {cls:=.type "list",data:=.seq c.toArray n}/\d.length<=sizeLine:=by
 refine qq0 λqq2=>?_;obtain⟨z,c,n,r,e⟩:=I.hok p _ h;refine qq2 ?_;exact⟨c,n,r,e,z⟩
theorem Inv.lstUpd{d c:ε Γ}(I:Inv X pins j H s)(h:H p=γ (.lst l))
  (m:s.heap.get? p=γ {cls:=.type "list",data:=.seq d.toArray n}) (k:f {cls:=.type "list",data:=.seq d.toArray n}={cls:=.type "list",data:=.seq c.toArray i}) (r:Vals g c) (o:g.length<=sizeLine) (t:π):
  Inv X pins j (fA H p<|.lst g) {s with heap:=s.heap.update p f,toks:=t}:=by
 have e:(s.heap.update p f).get? p=γ {cls:=.type "list",data:=.seq c.toArray i}:=by
  rw[qe f m (by rw[k] <;>rfl),k]
 refine I.write (x:=p) (e:=p) (by rw[h];trivial) (.inl rfl) (λb u v q=>(mh _ _<|Ne.symm v).trans q) ⟨_,e⟩ ?_;exact⟨o,c,i,r,e⟩
def aIa:V->V->V->Hp->(Hp->Prop)->Prop:=λo i v H Q=>∃p c k j,o= .ref p/\i= .int k/\H p=γ (.lst c)/\Uf c.length k=γ j/\Q (fA H p<|.lst<|c.set j v)
theorem Xf:aUm X aIa:=by
 intro pins s z H o i v G J u Q I A B C h;refine qq0 λqq2=>?_;obtain⟨p,D,k,j,rfl,rfl,l,E,q⟩:=h;refine qq2 ?_;cases A;refine qq0 λqq2=>?_;obtain⟨t,rfl⟩:=B;obtain⟨c,n,r,e,F⟩:=I.lst l;obtain⟨d,K,m,w⟩:=Qj E;refine qq2 ?_;have f:=r.length;have L:=oN;have x:Inv X pins z (fA H p<|.lst<|D.set j v) {s with heap:=s.heap.update p<|Obj.mapSeq (·.setIfInBounds j u)}:=
  I.lstUpd l e (Mj c n j u) (r.set C j) (by rw[l9];exact F) s.toks
 by_cases y:0<=k
 ·have g:k.toNat=j:=by
   rw[xk y w]at d;exact bw d
  exact W.ki_setAt e y (by lia) (by rw[bt,<-f];exact w) (by rw[g];exact⟨_,x,q⟩)
 ·have g:(k+(c.toArray.size:χ)).toNat=j:=by
   rw[vp (by lia) m]at d;rw[bt,<-f];exact bw d
  exact W.ki_setBack e (by lia) (by rw[bt,<-f];exact m) (by lia) (by rw[g];exact⟨_,x,q⟩)
theorem Bt(c d:Θ χ)(n:π):(sliceBounds c d ν n).1=((HT.sIx n 0 c:π):χ)/\(sliceBounds c d ν n).2.1=((HT.sIx n n d:π):χ)/\(sliceBounds c d ν n).2.2=1:=by
 refine⟨?_,?_,rfl⟩
 ·cases c with
  |none=>simp[sliceBounds,HT.sIx]
  |some i=>
   simp only[sliceBounds,HT.sIx,wx,show(1:χ)>0 by decide,mi];by_cases h:i<0
   ·simp only[h,mi] <;>lia
   ·simp only[h,qf] <;>lia
 ·cases d with
  |none=>simp[sliceBounds,HT.sIx]
  |some i=>
   simp only[sliceBounds,HT.sIx,wx,show(1:χ)>0 by decide,mi];by_cases h:i<0
   ·simp only[h,mi] <;>lia
   ·simp only[h,qf] <;>lia
theorem xR(c:ε Γ)(d e:Θ χ):slicePick c.toArray d e ν=((c.drop<|HT.sIx c.length 0 d).take<|HT.sIx c.length c.length e-HT.sIx c.length 0 d).toArray:=by
 obtain⟨f,g,h⟩:=Bt d e c.toArray.size;unfold slicePick;rw[f,g,h];simp only[sliceRange_one,pick_run,bt] <;>rfl
def aLu(K:ς):V->Θ χ->Θ χ->Hp->VK->Prop:=λx d e H Q=>∃a c,x= .ref a/\SqL K H a c/\∀p,H p=ν->Q (.ref p) (fA H p<|.lst<|Nf c d e)
theorem aEc:SlR X (aLu X.K):=by
 intro pins s p H x v t u d e w Q I g i j k h;refine qq0 λqq2=>?_;obtain⟨a,c,rfl,l,q⟩:=h;refine qq2 ?_;cases g;refine qq0 λqq2=>?_;obtain⟨m,r,f,n⟩:=I.list l;refine qq2 ?_;have hlen:=r.length;refine⟨"list",_,slot_list_getitem.lookup,f.isList.typeIs,?_⟩;refine p0 f.isList i j k .none (by simp) ?_ (by rw[bt] <;>lia);rw[xR,<-hlen];refine⟨.ref s.heap.objs.size,_,I.laid (t':=s.toks) (o:=.lst<|Nf c d e) (λb y q=>Ξ _ q) (ω _) ?_,rfl,q _<|I.hok.fresh<|ω _⟩;exact⟨Α (Kf c d e) n,_,0,(r.drop<|HT.sIx c.length 0 d).take<|HT.sIx c.length c.length e-HT.sIx c.length 0 d,aw _ rfl⟩
theorem Ep:iM X (.builtin "len") (λi H Q=>∃p c,i=[.ref p]/\(SqL X.K H p c\/SqT X.K H p c)/\Q (.int c.length) H):=by
 intro pins s l H i m Q I r h;refine qq0 λqq2=>?_;obtain⟨p,c,rfl,d,q⟩:=h;obtain⟨u,rfl,j⟩:=jB r;refine qq2 ?_;cases j;have n:=oN;rcases d with d|d
 ·refine qq0 λqq2=>?_;obtain⟨e,f,g,k⟩:=I.list d;refine qq2 ?_;have hlen:=f.length;exact Calls.call_len_list g.isList (by simp only[bt] <;>omega) ⟨.int c.length,H,I.tok _,⟨s.toks+1,by rw[bt,hlen]⟩,q⟩
 ·refine qq0 λqq2=>?_;obtain⟨e,f,g,k⟩:=I.tuple d;refine qq2 ?_;have hlen:=f.length;exact len_tuple g (by simp only[bt] <;>omega) ⟨.int c.length,H,I.tok _,⟨s.toks+1,by rw[bt,hlen]⟩,q⟩
theorem Eo:iM X (.builtin "len") (λc H Q=>∃z,c=[.str z]/\z.length<=sizeLine/\Q (.int z.length) H):=by
 intro pins s d H c e Q I r h;refine qq0 λqq2=>?_;obtain⟨z,rfl,f,q⟩:=h;obtain⟨u,rfl,t,rfl⟩:=jB r;refine qq2 ?_;have g:=oN;exact len_str (by lia) ⟨.int z.length,H,I.tok _,⟨_,rfl⟩,q⟩
theorem En:iM X (.type "list") (λz H Q=>∃p f,z=[.ref p]/\(SqL X.K H p f\/SqT X.K H p f)/\∀l,H l=ν->Q (.ref l) (fA H l<|.lst f)):=by
 intro pins s B H z D Q I r h;refine qq0 λqq2=>?_;obtain⟨p,f,rfl,j,q⟩:=h;obtain⟨u,rfl,C⟩:=jB r;refine qq2 ?_;cases C;have k:∀(c:ε Γ),Vals f c->f.length<=sizeLine->∀(d:gy)(g:π),(∀b A,s.heap.get? b=γ A->d.get? b=γ A) ->
   d.get? s.heap.objs.size=γ {cls:=.type "list",dict:=ν,data:=.seq c.toArray g,slots:=#[]}->EP X pins B Q (.ref s.heap.objs.size) {s with heap:=d}:=λc i m d g t e=>
  ⟨.ref s.heap.objs.size,_,I.laid (t':=s.toks) t (ω _)<|show ObjOk X.prog X.w _ d _ (.lst f)from⟨m,c,g,i,e⟩,rfl,q _<|I.hok.fresh<|ω _⟩
 rcases j with j|j
 ·refine qq0 λqq2=>?_;obtain⟨c,i,v,m⟩:=I.list j;have hlen:=i.length;obtain⟨o,w,x,n,y⟩:=v.isList;refine qq2 ?_;exact zc p (.inl rfl) w x y (λd g t e=>k c i m d g t e) (by simp only[bt] <;>lia)
 ·refine qq0 λqq2=>?_;obtain⟨c,i,v,m⟩:=I.tuple j;have hlen:=i.length;obtain⟨o,w,x,n,y⟩:=v;refine qq2 ?_;exact zc p (.inr rfl) w x y (λd g t e=>k c i m d g t e) (by simp only[bt] <;>lia)
def tyV(K:ς)(T:String)(x:V)(H:Hp):Prop:=match x with
 | .str _=>T="str"
 | .int _=>T="int"
 | .ref p=>(T = "list"/\∃ d,SqL K H p d)\/(T = "tuple"/\∃ o,K.lookup p = γ o/\o.cls = .type "tuple"/\o.dict = ν) \/
   (T="dict"/\((∃c,H p=γ (.dK c))\/∃c,H p=γ (.dT c)))\/(T="set"/\∃S n,H p=γ (.set S n))
 |_=>ag
theorem aKv(I:Inv X pins m H s)(r:RelV x v)(ty:tyV X.K T x H):
  s.TypeIs v T/\∀a,v= .ref a->∃k,s.heap.get? a=γ k/\k.dict=ν:=by
 cases x with
 |str z=>
  obtain⟨t,rfl⟩:=r;cases (show T="str" from ty);exact⟨l8 s z t,λ_ e=>nomatch e⟩
 |int i=>
  obtain⟨t,rfl⟩:=r;cases (show T="int" from ty);exact⟨yq s i t,λ_ e=>nomatch e⟩
 |ref p=>
  cases r;rcases ty with⟨rfl,y,q⟩|⟨rfl,o,d,u,g⟩|⟨rfl,d⟩|⟨rfl,S,n,d⟩
  ·refine qq0 λqq2=>?_;obtain⟨w,_,l,_⟩:=I.list q;refine qq2 ?_;refine⟨l.isList.typeIs,λa e=>?_⟩;cases e;refine qq0 λqq2=>?_;obtain⟨o,n,e,c,g,_⟩:=l;refine qq2 ?_;exact⟨o,e,g⟩
  ·refine⟨⟨o,I.kIn p o d,u⟩,λa e=>?_⟩;cases e;exact⟨o,I.kIn _ o d,g⟩
  ·have z:∃o,s.heap.get? p=γ o/\o.ExactDict:=by
    rcases d with⟨h,d⟩|⟨h,d⟩
    ·refine qq0 λqq2=>?_;obtain⟨_,_,_,_,o,_,_,e,f,_⟩:=I.hok p _ d;refine qq2 ?_;exact⟨o,e,f⟩
    ·refine qq0 λqq2=>?_;obtain⟨_,_,_,_,o,_,_,e,f,_⟩:=I.hok p _ d;refine qq2 ?_;exact⟨o,e,f⟩
   obtain⟨o,e,f⟩:=z;refine⟨⟨o,e,f.1⟩,λa j=>?_⟩;cases j;exact⟨o,e,f.2.1⟩
  ·refine qq0 λqq2=>?_;obtain⟨o,_,_,_,e,f,_⟩:=I.hok p _ d;refine qq2 ?_;refine⟨⟨o,e,f.1⟩,λa j=>?_⟩;cases j;exact⟨o,e,f.2.1⟩
 |_=>exact ew ty
def tBM(K:ς)(T:String)(r:V->ε V->Hp->VK->Prop)(e:TE)(t:TA):TE:=λc H Q=>e c H λx d=>tyV K T x d/\t c d λf g=>r x f g Q
variable{o e:Expr}{es:ε Expr}{to:TE}{t:TA}{name:bf}{apos cpos:Pos}{T id:String}{r:V->ε V->Hp->VK->Prop}
theorem qE(n:PlainAttrs T)(slot:Slot T name id)(i:typeOf (.builtin id)=pure (.type "method_descriptor"))(p:MtR X id r)(q:PE X o to)(u:PA X (e::es) t)
  (d:attributeBase o name X.env (eval o X.env)=eval o X.env:=by rfl)
  (g:((backTo cpos (starEach (e::es) X.env)).all (λx=>!x.1) && (backToKw cpos (keywordEach [] X.env)).all (λx=>x.1.isSome)
   && decide ((e::es).length+([]:ε Keyword).length+(if ([]:ε Keyword).isEmpty then 0 else 1)<30))=true:=by rfl)
  (f:(apos.endLine==cpos.line)=true:=by rfl) (w:starEach (e::es) X.env=(false,eval e X.env)::starEach es X.env:=by rfl) (c:(backTo cpos<|starEach es X.env).any (·.1)=false:=by rfl):
  PE X (.Call (.Attribute o name apos) (e::es) [] cpos) (tBM X.K T r to t):=by
 intro pins s j H Q I h;refine wpAny_Call_method_late d g f rfl<|eP (q pins s j H _ I h) λv y ⟨x,z,k,l,ty,A⟩=>?_;obtain⟨B,C⟩:=aKv k l ty;refine⟨T,id,n,slot,i,B,C,?_⟩;have m:=u cpos pins y j z _ k A;rw[w]at m⊢;refine Calls.callWith_builtin (by show(false||(backTo cpos<|starEach es X.env).any (·.1))=false;rw[c] <;>rfl)<|sk ?_;exact eP m λD E ⟨F,G,J,K,L⟩=>p pins E j G x F v D Q J l K L
end
def MtM(X:Cx)(id:String)(r:V->ε V->Hp->VK->Prop):Prop:=
 ∀(pins:ε<|Ζ×Obj)(s:aj)(a:St)(H:Hp)(x:V)(b:ε V)(v:Γ)(c:ε Γ)(Q:VK),Inv X pins a H s->RelV x v->Vals b c->r x b H Q ->
  ar (model X.prog X.w) X.A (call (.builtin id)<|v::c) (EP X pins a Q) X.xe s
theorem Vals.one:∀{x:V}{a:ε Γ},Vals [x] a->∃u,a=[u]/\RelV x u
 |_,_,.cons r .nil=>⟨_,rfl,r⟩
theorem Vals.reverse(h:Vals a b):Vals a.reverse b.reverse:=by
 induction h with
 |nil=>exact .nil
 |cons r t c=>rw[iq,iq];exact Vals.append c<|.cons r .nil
theorem Vals.rep(h:Vals a b):∀k:π,Vals (bp k a).flatten (bp k b).flatten
 |0=>.nil
 |k+1=>by
  rw[iy,iy,mj,mj];exact Vals.append h<|Vals.rep h k
theorem Ag(a:ε Γ):∀(k:π)(b:ε Γ),
  foldl (λc d=>c++d) b.toArray (bp k a.toArray)=(b++(bp k a).flatten).toArray
 |0,b=>by simp
 |k+1,b=>by
  have e:b.toArray++a.toArray=(b++a).toArray:=by simp
  have f:(b++a)++(bp k a).flatten=b++(bp (k+1) a).flatten:=by
   rw[iy,mj,bx]
  rw[<-f,<-Ag a k (b++a),<-e,iy,xu]
theorem Inv.lset{a its':ε Γ}(I:Inv X o p H s)(d:H l=γ (.lst xs))
  (e:s.heap.get? l=γ {cls:=.type "list",data:=.seq a.toArray n}) (g:f a.toArray=its'.toArray) (h:Vals ys its') (i:ys.length<=sizeLine):
  Inv X o p (fA H l<|.lst ys) {s with heap:=s.heap.update l<|Obj.mapSeq f,toks:=c}:=by
 have q:=BK e f;rw[g]at q;refine I.write (x:=l) (e:=l) (by rw[d];exact trivial) (.inl rfl) (λm u j k=>(mh s.heap (Obj.mapSeq f)<|Ne.symm j).trans k) ⟨_,q⟩ ?_;exact⟨i,its',_,h,q⟩
theorem Inv.lnew(I:Inv X e f H s)(c:Vals ys a)(d:ys.length<=sizeLine):
  Inv X e f (fA H s.heap.objs.size<|.lst ys) {s with heap:=s.heap.push {cls:=.type "list",data:=.seq a.toArray},toks:=t'}:=
 I.laid (λ_ _ q=>Ξ _ q) (ω _) ⟨d,a,0,c,aw _ rfl⟩
theorem Inv.fresh(I:Inv X a c H s):H s.heap.objs.size=ν:=I.hok.fresh<|ω _
theorem Inv.lstM(I:Inv X d f H s)(c:H l=γ (.lst xs)):xs.length<=sizeLine/\∃(a:ε Γ)(n:π),Vals xs a/\xs.length=a.length/\s.heap.get? l=γ {cls:=.type "list",data:=.seq a.toArray n}:=by
 refine qq0 λqq2=>?_;obtain⟨z,a,n,r,e⟩:=I.hok l _ c;refine qq2 ?_;exact⟨z,a,n,r,r.length,e⟩
theorem Yt(h:n<=sizeLine):Builtin.List.listTooLong n=false:=by
 unfold Builtin.List.listTooLong;exact aA ‹25›
def Ph:V->ε V->Hp->VK->Prop:=λx b H Q=>∃l a y,x= .ref l/\b=[y]/\H l=γ (.lst a)/\a.length<sizeLine/\Q .non (fA H l<|.lst<|a++[y])
theorem zT:MtM X "list.append" Ph:=by
 intro pins s g H x i v j Q I c d h;refine qq0 λqq2=>?_;obtain⟨l,k,y,rfl,rfl,b,m,q⟩:=h;refine qq2 ?_;cases c;refine qq0 λqq2=>?_;obtain⟨u,rfl,f⟩:=d.one;obtain⟨z,a,n,r,o,e⟩:=I.lstM b;refine qq2 ?_;refine ki u1 ⟨_,e,rfl⟩ F.entry_list_append (F.args_list_append_2 _ _) (PySem.list_append l a.toArray n u (by rw[bt];lia)) ⟨e,?_⟩;refine⟨.non,_,I.lset (its':=a++[u]) b e (by simp) (r.append<|.cons f .nil) ?_,rfl,q⟩;rw[Λ,k9];exact 50
def aRt:R2:=λx y H Q=>∃l b a c,x= .ref l/\y= .ref b/\H l=γ (.lst a)/\H b=γ (.lst c)/\a.length+c.length<=sizeLine/\∀p,H p=ν->Q (.ref p) (fA H p<|.lst<|a++c)
theorem Ym:lM X (binaryOp .Add) aRt:=by
 intro pins s p H x y v u Q I d f h;refine qq0 λqq2=>?_;obtain⟨l,b,t,w,rfl,rfl,g,i,A,q⟩:=h;refine qq2 ?_;cases d;cases f;refine qq0 λqq2=>?_;obtain⟨z,c,n,r,B,e⟩:=I.lstM g;obtain⟨C,a,D,j,k,m⟩:=I.lstM i;refine qq2 ?_;refine BL e m ?_ (by rw[bt,bt];lia);have o:c.toArray++a.toArray=(c++a).toArray:=by simp
 rw[o];exact⟨.ref _,_,I.lnew (t':=s.toks) (r.append j) (by rw[Λ];assumption),rfl,q _ I.fresh⟩
def aRp:R2:=λx y H Q=>∃l k a,x= .ref l/\y= .int k/\H l=γ (.lst a)/\-(2^63)<=k/\k<2^63/\a.length*k.toNat<=sizeLine/\
 ∀p,H p=ν->Q (.ref p) (fA H p<|.lst (bp k.toNat a).flatten)
theorem aFp{b:Type}(a:ε b)(k:π):(bp k a).flatten.length=k*a.length:=by
 induction k with
 |zero=>simp
 |succ k c=>rw[iy,mj,Λ,c,mm,qg]
theorem aMl:lM X (binaryOp .Mult) aRp:=by
 intro pins s J H x y v u Q I p w h;refine qq0 λqq2=>?_;obtain⟨l,k,K,rfl,rfl,A,B,C,o,q⟩:=h;refine qq2 ?_;cases p;refine qq0 λqq2=>?_;obtain⟨t,rfl⟩:=w;obtain⟨z,b,n,r,D,e⟩:=I.lstM A;refine qq2 ?_;have hlen:b.toArray.size*k.toNat<=sizeLine:=by rw[bt,<-D];exact o
 have d:¬b.toArray.size*k.toNat>(2^63-1)/8:=by
  have:(sizeLine:π)<=(2^63-1)/8:=by decide
  lia
 have f:¬(!Builtin.List.listFitsIndex k)=true:=by
  rw[fitsIndex_both B C];exact bg
 have c:¬Builtin.List.listTooLong (b.toArray.size*k.toNat)=true:=by
  rw[Yt hlen];exact bg
 have g:foldl (λi j=>i++j) #[] (bp (if b.toArray.isEmpty=true then 0 else k.toNat) b.toArray)=(bp k.toNat b).flatten.toArray:=by
  have E:∀m:π,foldl (λi j=>i++j) #[] (bp m b.toArray)=(bp m b).flatten.toArray:=λm=>by
   have:=Ag b m [];rw[ij]at this;exact this
  rw[E];cases b with
  |nil=>simp
  |cons a L=>rw[ι<|by simp]
 refine wpAny_binaryOp_repeat_ref (T:="list") (U:="int") (by decide) ⟨_,e,rfl⟩ (λG=>yq G k t) noFill_list_mul F.fills_int_mul xw repeat_list F.slot_int_index.lookup
  (ki xw (yq s k t) F.entry_int_rmul (F.args_int_rmul_2 _ _) (int___rmul___int_list k t l b.toArray n)
   ⟨e,rfl,⟨_,e,rfl⟩,ki F.slot_list_mul ⟨_,e,rfl⟩ F.entry_list_mul (F.args_list_mul_2 _ _) (vf l b.toArray n k t f d c) ⟨e,?_⟩⟩)
 rw[g];exact⟨.ref _,_,I.lnew (t':=s.toks) (r.rep k.toNat) (by rw[aFp,fm];exact o),rfl,q _ I.fresh⟩
end L2
namespace Att
variable{K:ς}
open PySem PySem.W PySem.Calls PyProof.Rows
theorem tK:∀(c:ε χ)(d:ε Γ),WellAll P h d (c.map WData.int)->IntsAre d c:=by
 intro c
 induction c with
 |nil=>
  intro d w;rw[pd]at w;cases w;exact .nil
 |cons n c e=>
  intro d w;rw[Μ]at w;cases w with
  |cons a b=>
   cases a;exact .cons _ _<|e _ b
theorem Sn{l:OpenLaw}(m:l.most=γ n)
  (c:l.row.toRowW.claim.pre args=true) (g:WellAll P h vals args):
  ∃a j b,vals=[cb a]/\args=[WData.list<|b.map WData.int]/\h.get? a=γ {cls:=.type "list",data:=.seq j.toArray}/\IntsAre j b/\b.length<=n:=by
 have i:WShape.hasAll [] args [.list .int]=true:=(pre_splitW c).1;have k:l.pre.holds [] {args:=args}=true:=(pre_splitW c).2;refine qq0 λqq2=>?_;obtain⟨d,r,rfl,o,p⟩:=hasAllW_cons i;obtain rfl:=hasAllW_nil p;obtain⟨x,rfl,s⟩:=hasW_list o;obtain⟨b,rfl⟩:=items_int s;refine qq2 ?_;have hlen:b.length<=n:=by
  unfold OpenLaw.pre at k;have e:(WTm.not<|.lt (.lit<|.int (n:χ))<|.len<|.arg 0).holds [] {args:=[.list<|b.map .int]}=true:=by
   have e:=(holds_andW k).1;rw[m]at e;exact e
  have f:=condW_of e<|w_not<|w_lt w_lit<|w_len_list<|w_arg rfl;rw[η]at f;refine Nat.le_of_not_lt λq=>?_;have t:(n:χ)<((b.length:π):χ):=‹19›
  first
   |(rw[cD t]at f;exact ψ f<|by decide)
   |(simp at f;lia)
 cases g with
 |cons u v=>
  cases v;cases u with
  |list w hall=>exact⟨_,_,b,rfl,rfl,w,tK b _ hall,hlen⟩
theorem Sw(l:OpenLaw)(args:ε WData):l.row.toRowW.claim.post args (.bool true) args=true:=
 postW_of (r:=l.row.toRowW) (X:=(true==true))
  (show WShape.has [] (.bool true) .bool=true by first|rfl|decide |simp[WShape.has,WShape.arms,WShape.armsAll])
  (show(WTm.eq .res<|.lit<|.bool true).value [] {args:=args,res:=γ<|.bool true,after:=args}=γ (.bool<|true==true)from w_eq_bool (w_res rfl) w_lit) rfl
def ledger(h:gy)(L d:Ζ):ε (Ζ×Obj):=(range h.objs.size).filterMap λa=>if a=L\/a=d then ν else(h.get? a).map λo=>(a,o)
end Att
namespace L2
variable{K:ς}
open PySem PySem.Spec PyProof.Rows
theorem yS:∀{a:ε Γ}{b:ε χ},IntsAre a b->Vals (b.map V.int) a
 |_,_,.nil=>.nil
 |_,_,.cons n t h=>.cons ⟨t,rfl⟩<|yS h
def aPp(H:Hp):Prop:=∀b,H b=ν\/∃o a,H b=γ (.frz o<|.lst a)
theorem Zp{K:ς}
  (KX:K.In c.heap) (A:c.heap.Ns mainGlobals t) (g:c.heap.Ns builtinsNs N) (R:∀x:bf,x≠"__name__"->N x=bootBuiltins x) (B:c.heap.NoLimit) (hg:c.gens=#[])
  (M:c.heap.get? a=γ {cls:=.type "list",data:=.seq l.toArray}) (hi:IntsAre l y) (hl:y.length<=sizeLine) (hr:Room k callerA)
  (F:∀base:gy,K.In base->base.Ns mainGlobals t->FnOk P w K t base Z k O fd [x] sp) (p:∀(s:aj)(u:Γ),BindsTo s fd ⟨[u],[]⟩ [(x,u)])
  (S:∀H:Hp,aPp H->SqL K H a (y.map V.int)->sp [.ref a] H (λv _=>v= .bl true) λ_ _ _=>ag)
  (T:∀H e i,Z [] H c (λ_ _ _=>ag) e i->ag):
  codeAny (model P w) callerA (.call (.ref O) ⟨[.ref a],[]⟩) (λr i=>r= .ok (.ret<|.bool true)/\OldK c.heap i.heap/\i.os=c.os/\AllBare i.gens) c:=by
 have rv:=yS hi;have C:=hi.length;have core:∀H:Hp,aPp H->SqL K H a (y.map V.int)->HOk P w H c.heap->(∀b,H b≠ν->b=a)->(H a≠ν->K.lookup a=ν) ->
   codeAny (model P w) callerA (.call (.ref O) ⟨[.ref a],[]⟩) (λr i=>r= .ok (.ret<|.bool true)/\OldK c.heap i.heap/\i.os=c.os/\AllBare i.gens) c:=by
  intro H hO hS D hA hK;have f:∀{b:Ζ}{o:Obj},c.heap.get? b=γ o->H b=ν->(Dt c.heap H).get? b=γ o:=λe n=>Zw e n;have U:∀{b:Ζ}{o:Obj}{E:Array DictEntry}{G:π},c.heap.get? b=γ o->o.data= .dict E G->H b=ν:=λ{b o E G} e d=>by
   cases q:H b with
   |none=>rfl
   |some u=>
    have X:b=a:=hA b (by rw[q];simp);subst X;rw[M]at e;cases e;have d':Data.seq l.toArray _=Data.dict E G:=d;cases d'
  have j:∀{b:Ζ}{m:bf->Θ Γ},c.heap.Ns b m->(Dt c.heap H).Ns b m:=λ{b m} ⟨o,E,G,e,d,r⟩=>⟨o,E,G,f e<|U e d,d,r⟩
  have I:K.In (Dt c.heap H):=λb o e=>f (KX b o e) (by
   cases q:H b with
   |none=>rfl
   |some u=>
    have X:b=a:=hA b (by rw[q];simp)
    subst X
    rw[hK (by rw[q];simp)]at e;cases e)
  have hM:Mod K t (Dt c.heap H):=⟨I,j A,⟨N,j g,R⟩,let⟨mc,h1,h2⟩:=B;⟨mc,j h1,h2⟩⟩;have e0:Env0 P w K t (Dt c.heap H) callerA [] c H:=⟨rfl,hM,λb o e=>aEz e,zj<|Uj _ _,trivial,λb g=>ψ (show b∈([]:ε Ζ)from g)<|by simp,D,.of_eq hg⟩;refine rb ((F _ I<|j A).run callerA [] c H ⟨[.ref a],[]⟩ [.ref a] [.ref a] _ _ hr e0 (p c<|.ref a) (.cons rfl .nil)<|S H hO hS) λr i h=>?_;cases r with
  |error e=>exact(T H e i h).elim
  |ok fl=>
   cases fl with
   |next=>exact ew h
   |brk=>exact ew h
   |cont=>exact ew h
   |ret u=>
    refine qq0 λqq2=>?_;obtain⟨v,H',os,bare,un,J,r',q⟩:=h;refine qq2 ?_;have q':v= .bl true:=q;subst q';obtain rfl:u=Value.bool true:=r';refine⟨rfl,OldK.of_keep λb o e=>?_,os,bare⟩;cases q:H b with
    |none=>exact un.keep b o e q (by intro z;exact ψ (show b∈([]:ε Ζ)from z)<|by simp) (by simp)
    |some u=>
     rcases hO b with z|⟨ob,xs,z⟩
     ·rw[q]at z;cases z
     ·have z2:=un.frzs b ob _ z;obtain⟨e1,_⟩:=D b _ z;obtain⟨e2,_⟩:=J b _ z2;rw[e]at e1;cases e1;exact e2
 cases Y:K.lookup a with
 |some o=>
  have e:=KX a o Y;rw[M]at e;cases e;refine core (λ_=>ν) (λ_=>.inl rfl) (.inr ⟨_,l.toArray,_,Y,rfl,rfl,rfl,by rw[bt,C];exact hl,by simpa using rv⟩) (λb u z=>by have L:(ν:Θ HO)=γ u:=z;cases L) (λb z=>ψ rfl z) λz=>ψ rfl z
 |none=>
  refine core (λb=>if b=a then γ (.frz {cls:=.type "list",data:=.seq l.toArray}<|.lst<|y.map V.int)else ν) (λb=>?_) (.inl<|.inr ⟨{cls:=.type "list",data:=.seq l.toArray},ρ rfl⟩) (λb u z=>?_) (λb z=>?_) λ_=>Y
  ·by_cases g:b=a
   ·exact .inr ⟨_,_,ρ g⟩
   ·exact .inl<|ι g
  ·by_cases g:b=a
   ·have L:=(ρ g).symm.trans z;cases L;subst g;exact⟨M,by rw[η];exact hl,l,_,rv,M⟩
   ·have L:=(ι g).symm.trans z;cases L
  ·by_cases g:b=a
   ·exact g
   ·exact ψ (ι g) z
abbrev KOf{K:ς}{h:gy}(_:K.In h):ς:=K
def uC(s:Stmt)(j:π):Stmt:=match s with
 | .ClassDef _ _ _ body _ _ _ _ _ _ _=>body.getD j<|.Pass ⟨0,0,0,0⟩
 |_=>.Pass ⟨0,0,0,0⟩
def jX(s:Stmt):Arguments:=match s with
 | .FunctionDef _ a _ _ _ _ _ _ _ _=>a
 |_=>{posonlyargs:=[],args:=[],vararg:=ν,kwonlyargs:=[],kw_defaults:=[],kwarg:=ν,defaults:=[]}
def fF(s:Stmt):ε Stmt:=match s with
 | .FunctionDef _ _ b _ _ _ _ _ _ _=>b
 |_=>[]
def bK(s:Stmt):Scope:=match s with
 | .FunctionDef _ _ _ _ _ _ a _ _ _=>a
 |_=>{kind:=.function,names:=[],isGenerator:=false,isCoroutine:=false}
abbrev CX0:Nw:=λ_ _ _ _ _ _=>ag
abbrev E0:XK:=λ_ _ _=>ag
structure Fun(K:ς)(x qual:bf)(st:Stmt)(f:Ζ)(fd:FuncData):Prop where
 ex:∃(oc:Γ)(od:Θ Ζ)(kV doc pm:Γ)(an:Θ Ζ)(cdv ct:Γ)(osl:Array<|Θ Γ),
  fd=W.fnOf x qual (jX st) (fF st) (bK st) .none kV doc pm an cdv ct/\K.lookup f=γ ⟨oc,od,.func fd,osl⟩/\W.codeIn K cdv qual=true
 kp:W.keepIn K (.ref f)=true
theorem Fun.binds{st:Stmt}(F:Fun K x qual st f j)
  (h:∀(kV a d:Γ)(e:Θ Ζ)(b g:Γ)(i:ε Γ),i.length=c.length->bindArgs (W.fnOf x qual (jX st) (fF st) (bK st) .none kV a d e b g) ⟨i,[]⟩=pure (c.zip i)):Binds K j c []:=by
 refine qq0 λqq2=>?_;obtain⟨m,n,kV,a,d,e,b,g,k,rfl,o,l⟩:=F.ex;refine qq2 ?_;exact .all<|h kV a d e b g
theorem fun_mk{st:Stmt}{kV b g a h:Γ}(l:K.lookup f=γ ⟨i,j,.func<|W.fnOf x qual (jX st) (fF st) (bK st) .none kV b g e a h,d⟩)
  (c:W.codeIn K a qual=true) (k:W.keepIn K (.ref f)=true):Fun K x qual st f (W.fnOf x qual (jX st) (fF st) (bK st) .none kV b g e a h):=⟨⟨i,j,kV,b,g,e,a,h,d,rfl,l,c⟩,k⟩
theorem bX(h:n<=1000):n<sizeLine:=eH h (by decide)
theorem pv(i:π)(c:X.N[i]? =γ x:=by rfl)(d:Vis X.env.scope x:=by first|exact Or.inl rfl|exact Or.inr (Or.inl rfl)|exact Or.inr (Or.inr rfl))(e:(x==("__debug__":bf))=false:=by decide)
  (b:(x==("__classdict__":bf))=false:=by decide):PE X (.Name x a) (iI i):=aMf c d e b
theorem Zt{A B:Prop}(h:B):if false=true then A else B:=by
 rw[ι bg];exact h
theorem aNp{A B:Prop}(h:A):if true=true then A else B:=by
 rw[ρ rfl];exact h
theorem bW{c A B:Prop}[Decidable c](a:c->A)(b:¬c->B):if c then A else B:=by
 by_cases h:c
 ·rw[ρ h];exact a h
 ·rw[ι h];exact b h
def Same(H a:Hp):Prop:=∀b o,H b=γ o->a b=γ o
theorem Same.refl(H:Hp):Same H H:=λ_ _ h=>h
theorem Same.trans(a:Same H d)(b:Same d e):Same H e:=λc o h=>b c o<|a c o h
theorem Same.free(e:Same H a)(h:a l=Option.none):H l=Option.none:=by
 cases q:H l with
 |none=>rfl
 |some o=>
  rw[e l o q]at h;cases h
theorem Same.seq{K:ς}(e:Same H b)(h:SqL K H a c):SqL K b a c:=by
 rcases h with(h|⟨o,h⟩)|h
 ·exact .inl<|.inl<|e _ _ h
 ·exact .inl<|.inr ⟨o,e _ _ h⟩
 ·exact .inr h
section
variable{κ:Type}[DecidableEq κ]
def pE(a:ε<|κ×V)(k:κ):Θ V:=(a.find? λb=>decide (b.1=k)).map (·.2)
def vG(a:ε<|κ×V)(k:κ)(v:V):ε (κ×V):=
 if (a.any λb=>decide (b.1=k))=true then a.map (λb=>if b.1=k then(b.1,v)else b)else a++[(k,v)]
def aIp(a:ε<|κ×V)(k:κ):ε (κ×V):=a.filter λb=>decide (b.1≠k)
theorem pD{p:κ×V}{r:ε<|κ×V}{k:κ}(e:p.1=k):pE (p::r) k=γ p.2:=by simp[pE,oj,e]
theorem lW{p:κ×V}{r:ε<|κ×V}{k:κ}(e:¬p.1=k):pE (p::r) k=pE r k:=by simp[pE,oj,e]
theorem Fe(k:κ):∀a:ε<|κ×V,(a.any λb=>decide (b.1=k))=(pE a k).isSome
 |[]=>rfl
 |p::r=>by
  rw[yr];by_cases e:p.1=k
  ·simp only[pD e,cD e,Bool.true_or,Option.isSome_some]
  ·rw[lW e,aA e,Bool.false_or];exact Fe k r
theorem sT(a:ε<|κ×V)(k:κ)(v:V):(vG a k v).length<=a.length+1:=by
 unfold vG;split
 ·rw[η];exact 48
 ·rw[Λ,Ε,u2];exact 48
theorem RelO.isSome_eq(r:RelO o u):o.isSome=u.isSome:=by
 cases o with
 |none=>cases u with
  |none=>rfl
  |some _=>exact(show ag from r).elim
 |some _=>cases u with
  |none=>exact(show ag from r).elim
  |some _=>rfl
theorem KV.val{a:ε<|κ×V}{f:ε<|κ×Γ}(r:KV a f)(k:κ):RelO (pE a k) (valueAt f k):=by
 unfold KV at r
 induction r with
 |nil=>exact True.intro
 |@cons p q l c h t i=>
  obtain⟨g,j⟩:=h;by_cases e:p.1=k
  ·have d:q.1=k:=g.symm.trans e;have b:valueAt (q::c) k=γ q.2:=by simp[valueAt,oj,d]
   rw[pD e,b];exact j
  ·have d:¬q.1=k:=λz=>e<|g.trans z;have b:valueAt (q::c) k=valueAt c k:=by simp[valueAt,oj,d]
   rw[lW e,b];exact i
theorem KV.any{a:ε<|κ×V}{c:ε<|κ×Γ}(r:KV a c)(k:κ):(a.any λb=>decide (b.1=k))=c.any λb=>decide (b.1=k):=by
 unfold KV at r
 induction r with
 |nil=>rfl
 |cons h t d=>rw[yr,yr,d,h.1]
theorem KV.repl{b:ε<|κ×V}{d:ε<|κ×Γ}(r:KV b d)(k:κ){y:V}{u:Γ}(f:RelV y u):
  KV (b.map λa=>if a.1=k then(a.1,y)else a) (d.map λa=>if a.1=k then(a.1,u)else a):=by
 unfold KV at r⊢
 induction r with
 |nil=>exact .nil
 |@cons p q j l h t g=>
  rw[Μ,Μ];refine .cons ?_ g;obtain⟨c,i⟩:=h;by_cases e:p.1=k
  ·rw[ρ e,ρ<|c.symm.trans e];exact⟨c,f⟩
  ·rw[ι e,ι λz=>e<|c.trans z];exact⟨c,i⟩
theorem KV.put{a:ε<|κ×V}{b:ε<|κ×Γ}(r:KV a b)(k:κ){y:V}{u:Γ}(c:RelV y u):KV (vG a k y) (stored b k u):=by
 unfold vG stored;rw[r.any k];by_cases e:(b.any λd=>decide (d.1=k))=true
 ·rw[ρ e,ρ e];exact r.repl k c
 ·rw[ι e,ι e];exact AK r ⟨rfl,c⟩
theorem KV.drop{c:ε<|κ×V}{f:ε<|κ×Γ}(r:KV c f)(k:κ):KV (aIp c k) (without f k):=by
 unfold KV at r⊢;unfold aIp without
 induction r with
 |nil=>exact .nil
 |@cons p q l m h t g=>
  obtain⟨d,i⟩:=h;rw[wy,wy];by_cases e:p.1=k
  ·have a:¬decide (p.1≠k)=true:=by simp[e]
   have b:¬decide (q.1≠k)=true:=by simp[d.symm.trans e]
   rw[ι a,ι b];exact g
  ·have j:¬q.1=k:=λz=>e<|d.trans z;have a:decide (p.1≠k)=true:=by simp[e]
   have b:decide (q.1≠k)=true:=by simp[j]
   rw[ρ a,ρ b];exact .cons ⟨d,i⟩ g
theorem KV.length{a:ε<|κ×V}{b:ε<|κ×Γ}(r:KV a b):a.length=b.length:=ui r
end
theorem Qi(r:RelV (kV k) u):(fP P w).is k u=true:=by
 cases k with
 |inl i=>obtain⟨t,e⟩:=(show ∃t,u=qc i t from r);subst e;exact Im P w i t
 |inr x=>obtain⟨t,e⟩:=(show ∃t,u=Value.str x t from r);subst e;exact Il P w x t
theorem zZ:∀{a:ε gY}{b:ε Γ},Vals (a.map kV) b->ItemsAre (fP P w) a b
 |[],_,r=>by rw[pd]at r;cases r;exact .nil
 |k::a,_,r=>by
  rw[Μ]at r;cases r with
  |cons h t=>exact .cons (Qi h)<|zZ t
abbrev KT(H:Hp):ε (ε gY×V)->ε (ε gY×Ζ×Γ)->Prop:=Paired λp q=>p.1=q.1/\H q.2.1=γ (.tup<|p.1.map kV)/\RelV p.2 q.2.2
theorem KT.val(r:KT H a f)(k:ε gY):RelO (pE a k) ((atKey f k).map (·.2)):=by
 induction r with
 |nil=>exact True.intro
 |@cons p q l c h t i=>
  obtain⟨g,_,j⟩:=h;by_cases e:p.1=k
  ·have d:q.1=k:=g.symm.trans e;have b:atKey (q::c) k=γ q.2:=by simp[atKey,oj,d]
   rw[pD e,b];exact j
  ·have d:¬q.1=k:=λz=>e<|g.trans z;have b:atKey (q::c) k=atKey c k:=by simp[atKey,oj,d]
   rw[lW e,b];exact i
theorem KT.repl(r:KT H a d)(k:ε gY)(g:RelV y u):
  KT H (a.map λc=>if c.1=k then(c.1,y)else c) (d.map<|putAt k u):=by
 induction r with
 |nil=>exact .nil
 |@cons p q l m h t i=>
  rw[Μ,Μ];refine .cons ?_ i;refine qq0 λqq2=>?_;obtain⟨b,f,j⟩:=h;refine qq2 ?_;clear qq2;unfold putAt;by_cases e:p.1=k
  ·rw[ρ e,ρ<|b.symm.trans e];exact⟨b,f,g⟩
  ·rw[ι e,ι λz=>e<|b.trans z];exact⟨b,f,j⟩
theorem KT.put(r:KT H a c)(k:ε gY)(f:H b=γ (.tup<|k.map kV))(d:RelV y u):
  KT H (vG a k y) (storedH c k b u):=by
 have e:(a.any λg=>decide (g.1=k))=(atKey c k).isSome:=by
  rw[Fe,(r.val k).isSome_eq,yt]
 unfold vG storedH;rw[e];by_cases q:(atKey c k).isSome=true
 ·rw[ρ q,ρ q];exact r.repl k d
 ·rw[ι q,ι q];exact AK r ⟨rfl,f,d⟩
theorem KT.keeps(r:KT H a d)(f:∀b e,H b=γ (.tup e)->c b=γ (.tup e)):KT c a d:=
 Paired.mapP r λ_ _ z=>⟨z.1,f _ _ z.2.1,z.2.2⟩
theorem aHz(ok:HOk P w H h)(e:Rd H a u):ObjOk P w H h a u:=e.ok ok
theorem Qy(ok:HOk P w H h)(e:Rd H a<|.dK b):b.length<=sizeLine/\(a==sysModules)=false/\∃c,KV b c/\h.DictOf (fP P w) a c:=
 show ObjOk P w H h a (.dK b)from aHz ok e
theorem aTi(ok:HOk P w H h)(e:H a=γ (.dK b)):b.length<=sizeLine/\(a==sysModules)=false/\∃c,KV b c/\h.DictOf (fP P w) a c:=Qy ok<|.inl e
theorem Dn(ok:HOk P w H h)(e:H a=γ (.tup<|b.map kV)):(tupleKind<|fP P w).is h b a:=by
 refine qq0 λqq2=>?_;obtain⟨_,c,r,o,d,f,n,g⟩:=(show ObjOk P w H h a (.tup<|b.map kV)from ok a _ e);refine qq2 ?_;exact⟨o,c.toArray,n,d,f,g,by simpa using zZ r⟩
theorem Qw(ok:HOk P w H h)(e:Rd H a<|.dT b):b.length<=sizeLine/\(a==sysModules)=false/\
  ∃d,KT H b d/\h.DictOfH (tupleKind<|fP P w) a d:=by
 refine qq0 λqq2=>?_;obtain⟨z,y,d,r,o,i,j,k,n,s,u,v⟩:=(show ObjOk P w H h a (.dT b)from aHz ok e);refine qq2 ?_;clear qq2;refine⟨z,y,d,r,o,i,j,k,n,s,u,λx c=>?_,v⟩;have f:∀{l:ε<|ε gY×V}{m:ε<|ε gY×Ζ×Γ},KT H l m->∀x∈m,(tupleKind<|fP P w).is h x.1 x.2.1:=by
  intro l m q
  induction q with
  |nil=>intro x c;exact nomatch c
  |@cons p q B C g t A=>
   intro x c;rcases Υ.mp c with e|c
   ·subst e;exact Dn ok (by rw[<-g.1];exact g.2.1)
   ·exact A x c
 exact f r x c
theorem aTg(ok:HOk P w H h)(e:H a=γ (.dT b)):b.length<=sizeLine/\(a==sysModules)=false/\
  ∃c,KT H b c/\h.DictOfH (tupleKind<|fP P w) a c:=Qw ok<|.inl e
def DGet(H:Hp)(a:Ζ)(y:V)(r:Θ V):Prop:=
 (∃c k,Rd H a (.dK c)/\y=kV k/\r=pE c k)\/∃c k b,Rd H a (.dT c)/\y= .ref b/\H b=γ (.tup<|k.map kV)/\r=pE c k
def DPut(H:Hp)(a:Ζ)(y v:V)(d:Hp):Prop:=
 (∃c k,H a=γ (.dK c)/\y=kV k/\c.length<sizeLine/\d=fA H a (.dK<|vG c k v)) \/
 ∃c k b,H a=γ (.dT c)/\y= .ref b/\H b=γ (.tup<|k.map kV)/\c.length<sizeLine/\d=fA H a (.dT<|vG c k v)
theorem DGet.k{k:gY}(e:H a=γ (.dK b)):DGet H a (kV k) (pE b k):=.inl ⟨b,k,.inl e,rfl,rfl⟩
theorem DPut.k{k:gY}(e:H a=γ (.dK b))(c:b.length<sizeLine):DPut H a (kV k) v (fA H a<|.dK<|vG b k v):=.inl ⟨b,k,e,rfl,c,rfl⟩
theorem Inv.big(I:Inv X b c H s):sysModules<s.heap.objs.size:=by
 have h:mainGlobals<s.heap.objs.size:=(I.mod.glob.keeps I.bk).lt;exact m9 (by decide) h
theorem Us(w:A.units+1<cLine)(I:Inv X G J H s)(g:DGet H a y<|some v)(q:RelV y u)(h:∀f t,Inv X G J H t->RelV v f->Q f t):
  ar (model X.prog X.w) A (getItem (.ref a) u) Q E s:=by
 rcases g with⟨i,k,e,j,l⟩|⟨i,k,b,e,j,x,l⟩
 ·subst j;refine qq0 λqq2=>?_;obtain⟨z,B,C,c,m⟩:=Qy I.hok e;obtain⟨f,hw,d⟩:=RelO.some_of (v:=v) (o:=valueAt C k) (by rw[l];exact c.val k);refine qq2 ?_;exact wz (Qi q) m.mapOf hw<|h f _ (I.tok _) d
 ·subst j;cases (show u=cb b from q);refine qq0 λqq2=>?_;obtain⟨z,B,D,c,m⟩:=Qw I.hok e;obtain⟨f,hw,d⟩:=RelO.some_of (v:=v) (o:=(atKey D k).map (·.2)) (by rw[l];exact c.val k);obtain⟨p,F,n⟩:=rg.mp hw;refine qq2 ?_;refine wpAny_getItem_heap (om w) (Dn I.hok x) m F ?_;rw[n];exact h f _ (I.tok _) d
theorem aGo(p:A.units+1<cLine)(I:Inv X B C H s)(g:DGet H a y o)(m:RelV y u)(h:∀n,Inv X B C H n->Q (.bool<|!o.isSome) n):
  ar (model X.prog X.w) A (compareOp .NotIn u<|.ref a) Q E s:=by
 rcases g with⟨d,k,e,f,l⟩|⟨d,k,b,e,f,t,l⟩
 ·subst f;obtain⟨z,i,w,c,j⟩:=Qy I.hok e;refine yu (Qi m) i j.mapOf ?_;rw[<-(c.val k).isSome_eq,<-l];exact h _<|I.tok _
 ·subst f;cases (show u=cb b from m);refine qq0 λqq2=>?_;obtain⟨z,i,x,c,j⟩:=Qw I.hok e;refine qq2 ?_;refine wpAny_notIn_heap (om p) (Dn I.hok t) i j ?_;have q:=(c.val k).isSome_eq;rw[yt]at q;rw[<-q,<-l];exact h _<|I.tok _
theorem Rc(I:Inv X l m H s)(h:Mut<|H a)(i:SameBut a s.heap c)(j:∃q,c.get? a=γ q)(f:ObjOk X.prog X.w (fA H a d) c a d):
  Inv X l m (fA H a d) {s with heap:=c,toks:=g}:=
 I.write (x:=a) (e:=a) h (.inl rfl) (λb q k z=>(i.2 b k).trans z) j f
theorem aOf(z:b.length<=sizeLine)(g:(a==sysModules)=false)(d:KV b c)(h:e.DictOf (fP P w) a c):
  ObjOk P w f e a (.dK b):=⟨z,g,c,d,h⟩
theorem Ur(M:A.units+1<cLine)(I:Inv X pins σ H s)(g:DPut H a y v C)(D:RelV y u)(F:RelV v r)(h:∀G,Inv X pins σ C G->Q () G):
  ar (model X.prog X.w) A (setItem (.ref a) u r) Q E s:=by
 rcases g with⟨d,k,e,m,l,n⟩|⟨d,k,b,e,m,J,l,n⟩
 ·subst m n;refine qq0 λqq2=>?_;obtain⟨z,p,N,f,t⟩:=aTi I.hok e;refine qq2 ?_;have w:N.length<=sizeLine:=by rw[<-f.length];exact z
  have x:(vG d k v).length<=sizeLine:=by have:=sT d k v;exact 102
  refine wpAny_setItem_pairs (hsz:=w) (Qi D) t λK i B=>h _ ?_;have O:∃q,K.get? a=γ q:=let⟨q,_,_,j,_⟩:=i;⟨q,j⟩
  exact Rc I (by rw[e];exact True.intro) B O<|aOf x p (f.put k F) i
 ·subst m n;cases (show u=cb b from D);refine qq0 λqq2=>?_;obtain⟨z,p,P,f,t⟩:=aTg I.hok e;refine qq2 ?_;have w:P.length<=sizeLine:=by rw[<-ui f];exact z
  have x:(vG d k v).length<=sizeLine:=by have:=sT d k v;exact 102
  refine wpAny_setItem_heap (hsz:=w) (om M) (Dn I.hok J) t λK i B=>h _ ?_;refine qq0 λqq2=>?_;obtain⟨q,R,S,j,T,U,W,_,Y⟩:=i;refine qq2 ?_;refine Rc I (by rw[e];exact True.intro) B ⟨q,j⟩ ⟨x,p,_,(f.put k J F).keeps λc Z L=>?_,q,R,S,j,T,U,W,Y⟩;rw[aV<|aSo L e λz=>nomatch z];exact L
def aUn(i:Expr):Prop:=∀a b,subscripted i false a b=operate [a,b] (getItem a b)
theorem aDy{T id:String}
  (m:typeLookup (.type T) "__getitem__"=pure (γ<|.builtin id)) (n:aUn slice)
  (h:ar (model prog w) A (eval value e) (λo c=>ar (model prog w) A (eval slice e) (λi a=>a.TypeIs o T/\ar (model prog w) A (getItem o i) Q E a) E c) E s):
  ar (model prog w) A (eval (.Subscript value slice k) e) Q E s:=by
 refine uR<|fk h (λo c g=>fk g (λi a b=>?_) λ_ _ x=>x) λ_ _ x=>x;obtain⟨l,b⟩:=b;unfold subscriptTail;refine ξ ?_;rw[getitemInPython_of_ne l.not_modules];refine ξ<|nk l m ?_;have f:ar (model prog w) A (subscripted slice false o i) (λr d=>ar (model prog w) A (letTemporaryGo value o r>>=λ_=>pure r) Q E d) E a:=by
  rw[n o i];exact wpAny_operating<|fk b (λr d j=>ξ<|wpAny_letTemporaryGo<|aq j) λ_ _ x=>x
 first
  |exact aq (ξ f)
  |exact ξ (aq<|ξ f)
  |exact ξ f
theorem Jz(I:Inv X pins f H s)(g:DGet H a y o):s.TypeIs (.ref a) "dict":=by
 rcases g with⟨c,k,e,_,_⟩|⟨c,k,b,e,_,_,_⟩
 ·obtain⟨_,_,h,_,d⟩:=Qy I.hok e;exact d.typeIs
 ·obtain⟨_,_,i,_,d⟩:=Qw I.hok e;exact d.typeIs
def aHu(d ty:TE):TE:=λb H Q=>d b H λx e=>ty b e λy c=>∃a v,x= .ref a/\DGet c a y (γ v)/\Q v c
def Oq(ty d:TE):TE:=λb H Q=>ty b H λy e=>d b e λx c=>∃a o,x= .ref a/\DGet c a y o/\Q (.bl<|!o.isSome) c
def aHy(d ty e:TE):TS:=λD b H=>e b H λv f=>d b f λx g=>ty b g λy h=>∃a c,x= .ref a/\DPut h a y v c/\D.nx b c
theorem aEn(f:X.A.units+1<cLine)(j:PE X o L)(k:PE X i J)(l:aUn i):PE X (.Subscript o i M) (aHu L J):=by
 intro pins s c H Q I h;refine aDy F.slot_dict_getitem.lookup l<|eP (j pins s c H _ I h) λu m ⟨x,n,p,q,r⟩=>eP (k pins m c n _ p r) λC D ⟨y,t,d,w,a,v,z,g,A⟩=>?_;subst z;obtain rfl:u=cb a:=q;exact⟨Jz d g,Us f d g w λE G B b=>⟨v,t,B,b,A⟩⟩
theorem Tb(c:X.A.units+1<cLine)(d:PE X i D)(f:PE X o E):PC X .NotIn i o (Oq D E):=by
 intro pins s b H Q I h;refine eP (d pins s b H _ I h) λA j ⟨y,k,l,m,n⟩=>eP (f pins j b k _ l n) λu B ⟨x,p,q,r,a,t,v,g,w⟩=>?_;subst v;obtain rfl:u=cb a:=r;exact aGo c q g m λC z=>⟨.bl<|!t.isSome,p,z,rfl,w⟩
theorem aEk(c:X.A.units+1<cLine)(d:PE X o W)(f:PE X i T)(j:PE X P U)(k:swapsWith P (γ<|.Subscript o i R) S.line X.env=pure false):
  PS X (.Assign [.Subscript o i R] P S) (aHy W T U):=by
 intro pins s b H D I h;refine wpAny_Assign_Subscript (eP (j pins s b H _ I h) λr l ⟨v,m,n,p,q⟩=>eP (d pins l b m _ n q) λu t ⟨x,w,z,A,B⟩=>eP (f pins t b w _ z B) λL M ⟨y,N,C,E,a,F,G,g,J⟩=>?_) k;subst G;obtain rfl:u=cb a:=A;exact Ur c C g E p λO K=>⟨b,F,K,J⟩
theorem aAx(h:gy)(a:sysModules<h.objs.size):ObjOk P w H (h.push {cls:=.type "dict",data:=.dict #[]}) h.objs.size (.dK []):=
 ⟨iw _,ei.mpr<|Ne.symm<|ig a,[],.nil,BO h⟩
def Wm:TE:=λ_ H Q=>∀p,H p=ν->Q (.ref p) (fA H p<|.dK [])
theorem Yj:PE X (.Dict [] [] c) Wm:=λpins s b H Q I h=>
 wpAny_Dict_empty ⟨.ref s.heap.objs.size,_,I.laid (a:=s.heap.objs.size) (o:=.dK []) (t':=s.toks) (λ_ _ q=>Ξ _ q) (ω _)<|aAx s.heap I.big,rfl,h _<|I.hok.fresh<|ω _⟩
structure M1(X:Cx)(o:Expr)(m:bf)(apos:Pos)(e:Expr)(cpos:Pos):Prop where
 base:attributeBase o m X.env (eval o X.env)=eval o X.env
 few:((backTo cpos (starEach [e] X.env)).all (λx=>!x.1) && (backToKw cpos (keywordEach [] X.env)).all (λx=>x.1.isSome)
  && decide (([e]:ε Expr).length+([]:ε Keyword).length+(if ([]:ε Keyword).isEmpty then 0 else 1)<30))=true
 line:(apos.endLine==cpos.line)=true
 trees:backTo cpos (starEach [e] X.env)=[(false,eval e X.env)]
structure M2(X:Cx)(o:Expr)(m:bf)(apos:Pos)(e f:Expr)(cpos:Pos):Prop where
 base:attributeBase o m X.env (eval o X.env)=eval o X.env
 few:((backTo cpos (starEach [e,f] X.env)).all (λx=>!x.1) && (backToKw cpos (keywordEach [] X.env)).all (λx=>x.1.isSome)
  && decide (([e,f]:ε Expr).length+([]:ε Keyword).length+(if ([]:ε Keyword).isEmpty then 0 else 1)<30))=true
 line:(apos.endLine==cpos.line)=true
 trees:backTo cpos (starEach [e,f] X.env)=[(false,eval e X.env),(false,eval f X.env)]
end L2
set_option maxHeartbeats 4000000
namespace Lx
variable{K:ς}
open PySem PySem.Spec PyProof.Rows L2
def ExcAt(a h:gy)(H:Hp)(x:Ζ)(C:Γ):Prop:=
 ∃b c,h.get? x=γ b/\b.cls=C/\b.data= .fields c/\H x=ν/\a.get? x=ν/\
  (c[1]? =γ Value.none\/∃T d e,c[1]? =γ (cb T)/\T≠x/\h.get? T=γ d/\d.data= .fields e/\e[3]? =γ Value.none/\H T=ν/\a.get? T=ν)
theorem ExcAt.older(e:ExcAt c h H x C)(k:∀b,c.get? b=ν->a.get? b=ν):ExcAt a h H x C:=by
 obtain⟨f,g,i,j,l,m,n,d⟩:=e;refine⟨f,g,i,j,l,m,k _ n,?_⟩;rcases d with d|⟨T,o,p,q,r,s,t,u,v,w⟩
 ·exact .inl d
 ·exact .inr ⟨T,o,p,q,r,s,t,u,v,k _ w⟩
theorem Pt(x:ObjOk P w H h a o):∃u,h.get? a=γ u:=by
 cases o with
 |lst c=>obtain⟨_,_,_,_,e⟩:=x;exact⟨_,e⟩
 |tup c=>obtain⟨_,_,_,p⟩:=x;obtain⟨o,d,_⟩:=p;exact⟨o,d⟩
 |dK b=>refine qq0 λqq2=>?_;obtain⟨_,_,_,_,o,_,_,e,_⟩:=x;refine qq2 ?_;exact⟨_,e⟩
 |dT b=>refine qq0 λqq2=>?_;obtain⟨_,_,_,_,o,_,_,e,_⟩:=x;refine qq2 ?_;exact⟨_,e⟩
 |set S n=>obtain⟨o,_,_,_,e,_⟩:=x;exact⟨_,e⟩
 |ins C i g=>obtain⟨_,_,_,e,_⟩:=x;exact⟨_,e⟩
 |own y=>exact x
 |xd g=>obtain⟨_,⟨_,_,_,e,_⟩,_⟩:=x;exact⟨_,e⟩
 |rng j k=>obtain⟨_,_,_,e⟩:=x;exact⟨_,e⟩
 |frz l u=>obtain⟨e,_⟩:=x;exact⟨_,e⟩
 |tbl m=>exact⟨_,(show h.get? a=γ _ from x)⟩
 |met f y=>exact⟨_,(show h.get? a=γ _ from x)⟩
 |ext q=>obtain⟨_,e,_⟩:=x;exact e
theorem Pz(h:b∈l)(c:b.frame=γ a):a∈rW l:=m8.mpr ⟨b,h,c⟩
theorem Th
  (v:A.frames=γ (c::outer)) (hl:s.heap.FunFrames base<|c::outer) (G:c.frame=γ L) (hx:ExcAt d s.heap H x C)
  (h0:∀b o,d.get? b=γ o->∃u,s.heap.get? b=γ u) (hH:∀b o,H b=γ o->∃u,s.heap.get? b=γ u)
  (h:∀f,(∀b o,s.heap.get? b=γ o->(d.get? b≠ν\/H b≠ν)->b∉rW (c::outer)->f.get? b=γ o) ->
   (∀b o,s.heap.get? b=γ o->b∈rW (c::outer)->∃sl,f.get? b=γ {o with slots:=sl}) ->
   ExcAt d f H x C->Q () {s with heap:=f}):
  ar M A (noteFrame (.ref x) c) (λ_ s2=>ar M A (setFlight (.ref x) ν) Q E s2) E s:=by
 refine qq0 λqq2=>?_;obtain⟨oe,vs,I,hc,J,m,n,g⟩:=hx;refine qq2 ?_;have go:∀(tr:ε Ζ)(O:x∈tr)(g:∀b∈tr,H b=ν/\d.get? b=ν)(f:gy),Heap.Left (W.hideAll s.heap<|tr++rW (c::outer)) (c::outer) x C s.heap f->Q () {s with heap:=f}:=by
  intro tr O g f l;obtain⟨k1,k2,k3,k4⟩:=l;have kept:∀b o,s.heap.get? b=γ o->(d.get? b≠ν\/H b≠ν)->b∉rW (c::outer)->f.get? b=γ o:=λb o e j hn=>by
   refine k1 b o<|uj _ e λK=>?_;rcases cj.mp K with z|z
   ·obtain⟨z1,z2⟩:=g b z;rcases j with q|q
    ·exact q z2
    ·exact q z1
   ·exact hn z
  refine h f kept (λb o e j=>?_) ?_
  ·obtain⟨_,o',w,i⟩:=hl.mem j;rw[e]at w;cases w;exact k4 b o e i
  ·refine qq0 λqq2=>?_;obtain⟨P,R,T,oT,ts,S,U,X,Y,y,Z,hT,B,N⟩:=k3;refine qq2 ?_;have D:H T=ν/\d.get? T=ν:=by
    by_cases K:T∈tr++rW (c::outer)
    ·rcases cj.mp K with z|z
     ·exact g T z
     ·obtain⟨_,o',w,i⟩:=k2.mem z;rw[hT]at w;cases w;exact ψ B<|i ts
    ·have no:s.heap.get? T=ν:=by
      cases q:s.heap.get? T with
      |none=>rfl
      |some o=>
       rw[uj _ q K]at y;cases y
     refine⟨?_,?_⟩
     ·cases q:H T with
      |none=>rfl
      |some o=>
       obtain⟨u,F⟩:=hH T o q;rw[no]at F;cases F
     ·cases q:d.get? T with
      |none=>rfl
      |some o=>
       obtain⟨u,F⟩:=h0 T o q;rw[no]at F;cases F
   exact⟨P,R,S,U,X,m,n,.inr ⟨T,oT,ts,Y,Z,hT,B,N,D.1,D.2⟩⟩
 have ff:∀tr:ε Ζ,s.heap.FunFrames (W.hideAll s.heap<|tr++rW (c::outer)) (c::outer):=λtr=>W.funFrames_hide hl λa3 p a h2=>cc _<|Pz p h2;have stays:∀tr:ε Ζ,(W.hideAll s.heap<|tr++rW (c::outer)).StaysIn s.heap:=λtr b o q=>zi _ q;have r:∀(tr:ε Ζ)(b:Ζ),b∈tr->(W.hideAll s.heap<|tr++rW (c::outer)).get? b=ν:=λtr b j=>yj _<|ib _ j;rcases g with p|⟨Tr,a4,tv,p,a0,t,hdTr,N,a1,a2⟩
 ·unfold noteFrame;simp only[G];refine ξ<|jn (s:=s) I J p ?_;rw[ι (by decide:¬((Value.none !=Value.none)=true))];refine yv v (ff [x]) G I (stays [x]) (r [x] x<|by simp) J (jr.mp p).1 λf l=>go [x] (by simp) (λb j=>?_) f (by rw[<-hc];exact l);have e:b=x:=by simpa using j
  subst e;exact⟨m,n⟩
 ·unfold noteFrame;simp only[G];refine ξ<|jn (s:=s) I J p ?_;rw[ρ (by simp:(cb Tr !=Value.none)=true)];refine ξ<|jn (s:=s) t hdTr N ?_;rw[ι (by simp[rawInt]:¬((Value.none==rawInt L)=true))];refine ξ<|wpAny_setField (s:=s) t hdTr (jr.mp N).1 ?_;have k:∀b,b≠Tr->(s.heap.update Tr<|Obj.mapFields (·.setIfInBounds 3 Value.none)).get? b=s.heap.get? b:=λb nb=>mh _ _<|Ne.symm nb;have nT:∀b u,s.heap.get? b=γ u->(∀vs,u.data≠ .fields vs)->b≠Tr:=λb u q i z=>by
   rw[z,t]at q;cases q;exact i tv hdTr
  refine yv v ((ff [x,Tr]).of_keeps λb u q i=>⟨u,(k b<|nT b u q i).trans q,rfl⟩) G ((k x<|Ne.symm a0).trans I) (λb u q=>(k b λz=>?_).trans<|stays [x,Tr] b u q) (r [x,Tr] x<|by simp) J (jr.mp p).1
   λf l=>go [x,Tr] (by simp) (λb j=>?_) f ⟨l.1,l.2.1,by rw[<-hc];exact l.2.2.1,λb u q i=>l.2.2.2 b u ((k b<|nT b u q i).trans q) i⟩
  ·rw[z,r [x,Tr] Tr<|by simp]at q;cases q
  ·have e:b=x\/b=Tr:=by simpa using j
   rcases e with e|e
   ·subst e;exact⟨m,n⟩
   ·subst e;exact⟨a1,a2⟩
theorem Iy
  (d:A.frames=γ (a::outer)) (e:s.heap.FunFrames base<|a::outer) (f:a.frame=γ L) (g:ExcAt h₀ s.heap H x C)
  (i:∀b o,h₀.get? b=γ o->∃u,s.heap.get? b=γ u) (j:∀b o,H b=γ o->∃u,s.heap.get? b=γ u)
  (h:∀c,(∀b o,s.heap.get? b=γ o->(h₀.get? b≠ν\/H b≠ν)->b∉rW (a::outer)->c.get? b=γ o) ->
   (∀b o,s.heap.get? b=γ o->b∈rW (a::outer)->∃k,c.get? b=γ {o with slots:=k}) ->
   ExcAt h₀ c H x C->Q () {s with heap:=c}):
  ar M A (leaving a<|.ref x) Q E s:=ξ<|Th d e f g i j h
def oV(P:Program)(w:kn):Nw:=λouter H s E e a=>
 ∃(x:Ζ)(C:Γ)(b:Hp),e= .ref x/\a.os=s.os/\AllBare a.gens/\Un (rW outer) [] H b s.heap a.heap/\HOk P w b a.heap/\ExcAt s.heap a.heap b x C/\E C ν b
theorem cG:iR (oV P w) X E0:=λ_ _ _ _ _ _ _ ⟨_,_,_,_,_,_,_,_,_,h⟩=>h.elim
theorem aFq{g c:gy}(h:Inv X pins i d f)
  (k:∀b o,f.heap.get? b=γ o->(c.get? b≠ν\/d b≠ν)->b∉rW X.stack->g.get? b=γ o):HOk X.prog X.w d g:=λa o e=>
 (h.hok a o e).stay (λb u j q=>by
  have t:d b≠ν:=by
   rcases j with z|z
   ·rw[z,e];simp
   ·rw[z];simp
  exact k b u q (.inr t) λl=>t (h.stkFree b l)) (λ_ q=>q) λ_ _ q=>q
theorem kM:
  iR (oV P w) (qW (oV P w) P w K mg base N qual scope f g A outer a h E) E:=by
 intro pins J H s e F I L;refine qq0 λqq2=>?_;obtain⟨x,C,t,rfl,M,O,u,k,R,S⟩:=L;refine qq2 ?_;have c:Inv (qW (oV P w) P w K mg base N qual scope f g A outer a h E) pins J t F:=I.call' M u k O (λb z=>ψ z<|by simp);have there:∀b o,a.heap.get? b=γ o->∃m,s.heap.get? b=γ m:=λb o e=>I.base.there b o e (by intro z;exact ψ (show b∈([]:ε Ζ)from z)<|by simp);show ar (model P w) _ (leaving _<|.ref x) _ _ F;refine Iy (h₀:=s.heap) (H:=t) (C:=C) (base:=base) c.ok.frames c.stack rfl R (λb o e=>u.there b o e<|by simp) (λb o e=>Pt<|k b o e) λh' v G y=>?_;have d:∀b:Ζ,b∉(qW (oV P w) P w K mg base N qual scope f g A outer a h E).ex:=λb z=>ψ (show b∈([]:ε Ζ)from z) (by simp);have B:∀b o,a.heap.get? b=γ o->b∉rW outer->b∉rW (envOfC qual scope a.heap.objs.size f g::outer):=λb o e i p=>by
  rcases Υ.mp (c.stkSub b p)with z|z
  ·exact ψ (z▸cu e)<|A7.mpr c.ok.above
  ·exact i z
 refine⟨x,C,t,rfl,c.os,c.bare,⟨λb o e n i _=>?_,λb o e n i _=>?_,λb o e n _=>c.base.free b o e n<|d b,λb o e _=>?_,c.base.tups,c.base.frzs,c.base.tbls⟩,aFq c v,y.older λb q=>?_,S⟩
 ·obtain⟨m,j⟩:=there b o e;exact v b o (c.base.keep b o e n i<|d b) (.inl (by rw[j];simp))<|B b o e i
 ·obtain⟨T,r⟩:=c.base.slot b o e n i (d b)
  obtain⟨l,D⟩:=G b _ r (by
   obtain⟨U,W,X⟩:=m8.mp i
   exact Pz (ο _ W) X)
  exact⟨l,D⟩
 ·obtain⟨Y,r⟩:=c.base.there b o e<|d b;by_cases p:b∈rW (envOfC qual scope a.heap.objs.size f g::outer)
  ·obtain⟨l,D⟩:=G b _ r p;exact⟨_,D⟩
  ·obtain⟨m,j⟩:=there b o e;exact⟨_,v b Y r (.inl (by rw[j];simp)) p⟩
 ·cases Z:a.heap.get? b with
  |none=>rfl
  |some o=>
   obtain⟨m,j⟩:=there b o Z;rw[q]at j;cases j
theorem okE{st:Stmt}(F:Fun K x qual st f j)(S:FnScope N d<|bK st)(g:∀b H Q E,e b H Q E->b.length=d.length)
  (c:∀(a:Γ)(A:Around)(outer:ε Env)(s:aj)(H:Hp)(b:ε V)(Q:VK)(E:XK),Room k (A.deeper (envOfC qual (bK st) s.heap.objs.size f a))->e b H Q E ->
   ∃t,Kq (qW (oV P w) P w K z base N qual (bK st) f a A outer s H E) (fF st) t/\t {nx:=λ_ l=>Q .non l,rt:=Q} (start N b) H):FnOk P w K z base (oV P w) (k+1) f j d e:=by
 refine qq0 λqq2=>?_;obtain⟨q,r,kV,m,u,v,a,y,n,rfl,o,h⟩:=F.ex;refine qq2 ?_;exact aTc o h S g λA outer s H b Q E p i=>c a A outer s H b Q E p i
abbrev aVw:ε Γ:=[.type "ValueError",.type "Exception",.type "BaseException",.type "object"]
theorem aEs{K:ς}(i:K.In h)(q:W.excIn K C b newId=true):
  ∃o N nm t bs c u j v k w x y z A B p,h.get? C=γ (excClassObj nm t C N bs o c u j v k w x y z A B newId)/\h.Ns N p/\p "__init__"=ν/\OwnTail h b o:=by
 unfold W.excIn at q;split at q
 ·rename_i dct d e a
  split at q
  ·rename_i Cx l D E F G Z H f g
   simp only[jz,kx,rh]at q;refine qq0 λqq2=>?_;obtain⟨⟨⟨⟨⟨I,J⟩,r⟩,L⟩,m⟩,s⟩:=q;refine qq2 ?_;subst I;subst J;refine qq0 λqq2=>?_;obtain⟨M,O,f3,P,R,S,T,U,X,n,Y⟩:=d;refine qq2 ?_;dsimp only at f r m s;subst f;subst r;obtain⟨sl⟩:=e;dsimp only at g;subst g;exact⟨l,P,M,R,O,S,T,U,X,n,dct,D,E,F,G,H,_,i _ _ a,.of_isNs<|W.isNs_of_in i m,W.nsMap_none_of_in i m s,W.tail_of_in i L⟩
  ·cases q
 ·cases q
structure ExcCl(K:ς)(mg:bf->Θ Γ)(x:bf)(C:Ζ):Prop where
 ex:W.excIn K C aVw "ValueError.__new__"=true
 mgx:mg x=γ (.ref C)
def Wk(E:XK)(C:Ζ)(t:TA):TS:=λ_ a H=>t a H λb c=>b.length<=sizeLine/\E (.ref C) ν c
theorem eS(O:ExcCl X.K X.mg x C)(v:X.A.handled=ν)(A:iR (oV X.prog X.w) X E)(B:Gl X x)(G:PA X (e::es) t)(J:(x==("__debug__":bf))=false:=by decide)
  (m:starEach (e::es) X.env=(false,eval e X.env)::starEach es X.env:=by rfl) (i:(backTo cpos<|starEach es X.env).any (·.1)=false:=by rfl):
  PS X (.Raise (γ<|.Call (.Name x np) (e::es) [] cpos) ν pos) (Wk E C t):=by
 intro pins s n H D I h;refine qq0 λqq2=>?_;obtain⟨bm,N,nm,K,bs,hdct,sn,sub,ab,col,dd,k0,k1,k2,k3,k5,mN,L,R,j,T⟩:=aEs I.ok.mod.kin O.ex;refine qq2 ?_;refine wpAny_Raise_call_subU (C:=C) (nm:=nm) (q:=K) (N:=N) (bs:=bs) (bm:=bm) (hdct:=hdct) (sn:=sn) (sub:=sub) (ab:=ab) (col:=col) (dd:=dd) (k0:=k0) (k1:=k1) (k2:=k2) (k3:=k3) (k5:=k5)
  sr (by decide +kernel) sr (mN:=mN) (T.hasType F.excBase_ValueError.hasBase) v (by rw[m];show(false||(backTo cpos<|starEach es X.env).any (·.1))=false;rw[i];rfl) j (uA I B O.mgx ⟨rfl,?_⟩ J)
 have d:=eP (G cpos pins s n H _ I h) (Q':=λg c=>g.length<=sizeLine/\(∀b o,X.base.get? b=γ o->c.heap.get? b=γ o)/\∀k e,Heap.MadeExcOf c.heap k e (.ref C) g->X.xe (.ref e) {c with heap:=k}) λW S ⟨g,l,f,r,z,q⟩=>⟨by rw[<-r.length];exact z,f.bk,λk e M=>?_⟩
 ·rw[m]at d⊢;exact sk<|fk d (λg c a=>⟨rfl,a.1,a.2.1 _ _ L,R.keeps a.2.1,T.keeps a.2.1,a.2.2⟩) λ_ _ y=>y
 ·refine A pins n l S (.ref e) _ f ⟨e,.ref C,l,rfl,rfl,f.bare,Un.kept M.keeps,f.hok.kept M.keeps,?_,q⟩;obtain⟨Y,U,Z,t3⟩:=M.there;refine⟨_,_,U,rfl,rfl,?_,M.new,.inl rfl⟩;cases z:l e with
  |none=>rfl
  |some o=>
   obtain⟨u,p⟩:=Pt<|f.hok e o z;rw[M.new]at p;cases p
abbrev XS:=L2.St->XK
abbrev TSX:=Ends->XS->L2.St->Hp->Prop
def Up(X:Cx)(pins:ε<|Ζ×Obj)(E:XS)(e:Γ)(f:aj):Prop:=
 ∃(x:Ζ)(C:Γ)(d:L2.St)(g:Hp)(a:gy),e= .ref x/\Inv X pins d g f/\ExcAt a f.heap g x C/\(∀b o,a.get? b=γ o->∃u,f.heap.get? b=γ u)/\
  (∀b o,X.s₀.heap.get? b=γ o->b∉X.ex->∃u,a.get? b=γ u)/\(∃u,a.get? X.env.locals=γ u)/\(∀p∈X.pn++pins,∃u,a.get? p.1=γ u)/\(∀x c,X.env.cells.lookup x=γ c->∃u,a.get? c=γ u)/\E d C ν g
section
variable{X:Cx}{pins:ε (Ζ×Obj)}{σ:L2.St}{H:Hp}{s:aj}{x:Ζ}
structure Old(X:Cx)(pins:ε<|Ζ×Obj)(h₁:gy):Prop where
 s0:∀b o,X.s₀.heap.get? b=γ o->b∉X.ex->∃u,h₁.get? b=γ u
 lo:∃u,h₁.get? X.env.locals=γ u
 pn:∀p∈X.pn++pins,∃u,h₁.get? p.1=γ u
 ce:∀x c,X.env.cells.lookup x=γ c->∃u,h₁.get? c=γ u
end
theorem Rr(h:i.natAbs<2^n):bj i<=n:=by
 unfold bj;split
 ·exact iw _
 ·rcases u3 i.natAbs with b|c
  ·rename_i a
   exact ψ (Int.natAbs_eq_zero.mp b) (by simpa using a)
  ·have:=(yi<|vn c).mpr h;assumption
def Wee(i:χ):Prop:=i.natAbs<2^8000
theorem Wee.bits(h:Wee i):bj i<=8000:=Rr h
theorem dJ(a:Wee i)(b:Wee j):IntMulOk i j:=yw a.bits b.bits (by decide)
theorem Ij(a:bj i<=10000000)(b:Wee j):IntMulOk i j:=yw a b.bits (by decide)
theorem Of(h:Wee i):i.natAbs.log2<9000:=by
 rcases u3 i.natAbs with a|b
 ·rw[a];decide
 ·have:=(yi<|vn b).mpr h;exact 1
def aUy(i j:χ):Prop:=IntMulOk i j
def Ry(i j:χ):Prop:=0<j/\Wee j
def aUz(i j:χ):Prop:=j≠0/\Wee j
theorem Ps:lM X (binaryOp .Mult) (rI aUy λi j=>.int<|i*j):=opI λ_ _ _ _ _ _ _ a q=>mul_int q a
theorem Hi:lM X (binaryOp .FloorDiv) (rI aUz λi j=>.int<|i.fdiv j):=opI λ_ _ _ _ _ _ _ a q=>zm a.1 q<|.inl<|p4<|Of a.2
theorem qG:lM X (binaryOp .FloorDiv) (rI Ry λi j=>.int<|i/j):=opI λi j _ _ _ _ _ a q=>by
 have b:(0:χ)<j:=a.1;refine zm (Int.ne_of_gt b) ?_<|.inl<|p4<|Of a.2;rw[kj _<|vq b];exact q
theorem bits_of_lay{a:ε χ}(h:W.WData.layableAll [W.WData.list<|a.map W.WData.int]=true):∀v∈a,bj v<=1048576:=λv c=>by
 have d:=W.layableW_arg h _<|br.mpr rfl;have f:=W.layableW_item d (W.WData.int v)<|Β.mpr ⟨v,c,rfl⟩;obtain⟨_,_,b⟩:=W.layableW_iff.mp f;have e:(2:π)^20=1048576:=by decide
 rw[e]at b;simpa only[W.WData.weight,bj]using b
end Lx
namespace Att
open PySem PySem.W PySem.Calls PyProof.Rows
theorem attachB{l:OpenLaw}
  (E:l.most=γ n) (t:d.params.defaults=[])
  (call:∀(w:kn)(c b:aj)(m u:bf->Θ Γ)(h:Ζ)(o:Obj)(x p e:Γ)(a:Ζ)(g:ε Γ)(i:ε χ),
   Ground q loose [] B w c m u b.heap->C w b.heap ->
   b.heap.get? h=γ o->o.data= .func (docDef d.name d.params d.body d.scope x p e)->b.heap.CodeRec p d.name->m d.name=γ (.ref h) ->
   b.heap.get? a=γ {cls:=.type "list",data:=.seq g.toArray}->IntsAre g i->i.length<=n->(∀v∈i,bj v<=1048576)->b.gens=#[] ->
   codeAny (model l.prog w) callerA (.call (.ref h) ⟨[.ref a],[]⟩) (λr s=>r= .ok (.ret (.bool true))/\OldK b.heap s.heap/\s.os=b.os/\AllBare s.gens) b):
  WalkO q loose B C l.row.toRowW d [] (λf g=>PySem.call f g):=by
 intro w c b m u G Y h o x p e F kV H I y D z J args vals S j k K A L;refine qq0 λqq2=>?_;obtain rfl:F= .none:=Dflts.none D t;obtain rfl:kV= .none:=Dflts.noKw D;obtain⟨a,g,i,rfl,rfl,hobj,hints,hlen⟩:=Sn E j A;refine qq2 ?_;refine enter_call<|rb (call w c b m u h o x p e a g i G Y H (fd_plain I) y z hobj hints hlen (Lx.bits_of_lay k) J) λr s M=>?_;refine qq0 λqq2=>?_;obtain⟨rfl,N,O,P⟩:=M;refine qq2 ?_;exact⟨.inl ⟨.bool true,.bool true,[],rfl,λ_=>rfl,.bool true,Sw l _,λ_=>⟨Pairwise.nil,λ_ R=>(nomatch R)⟩⟩,N,O,P⟩
end Att
namespace Lx
variable{K:ς}
open PySem PySem.Spec PyProof.Rows L2
def Ov(K:ς):Sp:=λc H Q _=>∃(a:Ζ)(b:ε χ),c=[.ref a]/\SqL K H a (b.map V.int)/\b.length<=63/\(∀v∈b,bj v<=1048576)/\aPp H/\∀d,Q (.bl true) d
theorem walkB{l:W.OpenLaw}{K:Params->ς}
  (z:l.most=γ 63) (j:d.params.defaults=[]) (A:Room k callerA)
  (B:∀(w:kn)(h:gy),p w h->(K w.params).In h)
  (F:∀(w:kn)(c:bf->Θ Γ)(i:Ζ)(h:gy),(K w.params).In h->h.Ns mainGlobals c->c d.name=γ (.ref i) ->
   ∃m:FuncData,(∀(s:aj)(u:Γ),BindsTo s m ⟨[u],[]⟩ [("script",u)])/\
    ∀base:gy,(K w.params).In base->base.Ns mainGlobals c->FnOk l.prog w (K w.params) c base (oV l.prog w) k i m ["script"] (Ov (K w.params))):
  W.WalkO q loose y p l.row.toRowW d [] (λf r=>PySem.call f r):=by
 refine Att.attachB z j λw t v c O i o P R C a r D G Y S T E n g hints hlen b I=>?_;have x:=B w _ Y;obtain⟨m,J,L⟩:=F w c i _ x G.T.g n;exact Zp x G.T.g G.T.b G.T.builtins G.T.nolimit I g hints (Α hlen<|by decide) A L J (λH M N=>⟨a,D,rfl,N,hlen,b,M,λ_=>rfl⟩) λH e U ⟨_,_,_,_,_,_,_,_,_,h⟩=>h
def Its(a st:χ)(n:π):It:=⟨λi _=>i<n,λi H x b=>b=H/\x= .int (a+i*st),λi _=>n<=i⟩
theorem Fo{K:ς}(a:Ζ)(d st:χ)(n:π):Turn P w K tg (Its d st n) [a] a (λi h=>IsRangeIter h a (d+(i:π)*st) ((n:χ)-(i:π)) st) where
 mem:=by simp
 obj:=λi h z b c=>by
  have e:b=a:=by simpa using c
  subst e
  exact⟨_,z,λv y=>by
   have D:Data.fields _=Data.cell v:=y
   cases D⟩
 keep:=λi h f z k=>k a (by simp) _ z
 item:=by
  intro X j hw l m i pins s B H E I g z p;subst j hw l;refine qq0 λqq2=>?_;obtain⟨q,r,F,u,x,A⟩:=g a (by simp);refine qq2 ?_;have W:=AF (prog:=X.prog) (w:=X.w) (I.ok.hd m) a d st n;refine W.item i s _ _ p z λv f tk G C J=>?_;refine qq0 λqq2=>?_;obtain⟨t,rfl⟩:=G;refine qq2 ?_;have L:Inv X pins B H {s with heap:=f,toks:=tk}:=I.turned (λb o c e=>J b o (by simpa using c) e) q r u x A;exact⟨_,rfl,Ad (s:={s with heap:=f,toks:=tk}) (n:="range_iterator") C rfl rfl (by decide) ⟨.int<|d+i*st,H,L,⟨t,rfl⟩,⟨rfl,rfl⟩,C,λb c=>(g b c).1⟩⟩
 done:=by
  intro X j hw l m i pins s B H E I g z p;subst j hw l;refine qq0 λqq2=>?_;obtain⟨q,r,F,u,x,A⟩:=g a (by simp);refine qq2 ?_;exact qy (I.ok.hd m) z (by have:n<=i:=p;lia) λf M=>⟨rfl,I.turned (t':=s.toks) (λb o c e=>M b o c e) q r u x A⟩
 self:=λ_ _ _ _ _ z h=>qz z h
theorem Ss{a c st:χ}{n:π}(I:Inv X pins d H s)(f:Builtin.Range.small a c st=true)(h:eu a c st=(n:χ))
  (q:R (Its a st n) H):ar (model X.prog X.w) X.A (pyIter<|.ref s.heap.objs.size) (PIE X pins d l R) E {s with heap:=s.heap.push {cls:=.type "range",data:=.fields #[.int a t,.int c u,.int st v]},toks:=tk}:=by
 refine uy (AG ..) f ?_;have g:Inv X pins d H {s with heap:=s.heap.push {cls:=.type "range",data:=.fields #[.int a t,.int c u,.int st v]},toks:=tk}:=I.kept λb o e=>Ξ _ e
 refine⟨(s.heap.push {cls:=.type "range",data:=.fields #[.int a t,.int c u,.int st v]}).objs.size,[(s.heap.push {cls:=.type "range",data:=.fields #[.int a t,.int c u,.int st v]}).objs.size],_,_,H,rfl,
  g.kept (t':=tk) λb o e=>Ξ _ e,Fo _ a st n,?_,λb i=>?_,q⟩
 ·have j:a+((0:π):χ)*st=a:=by simp
  have k:(n:χ)-((0:π):χ)=eu a c st:=by rw[h];simp
  show IsRangeIter _ _ (a+((0:π):χ)*st) ((n:χ)-((0:π):χ)) st;rw[j,k];exact aw _ rfl
 ·have e:b=(s.heap.push {cls:=.type "range",data:=.fields #[.int a t,.int c u,.int st v]}).objs.size:=by simpa using i
  subst e;exact g.fpOk (ω _)<|g.hok.fresh<|ω _
def aIj(a:TA):TI:=λb H R=>a b H λc d=>∃(i j k:χ),c=[.int i,.int j,.int k]/\∃n:π,k≠0/\k.natAbs<1000000/\Builtin.Range.small i j k=true/\eu i j k=(n:χ)/\R (Its i k n) d
theorem Sy(o:Gl X "range")(u:X.mg "range"=ν)(v:PA X [a,b,c] m)(w:starEach [a,b,c] X.env=[(false,eval a X.env),(false,eval b X.env),(false,eval c X.env)]:=by rfl)(f:starEach [b,c] X.env=[(false,eval b X.env),(false,eval c X.env)]:=by rfl):
  PI X M (.Call (.Name "range" p) [a,b,c] [] d) (aIj m):=by
 intro pins s x H R I h;refine yn<|jK I o u yo<|dh (eP (v d pins s x H _ I h) λE F ⟨G,J,y,z,g⟩=>?_) (by rw[w,f]) (by rw[f];rfl);refine qq0 λqq2=>?_;obtain⟨i,j,k,e,n,g,K,A,B,q⟩:=g;refine qq2 ?_;subst e;cases z with
 |cons r rr=>
  cases rr with
  |cons C rr=>
   cases rr with
   |cons l rr=>
    cases rr;refine qq0 λqq2=>?_;obtain⟨t,rfl⟩:=r;obtain⟨L,rfl⟩:=C;obtain⟨D,rfl⟩:=l;refine qq2 ?_;exact call_range_3 g (Ss y A B q) (Or.inl<|zo<|‹1›)
theorem Sr(e:-(2^40)<i/\i<2^40)(f:-(2^40)<j/\j<2^40)(a:0<k/\k<1000000):Builtin.Range.small i j k=true:=by
 unfold Builtin.Range.small eu;have g:∀z:χ,0<=z->z/k<=z:=λz b=>Int.ediv_le_self _ b;have l:∀z:χ,0<=z->0<=z/k:=λz b=>Int.ediv_nonneg b (by lia);have c:k>0:=a.1;simp only[Builtin.Range.rangeFitsLong,jz,xx,kr,kx,c,mi];have B:∀x:χ,-(2^40)<x/\x<2^40->-2^63<=x/\x<2^63:=λx h=>⟨vq<|vr (by decide) h.1,vr h.2<|by decide⟩;refine⟨⟨⟨⟨B i e,B j f⟩,ri (by decide)<|vq a.1,vr a.2<|by decide⟩,?_⟩,.inr ⟨by lia,by lia⟩⟩;split
 ·have m:=g (j-i-1) (by lia);have d:=l (j-i-1) (by lia);generalize (j-i-1)/k=z at m d⊢;exact⟨ri (by decide)<|Int.add_nonneg d<|by decide,by lia⟩
 ·exact⟨by decide,by decide⟩
theorem aFr(J:π->aj->Prop)
  (turn:∀n s,J n s->∀f:Γ->aj->Prop,ar (model prog w) A (pyNext i) (λr j=>match r with
   |none=>R (.ok .next) j
   | γ v=>ar (model prog w) A (letOwnedTupleGo target i v) (fun _ o=>ar (model prog w) A (assign target a v) (fun _ p =>
     ar (model prog w) A (forIn d true λc r=>if r=true then do let ok <-isTrue c a (eval c a);pure (ForInStep.yield ok)else pure (ForInStep.yield r)) (λok l=>
      if ok=true then ar (model prog w) A (eval b a) (λx q=>
       ar (model prog w) A (call (.builtin "list.append") [e,x]) (λ_ t=>∃m,m<n/\J m t) f q) f l
      else ∃m,m<n/\J m l) f p) f o) f j) f s)
  (n:π) (h:J n s):codeAny (model prog w) A (.compLoop (.ListComp b [⟨target,iter,d,0⟩] scope g) 0 i e a) R s:=by
 refine codeAny_loop rfl J (λk u D=>?_) n h;show ar _ A ((compTurn (.ListComp b [⟨target,iter,d,0⟩] scope g) 0 i e a).onRaise (λy=>do noteFrame y a;theTreesLotGoes y)) _ _ u;refine wpAny_noted ?_;rw[compTurn_list];refine ξ<|m4<|ξ<|fk (turn k u D _) (λr j B=>?_) λ_ _ z=>z;cases r with
 |none=>exact aq B
 |some v=>
  refine ξ<|fk B (λ_ o E=>ξ<|fk E (λ_ p F=>ξ<|fk F (λok l C=>?_) λ_ _ z=>z) λ_ _ z=>z) λ_ _ z=>z;cases ok with
  |false=>exact aq ⟨rfl,C⟩
  |true=>exact ξ<|ξ<|fk C (λx q G=>ξ<|fk G (λ_ t H=>aq<|aq ⟨rfl,H⟩) λ_ _ z=>z) λ_ _ z=>z
def kP(X:Cx)(scope:Scope)(a:ε<|bf×Ζ)(b:ε bf)(C:Ζ)(s₀:aj)(H₀:Hp)(c:ε Ζ):Cx where
 prog:=X.prog
 w:=X.w
 K:=X.K
 mg:=X.mg
 base:=X.base
 A:=X.A
 N:=b
 s₀:=s₀
 H₀:=H₀
 env:=compEnvC scope a C X.env
 outer:=X.stack
 stack:=X.stack
 ex:=c
 fn:=λ_=>false
 calm:=X.calm
 pn:=[]
 xe:=λ_ _=>ag
def CapsOk(X:Cx)(scope:Scope)(a:ε<|bf×Ζ):ε (Θ π)->ε bf->Prop
 |[],[]=>wj
 |none::b,_::d=>CapsOk X scope a b d
 |some i::b,y::d=>(∃c,X.N[i]? =γ y/\X.env.scope.names.lookup y=γ .cell/\a.lookup y=γ c/\X.env.cells.lookup y=γ c/\(relabel scope X.env).names.lookup y=γ .cell)/\CapsOk X scope a b d
 |_,_=>ag
theorem CapsOk.at:∀{cs:ε<|Θ π}{ns:ε bf}{j i:π}{y:bf},CapsOk X scope b cs ns->cs[j]? =γ (γ i)->ns[j]? =γ y ->
  ∃c,X.N[i]? =γ y/\X.env.scope.names.lookup y=γ .cell/\b.lookup y=γ c/\X.env.cells.lookup y=γ c/\(relabel scope X.env).names.lookup y=γ .cell
 |[],_,j,i,y,_,e,_=>by simp at e
 |none::cs,[],_,_,_,h,_,_=>ew h
 |some _::cs,[],_,_,_,h,_,_=>ew h
 |none::cs,_::ns,0,i,y,h,e,_=>by simp at e
 |none::cs,_::ns,j+1,i,y,h,e,a=>CapsOk.at (cs:=cs) (ns:=ns) (j:=j) h (by simpa using e) (by simpa using a)
 |some k::cs,z::ns,0,i,y,h,e,a=>by
  have d:k=i:=by simpa using e
  have f:z=y:=by simpa using a
  subst d;subst f;exact h.1
 |some k::cs,z::ns,j+1,i,y,h,e,a=>CapsOk.at (cs:=cs) (ns:=ns) (j:=j) h.2 (by simpa using e) (by simpa using a)
theorem CapsOk.len:∀{cs:ε<|Θ π}{ns:ε bf},CapsOk X scope a cs ns->cs.length=ns.length
 |[],[],_=>rfl
 |[],_::_,h=>ew h
 |none::cs,[],h=>ew h
 |some _::cs,[],h=>ew h
 |none::cs,_::ns,h=>ea (·+1)<|CapsOk.len (cs:=cs) (ns:=ns) h
 |some _::cs,_::ns,h=>ea (·+1)<|CapsOk.len (cs:=cs) (ns:=ns) h.2
def capσ(a:ε<|Θ π)(b:L2.St):L2.St:=a.map λo=>o.bind λi=>(b[i]?).bind id
def PTs(X:Cx)(a:ε Expr)(t:TT):Prop:=
 ∀(pins:ε<|Ζ×Obj)(s:aj)(b:L2.St)(H:Hp)(Q:Bool->Hp->Prop),Inv X pins b H s->t b H Q ->
  ar (model X.prog X.w) X.A (forIn a true λc r=>if r=true then do let ok <-isTrue c X.env (eval c X.env);pure (ForInStep.yield ok)else pure (ForInStep.yield r)) (TP X pins b Q) X.xe s
def aQy:TT:=λ_ H Q=>Q true H
theorem pZ:PTs X [] aQy:=λ_ _ _ H _ I h=>wpAny_tests_nil ⟨H,I,h⟩
theorem aEj(h:PT X c t):PTs X [c] t:=λpins s a H Q I q=>wpAny_tests_one<|h pins s a H Q I q
def tLC(q:TI)(h:ε<|Θ π)(g:TG)(r:TT)(s:TE):TE:=λk H Q=>q k H λJ l=>∀D,l D=ν ->
 ∃W:π->π->L2.St->Hp->Prop,(∃m,W 0 m (capσ h k)<|fA l D<|.lst [])/\∀i m c d,W i m c d ->
  (J.stop i d/\Q (.ref D) d)\/(J.go i d/\∃N:L2.St->Hp->Prop,(∀e f,N e f->∃n,n<m/\W (i+1) n e f)/\∀x f,J.yld i d x f->g x c f λa t=>r a t λb o=>
   if b=true then s a o λy p=>∃j,p D=γ (.lst j)/\j.length<sizeLine/\N a (fA p D (.lst (j++[y])))else N a o)
structure LcOk(X:Cx)(scope:Scope)(cl:ε<|bf×Ζ)(cap:ε<|Θ π)(NC:ε bf):Prop where
 clos:closureFor scope X.env=pure cl
 kind:scope.kind= .function
 nocell:∀x∈scope.names,x.2≠ .cell
 names:∀x∈scope.names,x.2= .local->scope.names.lookup x.1=γ .local
 caps:CapsOk X scope cl cap NC
 cells:∀p∈cl,X.env.cells.lookup p.1=γ p.2
 has:((relabel scope X.env).names.all λp=>(p.2 != .cell && p.2 != .free)||(cl.lookup p.1).isSome)=true
theorem kO(L:LcOk X a b cap NC)(h:b.lookup x=γ c):X.env.cells.lookup x=γ c:=L.cells (x,c)<|hB h
theorem Iz{Z:Γ->Ζ->Result->aj->Prop}{G:V->Hp->Prop}
  (hc:X.calm=true) (L:LcOk X scope cl cap NC) (hg:∀C I K H,PG (kP X scope cl NC C I K H) target g) (ht:∀C I K H,PTs (kP X scope cl NC C I K H) ifs tt) (he:∀C I K H,PE (kP X scope cl NC C I K H) elt te)
  (I2:Inv X pins U R a) (T:Turn X.prog X.w X.K target J H it tn) (a4:tn 0 a.heap) (f2:∀b∈H,lN X pins R b)
  (hW:∀D,R D=ν->∃W:π->π->L2.St->Hp->Prop,(∃m,W 0 m (capσ cap U) (fA R D (.lst [])))/\∀i m s t,W i m s t ->
   (J.stop i t/\G (.ref D) t)\/(J.go i t/\∃N:L2.St->Hp->Prop,(∀a0 H',N a0 H'->∃m',m'<m/\W (i+1) m' a0 H')/\∀x H',J.yld i t x H'->g x s H' λa5 R=>tt a5 R λb H3=>
    if b=true then te a5 H3 λy H4=>∃ys,H4 D=γ (.lst ys)/\ys.length<sizeLine/\N a5 (fA H4 D (.lst (ys++[y])))else N a5 H3))
  (hZ:∀(D C:Ζ)(t:Hp)(s':aj)(m:bf->Θ Γ),s'.heap.Ns C m->(∀h',SameBut C s'.heap h'->∀t',Inv X pins U t {s' with heap:=h',toks:=t'})->lN X pins t C->G (.ref D) t->Z (.ref D) C (.ok .next) s') :
  ar (model X.prog X.w) X.A (newList []) (λb0 M=>ar (model X.prog X.w) X.A (newFunctionEnv scope X.env.globals cl [] X.env.qual ν .none (γ X.env)) (λa7 b1=>
   codeAny (model X.prog X.w) X.A (.compStart (.ListComp elt [⟨target,iter,ifs,0⟩] scope pos) 0 (.ref it) b0 {a7 with scope:=relabel scope X.env}) (Z b0 a7.locals) b1) E M) E a:=by
 refine vm<|wpAny_newFunctionEnv L.nocell (by intro y hy;simp at hy) (λa1 B F=>?_) L.kind;dsimp only at B F⊢;have nD:R a.heap.objs.size=ν:=I2.hok.fresh<|ω _;have A:Inv X pins U (fA R a.heap.objs.size<|.lst []) {a with heap:=a.heap.push {cls:=.type "list",dict:=ν,data:=.seq ([]:ε Γ).toArray}}:=by
  refine I2.laid (t':=a.toks) (λb u e=>Ξ _ e) (ω _) ?_;exact⟨iw _,[],0,.nil,aw _ rfl⟩
 refine qq0 λqq2=>?_;obtain⟨W,⟨m0,w0⟩,turn⟩:=hW a.heap.objs.size nD;refine qq2 ?_;generalize hD:a.heap.objs.size=D at nD A turn w0⊢;generalize hH:a.heap.push {cls:=.type "list",dict:=ν,data:=.seq ([]:ε Γ).toArray}=w at B F A⊢;have P:∀b o,a.heap.get? b=γ o->w.get? b=γ o:=λb o e=>by rw[<-hH];exact Ξ _ e
 generalize hC:w.objs.size=C at B F⊢;have h:∀b o,w.get? b=γ o->b≠C:=λb o e z=>by
  have:=cu e;rw[hC,<-z]at this;exact jo _ this
 have O:∀b o,w.get? b=γ o->a1.get? b=γ o:=λb o e=>F.extBut b o (h b o e)<|Ξ _ e;have f3:∀b∈H,lN X pins (fA R D<|.lst []) b:=λb f=>by
  obtain⟨x1,x2⟩:=f2 b f;obtain⟨o,e,_⟩:=T.obj 0 _ a4 b f;refine⟨?_,x2⟩;rw[aV (λz=>by have:=cu e;rw[z,<-hD]at this;exact jo _ this)];exact x1
 have b2:∀b∈H,b≠C:=λb f=>by
  obtain⟨o,e,_⟩:=T.obj 0 _ a4 b f;exact h b o<|P b o e
 have c3:∀x c,cl.lookup x=γ c->c≠C:=λx c e=>by
  obtain⟨v,o,ho,_⟩:=A.cell x c<|kO L e;exact h c o ho
 let Y:Cx:=kP X scope cl NC C {a with heap:=w} (fA R D<|.lst []) H
 have b5:(fA R D<|.lst []) C=ν:=A.hok.fresh (by show w.objs.size<=C;rw[hC];exact ω _);have a8:Y.Ok:=by
  refine⟨A.ok.mod,by show(relabel scope X.env).kind=_;exact L.kind,A.ok.glob,A.ok.blt,by show w.objs.size<=C;rw[hC];exact ω _,λx y c e1 e2=>A.ok.inj x y c (kO L e1)<|kO L e2,λx hx=>?_,λx c z=>(by cases z),A.ok.hd,A.ok.frames,.inl rfl,λb f=>⟨b2 b f,λx c e=>(f3 b f).2.2.2.2.1 x c<|kO L e⟩,A.bs,Α A.ok.bsz A.sz,λb o e f=>?_,λb f hm=>?_,A.stack,A.stkFree⟩
  ·have b6:∃k,(x,k)∈(relabel scope X.env).names/\(k= .cell\/k= .free):=by
    rcases hx with z|z
    ·exact⟨_,hB z,.inl rfl⟩
    ·exact⟨_,hB z,.inr rfl⟩
   obtain⟨k,hk,b7⟩:=b6;have q:=pe.mp L.has (x,k) hk;have q2:(cl.lookup x).isSome=true:=by
    rcases b7 with z|z
    ·subst z;simpa using q
    ·subst z;simpa using q
   exact pA.mp q2
  ·rcases(f3 b f).2.2.2.1 with z|z
   ·exact A.ok.noex b o e z
   ·exact ψ (av (cu e)<|Α A.ok.bsz z)<|jo _
  ·rcases Υ.mp (A.stkSub b hm)with z|z
   ·exact(f3 b f).2.1 z
   ·exact(f3 b f).2.2.1 z
 have a2:∀{t:Hp},(∀b∈H,t b=ν)->∀b∈H,lN Y [] t b:=λhn b f=>
  ⟨hn b f,b2 b f,a8.exfs b f,.inl f,λx c e=>(a8.exf b f).2 x c e,λp hp=>ψ (show p∈([]++[]:ε<|Ζ×Obj)from hp)<|by simp⟩
 have back:∀{s:L2.St}{t:Hp}{s':aj}{pn:ε<|Ζ×Obj},Inv Y pn s t s'->∀h',SameBut C s'.heap h'->∀t',Inv X pins U t {s' with heap:=h',toks:=t'}:=λ{s t s' pn} I' h' sb t'=>by
  have u:=I'.base;have nC:t C=ν:=I'.free;refine A.call' (s':={s' with heap:=h',toks:=t'}) (ch:=H) I'.os ⟨λb o e n f hx=>?_,λb o e n f hx=>?_,u.free,λb o e hx=>?_,u.tups,u.frzs,u.tbls⟩ (λb o e=>?_) I'.bare λb f=>⟨(f3 b f).2.2.2.1,(f3 b f).2.1,(f3 b f).2.2.2.2.1,(f3 b f).2.2.2.2.2⟩
  ·exact(sb.2 b<|h b o e).trans<|u.keep b o e n f hx
  ·obtain⟨sl,q⟩:=u.slot b o e n f hx;exact⟨sl,(sb.2 b<|h b o e).trans q⟩
  ·obtain⟨o',q⟩:=u.there b o e hx;exact⟨o',(sb.2 b<|h b o e).trans q⟩
  ·refine(I'.hok b o e).stay (λc v b8 q=>(sb.2 c ?_).trans q) (λ_ q=>q) λ_ _ q=>q;rintro rfl;rcases b8 with z|z
   ·subst z;rw[nC]at e;cases e
   ·rw[nC]at z;cases z
 have b9:∀t',Inv Y [] (capσ cap U) (fA R D<|.lst []) {a with heap:=a1,toks:=t'}:=λt'=>by
  refine⟨a8,rfl,A.bare,⟨λb o e _ _ _=>O b o e,λb o e _ _ _=>⟨o.slots,O b o e⟩,λ_ _ _ n _=>n,λb o e _=>⟨o,O b o e⟩,λ_ _ e=>e,λ_ _ _ e=>e,λb ps e=>⟨#[],by rw[show(fA R D (.lst [])) b=_ from e];simp⟩⟩,⟨_,B,λj y v e1 e2 e3=>?_⟩,λy c e=>?_,b5,λy c e=>A.freeC y c (kO L e),λp hp=>ψ (show p∈([]++[]:ε (Ζ×Obj))from hp) (by simp),A.hok.kept O,by
   show(cap.map _).length=NC.length
   rw[η];exact L.caps.len⟩
  ·have S:(cap.map λo=>o.bind λi=>(U[i]?).bind id)[j]? =γ (γ v):=e2;rw[el]at S;cases hq:cap[j]? with
   |none=>rw[hq]at S;cases S
   |some o=>
    rw[hq]at S;cases o with
    |none=>cases S
    |some i=>
     have e4:(U[i]?).bind id=γ v:=by simpa using S
     have e5:U[i]? =γ (γ v):=by
      cases hs:U[i]? with
      |none=>rw[hs]at e4;cases e4
      |some z=>rw[hs]at e4;simpa using e4
     refine qq0 λqq2=>?_;obtain⟨c,x1,x2,x3,x4,x5⟩:=L.caps.at hq e1;obtain⟨m,hn,hl⟩:=A.loc;refine qq2 ?_;obtain⟨u,r,l⟩:=hl i y v x1 e5<|.inr<|.inl x2;refine⟨u,r,.inr ⟨.inl x5,c,x3,?_⟩⟩;rcases l with⟨k,_⟩|⟨_,c',x6,z⟩
     ·have k':X.env.scope.names.lookup y=γ .local:=k;rw[x2]at k';cases k'
     ·rw[x4]at x6;cases x6;obtain⟨o,ho,hd⟩:=z;exact⟨o,O _ _ ho,hd⟩
  ·obtain⟨v,o,ho,hd⟩:=A.cell y c<|kO L e;exact⟨v,o,O _ _ ho,hd⟩
 have loop:∀M:aj,M={a with heap:=a1,toks:=a.toks+([]:ε<|bf×Γ).length} ->
   codeAny (model X.prog X.w) X.A (.compLoop (.ListComp elt [⟨target,iter,ifs,0⟩] scope pos) 0 (.ref it) (.ref D)<|compEnvC scope cl C X.env) (Z (.ref D) C) M:=by
  rintro M rfl;refine aFr (λn s'=>∃i s t,Inv Y [] s t s'/\tn i s'.heap/\(∀b∈H,t b=ν)/\W i n s t) ?_ m0 ⟨0,capσ cap U,_,b9 _,T.keep _ _ _ a4 λb f o e=>O b o<|P b o e,λb f=>(f3 b f).1,w0⟩;intro n s5 qQ0 E';refine qq0 λqq2=>?_;obtain⟨i,s,t,I5,b3,b4,w5⟩:=qQ0;refine qq2 ?_;rcases turn i n s t w5 with⟨stop,qn⟩|⟨go,N,hN,step⟩
  ·refine fk (T.done Y rfl rfl rfl hc i [] s5 s t E' I5 (a2 b4) b3 stop) (λr s6 ⟨hr,I6⟩=>?_) λ_ _ z=>z;subst hr;refine qq0 λqq2=>?_;obtain⟨m,hn,_⟩:=id I6.loc;refine qq2 ?_;exact hZ D C t s6 m hn (back I6) (A.fpOk (by show w.objs.size<=C;rw[hC];exact ω _) I6.free) qn
  ·refine fk (T.item Y rfl rfl rfl hc i [] s5 s t E' I5 (a2 b4) b3 go) (λr s6 ⟨u,hr,h6⟩=>?_) λ_ _ z=>z;subst hr;refine fk h6 (λ_ s7 ⟨x,H7,I7,r7,y7,a9,c0⟩=>?_) λ_ _ z=>z;have c1:=I7.pinned (a2 c0)<|T.obj _ _ a9;refine fk (hg C _ _ H _ s7 s H7 x u _ c1 r7<|step x H7 y7) (λ_ s8 ⟨a6,H8,I8,q8⟩=>?_) λ_ _ z=>ew z;have again:∀{a3:L2.St}{H9:Hp}{s9:aj},Inv Y ([]++vL H s7.heap) a3 H9 s9->N a3 H9->∃m,m<n/\∃i a0 H',Inv Y [] a0 H' s9/\tn i s9.heap/\(∀b∈H,H' b=ν)/\W i m a0 H':=λ{a3 H9 s9} I9 n9=>by
    obtain⟨m',hm,w9⟩:=hN a3 H9 n9;refine⟨m',hm,i+1,a3,H9,I9.unpinned,T.keep _ _ _ a9 λb f o e=>(I9.pin (b,o)<|cc _<|cc _<|lH f e).1,λb f=>?_,w9⟩;obtain⟨o,e,d⟩:=T.obj _ _ a9 b f;exact(I9.pin (b,o)<|cc _<|cc _<|lH f e).2.1
   refine fk (ht C _ _ H _ s8 a6 H8 _ I8 q8) (λok s9 ⟨H9,I9,q9⟩=>?_) λ_ _ z=>ew z;cases ok with
   |false=>
    rw[ι bg]at q9⊢;exact again I9 q9
   |true=>
    rw[ρ rfl]at q9⊢;refine fk (he C _ _ H _ s9 a6 H9 _ I9 q9) (λv sa ⟨y,Ha,Ia,ra,ys,hy,hl,na⟩=>?_) λ_ _ z=>ew z;have c2:=zT (X:=Y) _ sa a6 Ha (.ref D) [y] (.ref D) [v] (λ_ Hb=>N a6 Hb) Ia rfl (.cons ra .nil) ⟨D,ys,y,rfl,rfl,hy,hl,na⟩;exact fk c2 (λ_ sb ⟨_,Hb,Ib,_,nb⟩=>again Ib nb) λ_ _ z=>ew z
 exact codeAny_compStart_list (loop _ rfl)<|T.self _ 0 _ _ _ (T.keep _ _ _ a4 λb f o e=>O b o<|P b o e)<|loop _ rfl
theorem Po(k:X.calm=true)(L:LcOk X O U cap NC)(l:PI X P R wi)(n:∀C a b c,PG (kP X O U NC C a b c) P g)(o:∀C a b c,PTs (kP X O U NC C a b c) S Z)(p:∀C a b c,PE (kP X O U NC C a b c) W Y)
  (r:∀x,foldedSetIterable R X.env x=pure x:=by intro _;rfl):PE X (.ListComp W [⟨P,R,S,0⟩] O pos) (tLC wi cap g Z Y):=by
 intro pins s t H Q I h;rw[eval_ListComp];refine p5 (use:=ν) rfl r L.clos L.kind L.names<|eP (l pins s t H _ I h) λE i d=>eP d λu j e=>?_;refine qq0 λqq2=>?_;obtain⟨F,c,K,J,M,rfl,I2,T,f,v,w⟩:=e;refine qq2 ?_;refine Iz (G:=Q) k L n o p I2 T f v w λD C y N m z back _ q=>?_;exact⟨m,z,λA B=>⟨.ref D,y,back A B _,rfl,q⟩⟩
mutual
inductive DV(K:ς)(H:Hp):V->μ->Prop
 |non:DV K H .non .none
 |bl (b:Bool):DV K H (.bl b)<|.bool b
 |int (i:χ):DV K H (.int i)<|.int i
 |str (x:bf):DV K H (.str x)<|.str x
 |tup {a:Ζ} {xs:ε V} {ds:ε μ}:SqT K H a xs->DVs K H xs ds->DV K H (.ref a) (.tuple ds)
 |lst {a:Ζ} {xs:ε V} {ds:ε μ}:SqL K H a xs->DVs K H xs ds->DV K H (.ref a) (.list ds)
  |dct {a:Ζ} {x y:bf}:H a=γ (.dK [(.inr x,.str y)])->DV K H (.ref a) (.dict [(.str x,.str y)])
  |dc0 {a:Ζ}:H a=γ (.dK [])->DV K H (.ref a) (.dict [])
inductive DVs(K:ς)(H:Hp):ε V->ε μ->Prop
 |nil:DVs K H [] []
 |cons {x:V} {xs:ε V} {d:μ} {ds:ε μ}:DV K H x d->DVs K H xs ds->DVs K H (x::xs) (d::ds)
end
section
variable{X:Cx}{pins:ε (Ζ×Obj)}{σ:L2.St}{H:Hp}{s:aj}
mutual
theorem gF(I:Inv X pins σ H s):∀{x:V}{d:μ}{u:Γ},DV X.K H x d->RelV x u->∃as,Reads s.heap u d as
 |_,_,u,.non,r=>by
  cases (show u=Value.none from r);exact⟨_,.none⟩
 |_,_,u,.bl b,r=>by
  cases (show u=Value.bool b from r);exact⟨_,.bool b⟩
 |_,_,u,.int i,r=>by
  obtain⟨t,rfl⟩:=r;exact⟨_,.int i t⟩
 |_,_,u,.str x,r=>by
  obtain⟨t,rfl⟩:=r;exact⟨_,.str x t⟩
 |_,_,u,@DV.tup _ _ a P R h B,r=>by
  cases (show u=cb a from r);refine qq0 λqq2=>?_;obtain⟨C,D,⟨o,g,j,n,m⟩,_⟩:=I.tuple h;obtain⟨as,q⟩:=nI I B D;refine qq2 ?_;exact⟨_,.tuple g j m<|by simpa using q⟩
 |_,_,u,@DV.lst _ _ a P R h B,r=>by
  cases (show u=cb a from r);refine qq0 λqq2=>?_;obtain⟨C,D,⟨o,n,g,j,_,m⟩,_⟩:=I.list h;obtain⟨as,q⟩:=nI I B D;refine qq2 ?_;exact⟨_,.list g j m<|by simpa using q⟩
 |_,_,u,@DV.dct _ _ a x y h,r=>by
  cases (show u=cb a from r);refine qq0 λqq2=>?_;obtain⟨_,_,S,c,o,E,T,g,j,m,U,A,_⟩:=(show ObjOk X.prog X.w H s.heap a (.dK [(.inr x,.str y)])from I.hok a _ h);refine qq2 ?_;unfold KV at c;cases c with
  |@cons p q ps qs W t=>
   cases t;obtain⟨k,v⟩:=q;obtain⟨Y,F,Z⟩:=W;have G:Sum.inr x=k:=Y;subst G;have J:v=Value.str y F:=Z;subst J;generalize f:E.toList=l at A;cases A with
   |@cons e kv a0 kvs' K L M=>
    cases M;have N:wO (.inr x) e.key=true:=K;have O:∃w,e.key=Value.str x w:=by
     rcases eE N with⟨i,w,z,_⟩|⟨x2,w,z,z2⟩
     ·exact nomatch z
     ·cases z;exact⟨w,z2⟩
    obtain⟨w,O⟩:=O;have ev:e.val=Value.str y F:=L;exact⟨_,.dict (as:=[]++[]) (bs:=[]++[]) g j.1 m (by rw[f];show ReadsAll _ [e.key] [dB x] _;rw[O];exact .cons (.str x w) .nil) (by rw[f];show ReadsAll _ [e.val] [dB y] _;rw[ev];exact .cons (.str y F) .nil)⟩
 |_,_,u,@DV.dc0 _ _ a h,r=>by
  cases (show u=cb a from r);refine qq0 λqq2=>?_;obtain⟨_,_,S,c,o,E,T,g,j,m,U,A,_⟩:=(show ObjOk X.prog X.w H s.heap a (.dK [])from I.hok a _ h);refine qq2 ?_;unfold KV at c;cases c;generalize f:E.toList=l at A;cases A;exact⟨_,.dict (as:=[]) (bs:=[]) g j.1 m (by rw[f];exact .nil) (by rw[f];exact .nil)⟩
theorem nI(I:Inv X pins σ H s):∀{a:ε V}{b:ε μ}{c:ε Γ},DVs X.K H a b->Vals a c->∃d,ReadsAll s.heap c b d
 |_,_,_,.nil,.nil=>⟨_,.nil⟩
 |_,_,_,.cons h e,.cons r f=>by
  obtain⟨d,q⟩:=gF I h r;obtain⟨bs,g⟩:=nI I e f;exact⟨_,.cons q g⟩
end
end
structure Enc(α:Type) where
 d:α->μ
 dep:π
 small:dep<=60
 lay:∀x,(d x).canLay0=true
 depth:∀x,(d x).depth<=dep
 eqv:∀x y,PyData.eqv (d x) (d y)=true↔x=y
theorem Enc.shaped(e:Enc a)(x:a):SeqAt.shaped (e.d x)=true:=by
 unfold SeqAt.shaped;rw[e.lay,uq];exact cD (Α (e.depth x)<|Α e.small<|by decide)
def aTe:Enc χ:=⟨.int,0,by decide,λ_=>rfl,λ_=>by simp[PyData.depth],λx y=>by simp[PyData.eqv]⟩
theorem qV(e:Enc b):∀(a:ε b),PyData.canLayAll0 (a.map e.d)=true/\PyData.depthAll (a.map e.d)<=e.dep
 |[]=>⟨rfl,by simp[PyData.depthAll]⟩
 |x::a=>by
  obtain⟨c,f⟩:=qV e a;have d:=e.lay x;have g:=e.depth x;constructor
  ·show((e.d x).canLay0 && PyData.canLayAll0 (a.map e.d))=true;rw[d,c];rfl
  ·show PyData.depthAll (e.d x::a.map e.d)<=e.dep;simp only[PyData.depthAll];lia
theorem wT(e:Enc c):∀(a b:ε c),PyData.eqvAll (a.map e.d) (b.map e.d)=true↔a=b
 |[],[]=>by simp[PyData.eqvAll]
 |[],y::b=>by simp[PyData.eqvAll]
 |x::a,[]=>by simp[PyData.eqvAll]
 |x::a,y::b=>by
  have h:=wT e a b;have d:=e.eqv x y;simp only[Μ,PyData.eqvAll,jz,h,d,xy]
def An(e:Enc b)(h:e.dep<=50):Enc (ε b) where
 d:=λa=>.list<|a.map e.d
 dep:=e.dep+1
 small:=‹6›
 lay:=λa=>by show PyData.canLayAll0 _=true;exact(qV e a).1
 depth:=λa=>by
  have:=(qV e a).2;simp only[PyData.depth];exact 48
 eqv:=λa c=>by
  show PyData.eqvAll _ _=true↔_;exact wT e a c
def eRat:Enc θ where
 d:=λq=>.tuple [.int q.num,.int (q.den:χ)]
 dep:=1
 small:=by decide
 lay:=λq=>by simp[PyData.canLay0,PyData.canLayAll0]
 depth:=λq=>by simp[PyData.depth,PyData.depthAll]
 eqv:=λp q=>by
  simp only[PyData.eqv,PyData.eqvAll,jz,kx,AL];constructor
  ·rintro⟨a,b⟩;exact zp a (by lia)
  ·rintro rfl;exact⟨rfl,rfl⟩
def Su(K:ς)(c:Bool):R2:=λx y H Q=>∃(d:Type)(e:Enc d)(a b:d),DV K H x (e.d a)/\DV K H y (e.d b)/\∀k:Bool,(k=true↔a=b)->Q (.bl<|if c then !k else k) H
def aLv(K:ς)(b:Bool):R2:=λx y H Q=>∃(c:Type)(e:Enc c)(a:c)(bs:ε c),DV K H x (e.d a)/\DV K H y (.list<|bs.map e.d)/\∀k:Bool,(k=true↔a∈bs)->Q (.bl<|if b then !k else k) H
theorem aMq(c:X.A.units+64<cLine):lM X (compareOp .Eq) (Su X.K false):=by
 intro pins s l H x y v u Q I d f h;refine qq0 λqq2=>?_;obtain⟨m,e,a,b,g,i,q⟩:=h;obtain⟨n,j⟩:=gF I g d;obtain⟨bs,k⟩:=gF I i f;refine qq2 ?_;exact eq_dataH j k (e.shaped a) (e.shaped b) c ⟨.bl _,H,I,rfl,q _<|e.eqv a b⟩
theorem aMn(c:X.A.units+64<cLine):lM X (compareOp .NotEq) (Su X.K true):=by
 intro pins s l H x y v u Q I d f h;refine qq0 λqq2=>?_;obtain⟨m,e,a,b,g,i,q⟩:=h;obtain⟨n,j⟩:=gF I g d;obtain⟨bs,k⟩:=gF I i f;refine qq2 ?_;exact ne_dataH j k (e.shaped a) (e.shaped b) c ⟨.bl _,H,I,rfl,q _<|e.eqv a b⟩
theorem Eu(e:Enc c)(a:c):∀bs:ε c,((bs.map e.d).any λy=>PyData.eqv y<|e.d a)=true↔a∈bs
 |[]=>by simp
 |b::bs=>by
  have h:=Eu e a bs;have d:=e.eqv b a;simp only[Μ,yr,xx,h,d,Υ];constructor
  ·rintro(z|z)
   ·exact .inl z.symm
   ·exact .inr z
  ·rintro(z|z)
   ·exact .inl z.symm
   ·exact .inr z
theorem aMp(j:X.A.units+64<cLine):lM X (compareOp .In) (aLv X.K false):=by
 intro pins s k H x y v u Q I b c h;refine qq0 λqq2=>?_;obtain⟨l,e,a,bs,d,f,q⟩:=h;obtain⟨m,g⟩:=gF I d b;obtain⟨n,i⟩:=gF I f c;refine qq2 ?_;have o:=e.depth a;have p:=e.small;exact za i g (qV e bs).1 (e.lay a) (by lia) ⟨.bl _,H,I,rfl,q _<|Eu e a bs⟩
structure ExcK(K:ς)(C:Ζ):Prop where
 fg:W.findIn K (.ref C) "__getattribute__"=γ (γ<|.builtin "BaseException.__getattribute__")
 fa:W.findIn K (.ref C) "__getattr__"=γ ν
 fc:W.findIn K (.ref C) "__class__"=γ (γ<|.builtin "object.__class__")
 so:W.subIn K (.ref C) (.type "object")=γ true
 sb:W.subIn K (.ref C) (.type "BaseException")=γ true
def aUv(x C:Ζ)(h:gy):Prop:=∃o a,h.get? x=γ o/\o.cls= .ref C/\o.data= .fields a
theorem aNk(h:X.K=K):IxR X (aEg K):=by subst h;exact aFv
theorem aWk(h:X.K=K):IxR X (Xt K):=by subst h;exact aNl
theorem yH(h:X.K=K):iM X (.builtin "len") (λb H Q=>∃p a,b=[.ref p]/\(SqL K H p a\/SqT K H p a)/\Q (.int a.length) H):=by subst h;exact Ep
theorem aSs(h:X.K=K):iM X (.type "list") (λb H Q=>∃p a,b=[.ref p]/\(SqL K H p a\/SqT K H p a)/\∀l,H l=ν->Q (.ref l) (fA H l<|.lst a)):=by subst h;exact En
theorem Xc(h:X.K=K):SlR X (aLu K):=by subst h;exact aEc
theorem eqK(h:X.K=K)(a:X.A.units+64<cLine):lM X (compareOp .Eq) (Su K false):=by subst h;exact aMq a
theorem neK(h:X.K=K)(a:X.A.units+64<cLine):lM X (compareOp .NotEq) (Su K true):=by subst h;exact aMn a
theorem inK(h:X.K=K)(a:X.A.units+64<cLine):lM X (compareOp .In) (aLv K false):=by subst h;exact aMp a
theorem Ye(h:X.K=K)(b:PE X l a):PI X tg l (Qm K a):=by subst h;exact aEm b
theorem aRw(h:X.K=K)(d:X.calm=true)(e:PGs X a t)
  (f:(assignEach a X.env).length=n:=by rfl) (c:(assignEach a X.env).findIdx? (·.1)=ν:=by rfl):PG X (.Tuple a k b) (aNw K n t):=by subst h;exact aMd d e f c
theorem Gp(R:X.N.Nodup)(S:X.N[i]? =γ x)(F:X.env.scope.names.lookup x=γ .local)(U:X.calm=true)(L:LcOk X scope cl cap NC)(n:PI X target iter wi)
  (W:∀C c d f,PG (kP X scope cl NC C c d f) target g) (Y:∀C c d f,PTs (kP X scope cl NC C c d f) ifs tt) (Z:∀C c d f,PE (kP X scope cl NC C c d f) elt te)
  (p:swapsWith (.ListComp elt [⟨target,iter,ifs,0⟩] scope pos) (γ<|.Name x pos') spos.line X.env=pure true:=by rfl)
  (hs:∀x,foldedSetIterable iter X.env x=pure x:=by intro _;rfl):PS X (.Assign [.Name x pos'] (.ListComp elt [⟨target,iter,ifs,0⟩] scope pos) spos) (nW (tLC wi cap g tt te)<|kR i):=by
 intro pins s r H D I h;rw[exec_Assign_Name_used _ _ _ _ p];refine ξ<|m4<|ξ ?_;show ar _ X.A (do let _ <-comprehension (.ListComp elt [⟨target,iter,ifs,0⟩] scope pos) scope X.env _ (newList []) false (eval iter X.env) (γ<|assign (.Name x pos') X.env)) _ _ s
 refine ξ (fk (p5 (use:=γ (assign (.Name x pos') X.env)) (Q:=λ_ j=>SP X pins D .next j) rfl hs L.clos L.kind L.names
  (eP (n pins s r H _ I h) λxv K k=>eP k λa0 M l=>?_)) (λ_ j t=>aq (aq t)) λ_ _ e=>e)
 refine qq0 λqq2=>?_;obtain⟨it,f,tn,J,H2,rfl,u,T,w,f2,t⟩:=l;refine qq2 ?_;refine Iz (G:=λv H'=>D.nx (r.set i<|some v) H') U L W Y Z u T w f2 t λy C N j m hn back A q=>?_;refine qq0 λqq2=>?_;obtain⟨z1,O,z3,z4,P,z6⟩:=A;refine qq2 ?_;have Ib:Inv X pins r N j:=back j.heap (.refl _ _) j.toks;show ar _ X.A (assign (.Name x pos') X.env<|.ref y) _ _ _;refine vj<|zD Ib R S (.inl F) (show RelV (.ref y) (.ref y)from rfl) (λs2 u ⟨a,sb,ha⟩=>?_)<|.inr F;have B:C≠a:=by
  rcases ha with z|z
  ·rw[z];exact O
  ·exact λe=>P x a z e.symm
 refine⟨m,hn.sameBut sb B,λh' E=>⟨_,N,?_,q⟩⟩;exact u.turned (t':=s2.toks) (it:=C) (λb o hb e=>(E.2 b hb).trans e) z1 O z4 P z6
theorem Aa:∀{b:ε χ}{c:ε Γ},Vals (b.map V.int) c->∃a:ε<|χ×vh,c=a.map (λp=>qc p.1 p.2)/\a.map (·.1)=b
 |[],_,.nil=>⟨[],rfl,rfl⟩
 |n::b,_,.cons r d=>by
  refine qq0 λqq2=>?_;obtain⟨t,rfl⟩:=r;obtain⟨a,rfl,e⟩:=Aa d;refine qq2 ?_;exact⟨(n,t)::a,rfl,by simp[e]⟩
theorem aCi(c:X.calm=true):iM X (.builtin "sum") (λb H Q=>∃(p:Ζ)(a:ε χ),b=[.ref p]/\SqL X.K H p (a.map V.int)/\Q (.int a.sum) H):=by
 intro pins s n H b o Q I r h;refine qq0 λqq2=>?_;obtain⟨p,a,rfl,d,q⟩:=h;obtain⟨u,rfl,f⟩:=jB r;refine qq2 ?_;cases f;refine qq0 λqq2=>?_;obtain⟨g,i,j,t⟩:=I.list d;obtain⟨k,rfl,e⟩:=Aa i;refine qq2 ?_;have l:s.heap.IsList p (intItems k.toArray):=by
  have:=j.isList;simpa[intItems]using this
 refine sum_intListG (I.ok.hd c) l λv tk t' m=>?_;refine⟨.int a.sum,H,I.kept (t':=tk) m,⟨t',?_⟩,q⟩;rw[preSum_eq,bA<|by simp];simp[e]
theorem aVy(h:X.K=K)(b:X.calm=true):iM X (.builtin "sum") (λc H Q=>∃(p:Ζ)(a:ε χ),c=[.ref p]/\SqL K H p (a.map V.int)/\Q (.int a.sum) H):=by subst h;exact aCi b
end Lx
namespace Fm
theorem abs_if(i:χ):(if i<0 then -i else i)=((i.natAbs:π):χ):=by lia
theorem gcd_step(a b:χ)(h:0<b):ck b (a%b)=ck a b:=by
 rw[vt b<|a%b,Int.emod_def];exact Int.gcd_sub_mul_left_left _ _ _
theorem gcd_zero(h:0<=a):((ck a 0:π):χ)=a:=by
 rw[Int.gcd_zero_right];lia
theorem gcd_le_right(c:b≠0):ck a b<=b.natAbs:=wR ‹15›<|Int.gcd_dvd_natAbs_right a b
theorem gcd_pos_right(c:b≠0):0<ck a b:=Int.gcd_pos_of_ne_zero_right a c
theorem fr_num(e:b≠0):t.fdiv (if b<0 then -((ck t b:π):χ)else((ck t b:π):χ))=(bz t b).num:=by
 rw[yx,vt b t];have f:(0:χ)<((ck t b:π):χ):=by have:=gcd_pos_right (a:=t) e;exact 19
 have h:((ck t b:π):χ)∣t:=w4 t b;split
 ·rename_i c
  rw[Int.sign_eq_neg_one_of_neg c];obtain⟨k,d⟩:=h;generalize ((ck t b:π):χ)=g at f d;subst d;rw[show -1*(g*k)=g*(-k) by grind,p6 _<|‹21›];rw[show g*k=(-g)*(-k) by grind];exact kz _ (by lia)
 ·rename_i c
  rw[oo<|by lia,sv,kj _<|‹29›]
theorem fr_den(c:b≠0):b.fdiv (if b<0 then -((ck t b:π):χ)else((ck t b:π):χ))=(((bz t b).den:π):χ):=by
 rw[u4,ι c,vt b t];have e:(0:χ)<((ck t b:π):χ):=by have:=gcd_pos_right (a:=t) c;exact 19
 have f:((ck t b:π):χ)∣b:=vu t b;rw[mn];split
 ·rename_i h
  rw[show((b.natAbs:π):χ)=-b by lia];obtain⟨k,d⟩:=f;generalize ((ck t b:π):χ)=g at e d;subst d;rw[show -(g*k)=g*(-k) by grind,p6 _<|‹21›];rw[show g*k=(-g)*(-k) by grind];exact kz _ (by lia)
 ·rename_i h
  rw[show((b.natAbs:π):χ)=b by lia,kj _<|‹29›]
theorem add_parts(a b:θ)(s:π)(h:s=a.den.gcd b.den)(f:χ)(i:f=a.num*((b.den/s:π):χ)+b.num*((a.den/s:π):χ))(g:π)(c:g=s.gcd f.natAbs):
  (a+b).num=f/(g:χ)/\(a+b).den=a.den/s*(b.den/g):=by
 have j:0<s:=by rw[h];exact lq _<|dX a.den_nz
 have o:0<g:=by rw[c];exact lq _ j
 have k:g∣s:=by rw[c];exact n4 _ _
 have l:s∣b.den:=by rw[h];exact vw _ _
 have m:g∣b.den:=oa k l;have e:a.den/s*(b.den/g)=a.den/s*b.den/g:=(Nat.mul_div_assoc _ m).symm;rw[e];show(Rat.add a b).num=_/\(Rat.add a b).den=_;unfold Rat.add;simp only[<-h];split
 ·rename_i n
  have:g=1:=by rw[c,n];exact Nat.gcd_one_left _
  subst this;dsimp only;rw[i,n];simp
 ·rename_i n
  simp only[Rat.maybeNormalize_eq];have d:(a.num*((b.den/s:π):χ)+b.num*((a.den/s:π):χ)).natAbs.gcd s=g:=by rw[c,<-i,Nat.gcd_comm]
  have p:(g:χ)∣f:=by
   rw[c];exact sx.mpr<|vw _ _
  constructor
  ·rw[qh,d,<-i,nz p]
  ·rw[d]
theorem mul_parts(a b:θ):(a*b).num=(bz a.num (b.den:χ)).num*(bz b.num (a.den:χ)).num/\(a*b).den=(bz a.num (b.den:χ)).den*(bz b.num (a.den:χ)).den:=by
 show(Rat.mul a b).num=_/\(Rat.mul a b).den=_;have c:(a.den:χ)≠0:=by have:=a.den_nz;exact 28
 have d:(b.den:χ)≠0:=by have:=b.den_nz;exact 28
 rw[yx,yx,u4,u4,ι c,ι d];have e:((b.den:π):χ).sign=1:=oo (by have:=b.den_nz;lia);have f:((a.den:π):χ).sign=1:=oo (by have:=a.den_nz;lia);rw[e,f,sv,sv];unfold Rat.mul;dsimp only;have g:ck ((b.den:π):χ) a.num=a.num.natAbs.gcd b.den:=by rw[vt];rfl
 have h:ck ((a.den:π):χ) b.num=b.num.natAbs.gcd a.den:=by rw[vt];rfl
 rw[g,h];constructor
 ·rw[qh,qh,nz<|sx.mpr<|n4 _ _,nz<|sx.mpr<|n4 _ _]
 ·rw[fm];rfl
theorem div_inv(b:θ):bz (b.den:χ) b.num=b⁻¹:=(Rat.inv_def b).symm
theorem less_iff(a b:θ):(a.num*(b.den:χ)<b.num*(a.den:χ))↔a<b:=(A8 a b).symm
theorem den_pos(q:θ):(1:χ)<=(q.den:χ):=by have:=q.den_nz;lia
theorem aBz(t b:χ)(a:b≠0):(bz t b).num*b=t*((bz t b).den:χ):=by
 have h:=mq<|bz t b;exact(Rat.divInt_eq_divInt_iff (by have:=(bz t b).den_nz;exact 28) a).mp h
theorem num_le(t:χ)(c:b≠0):(bz t b).num.natAbs<=t.natAbs:=by
 have h:=aBz t b c;have i:=Fm.den_pos<|bz t b;rw[<-fr_num c];have e:(0:χ)<((ck t b:π):χ):=by have:=gcd_pos_right (a:=t) c;exact 19
 obtain⟨k,d⟩:((ck t b:π):χ)∣t:=w4 t b;generalize ((ck t b:π):χ)=g at e d;subst d;have f:k.natAbs<=(g*k).natAbs:=by
  rw[dj];exact ot _ (by lia)
 split
 ·rw[show g*k=(-g)*(-k) by grind,kz _<|by lia];rw[show(-g)*(-k)=g*k by grind];exact 49
 ·rw[kz _<|‹21›];exact f
theorem den_le(t:χ)(a:b≠0):(bz t b).den<=b.natAbs:=by
 rw[u4,ι a];exact pf _ _
theorem num_eq(q:θ):(q.num:θ)=q*(q.den:θ):=by
 have h:=mq q;rw[ur]at h;have b:((q.den:χ):θ)≠0:=by
  have:=q.den_nz;intro z;rw[Ι]at z;exact this (by simpa using z)
 rw[Ι]at h b;have c:=gj (a:=(q.num:θ)) b;rw[h]at c;exact c.symm
theorem fr_pos(d:0<b):t/((ck t b:π):χ)=(bz t b).num/\b/((ck t b:π):χ)=((bz t b).den:χ):=by
 have a:=fr_num (t:=t) (b:=b) ‹21›;have c:=fr_den (t:=t) (b:=b) ‹21›;rw[ι<|by lia,kj _<|‹50›]at a c;exact⟨a,c⟩
theorem eq_divInt{n m:χ}(a:m≠0)(h:q*(m:θ)=(n:θ)):q=bz n m:=by
 rw[ur,<-h];have:(m:θ)≠0:=by simpa using a
 exact(Rat.mul_div_cancel this).symm
theorem size_of{n m:χ}(a:m≠0)(h:q*(m:θ)=(n:θ)):q.num.natAbs<=n.natAbs/\q.den<=m.natAbs:=by
 rw[eq_divInt a h];exact⟨num_le n a,den_le n a⟩
structure Sz(N:π)(q:θ):Prop where
 n:q.num.natAbs<=N
 d:q.den<=N
theorem Sz.mono(h:Sz M q)(l:M<=N):Sz N q:=⟨Α h.n l,Α h.d l⟩
theorem Sz.neg(h:Sz N q):Sz N (-q):=⟨by show(-q.num).natAbs<=N;rw[sj];exact h.n,h.d⟩
theorem Fy(a b:θ)(f:θ)(n:χ)(h:f*((a.den:χ)*(b.den:χ):χ)=(n:θ))(c:Sz M a)(d:Sz N b)(e:n.natAbs<=2*(M*N)):Sz (2*(M*N)) f:=by
 have g:(a.den:χ)*(b.den:χ)≠0:=kg (by have:=a.den_nz;exact 28) (by have:=b.den_nz;exact 28);obtain⟨i,j⟩:=size_of g h;refine⟨Α i e,Α j ?_⟩;rw[dj];have:=Τ c.d d.d;simp only[en];lia
theorem Sz.add(c:Sz M a)(d:Sz N b):Sz (2*(M*N)) (a+b):=by
 refine Fy a b _ (a.num*(b.den:χ)+b.num*(a.den:χ)) ?_ c d ?_
 ·rw[ae,j0,ae,ae,Ι,Ι,num_eq a,num_eq b];grind
 ·have g:=Τ c.n d.d;have e:=Τ d.n c.d;have f:=vx (a.num*(b.den:χ))<|b.num*(a.den:χ);rw[dj,dj,en,en]at f;rw[fm N M]at e;lia
theorem Sz.sub(c:Sz M a)(d:Sz N b):Sz (2*(M*N)) (a-b):=by
 rw[mr];exact c.add d.neg
theorem Sz.mul(c:Sz M a)(d:Sz N b):Sz (2*(M*N)) (a*b):=by
 refine Fy a b _ (a.num*b.num) ?_ c d ?_
 ·rw[ae,ae,Ι,Ι,num_eq a,num_eq b];grind
 ·have e:=Τ c.n d.n;rw[dj];lia
theorem Sz.inv(a:Sz N b)(c:b≠0):Sz N b⁻¹:=by
 have d:b.num≠0:=λz=>c<|sy.mp z;have e:b⁻¹*((b.num:χ):θ)=((b.den:χ):θ):=by
  rw[num_eq b,Ι];grind
 obtain⟨f,g⟩:=size_of d e;exact⟨by have:=a.d;rw[en]at f;exact 2,Α g a.n⟩
theorem Sz.div(c:Sz M a)(d:Sz N b)(e:b≠0):Sz (2*(M*N)) (a/b):=by
 rw[jb];exact c.mul<|d.inv e
end Fm
namespace Fm
theorem Ei(t:χ)(a:b≠0):(bz t b).den∣b.natAbs:=by
 have h:=ea natAbs<|aBz t b a;rw[dj,dj]at h;have c:(bz t b).den∣(bz t b).num.natAbs*b.natAbs:=⟨t.natAbs,by rw[h,fm];simp⟩;have d:Nat.Coprime (bz t b).den (bz t b).num.natAbs:=Nat.Coprime.symm (bz t b).reduced;exact d.dvd_of_dvd_mul_left c
theorem oS{n:χ}{L:π}(a:L≠0)(h:q*(L:θ)=(n:θ)):q.den∣L:=by
 have e:q=bz n (L:χ):=eq_divInt ‹28› (by rw[Ι];exact h);rw[e];have:=Ei n (b:=(L:χ)) ‹28›;simpa using this
theorem lZ{L:π}(h:q.den∣L):q*(L:θ)=((q.num*((L/q.den:π):χ):χ):θ):=by
 obtain⟨c,rfl⟩:=h;have a:0<q.den:=dX q.den_nz;rw[Nat.mul_div_cancel_left _ a,ae,num_eq q,fy,Ι];exact 47
structure Cm(L B:π)(q:θ):Prop where
 d:q.den∣L
 lo:-(B:θ)<=q
 hi:q<=(B:θ)
theorem lK{a b:π}(h:a<=b):(a:θ)<=(b:θ):=by
 rw[<-Ι,<-Ι];exact bh.mpr ‹19›
theorem jY(a:π):(0:θ)<=(a:θ):=lK<|iw a
theorem Cm.mono(h:Cm L B q)(a:L∣L')(b:B<=B'):Cm L' B' q:=by
 have:=lK b;exact⟨oa h.d a,by have:=h.lo;grind,by have:=h.hi;exact 43⟩
theorem Cm.neg(h:Cm L B q):Cm L B (-q):=⟨h.d,by have:=h.hi;grind,by have:=h.lo;grind⟩
theorem Cm.add(a:Cm L B p)(b:Cm L C q):Cm L (B+C) (p+q):=by
 refine⟨?_,?_,?_⟩
 ·by_cases c:L=0
  ·rw[c];exact AM _
  ·refine oS c (n:=p.num*((L/p.den:π):χ)+q.num*((L/q.den:π):χ)) ?_;rw[j0,<-lZ a.d,<-lZ b.d];grind
 ·rw[xm];have:=a.lo;have:=b.lo;grind
 ·rw[xm];have:=a.hi;have:=b.hi;grind
theorem Cm.sub(a:Cm L B p)(b:Cm L C q):Cm L (B+C) (p-q):=by
 rw[mr];exact a.add b.neg
theorem Yx{a b B C:θ}(c:-B<=a)(d:a<=B)(e:-C<=b)(f:b<=C):a*b<=B*C/\-(B*C)<=a*b:=by
 have g:0<=(B-a)*(C+b):=Ν (by grind) (by grind);have h:0<=(B+a)*(C-b):=Ν (by grind) (by grind);have i:0<=(B-a)*(C-b):=Ν (by grind) (by grind);have j:0<=(B+a)*(C+b):=Ν (by grind) (by grind);constructor <;>grind
theorem Cm.mul(a:Cm L B p)(b:Cm M C q):Cm (L*M) (B*C) (p*q):=by
 refine⟨?_,?_,?_⟩
 ·by_cases c:L*M=0
  ·rw[c];exact AM _
  ·refine oS c (n:=(p.num*((L/p.den:π):χ))*(q.num*((M/q.den:π):χ))) ?_;rw[ae,<-lZ a.d,<-lZ b.d,fy];grind
 ·rw[fy];exact(Yx a.lo a.hi b.lo b.hi).2
 ·rw[fy];exact(Yx a.lo a.hi b.lo b.hi).1
theorem Cm.int{i:χ}(h:i.natAbs<=B):Cm 1 B (i:θ):=by
 refine⟨by simp,?_,?_⟩
 ·rw[<-Ι,<-ee];exact bh.mpr (by lia)
 ·rw[<-Ι];exact bh.mpr (by lia)
theorem Cm.zero:Cm L B 0:=by
 have:=jY B;exact⟨by simp,by grind,this⟩
theorem Cm.num(h:Cm L B q):q.num.natAbs<=B*q.den:=by
 have b:(0:θ)<=(q.den:θ):=jY _;have e:=num_eq q;have c:(q.num:θ)<=((B*q.den:π):θ):=by
  rw[e,fy];exact mw h.hi b
 have a:-((B*q.den:π):θ)<=(q.num:θ):=by
  rw[e,fy,<-AN];exact mw h.lo b
 rw[<-Ι]at c a;rw[<-ee]at a;have d:=bh.mp c;have f:=bh.mp a;lia
theorem Cm.den(h:Cm L B q)(a:0<L):q.den<=L:=wR a h.d
theorem Cm.sz(h:Cm L B q)(a:0<L):Sz ((B+1)*L) q:=by
 have c:=h.num;have b:=h.den a;have d:B*q.den<=B*L:=Χ _ b;have e:(B+1)*L=B*L+L:=by rw[l5,jc]
 exact⟨by lia,by lia⟩
theorem Cm.of(b:q.den∣L)(g:q.num.natAbs<=B*q.den):Cm L B q:=by
 have a:(0:θ)<(q.den:θ):=by
  rw[<-Ι];exact gb.mpr (by have:=q.den_nz;lia)
 have e:=num_eq q;have d:(q.num:θ)<=(B:θ)*(q.den:θ):=by
  rw[<-fy,<-Ι];exact bh.mpr (by lia)
 have f:-((B:θ)*(q.den:θ))<=(q.num:θ):=by
  rw[<-fy,<-Ι,<-ee];exact bh.mpr (by lia)
 rw[e]at d f;refine⟨b,?_,?_⟩
 ·refine jk.mp λc=>?_;have:=md c a;rw[AN]at this;grind
 ·refine jk.mp λc=>?_;have:=md c a;grind
theorem Cm.div(a:0<b)(c:b∣L)(d:t.natAbs<=B*b):Cm L B (bz t (b:χ)):=by
 have e:=Ei t (b:=(b:χ)) (by lia);have f:=aBz t (b:χ) (by lia);refine Cm.of (oa (by simpa using e) c) ?_;have g:(bz t (b:χ)).num.natAbs*b=t.natAbs*(bz t (b:χ)).den:=by
  have:=ea natAbs f;rw[dj,dj]at this;simpa using this
 refine Nat.le_of_mul_le_mul_right ?_ a;rw[g]
 calc t.natAbs*(bz t (b:χ)).den<=(B*b)*(bz t (b:χ)).den:=Ψ _ d
  _=B*(bz t (b:χ)).den*b:=by rw[gi,fm b,gi]
def Dg(n:π)(q:θ):Prop:=Sz (10^n) q
theorem mB(h:a<=b):10^a<=10^b:=Ρ (by decide) h
theorem lB(a b:π):2*(10^a*10^b)<=10^(a+b+1):=by
 rw[eT,jd];exact 48
theorem Dg.mono(h:Dg a q)(l:a<=b):Dg b q:=Sz.mono h<|mB l
theorem Dg.add(c:Dg a p)(d:Dg b q):Dg (a+b+1) (p+q):=(Sz.add c d).mono<|lB a b
theorem Dg.sub(c:Dg a p)(d:Dg b q):Dg (a+b+1) (p-q):=(Sz.sub c d).mono<|lB a b
theorem Dg.mul(c:Dg a p)(d:Dg b q):Dg (a+b+1) (p*q):=(Sz.mul c d).mono<|lB a b
theorem Dg.div(c:Dg a p)(d:Dg b q)(e:q≠0):Dg (a+b+1) (p/q):=(Sz.div c d e).mono<|lB a b
theorem Dg.inv(b:Dg a p)(c:p≠0):Dg a p⁻¹:=Sz.inv b c
theorem Dg.neg(b:Dg a p):Dg a (-p):=Sz.neg b
theorem Dg.zero:Dg n 0:=⟨iw _,jt (n:=n)<|by decide⟩
theorem Dg.one:Dg n 1:=⟨jt (n:=n)<|by decide,jt (n:=n)<|by decide⟩
theorem Dg.int{i:χ}(h:i.natAbs<=10^n):Dg n (i:θ):=⟨h,jt (n:=n)<|by decide⟩
def aM(q:θ):θ:=⟨(q.num.natAbs:χ),q.den,q.den_nz,by simpa using q.reduced⟩
theorem iL(q:θ):(aM q).num=((q.num.natAbs:π):χ):=rfl
theorem bU(h:0<=q):aM q=q:=by
 have:=ma.mpr h;exact zp (by rw[iL];lia) rfl
theorem cV(h:q<=0):aM q=-q:=by
 have a:0<=-q:=by grind
 have:=ma.mpr a;exact zp (by rw[iL];show _=-q.num;have e:(-q).num=-q.num:=rfl;lia) rfl
theorem gI(q:θ):0<=aM q:=ma.mp (by rw[iL];exact 29)
theorem bC(q:θ):(0<=q/\aM q=q)\/(q<=0/\aM q=-q):=by
 rcases qi (a:=0) (b:=q)with h|h
 ·exact .inl ⟨h,bU h⟩
 ·exact .inr ⟨h,cV h⟩
theorem Cm.abs(h:Cm L B q):Cm L B (aM q):=by
 rcases bC q with⟨_,e⟩|⟨_,e⟩
 ·rw[e];exact h
 ·rw[e];exact h.neg
theorem Dg.abs(h:Dg n q):Dg n (aM q):=⟨by rw[iL];exact h.n,h.d⟩
theorem Cm.dg(h:Cm L B q)(a:0<L)(c:L<=10^l)(d:B<=10^b):Dg (b+l+1) q:=by
 refine(h.sz a).mono ?_;have e:(B+1)*L<=(10^b+10^b)*10^l:=Τ (by have:=jt (n:=b) (show 0<10 by decide);lia) c;have:=lB b l;rw[l5<|10^b]at e;lia
end Fm
namespace Dl
open PySem PySem.Spec PyProof.Rows L2 Lx
inductive Sl where
 |dat (d:μ)
 |own (ds:ε μ)
  |exc (C:Ζ)
  |two (xs ys:ε μ)
  |fz (as:ε Ζ) (d:μ)
  |mon (φ:ς->Hp->V->Prop)
abbrev cC:=ε<|Θ Sl
def slot:cC->π->Θ Sl
 |[],_=>ν
 |x::_,0=>x
 |_::a,n+1=>slot a n
def put(s:Θ Sl):π->cC->cC
 |_,[]=>[]
 |0,_::a=>s::a
 |n+1,x::a=>x::put s n a
theorem jH(s:Θ Sl):∀(i j:π)(b:cC),slot (put s i b) j=if j=i/\i<b.length then s else slot b j
 |i,j,[]=>by cases i <;>simp[put,slot]
 |0,0,x::a=>by simp[put,slot]
 |0,j+1,x::a=>by simp[put,slot]
 |i+1,0,x::a=>by simp[put,slot]
 |i+1,j+1,x::a=>by
  have:=jH s i j a;simp only[put,slot,this,Ε];simp
theorem lF(s:Θ Sl):∀(i:π)(a:cC),(put s i a).length=a.length
 |i,[]=>by cases i <;>rfl
 |0,x::b=>rfl
 |i+1,x::b=>by simp[put,lF s i b]
theorem mF{K:ς}(e:Same H b)(h:SqT K H a c):SqT K b a c:=by
 rcases h with(h|⟨o,h⟩)|h
 ·exact .inl<|.inl<|e _ _ h
 ·exact .inl<|.inr ⟨o,e _ _ h⟩
 ·exact .inr h
mutual
theorem dI{K:ς}{H c:Hp}(s:Same H c):∀{x:V}{d:μ},DV K H x d->DV K c x d
 |_,_,.non=>.non
 |_,_,.bl b=>.bl b
 |_,_,.int i=>.int i
 |_,_,.str x=>.str x
 |_,_,.tup h a=>.tup (mF s h)<|aR s a
 |_,_,.lst h a=>.lst (s.seq h)<|aR s a
 |_,_,.dct h=>.dct<|s _ _ h
 |_,_,.dc0 h=>.dc0<|s _ _ h
theorem aR{K:ς}{H a:Hp}(s:Same H a):∀{b:ε V}{c:ε μ},DVs K H b c->DVs K a b c
 |_,_,.nil=>.nil
 |_,_,.cons h t=>.cons (dI s h)<|aR s t
end
mutual
def nR:μ->Bool
 | .none=>true
 | .bool _=>true
 | .int _=>true
 | .str _=>true
 | .list _=>false
 | .tuple a=>eC a
 | .dict _=>true
def eC:ε μ->Bool
 |[]=>true
 |d::a=>nR d && eC a
end
def Sub(G H:Hp):Prop:=∀b,G b=H b\/(G b=ν/\∃a,H b=γ (.lst a))
theorem Sub.same(s:Sub G H):Same G H:=λb o e=>by
 rcases s b with h|⟨h,_⟩
 ·rw[<-h];exact e
 ·rw[h]at e;cases e
theorem Sub.refl(H:Hp):Sub H H:=λ_=>.inl rfl
theorem Sub.other(s:Sub G H)(h:H b=γ o)(n:∀a,o≠ .lst a):G b=γ o:=by
 rcases s b with e|⟨_,a,e⟩
 ·rw[e];exact h
 ·rw[h]at e;cases e;exact ψ rfl<|n a
mutual
theorem Qv{K:ς}{G H:Hp}(s:∀b o,H b=γ o->(∀a,o≠ .lst a)->G b=γ o):∀{x:V}{d:μ},DV K H x d->nR d=true->DV K G x d
 |_,_,.non,_=>.non
 |_,_,.bl b,_=>.bl b
 |_,_,.int i,_=>.int i
 |_,_,.str x,_=>.str x
 | _,_,.tup h c,f=>.tup (by
   rcases h with(h|⟨o,h⟩)|h
   ·exact .inl<|.inl<|s _ _ h (by intro a z;cases z)
   ·exact .inl<|.inr ⟨o,s _ _ h (by intro a z;cases z)⟩
   ·exact .inr h) (jN s c f)
 |_,_,.lst _ _,f=>by cases f
 |_,_,.dct h,_=>.dct<|s _ _ h (by intro a z;cases z)
 |_,_,.dc0 h,_=>.dc0<|s _ _ h (by intro a z;cases z)
theorem jN{K:ς}{G H:Hp}(s:∀b o,H b=γ o->(∀a,o≠ .lst a)->G b=γ o):∀{a:ε V}{c:ε μ},DVs K H a c->eC c=true->DVs K G a c
 |_,_,.nil,_=>.nil
 |_,_,.cons h t,f=>by
  simp only[eC,jz]at f;exact .cons (Qv s h f.1)<|jN s t f.2
end
end Dl
namespace Lx
open PySem PySem.Spec PyProof.Rows L2
theorem DVs.len{K:ς}:∀{a:ε V}{b:ε μ},DVs K H a b->a.length=b.length
 |_,_,.nil=>rfl
 |_,_,.cons _ t=>ea (·+1)<|DVs.len t
theorem DVs.at{K:ς}:∀{a:ε V}{b:ε μ}{i:π}{d:μ},DVs K H a b->b[i]? =γ d->∃x,a[i]? =γ x/\DV K H x d
 |_,_,_,_,.nil,e=>by simp at e
 |_,_,0,_,.cons h _,e=>by
  simp at e;subst e;exact⟨_,rfl,h⟩
 |_,_,i+1,_,.cons _ t,e=>by
  obtain⟨x,c,f⟩:=DVs.at (i:=i) t (by simpa using e);exact⟨x,by simpa using c,f⟩
theorem DVs.append{K:ς}:∀{a b:ε V}{c d:ε μ},DVs K H a c->DVs K H b d->DVs K H (a++b) (c++d)
 |_,_,_,_,.nil,h=>h
 |_,_,_,_,.cons r t,h=>.cons r<|DVs.append t h
theorem DVs.take{K:ς}:∀{a:ε V}{b:ε μ}(n:π),DVs K H a b->DVs K H (a.take n) (b.take n)
 |_,_,0,_=>by simp only[List.take_zero];exact .nil
 |_,_,_+1,.nil=>.nil
 |_,_,n+1,.cons r t=>.cons r<|DVs.take n t
theorem DVs.drop{K:ς}:∀{a:ε V}{b:ε μ}(n:π),DVs K H a b->DVs K H (a.drop n) (b.drop n)
 |_,_,0,h=>by simp only[mx];exact h
 |_,_,_+1,.nil=>.nil
 |_,_,n+1,.cons _ t=>DVs.drop n t
theorem DVs.set{K:ς}(r:DV K H x d):∀{a:ε V}{b:ε μ}(i:π),DVs K H a b->DVs K H (a.set i x) (b.set i d)
 |_,_,_,.nil=>.nil
 |_,_,0,.cons _ t=>.cons r t
 |_,_,i+1,.cons q t=>.cons q<|DVs.set r i t
theorem DVs.rev{K:ς}:∀{a:ε V}{b:ε μ},DVs K H a b->DVs K H a.reverse b.reverse
 |_,_,.nil=>.nil
 |_,_,.cons r t=>by
  rw[iq,iq];exact DVs.append (DVs.rev t)<|.cons r .nil
end Lx
namespace Dl
variable{K:ς}
open PySem PySem.Spec PyProof.Rows L2 Lx
inductive Rws(K:ς)(G H:Hp):ε Ζ->ε (ε μ)->Prop
 |nil:Rws K G H [] []
 |cons {b:Ζ} {bs:ε Ζ} {vs:ε V} {ds:ε μ} {dss:ε<|ε μ}:H b=γ (.lst vs)->DVs K G vs ds->Rws K G H bs dss->Rws K G H (b::bs) (ds::dss)
theorem Rws.mono{K:ς}(g:Same G b)(h:Same H c):∀{bs:ε Ζ}{a:ε<|ε μ},Rws K G H bs a->Rws K b c bs a
 |_,_,.nil=>.nil
 |_,_,.cons d e r=>.cons (h _ _ d) (aR g e)<|r.mono g h
theorem Rws.dv{K:ς}(b:Hp)(g:Same G b):∀{bs:ε Ζ}{a:ε<|ε μ},(∀c∈bs,b c=H c)->Rws K G H bs a->DVs K b (bs.map V.ref) (a.map gk)
 |_,_,_,.nil=>.nil
 |_,_,f,.cons d e r=>.cons (.lst (SqL.of (by rw[f _ υ];exact d))<|aR g e)<|r.dv b g λc h=>f c<|ο _ h
inductive FzIs(K:ς)(G:Hp):V->ε Ζ->μ->Prop
 |pair {t a b:Ζ} {vs ws:ε V} {xs ys:ε μ}:SqT K G t [.ref a,.ref b]->a≠b->G a=γ (.lst vs)->G b=γ (.lst ws)->DVs K G vs xs->DVs K G ws ys->FzIs K G (.ref t) [a,b] (.tuple [.list xs,.list ys])
 |one {a:Ζ} {vs:ε V} {ds:ε μ}:G a=γ (.lst vs)->DVs K G vs ds->FzIs K G (.ref a) [a] (.list ds)
 |gr {a:Ζ} {cs:ε Ζ} {dss:ε<|ε μ}:G a=γ (.lst<|cs.map V.ref)->(a::cs).Nodup->Rws K G G cs dss->FzIs K G (.ref a) (a::a::cs) (.list<|dss.map gk)
 |tg {t p a:Ζ} {cs:ε Ζ} {vs:ε V} {xs:ε μ} {dss:ε<|ε μ}:SqT K G t [.ref p,.ref a]->(p::a::cs).Nodup->G p=γ (.lst vs)->DVs K G vs xs->G a=γ (.lst<|cs.map V.ref)->Rws K G G cs dss->FzIs K G (.ref t) (p::p::a::cs) (.tuple [.list xs,.list<|dss.map gk])
theorem FzIs.same{K:ς}(s:Same G i)(h:FzIs K G v j d):FzIs K i v j d:=by
 cases h with
 |pair a b c e f g=>exact .pair (mF s a) b (s _ _ c) (s _ _ e) (aR s f)<|aR s g
 |one a b=>exact .one (s _ _ a)<|aR s b
 |gr a b c=>exact .gr (s _ _ a) b<|c.mono s s
 |tg a b c e f g=>exact .tg (mF s a) b (s _ _ c) (aR s e) (s _ _ f)<|g.mono s s
theorem FzIs.dv{K:ς}(h:FzIs K G v i d):DV K G v d:=by
 cases h with
 |pair a c b e f g=>exact .tup a<|.cons (.lst (SqL.of b) f)<|.cons (.lst (SqL.of e) g) .nil
 |one a c=>exact .lst (SqL.of a) c
 |gr a c b=>exact .lst (SqL.of a)<|b.dv G (Same.refl _) λ_ _=>rfl
 |tg a c b e f g=>exact .tup a<|.cons (.lst (SqL.of b) e)<|.cons (.lst (SqL.of f)<|g.dv G (Same.refl _) λ_ _=>rfl) .nil
def SlIs(K:ς)(G H:Hp)(v:V):Sl->Prop
 | .dat d=>DV K G v d
 | .own e=>∃a b,v= .ref a/\G a=ν/\H a=γ (.lst b)/\DVs K G b e
 | .exc C=>∃x,v= .ref x/\G x=γ (.ext<|aUv x C)
 | .two _ _=>ag
 | .fz f d=>FzIs K G v f d
 | .mon g=>∀c,Same G c->g K c v
structure Sees(K:ς)(H₀ G:Hp)(δ:cC)(σ:L2.St)(H:Hp):Prop where
 old:Same H₀ G
 sub:Sub G H
 len:δ.length<=σ.length
 has:∀i s,slot δ i=γ s->∃v,σ[i]? =γ (γ v)/\SlIs K G H v s
 sep:∀i j xs ys a,slot δ i=γ (.own xs)->slot δ j=γ (.own ys)->σ[i]? =γ (γ<|.ref a)->σ[j]? =γ (γ<|.ref a)->i=j
structure Ext(G H G' H':Hp):Prop where
 g:Same G G'
 h:Same H H'
 s:Sub G' H'
 n:∀b o,G' b=γ o->G b=γ o\/H b=ν
theorem Ext.refl(s:Sub G H):Ext G H G H:=⟨Same.refl _,Same.refl _,s,λ_ _ h=>.inl h⟩
theorem Ext.trans{G H d e f g:Hp}(a:Ext G H d e)(b:Ext d e f g):Ext G H f g:=
 ⟨a.g.trans b.g,a.h.trans b.h,b.s,λc o h=>by
  rcases b.n c o h with z|z
  ·exact a.n c o z
  ·exact .inr (a.h.free z)⟩
theorem Ext.keep(e:Ext G H b c)(d:G a=ν)(f:H a=γ o):b a=ν:=by
 cases q:b a with
 |none=>rfl
 |some u=>
  rcases e.n a u q with z|z
  ·rw[d]at z;cases z
  ·rw[f]at z;cases z
theorem SlIs.ext(e:Ext G H r q)(h:SlIs K G H v s):SlIs K r q v s:=by
 cases s with
 |dat d=>exact dI e.g h
 |own l=>
  obtain⟨a,c,rfl,f,b,g⟩:=h;exact⟨a,c,rfl,e.keep f b,e.h _ _ b,aR e.g g⟩
 |two m n=>exact h.elim
 |fz o d=>exact FzIs.same e.g h
 |mon p=>exact λi j=>h i<|e.g.trans j
 |exc C=>
  obtain⟨x,rfl,k⟩:=h;exact⟨x,rfl,e.g _ _ k⟩
theorem Sees.ext(S:Sees K c G δ f H)(e:Ext G H g d):Sees K c g δ f d:=
 ⟨S.old.trans e.g,e.s,S.len,λi s h=>by
  obtain⟨v,a,b⟩:=S.has i s h
  exact⟨v,a,b.ext e⟩,S.sep⟩
theorem Sees.refl(S:Sees K a G δ b H):Ext G H G H:=.refl S.sub
theorem Sees.oldH(S:Sees K a G δ b H):Same a H:=S.old.trans S.sub.same
theorem pP:∀{δ:cC}{i:π}{s:Sl},slot δ i=γ s->i<δ.length
 |[],_,_,h=>by cases h
 |_::_,0,_,_=>Nat.zero_lt_succ _
 |_::a,i+1,s,h=>Nat.succ_lt_succ<|pP (δ:=a) (i:=i) (s:=s) h
theorem Sees.setS(S:Sees K E G δ F H)(i:π)(h:SlIs K G H v s)(q:∀t j w a,s= .own t->slot δ j=γ (.own w)->F[j]? =γ (γ<|.ref a)->v≠ .ref a):Sees K E G (put (γ s) i δ) (F.set i<|some v) H:=by
 have look:∀j u,slot (put (γ s) i δ) j=γ u->(j=i/\u=s/\(F.set i<|some v)[j]? =γ (γ v))\/(j≠i/\slot δ j=γ u/\(F.set i<|some v)[j]? =F[j]?):=λj u b=>by
  rw[jH]at b;split at b
  ·rename_i n
   obtain⟨rfl,x⟩:=n;cases b;exact .inl ⟨rfl,rfl,by rw[ja<|av x S.len]⟩
  ·rename_i n
   have f:j≠i:=λz=>n ⟨z,by rw[<-z];exact pP b⟩;exact .inr ⟨f,b,by rw[ic<|Ne.symm f]⟩
 refine⟨S.old,S.sub,by rw[lF,l9];exact S.len,λj u b=>?_,λj k o p a b y c d=>?_⟩
 ·rcases look j u b with⟨rfl,rfl,e⟩|⟨_,g,e⟩
  ·exact⟨v,e,h⟩
  ·rw[e];exact S.has j u g
 ·rcases look j _ b with⟨rfl,A,l⟩|⟨C,g,l⟩ <;>rcases look k _ y with⟨rfl,B,m⟩|⟨D,r,m⟩
  ·rfl
  ·rw[l]at c;rw[m]at d;cases c;exact ψ rfl<|q o k p a A.symm r d
  ·rw[l]at c;rw[m]at d;cases d;exact ψ rfl<|q p j o a B.symm g c
  ·rw[l]at c;rw[m]at d;exact S.sep j k o p a g r c d
theorem Sees.setD(S:Sees K a G δ b H)(i:π)(h:DV K G v d):Sees K a G (put (γ<|.dat d) i δ) (b.set i<|some v) H:=
 S.setS i (s:=.dat d) h λ_ _ _ _ z=>nomatch z
theorem Sees.ownAt(S:Sees K j G δ k H)(h:slot δ i=γ (.own c)):∃a b,k[i]? =γ (γ<|.ref a)/\G a=ν/\H a=γ (.lst b)/\DVs K G b c:=by
 refine qq0 λqq2=>?_;obtain⟨v,d,a,b,rfl,e,f,g⟩:=S.has i _ h;refine qq2 ?_;exact⟨a,b,d,e,f,g⟩
theorem Sees.setO(S:Sees K v G δ y H)(e:Ext G H w x)(i:π)(k:H a=ν)(l:w a=ν)(m:x a=γ (.lst d))(n:DVs K w d f):
  Sees K v w (put (γ<|.own f) i δ) (y.set i<|some<|.ref a) x:=
 (S.ext e).setS i (s:=.own f) ⟨a,d,rfl,l,m,n⟩ λ_ j q b _ o p z=>by
  cases z;obtain⟨c,r,g,t,h,u⟩:=S.ownAt o;rw[p]at g;cases g;rw[k]at h;cases h
theorem Sees.updO(S:Sees K R G δ T H)(h:slot δ i=γ (.own n))(q:T[i]? =γ (γ<|.ref a))(D:DVs K G p o):
  Sees K R G (put (γ<|.own o) i δ) T (fA H a<|.lst p):=by
 refine qq0 λqq2=>?_;obtain⟨b,x,y,A,L,M⟩:=S.ownAt h;refine qq2 ?_;rw[q]at y;cases y;have look:∀j u,slot (put (γ<|.own o) i δ) j=γ u->(j=i/\u= .own o)\/(j≠i/\slot δ j=γ u):=λj u e=>by
  rw[jH]at e;split at e
  ·rename_i r
   cases e;exact .inl ⟨r.1,rfl⟩
  ·rename_i r
   exact .inr ⟨λz=>r ⟨z,by rw[<-z];exact pP e⟩,e⟩
 refine⟨S.old,λc=>?_,by rw[lF];exact S.len,λj u e=>?_,λj k g s c e E t w=>?_⟩
 ·by_cases z:c=a
  ·subst z;exact .inr ⟨A,p,bJ⟩
  ·rw[aV z];exact S.sub c
 ·rcases look j u e with⟨rfl,rfl⟩|⟨B,l⟩
  ·exact⟨_,q,a,p,rfl,A,bJ,D⟩
  ·obtain⟨v,m,f⟩:=S.has j u l;refine⟨v,m,?_⟩;cases u with
   |dat d=>exact f
   |two g s=>exact f.elim
   |fz N d=>exact f
   |mon O=>exact f
   |exc C=>exact f
   |own g=>
    refine qq0 λqq2=>?_;obtain⟨c,x,rfl,F,I,J⟩:=f;refine qq2 ?_;refine⟨c,x,rfl,F,?_,J⟩;rw[aV λz=>?_]
    ·exact I
    ·subst z;exact B<|S.sep j i g n c l h m q
 ·rcases look j _ e with⟨rfl,_⟩|⟨B,l⟩ <;>rcases look k _ E with⟨rfl,_⟩|⟨P,m⟩
  ·rfl
  ·exact S.sep j k n s c h m t w
  ·exact S.sep j k g n c l h t w
  ·exact S.sep j k g s c l m t w
theorem Sees.frz(S:Sees K T G δ W H)(h:slot δ i=γ (.own l)):∃U,Same G U/\Sees K T U (put (γ<|.dat<|.list l) i δ) W H:=by
 refine qq0 λqq2=>?_;obtain⟨a,q,r,w,y,A⟩:=S.ownAt h;refine qq2 ?_;have sg:Same G (fA G a<|.lst q):=λb o e=>by rw[aV<|bT e w];exact e
 refine⟨fA G a<|.lst q,sg,S.old.trans sg,λb=>?_,by rw[lF];exact S.len,λj u f=>?_,λj k m s c f B D E=>?_⟩
 ·by_cases z:b=a
  ·subst z;exact .inl (by rw[bJ,y])
  ·rw[aV z];exact S.sub b
 ·rw[jH]at f;split at f
  ·rename_i n
   cases f;exact⟨_,by rw[n.1];exact r,.lst (SqL.of bJ)<|aR sg A⟩
  ·rename_i n
   have p:j≠i:=λz=>n ⟨z,by rw[<-z];exact pP f⟩;obtain⟨v,t,g⟩:=S.has j u f;refine⟨v,t,?_⟩;cases u with
   |dat d=>exact dI sg g
   |two m s=>exact g.elim
   |fz P d=>exact FzIs.same sg g
   |mon R=>exact λF I=>g F<|sg.trans I
   |exc C=>
    obtain⟨x,rfl,J⟩:=g;exact⟨x,rfl,sg _ _ J⟩
   |own m=>
    refine qq0 λqq2=>?_;obtain⟨c,L,rfl,M,N,O⟩:=g;refine qq2 ?_;refine⟨c,L,rfl,?_,N,aR sg O⟩;rw[aV λz=>?_]
    ·exact M
    ·subst z;exact p<|S.sep j i m l c f h t r
 ·have look:∀j u,slot (put (γ<|.dat<|.list l) i δ) j=γ (.own u)->slot δ j=γ (.own u):=λj u f=>by
   rw[jH]at f;split at f
   ·cases f
   ·exact f
  exact S.sep j k m s c (look _ _ f) (look _ _ B) D E
abbrev DX:=Ζ->Prop
abbrev DE:=DX->cC->(μ->Prop)->Prop
abbrev DL:=DX->cC->(ε μ->Prop)->Prop
abbrev DT:=DX->cC->(Bool->Prop)->Prop
def lO(a:Hp)(E:XK)(c:DX):Prop:=∀C b,Same a b->c C->E (.ref C) ν b
section
variable(K:ς)(H₀:Hp)(E:XK)
def gP(h:TE)(i:DE):Prop:=∀a b c G H e Q,lO H₀ E a->Sees K H₀ G b c H->i a b e->(∀v d f g,Ext G H f g->DV K f v d->e d->Q v g)->h c H Q
def jO(g:TE)(h:DE):Prop:=∀b c e G H f Q,lO H₀ E b->Sees K H₀ G c e H->h b c f->(∀v d i a,Ext G H i a->DV K a v d->f d->Q v a)->g e H Q
def Vf(j:TE)(k:DL):Prop:=∀c d e G H f Q,lO H₀ E c->Sees K H₀ G d e H->k c d f->(∀a g h i b,Ext G H i b->SqL K b a g->DVs K i g h->f h->Q (.ref a) b)->j e H Q
def xO(j:TE)(k:DL):Prop:=∀d e f G H g Q,lO H₀ E d->Sees K H₀ G e f H->k d e g->(∀a h i b c,Ext G H b c->H a=ν->b a=ν->c a=γ (.lst h)->DVs K b h i->g i->Q (.ref a) c)->j f H Q
def Bi(g:TT)(h:DT):Prop:=∀a c d G H e Q,lO H₀ E a->Sees K H₀ G c d H->h a c e->(∀b i f,Ext G H i f->e b->Q b f)->g d H Q
def uI(h:TA)(i:DL):Prop:=∀b c d G H e Q,lO H₀ E b->Sees K H₀ G c d H->i b c e->(∀f g j a,Ext G H j a->DVs K a f g->e g->Q f a)->h d H Q
def AvE(i:TA)(n:π)(j:DL):Prop:=∀b c d G H e Q,lO H₀ E b->Sees K H₀ G c d H->j b c e->(∀f a g h,Ext G H g h->DVs K g f a->a.length=n->e a->Q f h)->i d H Q
end
def aBb(i:π)(a:DX)(b:cC)(Q:μ->Prop):Prop:=match slot b i with
 |some (.dat d)=>Q d
 |_=>ag
def Ke(i:π)(a:DX)(b:cC)(Q:μ->Prop):Prop:=match slot b i with
 |some (.dat d)=>Q d
 |some (.own c)=>Q<|.list c
 |_=>ag
def Rh(i:π)(b:DX)(c:cC)(Q:ε μ->Prop):Prop:=match slot c i with
 |some (.dat<|.list a)=>Q a
 |some (.own a)=>Q a
 |_=>ag
def dC(d:μ)(a:DX)(b:cC)(Q:μ->Prop):Prop:=Q d
def dFz(a:DL)(b:DX)(c:cC)(Q:μ->Prop):Prop:=a b c λd=>Q<|.list d
def Ek(a:DE)(b:DX)(c:cC)(Q:ε μ->Prop):Prop:=a b c λd=>match d with
 | .list e=>Q e
 |_=>ag
def aGp(a:DX)(b:cC)(Q:ε μ->Prop):Prop:=Q []
def Au(c:DE)(e:DL)(a:DX)(b:cC)(Q:ε μ->Prop):Prop:=c a b λd=>e a b λf=>Q<|d::f
section
variable{K:ς}{H₀:Hp}{E:XK}{te:TE}{de:DE}{dl:DL}{ta:TA}
theorem aC(h:gP K H₀ E te de):jO K H₀ E te de:=λa b c G H f Q g S q k=>
 h a b c G H f Q g S q λv d i j e l=>k v d i j e<|dI e.s.same l
theorem cL(h:xO K H₀ E te dl):gP K H₀ E te (dFz dl):=λf g i G H u Q j S q k=>
 h f g i G H _ Q j S q λa d l c m e n p r s t=>by
  have sg:Same c (fA c a<|.lst d):=λb o z=>by rw[aV<|bT z p];exact z
  refine k (.ref a) (.list l) (fA c a<|.lst d) m ⟨e.g.trans sg,e.h,λb=>?_,λb o z=>?_⟩ (.lst (SqL.of bJ)<|aR sg s) t
  ·by_cases w:b=a
   ·subst w;exact .inl (by rw[bJ,r])
   ·rw[aV w];exact e.s b
  ·by_cases w:b=a
   ·subst w;exact .inr n
   ·rw[aV w]at z;exact e.n b o z
theorem lP(h:xO K H₀ E te dl):Vf K H₀ E te dl:=λb c d G H p Q f S q k=>
 h b c d G H _ Q f S q λa g i j l e r s m n o=>k a g i j l e (SqL.of m) n o
theorem eZ(h:DV K G v<|.list b):∃a c,v= .ref a/\SqL K G a c/\DVs K G c b:=by
 cases h with
 |lst d e=>exact⟨_,_,rfl,d,e⟩
theorem wV(h:DV K G v<|.tuple b):∃a c,v= .ref a/\SqT K G a c/\DVs K G c b:=by
 cases h with
 |tup d e=>exact⟨_,_,rfl,d,e⟩
theorem cF(h:DV K G v<|.int i):v= .int i:=by cases h;rfl
theorem lR(h:DV K G v<|.bool i):v= .bl i:=by cases h;rfl
theorem dP(h:DV K G v<|.str i):v= .str i:=by cases h;rfl
theorem aAt(h:DV K G v .none):v= .non:=by cases h;rfl
theorem Zk(h:gP K H₀ E te de):Vf K H₀ E te (Ek de):=λc f g G H s Q i S q k=>
 h c f g G H _ Q i S q λv d j l e m b=>by
  cases d with
  |list n=>
   obtain⟨a,o,rfl,p,r⟩:=eZ m;exact k a o n j l e (e.s.same.seq p) r b
  |_=>exact b.elim
theorem bE(i:π):gP K H₀ E (iI i) (aBb i):=λe f g G H h Q j S q k=>by
 unfold aBb at q;split at q
 ·rename_i d a
  obtain⟨v,b,c⟩:=S.has i _ a;exact⟨v,b,k v d G H S.refl c q⟩
 ·exact q.elim
theorem aF(i:π):jO K H₀ E (iI i) (Ke i):=λh j l G H m Q n S q k=>by
 unfold Ke at q;split at q
 ·rename_i d b
  obtain⟨v,c,e⟩:=S.has i _ b;exact⟨v,c,k v d G H S.refl (dI S.sub.same e) q⟩
 ·rename_i o b
  obtain⟨a,p,c,e,f,g⟩:=S.ownAt b;exact⟨_,c,k _ _ G H S.refl (.lst (SqL.of f)<|aR S.sub.same g) q⟩
 ·exact q.elim
theorem aL(i:π):Vf K H₀ E (iI i) (Rh i):=λj l m G H n Q o S q k=>by
 unfold Rh at q;split at q
 ·rename_i b c
  obtain⟨v,d,h⟩:=S.has i _ c;obtain⟨a,e,rfl,f,g⟩:=eZ h;exact⟨_,d,k a e b G H S.refl (S.sub.same.seq f) g q⟩
 ·rename_i b c
  obtain⟨a,e,d,h,f,g⟩:=S.ownAt c;exact⟨_,d,k a e b G H S.refl (SqL.of f) g q⟩
 ·exact q.elim
theorem qT(h:∀G:Hp,DV K G v d):gP K H₀ E (tC v) (dC d):=λa b c G H e Q f S q k=>k v d G H S.refl (h G) q
theorem aU:gP K H₀ E (tC<|.int i) (dC<|.int i):=qT λ_=>.int i
theorem jM:gP K H₀ E (tC<|.bl i) (dC<|.bool i):=qT λ_=>.bl i
theorem aT:gP K H₀ E (tC<|.str i) (dC<|.str i):=qT λ_=>.str i
theorem kC:gP K H₀ E (tC .non) (dC .none):=qT λ_=>.non
theorem aB:uI K H₀ E jP aGp:=λa b c G H d Q e S q k=>k [] [] G H S.refl .nil q
theorem Rt(h:jO K H₀ E te de)(t:uI K H₀ E ta dl):uI K H₀ E (eF te ta) (Au de dl):=λb c e G H w Q f S q k=>
 h b c e G H _ _ f S q λv d j l g m n=>t b c e j l _ _ f (S.ext g) n λo p r s i a u=>
  k (v::o) (d::p) r s (g.trans i) (.cons (dI i.h m) a) u
theorem aQ:AvE K H₀ E jP 0 aGp:=λa b c G H d Q e S q k=>k [] [] G H S.refl .nil rfl q
theorem aI(h:gP K H₀ E te de)(t:AvE K H₀ E ta n dl):AvE K H₀ E (eF te ta) (n+1) (Au de dl):=λb c e G H y Q f S q k=>
 h b c e G H _ _ f S q λv d j l g m o=>t b c e j l _ _ f (S.ext g) o λp r s u i a w x=>
  k (v::p) (d::r) s u (g.trans i) (.cons (dI i.g m) a) (by rw[Ε,w]) x
theorem uD(s:Sub G H)(a:H p=ν):Ext G H (fA G p<|.tup xs) (fA H p<|.tup xs):=by
 have c:G p=ν:=s.same.free a;refine⟨λb o z=>by rw[aV<|bT z c];exact z,λb o z=>by rw[aV<|bT z a];exact z,λb=>?_,λb o z=>?_⟩
 ·by_cases w:b=p
  ·subst w;exact .inl (by rw[bJ,bJ])
  ·rw[aV w,aV w];exact s b
 ·by_cases w:b=p
  ·subst w;exact .inr a
  ·rw[aV w]at z;exact .inl z
theorem fN(s:Sub G H)(a:H p=ν):Ext G H G (fA H p<|.lst xs)/\G p=ν:=by
 have c:G p=ν:=s.same.free a;refine⟨⟨Same.refl _,λb o z=>by rw[aV<|bT z a];exact z,λb=>?_,λb o z=>.inl z⟩,c⟩;by_cases w:b=p
 ·subst w;exact .inr ⟨c,xs,bJ⟩
 ·rw[aV w];exact s b
def aTm(dl:DL)(a:DX)(b:cC)(Q:μ->Prop):Prop:=dl a b λc=>Q<|.tuple c
def aTx(dl:DL)(a:DX)(b:cC)(Q:ε μ->Prop):Prop:=dl a b Q
theorem cH(h:AvE K H₀ E ta n dl)(d:n<=1000:=by decide):gP K H₀ E (aKw ta) (aTm dl):=λe f g G H s Q i S q k=>
 h e f g G H _ _ i S q λj l t u a b m o=>⟨cg (bX (by rw[b.len,m];exact d)),λp r=>by
  have c:=uD (xs:=j) a.s r
  exact k (.ref p) (.tuple l) _ _ (a.trans c) (.tup (SqT.of bJ) (aR c.g b)) o⟩
theorem dG(h:AvE K H₀ E ta n dl)(e:n<=1000:=by decide):xO K H₀ E (aKx ta) (aTx dl):=λf g i G H t Q j S q k=>
 h f g i G H _ _ j S q λb l u v a c m o=>⟨cg (bX (by rw[c.len,m];exact e)),λp d=>by
  obtain⟨r,s⟩:=fN (xs:=b) a.s d
  exact k p b l _ _ (a.trans r) (a.h.free d) s bJ c o⟩
end
section
variable{K:ς}{H₀:Hp}{E:XK}{te ta tb:TE}{da db de:DE}{dl dk:DL}{t:TA}{tt tu:TT}{dt du:DT}
abbrev RD2:=μ->μ->(μ->Prop)->Prop
def Km(K:ς)(r:R2)(e:RD2):Prop:=∀(G H:Hp)(x y:V)(a b:μ)(c:μ->Prop)(Q:VK),DV K H x a->DV K H y b->e a b c->(∀v d,DV K G v d->c d->Q v H)->r x y H Q
def dOp(c:RD2)(da db:DE)(a:DX)(b:cC)(Q:μ->Prop):Prop:=da a b λx=>db a b λy=>c x y Q
theorem bZ(l:Km K r a)(m:jO K H₀ E ta da)(n:jO K H₀ E tb db):gP K H₀ E (yZ r ta tb) (dOp a da db):=λb c e G H o Q f S q k=>
 m b c e G H _ _ f S q λx p s u g w z=>n b c e s u _ _ f (S.ext g) z λy A h i j B C=>
  l h i x y p A o Q (dI j.h w) B C λv d D F=>k v d h i (g.trans j) D F
def oI(C:χ->χ->Prop)(f:χ->χ->χ)(x y:μ)(Q:μ->Prop):Prop:=match x,y with
 | .int i,.int j=>C i j/\Q (.int<|f i j)
 |_,_=>ag
def oI0(f:χ->χ->χ)(x y:μ)(Q:μ->Prop):Prop:=match x,y with
 | .int i,.int j=>Q<|.int<|f i j
 |_,_=>ag
def oB0(f:χ->χ->Bool)(x y:μ)(Q:μ->Prop):Prop:=match x,y with
 | .int i,.int j=>Q<|.bool<|f i j
 |_,_=>ag
theorem dQ:Km K (rI C λi j=>.int<|f i j) (oI C f):=by
 intro G H x y c d e Q a b q k;unfold oI at q;split at q
 ·cases cF a;cases cF b;exact⟨_,_,rfl,rfl,q.1,k _ _ (.int _) q.2⟩
 ·exact q.elim
theorem cN:Km K (Ve λi j=>.int<|f i j) (oI0 f):=by
 intro G H x y c d e Q a b q k;unfold oI0 at q;split at q
 ·cases cF a;cases cF b;exact⟨_,_,rfl,rfl,k _ _ (.int _) q⟩
 ·exact q.elim
theorem eW:Km K (Ve λi j=>.bl<|f i j) (oB0 f):=by
 intro G H x y c d e Q a b q k;unfold oB0 at q;split at q
 ·cases cF a;cases cF b;exact⟨_,_,rfl,rfl,k _ _ (.bl _) q⟩
 ·exact q.elim
def oEq(x y:μ)(Q:μ->Prop):Prop:=match x,y with
 | .int i,.int j=>Q<|.bool<|decide (i=j)
 | .str i,.str j=>Q<|.bool<|decide (i=j)
 | .bool i,.bool j=>Q<|.bool<|decide (i=j)
 |_,_=>ag
def oNe(x y:μ)(Q:μ->Prop):Prop:=match x,y with
 | .int i,.int j=>Q<|.bool<|!decide (i=j)
 | .str i,.str j=>Q<|.bool<|!decide (i=j)
 | .bool i,.bool j=>Q<|.bool<|!decide (i=j)
 |_,_=>ag
theorem cR:Km K rEq oEq:=by
 intro G H x y c d e Q a b q k;unfold oEq at q;split at q
 ·cases cF a;cases cF b;refine⟨rfl,k _ _ (.bl _) ?_⟩;simpa using q
 ·cases dP a;cases dP b;refine⟨rfl,k _ _ (.bl _) ?_⟩;simpa using q
 ·cases lR a;cases lR b;refine⟨rfl,k _ _ (.bl _) ?_⟩;simpa using q
 ·exact q.elim
theorem pU:Km K rNe oNe:=by
 intro G H x y c d e Q a b q k;unfold oNe at q;split at q
 ·cases cF a;cases cF b;refine⟨rfl,k _ _ (.bl _) ?_⟩;simpa using q
 ·cases dP a;cases dP b;refine⟨rfl,k _ _ (.bl _) ?_⟩;simpa using q
 ·cases lR a;cases lR b;refine⟨rfl,k _ _ (.bl _) ?_⟩;simpa using q
 ·exact q.elim
def aWd(x y:μ)(Q:μ->Prop):Prop:=∃(c:Type)(e:Enc c)(a b:c),x=e.d a/\y=e.d b/\∀k:Bool,(k=true↔a=b)->Q (.bool k)
def aSi(x y:μ)(Q:μ->Prop):Prop:=∃(c:Type)(e:Enc c)(a b:c),x=e.d a/\y=e.d b/\∀k:Bool,(k=true↔a=b)->Q (.bool !k)
theorem mK:Km K (Su K false) aWd:=by
 rintro G H x y i j l Q d f ⟨g,e,a,b,rfl,rfl,q⟩ k;exact⟨g,e,a,b,d,f,λc h=>k _ _ (.bl _)<|q c h⟩
theorem hX:Km K (Su K true) aSi:=by
 rintro G H x y i j l Q d f ⟨g,e,a,b,rfl,rfl,q⟩ k;exact⟨g,e,a,b,d,f,λc h=>k _ _ (.bl _)<|q c h⟩
def aSl(x y:μ)(Q:μ->Prop):Prop:=∃(b:Type)(e:Enc b)(a:b)(bs:ε b),x=e.d a/\y= .list (bs.map e.d)/\∀k:Bool,(k=true↔a∈bs)->Q (.bool k)
theorem aLr:Km K (aLv K false) aSl:=by
 rintro G H x y h i j Q b d ⟨f,e,a,bs,rfl,rfl,q⟩ k;exact⟨f,e,a,bs,b,d,λc g=>k _ _ (.bl _)<|q c g⟩
def aSk(a:Bool)(x y:μ)(Q:μ->Prop):Prop:=match y with
 | .none=>(match x with
  | .none=>Q<|.bool<|!a
  |_=>Q (.bool a))
 |_=>ag
theorem aOc(h:DV K H x d):(x= .non↔d= .none):=by
 cases h <;>simp
theorem Le:Km K (λx y H Q=>y= .non/\Q (.bl<|decide (x= .non)) H) (aSk false):=by
 intro G H x y b c e Q a d q k;cases c with
 |none=>
  refine⟨aAt d,k _ _ (.bl _) ?_⟩;cases b with
  |none=>rw[cD<|aAt a];exact q
  |_=>rw[aA (λz=>by have:=(aOc a).mp z;cases this)];exact q
 |_=>exact q.elim
def aTw(da:DE)(a:DX)(b:cC)(Q:μ->Prop):Prop:=da a b λx=>match x with
 | .int i=>Q<|.int<|-i
 |_=>ag
theorem iA(b:jO K H₀ E ta da):gP K H₀ E (tUn (rU λi=>.int<|-i) ta) (aTw da):=λc d e G H n Q f S q k=>
 b c d e G H _ _ f S q λx g h j l m a=>by
  cases g with
  |int i=>
   cases cF m;exact⟨_,rfl,k _ _ h j l (.int _) a⟩
  |_=>exact a.elim
theorem Jq(h:gP K H₀ E te de)(d:∀a b Q,Q (.int v)->de a b Q):gP K H₀ E te (dC<|.int v):=λa b e G H c Q f S q k=>h a b e G H c Q f S (d a b c q) k
def aOn(f:χ->χ)(da:DE)(a:DX)(b:cC)(Q:μ->Prop):Prop:=da a b λx=>match x with
 | .int i=>Q<|.int<|f i
 |_=>ag
theorem kE(h:Ry 0 k)(l:jO K H₀ E ta da)(m:gP K H₀ E tb<|dC<|.int k):gP K H₀ E (yZ (rI Ry λi j=>.int<|i/j) ta tb) (aOn (λi=>i/k) da):=λa b c G H B Q e S q n=>
 l a b c G H _ _ e S q λx o p r f s g=>m a b c p r (λd=>d= .int k) _ e (S.ext f) rfl λy C u v w z A=>by
  subst A;cases cF z;cases o with
  |int i=>cases cF s;exact⟨_,_,rfl,rfl,h,n _ _ u v (f.trans w) (.int _) g⟩
  |_=>exact g.elim
theorem fE(h:0<k)(l:jO K H₀ E ta da)(m:gP K H₀ E tb<|dC<|.int k):gP K H₀ E (yZ (rI (λ_ j=>0<j) λi j=>.int<|i%j) ta tb) (aOn (λi=>i%k) da):=λa b c G H B Q e S q n=>
 l a b c G H _ _ e S q λx o p r f s g=>m a b c p r (λd=>d= .int k) _ e (S.ext f) rfl λy C u v w z A=>by
  subst A;cases cF z;cases o with
  |int i=>cases cF s;exact⟨_,_,rfl,rfl,h,n _ _ u v (f.trans w) (.int _) g⟩
  |_=>exact g.elim
def aTy(dl:DL)(db:DE)(a:DX)(b:cC)(Q:μ->Prop):Prop:=dl a b λc=>db a b λy=>match y with
 | .int i=>∃d,oX c i=γ d/\Q d
 |_=>ag
theorem Qr(h:DVs K G b a)(e:oX a i=γ d):∃v,oX b i=γ v/\DV K G v d:=by
 unfold oX at e⊢;rw[h.len];cases q:Uf a.length i with
 |none=>rw[q]at e;cases e
 |some j=>
  rw[q]at e;exact h.at e
theorem bR(l:Vf K H₀ E ta dl)(m:jO K H₀ E tb db):gP K H₀ E (yZ (aEg K) ta tb) (aTy dl db):=λe f g G H F Q h S q k=>
 l e f g G H _ _ h S q λa n I o p j r s u=>m e f g o p _ _ h (S.ext j) u λy w x A c B b=>by
  cases w with
  |int i=>
   obtain⟨d,z,b⟩:=b;cases cF B;obtain⟨v,C,D⟩:=Qr s z;exact⟨a,n,i,v,rfl,rfl,c.h.seq r,C,k v d x A (j.trans c) (dI c.g D) b⟩
  |_=>exact b.elim
def nth:ε μ->π->Θ μ
 |[],_=>ν
 |d::_,0=>γ d
 |_::a,n+1=>nth a n
theorem Ys:∀{ds:ε μ}{k:π}{d:μ},nth ds k=γ d->ds[k]? =γ d
 |[],_,_,h=>by cases h
 |d::_,0,_,h=>by simpa[nth]using h
 |_::ds,k+1,d,h=>by simpa using Ys (ds:=ds) (k:=k) (d:=d) h
def aOo(k:π)(da:DE)(a:DX)(b:cC)(Q:μ->Prop):Prop:=da a b λx=>match x with
 | .tuple c=>(match nth c k with
  |some d=>Q d
  |none=>ag)
 |_=>ag
theorem kD(m:π)(e:gP K H₀ E ta da):gP K H₀ E (yZ (Xt K) ta<|tC<|.int (m:χ)) (aOo m da):=λf g h G H y Q i S q k=>
 e f g h G H _ _ i S q λx j l n c o b=>by
  cases j with
  |tuple A=>
   dsimp only at b;split at b
   ·rename_i d z
    refine qq0 λqq2=>?_;obtain⟨a,p,rfl,r,s⟩:=wV o;refine qq2 ?_;obtain⟨v,u,w⟩:=Qr s<|fQ<|Ys z;exact⟨a,p,_,v,rfl,rfl,mF c.s.same r,u,k v _ l n c w b⟩
   ·exact b.elim
  |_=>exact b.elim
abbrev RDc:=ε μ->(μ->Prop)->Prop
def RCb(K:ς)(r:ε V->Hp->VK->Prop)(e:RDc):Prop:=∀(G H:Hp)(a:ε V)(b:ε μ)(c:μ->Prop)(Q:VK),DVs K H a b->e b c->(∀v d,DV K G v d->c d->Q v H)->r a H Q
def dCb(a:RDc)(dl:DL)(b:DX)(c:cC)(Q:μ->Prop):Prop:=dl b c λd=>a d Q
theorem bQ(e:RCb K r a)(f:uI K H₀ E t dl):gP K H₀ E (tCB r t) (dCb a dl):=λg h i G H j Q l S q k=>
 f g h i G H _ _ l S q λm n b c o p s=>e b c m n j Q p s λv d u w=>k v d b c o u w
def aPh(a:ε μ)(Q:μ->Prop):Prop:=match a with
 |[.int i]=>Q<|.int<|if i<0 then -i else i
 |_=>ag
def aPc(a:ε μ)(Q:μ->Prop):Prop:=match a with
 |[.int i,.int j]=>Q<|.int<|if j<i then j else i
 |_=>ag
def aPd(a:ε μ)(Q:μ->Prop):Prop:=match a with
 |[.int i,.int j]=>Q<|.int<|if j>i then j else i
 |_=>ag
def aPe(b:ε μ)(Q:μ->Prop):Prop:=match b with
 |[.list a]=>Q<|.int a.length
 |[.tuple a]=>Q<|.int a.length
 |_=>ag
def aPa(b:ε μ)(Q:μ->Prop):Prop:=match b with
 |[.list c]=>∃a:ε χ,c=a.map ep/\Q (.int a.sum)
 |_=>ag
def aPf(a:ε μ)(Q:μ->Prop):Prop:=match a with
 |[.int i]=>Q<|.int i
 |[.bool b]=>Q<|.int<|if b then 1 else 0
 |_=>ag
theorem wU(h:DVs K H a [d]):∃x,a=[x]/\DV K H x d:=by
 cases h with
 |cons h t=>cases t;exact⟨_,rfl,h⟩
theorem aGj(h:DVs K H a [d,e]):∃x y,a=[x,y]/\DV K H x d/\DV K H y e:=by
 cases h with
 |cons h t=>cases t with
  |cons b t=>cases t;exact⟨_,_,rfl,h,b⟩
theorem lE:RCb K (λa H Q=>∃i,a=[.int i]/\Q (.int<|if i<0 then -i else i) H) aPh:=by
 intro G H a c d Q h q k;unfold aPh at q;split at q
 ·refine qq0 λqq2=>?_;obtain⟨x,rfl,b⟩:=wU h;refine qq2 ?_;cases cF b;exact⟨_,rfl,k _ _ (.int _) q⟩
 ·exact q.elim
theorem Lg:RCb K (λa H Q=>∃i j,a=[.int i,.int j]/\Q (.int<|if j<i then j else i) H) aPc:=by
 intro G H a d e Q h q k;unfold aPc at q;split at q
 ·refine qq0 λqq2=>?_;obtain⟨x,y,rfl,b,c⟩:=aGj h;refine qq2 ?_;cases cF b;cases cF c;exact⟨_,_,rfl,k _ _ (.int _) q⟩
 ·exact q.elim
theorem Li:RCb K (λa H Q=>∃i j,a=[.int i,.int j]/\Q (.int<|if j>i then j else i) H) aPd:=by
 intro G H a d e Q h q k;unfold aPd at q;split at q
 ·refine qq0 λqq2=>?_;obtain⟨x,y,rfl,b,c⟩:=aGj h;refine qq2 ?_;cases cF b;cases cF c;exact⟨_,_,rfl,k _ _ (.int _) q⟩
 ·exact q.elim
theorem cT:RCb K (λg H Q=>∃p b,g=[.ref p]/\(SqL K H p b\/SqT K H p b)/\Q (.int b.length) H) aPe:=by
 intro G H g i j Q h q k;unfold aPe at q;split at q
 ·refine qq0 λqq2=>?_;obtain⟨x,rfl,c⟩:=wU h;obtain⟨a,d,rfl,e,f⟩:=eZ c;refine qq2 ?_;exact⟨a,d,rfl,.inl e,k _ _ (.int _) (by rw[f.len];exact q)⟩
 ·refine qq0 λqq2=>?_;obtain⟨x,rfl,c⟩:=wU h;obtain⟨a,d,rfl,e,f⟩:=wV c;refine qq2 ?_;exact⟨a,d,rfl,.inr e,k _ _ (.int _) (by rw[f.len];exact q)⟩
 ·exact q.elim
theorem Jt:∀{a:ε χ}{b:ε V},DVs K H b (a.map ep)->b=a.map V.int
 |[],_,.nil=>rfl
 |n::a,_,.cons h t=>by
  cases cF h;rw[Jt t];rfl
theorem aLs:RCb K (λc H Q=>∃(p:Ζ)(b:ε χ),c=[.ref p]/\SqL K H p (b.map V.int)/\Q (.int b.sum) H) aPa:=by
 intro G H c g i Q h q k;unfold aPa at q;split at q
 ·refine qq0 λqq2=>?_;obtain⟨x,rfl,d⟩:=wU h;obtain⟨b,rfl,q⟩:=q;obtain⟨a,j,rfl,e,f⟩:=eZ d;refine qq2 ?_;cases Jt f;exact⟨a,b,rfl,e,k _ _ (.int _) q⟩
 ·exact q.elim
theorem aLt:RCb K (λa H Q=>(∃i,a=[.int i]/\Q (.int i) H)\/∃k,a=[.bl k]/\Q (.int<|if k then 1 else 0) H) aPf:=by
 intro G H a c d Q h q k;unfold aPf at q;split at q
 ·refine qq0 λqq2=>?_;obtain⟨x,rfl,b⟩:=wU h;refine qq2 ?_;cases cF b;exact .inl ⟨_,rfl,k _ _ (.int _) q⟩
 ·refine qq0 λqq2=>?_;obtain⟨x,rfl,b⟩:=wU h;refine qq2 ?_;cases lR b;exact .inr ⟨_,rfl,k _ _ (.int _) q⟩
 ·exact q.elim
def Rg(dl:DL)(a:DX)(b:cC)(Q:ε μ->Prop):Prop:=dl a b Q
theorem Pp(f:Vf K H₀ E te dl):xO K H₀ E (tCB (λxs H Q=>∃p b,xs=[.ref p]/\(SqL K H p b\/SqT K H p b)/\∀l,H l=ν->Q (.ref l) (fA H l<|.lst b))<|eF te jP) (Rg dl):=λg h i G H v Q j S q k=>
 f g h i G H _ _ j S q λa c m w x d n o r=>⟨a,c,rfl,.inl n,λp e=>by
  obtain⟨s,u⟩:=fN (xs:=c) d.s e
  exact k p c m _ _ (d.trans s) (d.h.free e) u bJ o r⟩
def Oh:μ->String
 | .none=>"NoneType"
 | .bool _=>"bool"
 | .int _=>"int"
 | .str _=>"str"
 | .list _=>"list"
 | .tuple _=>"tuple"
 | .dict _=>"dict"
def isD(n:String)(d:μ):Bool:=Oh d==n||(n=="int" && Oh d=="bool")
abbrev DO:=DX->cC->(Θ χ->Prop)->Prop
def OvP(K:ς)(H₀:Hp)(E:XK)(g:TO)(d:DO):Prop:=∀a b c G H e Q,lO H₀ E a->Sees K H₀ G b c H->d a b e->(∀o h f,Ext G H h f->e o->Q o f)->g c H Q
def aTv(a:DX)(b:cC)(Q:Θ χ->Prop):Prop:=Q ν
def aIz(de:DE)(a:DX)(b:cC)(Q:Θ χ->Prop):Prop:=de a b λx=>match x with
 | .int i=>Q<|some i
 |_=>ag
theorem fZ:OvP K H₀ E Om aTv:=λa b c G H d Q e S q k=>k ν G H S.refl q
theorem cS(h:jO K H₀ E te de):OvP K H₀ E (aHr te) (aIz de):=λb c d G H n Q e S q k=>
 h b c d G H _ _ e S q λx f g j l m a=>by
  cases f with
  |int i=>
   cases cF m;exact⟨_,rfl,k _ g j l a⟩
  |_=>exact a.elim
def fI{b:Type}(a:ε b)(c d:Θ χ):ε b:=(a.drop<|HT.sIx a.length 0 c).take<|HT.sIx a.length a.length d-HT.sIx a.length 0 c
theorem iK(f:a->e)(b:ε a)(c d:Θ χ):fI (b.map f) c d=(fI b c d).map f:=by
 unfold fI;rw[η,ou,tf]
theorem nJ(a:ε b)(k:π):fI a ν (γ (k:χ))=a.take k:=by
 unfold fI;rw[HT.sIx_none,mx,yy,HT.sIx_nat,List.take_eq_take_iff.mpr];exact 50
theorem iF(a:ε b)(k:π):fI a (γ (k:χ)) ν=a.drop k:=by
 unfold fI;rw[HT.sIx_none,HT.sIx_nat];by_cases h:k<=a.length
 ·rw[je h,bA (by rw[az];exact 50)]
 ·have e:min k a.length=a.length:=by lia
  rw[e,xp,List.take_nil,List.drop_eq_nil_of_le<|by lia]
def dSl(dl:DL)(c d2:DO)(a:DX)(b:cC)(Q:ε μ->Prop):Prop:=dl a b λd=>c a b λe=>d2 a b λf=>Q<|fI d e f
theorem aGi{c d:Θ χ}(h:DVs K G a b):DVs K G (Nf a c d) (fI b c d):=by
 unfold Nf fI;rw[h.len];exact(h.drop _).take _
theorem gU{m d2:DO}(s:Vf K H₀ E te dl)(u:OvP K H₀ E j m)(v:OvP K H₀ E l d2):xO K H₀ E (tSl (aLu K) te j l) (dSl dl m d2):=λd e f G H N Q h S q k=>
 s d e f G H _ _ h S q λa n O w x i y z A=>u d e f w x _ _ h (S.ext i) A λB C D b F=>v d e f C D _ _ h (S.ext<|i.trans b) F λI P R c J=>
  ⟨a,n,rfl,(b.trans c).h.seq y,λp o=>by
   obtain⟨L,M⟩:=fN (xs:=Nf n B I) c.s o
   have r:=i.trans<|b.trans c
   exact k p _ _ _ _ (r.trans L) (r.h.free o) M bJ (aR (b.trans c).g (aGi z)) J⟩
def aGq(de:DE)(a:DX)(c:cC)(Q:Bool->Prop):Prop:=de a c λx=>match x with
 | .bool b=>Q b
 |_=>ag
theorem lA(h:jO K H₀ E te de):Bi K H₀ E (tB te) (aGq de):=λb c d G H n Q e S q k=>
 h b c d G H _ _ e S q λx f g j l m a=>by
  cases f with
  |bool i=>
   cases lR m;exact⟨_,rfl,k _ g j l a⟩
  |_=>exact a.elim
theorem Oi(h:jO K H₀ E te de):Bi K H₀ E (Ol te) (aGq de):=λb c d G H n Q e S q k=>
 h b c d G H _ _ e S q λx f g j l m a=>by
  cases f with
  |bool i=>
   cases lR m;exact⟨_,rfl,k _ g j l a⟩
  |_=>exact a.elim
def aUe(dt du:DT)(a:DX)(c:cC)(Q:Bool->Prop):Prop:=dt a c λb=>if b=true then du a c Q else Q false
def dOr(dt du:DT)(a:DX)(c:cC)(Q:Bool->Prop):Prop:=dt a c λb=>if b=true then Q true else du a c Q
def aTt(dt:DT)(a:DX)(c:cC)(Q:Bool->Prop):Prop:=dt a c λb=>Q<|!b
theorem uO(l:Bi K H₀ E tt dt)(m:Bi K H₀ E tu du):Bi K H₀ E (aRf tt tu) (aUe dt du):=λd e f G H s Q g S q k=>
 l d e f G H _ _ g S q λb h i a j=>by
  cases b with
  |true=>exact m d e f h i _ _ g (S.ext a) j λc n o p r=>k c n o (a.trans p) r
  |false=>exact k false h i a j
theorem gL(l:Bi K H₀ E tt dt)(m:Bi K H₀ E tu du):Bi K H₀ E (tOr tt tu) (dOr dt du):=λd e f G H s Q g S q k=>
 l d e f G H _ _ g S q λb h i a j=>by
  cases b with
  |false=>exact m d e f h i _ _ g (S.ext a) j λc n o p r=>k c n o (a.trans p) r
  |true=>exact k true h i a j
theorem jZ(a:Bi K H₀ E tt dt):Bi K H₀ E (aRb tt) (aTt dt):=λc d e G H l Q f S q k=>
 a c d e G H _ _ f S q λb g h i j=>k _ g h i j
def aJn(da db:DE)(a:DX)(c:cC)(Q:μ->Prop):Prop:=da a c λx=>match x with
 | .bool b=>if b=true then db a c Q else Q (.bool false)
 |_=>ag
def aTr(da db:DE)(a:DX)(c:cC)(Q:μ->Prop):Prop:=da a c λx=>match x with
 | .bool b=>if b=true then Q (.bool true)else db a c Q
 |_=>ag
def aJa(da:DE)(a:DX)(c:cC)(Q:μ->Prop):Prop:=da a c λx=>match x with
 | .bool b=>Q<|.bool<|!b
 |_=>ag
theorem Nb(l:jO K H₀ E ta da)(m:gP K H₀ E tb db):gP K H₀ E (aHw ta tb) (aJn da db):=λc e f G H y Q g S q k=>
 l c e f G H _ _ g S q λx n h j a o b=>by
  cases n with
  |bool i=>
   cases lR o;refine⟨_,rfl,?_⟩;cases i with
   |true=>exact m c e f h j _ _ g (S.ext a) b λv d p r s u w=>k v d p r (a.trans s) u w
   |false=>exact k _ _ h j a (.bl _) b
  |_=>exact b.elim
theorem aTd(l:jO K H₀ E ta da)(m:gP K H₀ E tb db):gP K H₀ E (aRa ta tb) (aTr da db):=λc e f G H y Q g S q k=>
 l c e f G H _ _ g S q λx n h j a o b=>by
  cases n with
  |bool i=>
   cases lR o;refine⟨_,rfl,?_⟩;cases i with
   |false=>exact m c e f h j _ _ g (S.ext a) b λv d p r s u w=>k v d p r (a.trans s) u w
   |true=>exact k _ _ h j a (.bl _) b
  |_=>exact b.elim
theorem aNz(b:jO K H₀ E ta da):gP K H₀ E (aHs ta) (aJa da):=λc d e G H n Q f S q k=>
 b c d e G H _ _ f S q λx g h j l m a=>by
  cases g with
  |bool i=>
   cases lR m;exact⟨_,rfl,k _ _ h j l (.bl _) a⟩
  |_=>exact a.elim
def aUb(dt:DT)(da db:DE)(a:DX)(c:cC)(Q:μ->Prop):Prop:=dt a c λb=>if b=true then da a c Q else db a c Q
theorem aAp(r:Bi K H₀ E tt dt)(s:gP K H₀ E ta da)(u:gP K H₀ E tb db):gP K H₀ E (tIf tt ta tb) (aUb dt da db):=λc e f G H w Q g S q k=>
 r c e f G H _ _ g S q λb n o a p=>by
  cases b with
  |true=>exact s c e f n o _ _ g (S.ext a) p λv d h i j l m=>k v d h i (a.trans j) l m
  |false=>exact u c e f n o _ _ g (S.ext a) p λv d h i j l m=>k v d h i (a.trans j) l m
abbrev DW:=ε μ->(Sl->Prop)->DX->Prop
def rm(H:Hp)(a:Ζ):Hp:=λb=>if b=a then ν else H b
def rA(K:ς)(H e:Hp)(v:V):Sl->Prop
 | .dat d=>DV K e v d
 | .own i=>∃a f,v= .ref a/\H a=ν/\e a=γ (.lst f)/\DVs K (rm e a) f i
 | .exc _=>ag
 | .mon _=>ag
 | .fz g d=>(∀c∈g,H c=ν)/\3<=g.length/\FzIs K e v g d
 | .two j k=>∃t a b f h,v= .ref t/\SqT K e t [.ref a,.ref b]/\a≠b/\H a=ν/\H b=ν/\e a=γ (.lst f)/\e b=γ (.lst h)/\DVs K (rm (rm e a) b) f j/\DVs K (rm (rm e a) b) h k
def Ko(K:ς)(w:DW):Sp:=λe H Q E=>∃b c d,DVs K H e b/\w b c d/\(∀v s a,Same H a->rA K H a v s->c s->Q v a)/\(∀C a,Same H a->d C->E (.ref C) ν a)
def Jf(G H a:Hp):Hp:=λb=>match H b with
 |none=>a b
 |some _=>G b
theorem mU(s:Sub G H)(h:Same H a):Ext G H (Jf G H a) a:=by
 refine⟨λb o z=>?_,h,λb=>?_,λb o z=>?_⟩
 ·unfold Jf;rw[s.same b o z];exact z
 ·unfold Jf;cases q:H b with
  |none=>exact .inl rfl
  |some o=>
   dsimp only;rw[h b o q];have:=s b;rw[q]at this;exact this
 ·unfold Jf at z;cases q:H b with
  |none=>exact .inr rfl
  |some u=>rw[q]at z;exact .inl z
theorem rV(s:Sub G H)(h:Same H a):∀b o,a b=γ o->(∀c,o≠ .lst c)->Jf G H a b=γ o:=λb o e n=>by
 unfold Jf;cases q:H b with
 |none=>exact e
 |some u=>
  dsimp only;have:=h b u q;rw[e]at this;cases this;exact s.other q n
def Ah:(μ->Prop)->Sl->Prop
 |Q,.dat d=>nR d=true/\Q d
 |Q,.own a=>eC a=true/\Q (.list a)
 |_,.exc _=>ag
 |_,.mon _=>ag
 |_,.fz _ _=>ag
 |_,.two _ _=>ag
def aEt:(ε μ->Prop)->Sl->Prop
 |_,.dat _=>ag
 |Q,.own a=>eC a=true/\Q a
 |_,.exc _=>ag
 |_,.mon _=>ag
 |_,.fz _ _=>ag
 |_,.two _ _=>ag
def Nt:(μ->Prop)->Sl->Prop
 |Q,.dat d=>Q d
 |Q,.own a=>Q<|.list a
 |_,.exc _=>ag
 |_,.mon _=>ag
 |Q,.fz _ d=>Q d
 |Q,.two b c=>Q<|.tuple [.list b,.list c]
def aJk(w:DW)(dl:DL)(a:DX)(b:cC)(Q:μ->Prop):Prop:=dl a b λc=>w c (Ah Q) a
def aBs(w:DW)(dl:DL)(a:DX)(b:cC)(Q:μ->Prop):Prop:=dl a b λc=>w c (Ah Q) λ_=>ag
def aBr(w:DW)(dl:DL)(a:DX)(b:cC)(Q:ε μ->Prop):Prop:=dl a b λc=>w c (aEt Q) a
def Ro(w:DW)(dl:DL)(a:DX)(b:cC)(Q:ε μ->Prop):Prop:=dl a b λc=>w c (aEt Q) λ_=>ag
def Rp(w:DW)(dl:DL)(a:DX)(b:cC)(Q:μ->Prop):Prop:=dl a b λc=>w c (Nt Q) λ_=>ag
theorem Jn:lO H₀ E λ_=>ag:=λ_ _ _ z=>z.elim
theorem vD(e:Sub G H)(h:Same H c)(r:rA K H c v s)(q:Ah Q s):∃d g,Ext G H g c/\DV K g v d/\Q d:=by
 cases s with
 |exc C=>exact r.elim
 |mon n=>exact r.elim
 |fz _ _=>exact q.elim
 |two p u=>exact q.elim
 |dat d=>exact⟨d,_,mU e h,Qv (rV e h) r q.1,q.2⟩
 |own i=>
  refine qq0 λqq2=>?_;obtain⟨a,j,rfl,k,l,m⟩:=r;refine qq2 ?_
  have f:DVs K c j i:=aR (λb o z=>by
   unfold rm at z
   split at z
   ·cases z
   ·exact z) m
  refine⟨.list i,_,mU e h,.lst (SqL.of ?_)<|jN (rV e h) f q.1,q.2⟩;unfold Jf;rw[k];exact l
theorem Pe(i:Sub G H)(h:Same H c)(r:rA K H c v s)(q:aEt Q s):
  ∃a f g j,v= .ref a/\Ext G H j c/\H a=ν/\j a=ν/\c a=γ (.lst f)/\DVs K j f g/\Q g:=by
 cases s with
 |exc C=>exact r.elim
 |mon w=>exact r.elim
 |fz _ _=>exact q.elim
 |two x y=>exact q.elim
 |dat d=>exact q.elim
 |own g=>
  refine qq0 λqq2=>?_;obtain⟨a,f,rfl,k,l,m⟩:=r;refine qq2 ?_;have e:=mU i h;have p:G a=ν:=i.same.free k;refine⟨a,f,g,rm (Jf G H c) a,rfl,⟨λb o z=>?_,h,λb=>?_,λb o z=>?_⟩,k,by unfold rm;rw[ρ rfl],l,jN (λb o z n=>?_) m q.1,q.2⟩
  ·unfold rm;rw[ι<|bT z p];exact e.g b o z
  ·unfold rm;split
   ·rename_i z;subst z
    exact .inr ⟨rfl,f,l⟩
   ·exact e.s b
  ·unfold rm at z;split at z
   ·cases z
   ·exact e.n b o z
  ·unfold rm at z⊢;split at z
   ·cases z
   ·rename_i u
    rw[ι u];exact rV i h b o z n
theorem Xm:Same (rm (rm H a) b) H:=λc o z=>by
 unfold rm at z;split at z
 ·cases z
 ·split at z
  ·cases z
  ·exact z
theorem pX(r:rA K H c v s)(q:Nt Q s):∃d,DV K c v d/\Q d:=by
 cases s with
 |exc C=>exact r.elim
 |mon u=>exact r.elim
 |fz w d=>exact⟨d,r.2.2.dv,q⟩
 |two h i=>
  refine qq0 λqq2=>?_;obtain⟨t,a,b,j,x,rfl,k,l,y,A,e,m,f,n⟩:=r;refine qq2 ?_;have g:Same (rm (rm c a) b) c:=Xm;exact⟨.tuple [.list h,.list i],.tup k<|.cons (.lst (SqL.of e)<|aR g f)<|.cons (.lst (SqL.of m)<|aR g n) .nil,q⟩
 |dat d=>exact⟨d,r,q⟩
 |own p=>
  refine qq0 λqq2=>?_;obtain⟨a,j,rfl,B,e,f⟩:=r;refine qq2 ?_
  exact⟨.list p,.lst (SqL.of e) (aR (λb o z=>by
   unfold rm at z
   split at z
   ·cases z
   ·exact z) f),q⟩
section
variable{w:DW}
theorem mW(n:uI K H₀ E t dl)(o:lO H₀ E d)(p:∀a,a=d\/a=(λ_=>ag)->lO H₀ e a\/wj)(S:Sees K H₀ G f g H)(a:DX)(u:lO H₀ e a)
  (q:dl d f λi=>w i h a) (k:∀v s j c b,Ext G H j c->Same c b->rA K c b v s->h s->Q v b):jD (Ko K w) [] e t g H Q:=
 n d f g G H _ _ o S q λB i j c m x y=>by
  refine⟨i,h,a,by rw[j2];exact x,y,λv s b l r z=>k v s j c b m l r z,λC b l A=>u C b ((S.ext m).oldH.trans l) A⟩
theorem iE(c:uI K H₀ E t dl):gP K H₀ E (jD (Ko K w) [] E t) (aJk w dl):=λe n o G H p Q a S q k=>
 mW c a (λ_ _=>.inr trivial) S e a q λv s u x f b g r h=>by
  obtain⟨d,i,j,l,m⟩:=vD b.s g r h;exact k v d i f (b.trans j) l m
theorem aE(b:uI K H₀ E t dl):gP K H₀ E (jD (Ko K w) [] E0 t) (aBs w dl):=λm n o G H p Q c S q k=>
 mW b c (λ_ _=>.inr trivial) S (λ_=>ag) Jn q λv s u x e a f r g=>by
  obtain⟨d,h,i,j,l⟩:=vD a.s f r g;exact k v d h e (a.trans i) j l
theorem aEu(d:uI K H₀ E t dl):xO K H₀ E (jD (Ko K w) [] E t) (aBr w dl):=λe y z G H A Q c S q k=>
 mW d c (λ_ _=>.inr trivial) S e c q λv s B C f b g r h=>by
  obtain⟨a,i,j,l,rfl,m,n,o,p,u,x⟩:=Pe b.s g r h;exact k a i j l f (b.trans m) (b.h.free n) o p u x
theorem bH(c:uI K H₀ E t dl):xO K H₀ E (jD (Ko K w) [] E0 t) (Ro w dl):=λx y z G H A Q d S q k=>
 mW c d (λ_ _=>.inr trivial) S (λ_=>ag) Jn q λv s B C e b f r g=>by
  obtain⟨a,h,i,j,rfl,l,m,n,o,p,u⟩:=Pe b.s f r g;exact k a h i j e (b.trans l) (b.h.free m) n o p u
theorem aCj(b:uI K H₀ E t dl):jO K H₀ E (jD (Ko K w) [] E0 t) (Rp w dl):=λj l m G H n Q c S q k=>
 mW b c (λ_ _=>.inr trivial) S (λ_=>ag) Jn q λv s o p e a f r g=>by
  obtain⟨d,h,i⟩:=pX r g;exact k v d _ e (a.trans<|mU a.s f) h i
end
end
structure DEnds where
 nx:cC->Prop
 rt:Sl->Prop
 ex:DX
 bk:cC->Prop:=λ_=>ag
 ct:cC->Prop:=λ_=>ag
abbrev DS:=DEnds->cC->Prop
structure Lk(K:ς)(H₀ G:Hp)(e:DEnds)(D:Ends):Prop where
 nx:∀δ σ G' H,Same G G'->Sees K H₀ G' δ σ H->e.nx δ->D.nx σ H
 rt:∀v s H,Same H₀ H->rA K H₀ H v s->e.rt s->D.rt v H
 bk:∀δ σ G' H,Same G G'->Sees K H₀ G' δ σ H->e.bk δ->D.bk σ H
 ct:∀δ σ G' H,Same G G'->Sees K H₀ G' δ σ H->e.ct δ->D.ct σ H
theorem Lk.mono{K:ς}(L:Lk K a G e D)(s:Same G f):Lk K a f e D:=
 ⟨λb c d H t=>L.nx b c d H<|s.trans t,L.rt,λb c d H t=>L.bk b c d H<|s.trans t,λb c d H t=>L.ct b c d H<|s.trans t⟩
def jQ(K:ς)(a:Hp)(E:XK)(d:TS)(f:DS):Prop:=∀b c G H e D,lO a E e.ex->Sees K a G b c H->f e b->Lk K a G e D->d D c H
abbrev DG:=μ->cC->(cC->Prop)->Prop
abbrev DGs:=ε μ->cC->(cC->Prop)->Prop
def Kp(c:ε π)(b a:L2.St):Prop:=a.length=b.length/\∀j,j∉c->a[j]? =b[j]?
def Vg(K:ς)(a:Hp)(g:TG)(i:ε π)(j:DG):Prop:=∀v d f e G H h Q,Sees K a G f e H->DV K G v d->j d f h->(∀c b,Sees K a G c b H->Kp i e b->h c->Q b H)->g v e H Q
def aCw(K:ς)(a:Hp)(g:Vd)(j:ε π)(k:DGs):Prop:=∀e f h d G H i Q,Sees K a G h d H->DVs K G e f->k f h i->(∀c b,Sees K a G c b H->Kp j d b->i c->Q b H)->g e d H Q
section
variable{K:ς}{H₀:Hp}{E:XK}{te ta tb:TE}{da db de:DE}{dl dk:DL}{t:TA}{tt tu:TT}{dt du:DT}{ts tz:TS}{ds dz:DS}{g:TG}{dg:DG}{gs:Vd}{dgs:DGs}{ns ms:ε π}
def aJb(e:DEnds)(a:cC):Prop:=e.nx a
def aOl(a d2:DS)(e:DEnds)(b:cC):Prop:=a {e with nx:=d2 e} b
def aUc(b d2:DS)(e:DEnds)(c:cC):Prop:=∃I:cC->Prop,b {e with nx:=I} c/\∀a,I a->d2 e a
theorem aP:jQ K H₀ E Oo aJb:=λa b G H e D c S q L=>L.nx a b G H (Same.refl _) S q
theorem aH(d:jQ K H₀ E ts ds)(f:jQ K H₀ E tz dz):jQ K H₀ E (xQ ts tz) (aOl ds dz):=λh i G H e D c S q L=>
 d h i G H {e with nx:=dz e} {D with nx:=tz D} c S q ⟨λa b j k s l m=>f a b j k e D c l m<|L.mono s,L.rt,L.bk,L.ct⟩
theorem nY(d:jQ K H₀ E ts ds)(f:jQ K H₀ E tz dz):jQ K H₀ E (xQ ts tz) (aUc ds dz):=λh i G H e D c S ⟨I,q,j⟩ L=>
 d h i G H {e with nx:=I} {D with nx:=tz D} c S q ⟨λa b k l s m n=>f a b k l e D c m (j a n)<|L.mono s,L.rt,L.bk,L.ct⟩
def aTo(de:DE)(e:DEnds)(a:cC):Prop:=de e.ex a λd=>e.rt<|.dat d
def aIx(dl:DL)(e:DEnds)(a:cC):Prop:=dl e.ex a λds=>e.rt<|.own ds
def aBd(i:π)(e:DEnds)(a:cC):Prop:=match slot a i with
 |some (.dat d)=>e.rt<|.dat d
 |some (.own ds)=>e.rt<|.own ds
 |_=>ag
theorem vC{ds:ε μ}(d:H₀ a=ν)(e:G a=ν)(s:Sub G H)(f:H a=γ (.lst c))(h:DVs K G c ds):rA K H₀ H (.ref a) (.own ds):=
 ⟨a,c,rfl,d,f,aR (λb o z=>by
  unfold rm
  rw[ι<|bT z e]
  exact s.same b o z) h⟩
theorem bB(h:jO K H₀ E te de):jQ K H₀ E (Fu te) (aTo de):=λa b G H e D c S q L=>
 h e.ex a b G H _ _ c S q λv d k f x i j=>L.rt v (.dat d) f (S.ext x).oldH i j
theorem dW(h:xO K H₀ E te dl):jQ K H₀ E (Fu te) (aIx dl):=λb c G H e D d S q L=>
 h e.ex b c G H _ _ d S q λa n ds o f x i j k l m=>L.rt (.ref a) (.own ds) f (S.ext x).oldH (vC (S.oldH.free i) j x.s k l) m
theorem dU(i:π):jQ K H₀ E (Fu<|iI i) (aBd i):=λl m G H e D n S q L=>by
 unfold aBd at q;split at q
 ·rename_i d b
  obtain⟨v,c,f⟩:=S.has i _ b;exact⟨v,c,L.rt v (.dat d) H S.oldH (dI S.sub.same f) q⟩
 ·rename_i ds b
  obtain⟨v,c,f⟩:=S.has i _ b;obtain⟨a,o,rfl,h,j,k⟩:=f;exact⟨_,c,L.rt _ (.own ds) H S.oldH (vC (S.old.free h) h S.sub j k) q⟩
 ·exact q.elim
def aJi(de:DE)(e:DEnds)(a:cC):Prop:=de e.ex a λ_=>e.nx a
theorem pI(h:jO K H₀ E te de):jQ K H₀ E (Op te) (aJi de):=λa b G H e D c S q L=>
 h e.ex a b G H _ _ c S q λv d f i x k j=>L.nx a b f i x.g (S.ext x) j
def aUa(dt:DT)(c d2:DS)(e:DEnds)(a:cC):Prop:=dt e.ex a λb=>if b=true then c e a else d2 e a
theorem bF(h:Bi K H₀ E tt dt)(k:jQ K H₀ E ts ds)(l:jQ K H₀ E tz dz):jQ K H₀ E (Wl tt ts tz) (aUa dt ds dz):=λa c G H e D d S q L=>
 h e.ex a c G H _ _ d S q λb f i x j=>by
  cases b with
  |true=>exact k a c f i e D d (S.ext x) j<|L.mono x.g
  |false=>exact l a c f i e D d (S.ext x) j<|L.mono x.g
def Dw(i:π)(d:μ)(a:cC)(Q:cC->Prop):Prop:=Q<|put (γ<|.dat d) i a
def aAa(ds:ε μ)(a:cC)(Q:cC->Prop):Prop:=match ds with
 |[]=>Q a
 |_=>ag
def Ms(dg:DG)(dgs:DGs)(ds:ε μ)(b:cC)(Q:cC->Prop):Prop:=match ds with
 |d::r=>dg d b λa=>dgs r a Q
 |[]=>ag
def Zz(n:π)(dgs:DGs)(d:μ)(a:cC)(Q:cC->Prop):Prop:=match d with
 | .tuple ds=>ds.length=n/\dgs ds a Q
 |_=>ag
theorem aG(i:π):Vg K H₀ (kR i) [i] (Dw i):=λv d c e G H f Q S a q k=>
 k _ _ (S.setD i a) ⟨l9,λj b=>by rw[ic λz=>b<|by simp[z]]⟩ q
theorem dO:aCw K H₀ aTb [] aAa:=λd ds a b G H e Q S c q k=>by
 unfold aAa at q;split at q
 ·cases c;exact⟨rfl,k a b S ⟨rfl,λ_ _=>rfl⟩ q⟩
 ·exact q.elim
theorem aW(l:Vg K H₀ g ns dg)(m:aCw K H₀ gs ms dgs):aCw K H₀ (aIn g gs) (ns++ms) (Ms dg dgs):=λw ds n o G H x Q S a q k=>by
 unfold Ms at q;split at q
 ·cases a with
  |cons a p=>
   refine⟨_,_,rfl,l _ _ n o G H _ _ S a q λb c r f s=>m _ _ b c G H _ _ r p s λd e u h v=>k d e u ⟨h.1.trans f.1,λj i=>?_⟩ v⟩;rw[h.2 j λz=>i<|cc _ z,f.2 j λz=>i<|ib _ z]
 ·exact q.elim
theorem eB(h:aCw K H₀ gs ns dgs):Vg K H₀ (aNw K n gs) ns (Zz n dgs):=λv d c e G H l Q S f q k=>by
 unfold Zz at q;split at q
 ·obtain⟨a,i,rfl,j,b⟩:=wV f;exact⟨a,i,rfl,mF S.sub.same j,by rw[b.len];exact q.1,h _ _ c e G H _ _ S b q.2 k⟩
 ·exact q.elim
def aOs(de:DE)(dg:DG)(e:DEnds)(a:cC):Prop:=de e.ex a λd=>dg d a e.nx
theorem eL(h:gP K H₀ E te de)(k:Vg K H₀ g ns dg):jQ K H₀ E (nW te g) (aOs de dg):=λc f G H e D l S q L=>
 h e.ex c f G H _ _ l S q λv d i j x m n=>k v d c f i j _ _ (S.ext x) m n λa b o _ p=>L.nx a b i j x.g o p
def aIt(dl:DL)(i:π)(e:DEnds)(a:cC):Prop:=dl e.ex a λds=>e.nx<|put (γ<|.own ds) i a
theorem aZ(i:π)(h:xO K H₀ E te dl):jQ K H₀ E (nW te<|kR i) (aIt dl i):=λb c G H e D d S q L=>
 h e.ex b c G H _ _ d S q λa p ds f j x k l m n o=>L.nx _ _ f j x.g (S.setO x i k l m n) o
def nQ:cC->Bool
 |[]=>true
 |some (.own _)::_=>false
 |_::r=>nQ r
theorem fL:∀{δ:cC}{i:π}{ds:ε μ},nQ δ=true->slot δ i≠γ (.own ds)
 |[],_,_,_,h=>by cases h
 |some (.own _)::_,_,_,h,_=>by cases h
 |some (.dat _)::_,0,_,_,h=>by cases h
 |some (.exc _)::_,0,_,_,h=>by cases h
 |some (.fz _ _)::_,0,_,_,h=>by cases h
 |some (.fz _ _)::r,i+1,ds,h,e=>fL (δ:=r) (i:=i) (ds:=ds) h e
 |some (.mon _)::_,0,_,_,h=>by cases h
 |some (.mon _)::r,i+1,ds,h,e=>fL (δ:=r) (i:=i) (ds:=ds) h e
 |some (.two _ _)::_,0,_,_,h=>by cases h
 |some (.two _ _)::r,i+1,ds,h,e=>fL (δ:=r) (i:=i) (ds:=ds) h e
 |none::_,0,_,_,h=>by cases h
 |some (.exc _)::r,i+1,ds,h,e=>fL (δ:=r) (i:=i) (ds:=ds) h e
 |some (.dat _)::r,i+1,ds,h,e=>fL (δ:=r) (i:=i) (ds:=ds) h e
 |none::r,i+1,ds,h,e=>fL (δ:=r) (i:=i) (ds:=ds) h e
theorem Sees.all2(S:Sees K H₀ G l m H)(h:nQ l=true)(b:Same H k):Sees K H₀ k l m k:=
 ⟨S.oldH.trans b,.refl _,S.len,λi s e=>by
  obtain⟨v,f,c⟩:=S.has i s e
  cases s with
  |dat d=>exact⟨v,f,dI (S.sub.same.trans b) c⟩
  |two n o=>exact c.elim
  |fz u d=>exact⟨v,f,FzIs.same (S.sub.same.trans b) c⟩
  |mon w=>exact⟨v,f,λp q=>c p<|(S.sub.same.trans b).trans q⟩
  |exc C=>
   refine qq0 λqq2=>?_;obtain⟨x,rfl,r⟩:=c;refine qq2 ?_
   exact⟨_,f,x,rfl,b _ _<|S.sub.same _ _ r⟩
  |own ds=>exact ψ e (fL h),λi j n o a e=>ψ e (fL h)⟩
def aJm(w:DW)(dl:DL)(dg:DG)(e:DEnds)(a:cC):Prop:=dl e.ex a λds=>nQ a=true/\w ds (Nt λd=>dg d a e.nx) e.ex
def aBt(w:DW)(dl:DL)(dg:DG)(e:DEnds)(a:cC):Prop:=dl e.ex a λds=>nQ a=true/\w ds (Nt λd=>dg d a e.nx) λ_=>ag
theorem aDx(l:uI K H₀ E t dl)(m:Vg K H₀ g ns dg):jQ K H₀ E (nW (jD (Ko K w) [] E t) g) (aJm w dl dg):=λi j G H e D k S q L=>
 l e.ex i j G H _ _ k S q λI ds J M b n ⟨o,p⟩=>by
  refine⟨ds,_,e.ex,by rw[j2];exact n,p,λv s a c r u=>?_,λC a c x=>k C a ((S.ext b).oldH.trans c) x⟩;obtain⟨d,y,A⟩:=pX r u;exact m v d i j a a _ _ ((S.ext b).all2 o c) y A λf h B _ F=>L.nx f h a a ((S.ext b).sub.same.trans c|>λz=>b.g.trans z) B F
theorem Fz(k:uI K H₀ E t dl)(l:Vg K H₀ g ns dg):jQ K H₀ E (nW (jD (Ko K w) [] E0 t) g) (aBt w dl dg):=λi j G H e D m S q L=>
 k e.ex i j G H _ _ m S q λI ds J M b n ⟨o,p⟩=>by
  refine⟨ds,_,λ_=>ag,by rw[j2];exact n,p,λv s a c r u=>?_,λC a c x=>x.elim⟩;obtain⟨d,y,A⟩:=pX r u;exact l v d i j a a _ _ ((S.ext b).all2 o c) y A λf h B _ F=>L.nx f h a a ((S.ext b).sub.same.trans c|>λz=>b.g.trans z) B F
def wQ(i:π)(a:cC):cC:=match slot a i with
 |some (.own ds)=>put (γ<|.dat<|.list ds) i a
 |_=>a
def aBk(i:π)(d:DS)(e:DEnds)(a:cC):Prop:=d e<|wQ i a
theorem nX(i:π)(h:jQ K H₀ E ts ds):jQ K H₀ E ts (aBk i ds):=λc a G H e D b S q L=>by
 unfold aBk wQ at q;split at q
 ·rename_i k d
  obtain⟨f,s,j⟩:=S.frz d;exact h _ a f H e D b j q<|L.mono s
 ·exact h c a G H e D b S q L
def aTq(i j:π)(dl:DL)(e:DEnds)(a:cC):Prop:=dl e.ex a λds=>match ds with
 |[b,d2]=>e.nx<|put (γ<|.dat d2) j<|put (γ<|.dat b) i a
 |_=>ag
theorem aLa(i j:π)(h:AvE K H₀ E t n dl):jQ K H₀ E (aQz i j t) (aTq i j dl):=λb c G H e D d S q L=>
 h e.ex b c G H _ _ d S q λp ds f k x l _ a=>by
  split at a
  ·refine qq0 λqq2=>?_;obtain⟨v,w,rfl,m,o⟩:=aGj l;refine qq2 ?_;exact⟨v,w,rfl,L.nx _ _ f k x.g (((S.ext x).setD i m).setD j o) a⟩
  ·exact a.elim
def aBe(C:Ζ)(dl:DL)(e:DEnds)(a:cC):Prop:=dl e.ex a λ_=>e.ex C
theorem cY(h:AvE K H₀ E t n dl)(b:n<=1000:=by decide):jQ K H₀ E (Wk E C t) (aBe C dl):=λc d G H e D a S q L=>
 h e.ex c d G H _ _ a S q λl ds m f x i j k=>⟨cg<|bX (by rw[i.len,j];exact b),a C f (S.ext x).oldH k⟩
def aOu(i:π)(de:DE)(e:DEnds)(a:cC):Prop:=match slot a i with
 |some (.own ds)=>de e.ex a λd=>ds.length<1000/\e.nx (put (γ<|.own<|ds++[d]) i a)
 |_=>ag
theorem nZ(i:π)(h:gP K H₀ E te de):jQ K H₀ E (Op<|tBM K "list" Ph (iI i)<|eF te jP) (aOu i de):=λk l G H e D m S q L=>by
 unfold aOu at q;split at q
 ·rename_i ds b
  refine qq0 λqq2=>?_;obtain⟨a,n,c,w,f,j⟩:=S.ownAt b;refine qq2 ?_;refine⟨_,c,.inl ⟨rfl,_,SqL.of f⟩,h e.ex k l G H _ _ m S q λv d o y x p r=>?_⟩;obtain⟨z,s⟩:=r;have u:=S.ext x;exact⟨a,n,v,rfl,rfl,x.h _ _ f,bX (by rw[j.len];exact 0),L.nx _ _ o _ x.g (u.updO b c<|(aR x.g j).append<|.cons p .nil) s⟩
 ·exact q.elim
def aBf(i:π)(de b:DE)(e:DEnds)(a:cC):Prop:=de e.ex a λd=>match slot a i with
 |some (.own ds)=>b e.ex a λy=>(match y with
  | .int k=>∃j,Uf ds.length k=γ j/\e.nx (put (γ<|.own<|ds.set j d) i a)
  |_=>ag)
 |_=>ag
theorem Wo(i:π)(h:gP K H₀ E te de)(u:jO K H₀ E ta da):jQ K H₀ E (nW te<|aTa (iI i) ta aIa) (aBf i de da):=λm n G H e D o S q L=>
 h e.ex m n G H _ _ o S q λv d w z x A f=>by
  split at f
  ·rename_i ds p
   have l:=S.ext x;obtain⟨a,B,r,O,C,s⟩:=l.ownAt p;refine⟨_,r,u e.ex m n w z _ _ o l f λy F I P b J c=>?_⟩;cases F with
   |int k=>
    obtain⟨j,M,c⟩:=c;cases cF J;have N:=l.ext b;exact⟨a,B,k,j,rfl,rfl,b.h _ _ C,by rw[s.len];exact M,L.nx _ _ I _ (x.g.trans b.g) (N.updO p r<|(aR b.g s).set (dI b.g A) j) c⟩
   |_=>exact c.elim
  ·exact f.elim
def ItS(K:ς)(J:It)(G:Hp)(ds:ε μ):Prop:=∀b a,Same G b->Sub b a->∀i,
 (∀d,ds[i]? =γ d->J.go i a/\∀x c,J.yld i a x c->∃e,Ext b a e c/\DV K e x d)/\(ds.length<=i->J.stop i a)
def ItE(K:ς)(J:It)(G H:Hp)(ds:ε μ):Prop:=∀b a,Ext G H b a->∀i,
 (∀d,ds[i]? =γ d->J.go i a/\∀x c,J.yld i a x c->∃e,Ext b a e c/\DV K e x d)/\(ds.length<=i->J.stop i a)
theorem ItS.e{ds:ε μ}(h:ItS K J G ds):ItE K J G H ds:=λa b e=>h a b e.g e.s
def IvS(K:ς)(H₀:Hp)(E:XK)(h:TI)(dl:DL):Prop:=∀a b c G H d R,lO H₀ E a->Sees K H₀ G b c H->dl a b d->(∀J ds e f,Ext G H e f->ItS K J e ds->d ds->R J f)->h c H R
def IvE(K:ς)(H₀:Hp)(E:XK)(h:TI)(dl:DL):Prop:=∀b c d G H e R,lO H₀ E b->Sees K H₀ G c d H->dl b c e->(∀J ds f a,Ext G H f a->ItE K J f a ds->e ds->R J a)->h d H R
theorem IvS.e(h:IvS K H₀ E a dl):IvE K H₀ E a dl:=λb c d G H f R i S q k=>h b c d G H f R i S q λJ ds j l e m n=>k J ds j l e m.e n
theorem iV(h:gP K H₀ E te de):IvS K H₀ E (Qm K te) (Ek de):=λp r s G H I R u S q k=>
 h p r s G H _ _ u S q λv d A B e C m=>by
  cases d with
  |list ds=>
   refine qq0 λqq2=>?_;obtain⟨a,b,rfl,c,n⟩:=eZ C;refine qq2 ?_;refine⟨a,rfl,⟨b,e.s.same.seq c⟩,k _ ds A B e (λD J f j i=>⟨λd l=>?_,λl=>⟨b,j.same.seq<|f.seq c,by rw[n.len];exact l⟩⟩) m⟩;obtain⟨x,o,F⟩:=n.at l;refine⟨⟨b,x,j.same.seq<|f.seq c,o⟩,λy L ⟨z,w⟩=>?_⟩;subst z;have:=w b<|j.same.seq<|f.seq c;rw[o]at this;cases this;exact⟨D,.refl j,dI f F⟩
  |_=>exact m.elim
theorem cE(h:Vf K H₀ E te dl):IvE K H₀ E (Qm K te) dl:=λn o p G H C R r S q k=>
 h n o p G H _ _ r S q λa c ds s u e f l v=>by
  refine⟨a,rfl,⟨c,f⟩,k _ ds s u e (λA D b i=>⟨λd j=>?_,λj=>⟨c,b.h.seq f,by rw[l.len];exact j⟩⟩) v⟩;obtain⟨x,m,B⟩:=l.at j;refine⟨⟨c,x,b.h.seq f,m⟩,λy F ⟨z,w⟩=>?_⟩;subst z;have:=w c<|b.h.seq f;rw[m]at this;cases this;exact⟨A,.refl b.s,dI b.g B⟩
def pV(a:χ)(n:π)(st:χ):ε μ:=(range n).map λ(k:π)=>ep<|a+(k:χ)*st
theorem Ca{a st:χ}(h:(pV a n st)[i]? =γ d):i<n/\d= .int (a+(i:χ)*st):=by
 unfold pV at h;rw[el]at h;cases q:(range n)[i]? with
 |none=>rw[q]at h;cases h
 |some k=>
  rw[q]at h;obtain⟨b,c⟩:=Δ.mp q;simp only[hE]at c;subst c;simp only[cw]at b;simp only[x8,BF]at h;exact⟨b,h.symm⟩
theorem vB{a st:χ}:(pV a n st).length=n:=by simp[pV]
def aIw(dl:DL)(a:DX)(b:cC)(Q:ε μ->Prop):Prop:=dl a b λds=>match ds with
 |[.int j]=>(-(2^62)<=j/\j<2^62)/\Q (pV 0 j.toNat 1)
 |_=>ag
def aIv(dl:DL)(a:DX)(b:cC)(Q:ε μ->Prop):Prop:=dl a b λds=>match ds with
 |[.int i,.int j]=>(-(2^62)<=i/\i<2^62/\-(2^62)<=j/\j<2^62)/\Q (pV i (j-i).toNat 1)
 |_=>ag
def aIu(dl:DL)(a:DX)(b:cC)(Q:ε μ->Prop):Prop:=dl a b λds=>match ds with
 |[.int i,.int j,.int k]=>∃n:π,(k≠0/\k.natAbs<1000000/\Builtin.Range.small i j k=true)/\eu i j k=(n:χ)/\Q (pV i n k)
 |_=>ag
theorem aIg{b:χ}:ItS K (Itr b n) G (pV b n 1):=λc k l e i=>⟨λd a=>by
  obtain⟨f,rfl⟩:=Ca a
  refine⟨f,λx m ⟨h,j⟩=>?_⟩
  subst h j
  rw[pb]
  exact⟨c,.refl e,.int _⟩,λa=>by rw[vB]at a;exact a⟩
theorem aSw{b st:χ}{n:π}{G:Hp}:ItS K (Its b st n) G (pV b n st):=λc k l e i=>⟨λd a=>by
  obtain⟨f,rfl⟩:=Ca a
  refine⟨f,λx m ⟨h,j⟩=>?_⟩
  subst h j
  exact⟨c,.refl e,.int _⟩,λa=>by rw[vB]at a;exact a⟩
theorem aWn(h:DVs K H a [d,e,f]):∃x y z,a=[x,y,z]/\DV K H x d/\DV K H y e/\DV K H z f:=by
 cases h with
 |cons h t=>cases t with
  |cons b t=>cases t with
   |cons c t=>cases t;exact⟨_,_,_,rfl,h,b,c⟩
theorem lI(h:uI K H₀ E t dl):IvS K H₀ E (aIl t) (aIw dl):=λb c d G H n R f S q k=>
 h b c d G H _ _ f S q λo ds i j e l a=>by
  split at a
  ·refine qq0 λqq2=>?_;obtain⟨x,rfl,m⟩:=wU l;refine qq2 ?_;cases cF m;exact⟨_,rfl,a.1.1,a.1.2,k _ _ i j e aIg a.2⟩
  ·exact a.elim
theorem Qk(h:uI K H₀ E t dl):IvS K H₀ E (aIk t) (aIv dl):=λb c d G H o R f S q k=>
 h b c d G H _ _ f S q λp ds i j e l a=>by
  split at a
  ·refine qq0 λqq2=>?_;obtain⟨x,y,rfl,m,n⟩:=aGj l;refine qq2 ?_;cases cF m;cases cF n;exact⟨_,_,rfl,a.1,k _ _ i j e aIg a.2⟩
  ·exact a.elim
theorem aFx(h:uI K H₀ E t dl):IvS K H₀ E (aIj t) (aIu dl):=λb c d G H A R f S q k=>
 h b c d G H _ _ f S q λB ds i j e l a=>by
  split at a
  ·refine qq0 λqq2=>?_;obtain⟨x,y,z,rfl,m,o,p⟩:=aWn l;refine qq2 ?_;cases cF m;cases cF o;cases cF p;refine qq0 λqq2=>?_;obtain⟨n,⟨r,s,u⟩,v,w⟩:=a;refine qq2 ?_;exact⟨_,_,_,rfl,n,r,s,u,v,k _ _ i j e aSw w⟩
  ·exact a.elim
def aOq(dl:DL)(dg:DG)(db:DS)(e:DEnds)(c:cC):Prop:=dl e.ex c λds=>∃I:π->cC->Prop,I 0 c/\
 (∀i d a,ds[i]? =γ d->I i a->dg d a λb=>db {e with nx:=I<|i+1,ct:=I<|i+1,bk:=e.nx} b)/\∀a,I ds.length a->e.nx a
theorem eA(U:IvS K H₀ E M dl)(W:Vg K H₀ g ns dg)(X:jQ K H₀ E ts ds):jQ K H₀ E (aRd M g ts) (aOq dl dg ds):=λN h G H e D O S q L=>
 U e.ex N h G H _ _ O S q λJ p r H1 u Y ⟨I,Z,step,v⟩=>by
  refine⟨λi m h H=>m=p.length-i/\i<=p.length/\∃a c,Same r c/\Sees K H₀ c a h H/\I i a,⟨_,rfl,iw _,N,r,Same.refl _,S.ext u,Z⟩,?_⟩;intro i m j P qQ0;refine qq0 λqq2=>?_;obtain⟨rfl,a0,a,c,sg,S',R⟩:=qQ0;obtain⟨t1,t2⟩:=Y c P sg S'.sub i;refine qq2 ?_;by_cases d:i<p.length
  ·obtain⟨g1,g2⟩:=t1 _<|ah d;refine .inr ⟨g1,λh H=>∃a c,Same r c/\Sees K H₀ c a h H/\I (i+1) a,λa1 s z=>⟨_,‹50›,rfl,d,z⟩,λx s y=>?_⟩;obtain⟨w,T,hd⟩:=g2 x s y;have S2:=S'.ext T;refine W x _ a j w s _ _ S2 hd (step i _ a (ah d) R) λA B S3 _ q3=>?_;have C:Same r w:=sg.trans T.g;exact X A B w s {e with nx:=I<|i+1,ct:=I<|i+1,bk:=e.nx} _ O S3 q3 ⟨λb f k F l n o=>⟨b,k,C.trans l,n,o⟩,L.rt,λb f k F l n o=>L.nx b f k F (u.g.trans<|C.trans l) n o,λb f k F l n o=>⟨b,k,C.trans l,n,o⟩⟩
  ·have:i=p.length:=by lia
   subst this;exact .inl ⟨t2<|ω _,L.nx a j c P (u.g.trans sg) S'<|v a R⟩
def aOk(dt:DT)(db:DS)(e:DEnds)(d:cC):Prop:=∃I:π->cC->Prop,(∃m,I m d)/\∀m a,I m a ->
 dt e.ex a λb=>if b=true then db {e with nx:=λc=>∃k,k<m/\I k c,ct:=λc=>∃k,k<m/\I k c,bk:=e.nx} a else e.nx a
theorem pG(h:Bi K H₀ E tt dt)(F:jQ K H₀ E ts ds):jQ K H₀ E (Wj tt ts) (aOk dt ds):=λJ u G H e D v S ⟨I,⟨M,N⟩,step⟩ L=>by
 refine⟨λm u H=>∃a f,Same G f/\Sees K H₀ f a u H/\I m a,⟨M,J,G,Same.refl _,S,N⟩,?_⟩;intro m i O qQ0;refine qq0 λqq2=>?_;obtain⟨a,f,sg,w,P⟩:=qQ0;refine qq2 ?_;refine h e.ex a i f O _ _ v w (step m a P) λb o x y A=>?_;have B:=w.ext y;have p:Same G o:=sg.trans y.g;cases b with
 |true=>
  have C:∀d c n j,Same o n->Sees K H₀ n d c j->(∃k,k<m/\I k d)->∃k,k<m/\∃a f,Same G f/\Sees K H₀ f a c j/\I k a:=λd c n j q r ⟨k,R,s⟩=>⟨k,R,d,n,p.trans q,r,s⟩;exact⟨λc j=>∃k,k<m/\∃a f,Same G f/\Sees K H₀ f a c j/\I k a,λ_ _ z=>z,F a i o x {e with nx:=λl=>∃k,k<m/\I k l,ct:=λl=>∃k,k<m/\I k l,bk:=e.nx} _ v B A ⟨C,L.rt,λd c n j q r s=>L.nx d c n j (p.trans q) r s,C⟩⟩
 |false=>exact L.nx a i o x p B A
def xG(a:ε<|Θ π)(b:cC):cC:=match a with
 |[]=>[]
 |none::r=>ν::xG r b
 |some i::r=>slot b i::xG r b
theorem xF:∀(a:ε<|Θ π)(b:cC),(xG a b).length=a.length
 |[],_=>rfl
 |none::r,b=>by simp[xG,xF r b]
 |some i::r,b=>by simp[xG,xF r b]
theorem kU:∀{cap:ε<|Θ π}{δ:cC}{j:π}{s:Sl},slot (xG cap δ) j=γ s->∃i,cap[j]? =γ (γ i)/\slot δ i=γ s
 |[],_,_,_,h=>by cases h
 |none::r,δ,0,s,h=>by cases h
 |some i::r,δ,0,s,h=>⟨i,rfl,h⟩
 |none::r,δ,j+1,s,h=>by
  obtain⟨i,a,b⟩:=kU (cap:=r) (δ:=δ) (j:=j) h;exact⟨i,by simpa using a,b⟩
 |some _::r,δ,j+1,s,h=>by
  obtain⟨i,a,b⟩:=kU (cap:=r) (δ:=δ) (j:=j) h;exact⟨i,by simpa using a,b⟩
theorem Rq{a:ε<|Θ π}{j i:π}(h:a[j]? =γ (γ i)):i∈a.filterMap id:=m8.mpr ⟨γ i,Ω h,rfl⟩
theorem Em:∀{cap:ε<|Θ π}{j k i:π},(cap.filterMap id).Nodup->cap[j]? =γ (γ i)->cap[k]? =γ (γ i)->j=k
 |[],_,_,_,_,h,_=>by simp at h
 |none::r,0,_,_,_,h,_=>by simp at h
 |none::r,_+1,0,_,_,_,h=>by simp at h
 |none::r,j+1,k+1,i,n,b,c=>ea (·+1) (Em (cap:=r) (by simpa using n) (by simpa using b)<|by simpa using c)
 |some a::r,0,0,_,_,_,_=>rfl
 |some a::r,0,k+1,i,n,b,c=>by
  have e:a=i:=by simpa using b
  subst e;have:a∈r.filterMap id:=Rq (by simpa using c);simp only[ix,id,ky]at n;exact ψ this n.1
 |some a::r,j+1,0,i,n,b,c=>by
  have e:a=i:=by simpa using c
  subst e;have:a∈r.filterMap id:=Rq (by simpa using b);simp only[ix,id,ky]at n;exact ψ this n.1
 | γ a :: r,j + 1,k + 1,i,n,b,c=>ea (· + 1) (Em (cap:=r) (by
   simp only[ix,id,ky]at n
   exact n.2) (by simpa using b) (by simpa using c))
def Kn(a:ε<|Θ π)(c b:L2.St):Prop:=b.length=a.length/\∀(j i:π),a[j]? =γ (γ i)->b[j]? =γ ((c[i]?).bind id)
theorem aOv:Kn a b (capσ a b):=⟨by simp[capσ],λj i h=>by
 unfold capσ
 rw[el,h]
 rfl⟩
theorem aGu(S:Sees K H₀ G q r H)(e:Ext G H o p)(F:(d.filterMap id).Nodup)(c:Kn d r l):Sees K H₀ o (xG d q) l p:=by
 have f:=S.ext e;refine⟨f.old,f.sub,by rw[xF,c.1];exact ω _,λj s h=>?_,λj k I J a m n u w=>?_⟩
 ·refine qq0 λqq2=>?_;obtain⟨i,m,n⟩:=kU h;obtain⟨v,L,M⟩:=f.has i s n;refine qq2 ?_;refine⟨v,?_,M⟩;rw[c.2 j i m,L];rfl
 ·obtain⟨i,x,y⟩:=kU m;obtain⟨z,A,B⟩:=kU n;obtain⟨b,_,C,_⟩:=f.ownAt y;obtain⟨N,_,D,_⟩:=f.ownAt B;rw[c.2 j i x,C]at u;rw[c.2 k z A,D]at w;have O:b=a:=by cases u;rfl
  have P:N=a:=by cases w;rfl
  subst O;subst P;have:=f.sep i z I J _ y B C D;subst this;exact Em F x A
def aOj(a:DX)(b:cC)(Q:Bool->Prop):Prop:=Q true
theorem bV:Bi K H₀ E aQy aOj:=λa b c G H d Q e S q k=>k true G H S.refl q
def dLC(dl:DL)(e:ε<|Θ π)(dg:DG)(dt:DT)(de:DE)(h:DX)(f:cC)(Q:ε μ->Prop):Prop:=dl h f λds=>ds.length<=1000/\∃I:π->ε μ->Prop,I 0 []/\
 (∀i d a,ds[i]? =γ d->I i a->dg d (xG e f) λc=>dt (λ_=>ag) c λb=>if b=true then de (λ_=>ag) c λy=>I (i+1) (a++[y])else I (i+1) a)/\∀a,I ds.length a->Q a
theorem He(hi:IvE K H₀ E wi dl)(hg:Vg K H₀ g ns dg)(ht:Bi K H₀ E tt dt)(he:gP K H₀ E te de)(hn:(c.filterMap id).Nodup)(U:ns.all (λj=>(c[j]?.bind id).isNone)=true):xO K H₀ E (tLC wi c g tt te) (dLC dl c dg dt de):=λex δ N G H Qd Q hx S q k=>
 hi ex δ N G H _ _ hx S q λJ xs O W P it ⟨hlen,I,i0,step,X⟩=>by
  intro D Y;obtain⟨eD,gD⟩:=fN (xs:=[]) P.s Y
  refine⟨λi m f r=>m=xs.length-i/\i<=xs.length/\Kn c N f/\∃d a e,Ext O W d r/\d D=ν/\r D=γ (.lst e)/\DVs K d e a/\a.length<=i/\I i a,
   ⟨_,rfl,iw _,aOv,O,[],[],eD,gD,bJ,.nil,ω _,i0⟩,?_⟩
  intro i m f r qQ0;refine qq0 λqq2=>?_;obtain⟨rfl,a2,Z,d,a,e,v,gd,A,R,B,hI⟩:=qQ0;obtain⟨t1,t2⟩:=it d r v i;refine qq2 ?_;by_cases s:i<xs.length
  ·obtain⟨g1,g2⟩:=t1 _<|ah s;refine .inr ⟨g1,λC p=>Kn c N C/\∃d a e,Ext O W d p/\d D=ν/\p D=γ (.lst e)/\DVs K d e a/\a.length<=i+1/\I (i+1) a,λC p z=>⟨_,‹50›,rfl,s,z⟩,λx p y=>?_⟩;refine qq0 λqq2=>?_;obtain⟨G2,e2,a0⟩:=g2 x p y;refine qq2 ?_;have S2:Sees K H₀ G2 (xG c δ) f p:=aGu S (P.trans<|v.trans e2) hn Z;refine hg x _ _ f G2 p _ _ S2 a0 (step i _ a (ah s) hI) λF u S3 kp q3=>?_
   have L:Kn c N u:=⟨kp.1.trans Z.1,λj z hj=>by
    rw[kp.2 j (λhm=>by
     have:=pe.mp U j hm
     rw[hj]at this
     cases this)]
    exact Z.2 j z hj⟩
   refine ht (λ_=>ag) F u G2 p _ _ Jn S3 q3 λb G4 H4 e4 q4=>?_;cases b with
   |true=>
    refine he (λ_=>ag) F u G4 H4 _ _ Jn (S3.ext e4) q4 λy dy T H5 e5 hy q5=>?_;have h:Ext d r T H5:=e2.trans<|e4.trans e5;have M:T D=ν:=h.keep gd A;have a1:H5 D=γ (.lst e):=h.h _ _ A;have l:Ext O W T H5:=v.trans h;refine⟨e,a1,bX (by rw[R.len];lia),L,T,a++[dy],e++[y],⟨l.g,λb o z=>?_,λb=>?_,l.n⟩,M,bJ,(aR h.g R).append<|.cons hy .nil,by rw[Λ];simp;exact B,q5⟩
    ·rw[aV<|bT z Y];exact l.h b o z
    ·by_cases w:b=D
     ·subst w;exact .inr ⟨M,_,bJ⟩
     ·rw[aV w];exact l.s b
   |false=>
    have n:Ext d r G4 H4:=e2.trans e4;exact⟨L,G4,a,e,v.trans n,n.keep gd A,n.h _ _ A,aR n.g R,Nat.le_succ_of_le B,q4⟩
  ·have:i=xs.length:=by lia
   subst this;exact .inl ⟨t2<|ω _,k D e a d r (P.trans v) (P.h.free Y) gd A R<|X a hI⟩
end
def jG:ε bf->ε μ->cC
 |[],_=>[]
 |_::N,[]=>ν::jG N []
 |_::N,d::a=>γ (.dat d)::jG N a
theorem oA:∀(N:ε bf)(a:ε μ),(jG N a).length=N.length
 |[],_=>rfl
 |_::N,[]=>ea (·+1)<|oA N []
 |_::N,_::a=>ea (·+1)<|oA N a
theorem jS:∀{N:ε bf}{ds:ε μ}{i:π}{s:Sl},slot (jG N ds) i=γ s->∃d,ds[i]? =γ d/\s= .dat d
 |[],_,_,_,h=>by cases h
 |_::N,[],0,_,h=>by cases h
 |_::N,[],i+1,s,h=>by
  obtain⟨d,a,_⟩:=jS (N:=N) (ds:=[]) (i:=i) h;simp at a
 |_::N,d::ds,0,s,h=>by cases h;exact⟨d,rfl,rfl⟩
 |_::N,_::ds,i+1,s,h=>by
  obtain⟨d,a,b⟩:=jS (N:=N) (ds:=ds) (i:=i) h;exact⟨d,by simpa using a,b⟩
theorem uY{K:ς}(h:DVs K H b c):Sees K H H (jG N c) (L2.start N b) H:=by
 refine⟨Same.refl _,.refl _,?_,λi s e=>?_,λi j l m a e=>?_⟩
 ·rw[oA];simp only[L2.start,Λ,η,eg];lia
 ·refine qq0 λqq2=>?_;obtain⟨d,g,rfl⟩:=jS e;obtain⟨v,f,k⟩:=h.at g;refine qq2 ?_;refine⟨v,?_,k⟩;unfold L2.start;rw[ek (by rw[η];exact(Δ.mp f).1),el,f];rfl
 ·obtain⟨d,_,z⟩:=jS e;cases z
theorem okW{st:Stmt}(F:Fun K x qual st f o)(S:FnScope N g<|bK st)(i:∀b Q E,W b Q E->b.length=g.length)
  (c:∀(a:Γ)(A:Around)(outer:ε Env)(s:aj)(H:Hp)(E:XK),Room k (A.deeper (envOfC qual (bK st) s.heap.objs.size f a)) ->
   ∃t,Kq (qW (oV P w) P w K O base N qual (bK st) f a A outer s H E) (fF st) t/\∃d,jQ K H E t d/\∀b Q X,W b Q X->d {nx:=λ_=>Q (.dat .none),rt:=Q,ex:=X} (jG N b)):FnOk P w K O base (oV P w) (k+1) f o g (Ko K W):=by
 refine okE F S (λu H Q E h=>?_) λa A outer s H u Q E y h=>?_
 ·obtain⟨b,e,j,l,m,_⟩:=h;rw[l.len];exact i _ _ _ m
 ·refine qq0 λqq2=>?_;obtain⟨b,e,j,l,m,p,B⟩:=h;obtain⟨t,C,d,D,I⟩:=c a A outer s H E y;refine qq2 ?_;refine⟨t,C,D _ _ H H {nx:=λ_=>e<|.dat .none,rt:=e,ex:=j} _ B (uY l) (I b e j m) ⟨λL M G n _ S q=>?_,λv s n J r q=>p v s n J r q,λ_ _ _ _ _ _ z=>z.elim,λ_ _ _ _ _ _ z=>z.elim⟩⟩;exact p .non (.dat .none) n S.oldH .non q
def kinds:ε String:=["int","bool","str","list","tuple"]
theorem aNe{K:ς}(d:μ)(n:String)(a:kinds.contains n=true):W.kitOne K (.type<|Oh d) (.type n)=γ (isD n d):=by
 have c:n="int"\/n="bool"\/n="str"\/n="list"\/n="tuple":=by
  simpa[kinds]using a
 have b:Oh d="NoneType"\/Oh d="bool"\/Oh d="int"\/Oh d="str"\/Oh d="list"\/Oh d="tuple"\/Oh d="dict":=by
  cases d <;>simp[Oh]
 unfold isD;generalize Oh d=t at b;clear a;rcases b with rfl|rfl|rfl|rfl|rfl|rfl|rfl <;>rcases c with rfl|rfl|rfl|rfl|rfl <;>rfl
theorem aNq(I:Inv X v w H s)(f:RelV x u)(h:DV X.K H x d)(e:W.kitOne X.K (.type<|Oh d) c=γ b)(g:∀tk,Q (.bool b) {s with toks:=tk}):
  ar (model X.prog X.w) A (call (.builtin "isinstance") [u,c]) Q p s:=by
 cases h with
 |non=>exact jA I f .non e g
 |bl y=>exact jA I f (.bl y) e g
 |int y=>exact jA I f (.int y) e g
 |str y=>exact jA I f (.str y) e g
 |@lst a q t j i=>
  cases (show u=cb a from f);refine qq0 λqq2=>?_;obtain⟨k,r,⟨o,n,l,m,_,_⟩,_⟩:=I.list j;refine qq2 ?_;exact jx xj I.kIn ⟨o,l,m⟩ e (λz=>nomatch z) g
 |@tup a q t j i=>
  cases (show u=cb a from f);refine qq0 λqq2=>?_;obtain⟨k,r,⟨o,l,m,n,_⟩,_⟩:=I.tuple j;refine qq2 ?_;exact jx zk I.kIn ⟨o,l,m⟩ e (λz=>nomatch z) g
 |dct i=>exact jA I f (.dK i) e g
 |dc0 i=>exact jA I f (.dK i) e g
def aRr(K:ς):ε V->Hp->VK->Prop:=λa H Q=>∃x d n,a=[x,.ty n]/\kinds.contains n=true/\DV K H x d/\Q (.bl<|isD n d) H
theorem aIh{K:ς}(a:X.K=K):iM X (.builtin "isinstance") (aRr K):=by
 subst a;intro j s k H g i Q I r h;refine qq0 λqq2=>?_;obtain⟨x,d,n,rfl,b,c,q⟩:=h;obtain⟨u,v,rfl,e,f⟩:=yU r;refine qq2 ?_;cases (show v=Value.type n from f);exact aNq I e c (aNe d n b) λtk=>⟨.bl _,H,I.tok tk,rfl,q⟩
section
variable{K:ς}{H₀:Hp}{E:XK}{te ta tb:TE}{da db de:DE}{dl dk:DL}{t:TA}
def aTz(n:String)(de:DE)(a:DX)(b:cC)(Q:μ->Prop):Prop:=de a b λd=>Q<|.bool<|isD n d
theorem oQ(a:kinds.contains n=true)(h:jO K H₀ E te de):gP K H₀ E (tCB (aRr K)<|eF te<|eF (tC<|.ty n) jP) (aTz n de):=λb c e G H o Q f S q k=>
 h b c e G H _ _ f S q λx d g i j l m=>⟨x,d,n,rfl,a,l,k _ _ g i j (.bl _) m⟩
def MvD(K:ς)(H₀:Hp)(E:XK)(te:TE)(dl:DL):Prop:=∀c d e G H f Q,lO H₀ E c->Sees K H₀ G d e H->dl c d f->(∀a g h i b,Ext G H i b->b a=γ (.lst g)->DVs K i g h->f h->Q (.ref a) b)->te e H Q
theorem fB(h:xO K H₀ E te dl):MvD K H₀ E te dl:=λb c d G H p Q f S q k=>
 h b c d G H _ Q f S q λa g i j l e r s m n o=>k a g i j l e m n o
def aBi(i:π)(a:DX)(b:cC)(Q:ε μ->Prop):Prop:=match slot b i with
 |some (.own c)=>Q c
 |_=>ag
theorem Yu(i:π):MvD K H₀ E (iI i) (aBi i):=λh j l G H m Q n S q k=>by
 unfold aBi at q;split at q
 ·rename_i b c
  obtain⟨a,d,e,o,f,g⟩:=S.ownAt c;exact⟨_,e,k a d b G H S.refl f g q⟩
 ·exact q.elim
def aUd(dl dk:DL)(a:DX)(b:cC)(Q:ε μ->Prop):Prop:=dl a b λc=>dk a b λd=>c.length+d.length<=1000/\Q (c++d)
theorem iN(o:MvD K H₀ E ta dl)(r:MvD K H₀ E tb dk):xO K H₀ E (yZ aRt ta tb) (aUd dl dk):=λd e f G H C Q g S q k=>
 o d e f G H _ _ g S q λa h D s u i v j w=>r d e f s u _ _ g (S.ext i) w λb l F I J c x d2 ⟨y,z⟩=>
  ⟨a,b,h,l,rfl,rfl,c.h _ _ v,x,cg (bX (by rw[j.len,d2.len];exact y)),λp m=>by
   obtain⟨A,B⟩:=fN (xs:=h++l) c.s m
   have n:=i.trans c
   exact k p _ _ _ _ (n.trans A) (n.h.free m) B bJ ((aR c.g j).append d2) z⟩
end
section
variable{dl:DL}{dg:DG}{db d1 d2:DS}{e:DEnds}{δ:cC}
theorem cW(h:d1 {e with nx:=d2 e} δ):aOl d1 d2 e δ:=h
theorem oU(I:cC->Prop)(h:d1 {e with nx:=I} δ)(k:∀a,I a->d2 e a):aUc d1 d2 e δ:=⟨I,h,k⟩
theorem eJ{j:Type}(f:j->μ)(c:ε j)(k:∀Q,Q (c.map f)->dl e.ex δ Q)(I:π->cC->Prop)(l:I 0 δ)
  (m:∀i x a,c[i]? =γ x->I i a->dg (f x) a λh=>db {e with nx:=I<|i+1,ct:=I<|i+1,bk:=e.nx} h) (n:∀a,I c.length a->e.nx a):aOq dl dg db e δ:=
 k _ ⟨I,l,λi d a b g=>by
  rw[el]at b
  cases q:c[i]? with
  |none=>rw[q]at b;cases b
  |some x=>
   rw[q]at b
   cases b
   exact m i x a q g,λa g=>n a (by rw[η]at g;exact g)⟩
theorem lJ{lo st:χ}(f:∀Q,Q (pV lo n st)->dl e.ex δ Q)(I:π->cC->Prop)(g:I 0 δ)
  (h:∀i a,i<n->I i a->dg (.int<|lo+(i:χ)*st) a λc=>db {e with nx:=I<|i+1,ct:=I<|i+1,bk:=e.nx} c) (j:∀a,I n a->e.nx a):aOq dl dg db e δ:=
 f _ ⟨I,g,λi d a k b=>by
  obtain⟨l,rfl⟩:=Ca k
  exact h i a l b,λa b=>j a (by rw[vB]at b;exact b)⟩
variable{dt:DT}{de:DE}{cap:ε (Θ π)}{ex:DX}{Q:ε μ->Prop}
theorem bL{k m:Type}(f:k->μ)(g:m->μ)(F:k->ε m)(c:ε k)(hlen:c.length<=1000)(n:∀Q,Q (c.map f)->dl ex δ Q)
  (o:∀x∈c,∀N:ε μ->Prop,∀a,N (a++(F x).map g)->dg (f x) (xG cap δ) λh=>dt (λ_=>ag) h λb=>if b=true then de (λ_=>ag) h λy=>N (a++[y])else N a)
  (p:Q<|(c.flatMap F).map g):dLC dl cap dg dt de ex δ Q:=
 n _ ⟨by rw[η];exact hlen,λi a=>a=((c.take i).flatMap F).map g,by simp,λi d a j l=>by
  rw[el]at j
  cases q:c[i]? with
  |none=>rw[q]at j;cases j
  |some x=>
   rw[q]at j
   cases j
   subst l
   refine o x (Ω q) (λa=>a=((c.take<|i+1).flatMap F).map g) _ ?_
   have e:c.take (i+1)=c.take i++[x]:=by
    rw[rj,q];rfl
   rw[e]
   simp,λa l=>by
  subst l
  rw[η,bA<|ω _]
  exact p⟩
end
abbrev DXS:=cC->Ζ->Prop
abbrev DSX:=DEnds->DXS->cC->Prop
structure LkX(K:ς)(H₀ G:Hp)(xd:DXS)(XE:XS):Prop where
 ex:∀δ σ C G' H,Same G G'->Sees K H₀ G' δ σ H->xd δ C->XE σ (.ref C) ν H
abbrev nox(e:DEnds):DEnds:={e with ex:=λ_=>ag}
def aVs:DW:=λb Q _=>∃a:ε χ,b=[.list<|a.map .int]/\a.length<=63/\(∀v∈a,bj v<=1048576)/\Q (.dat<|.bool true)
theorem sW{K:ς}:∀a:ε χ,DVs K H (a.map V.int) (a.map ep)
 |[]=>.nil
 |n::a=>.cons (.int n)<|sW a
theorem aNd{K:ς}(F:FnOk P w K c base (oV P w) k f d g<|Ko K aVs):FnOk P w K c base (oV P w) k f d g (Ov K):=
 F.imp λn H Q E ⟨a,b,e,h,i,j,_,q⟩=>by
  subst e;refine⟨[.list<|b.map .int],λs=>s= .dat (.bool true),λ_=>ag,.cons (.lst h<|sW b) .nil,⟨b,rfl,i,j,rfl⟩,λv s l _ r m=>?_,λ_ _ _ z=>z.elim⟩;subst m;cases lR r;exact q l
theorem eO{ws:ε Ζ}(I:Inv X t w H s)(k:∀b o,b∉ws->s.heap.get? b=γ o->h'.get? b=γ o)(f:∀b∈ws,lN X t H b):Inv X t w H {s with heap:=h',toks:=t'}:=by
 have d:∀b u,H b=γ u->b∉ws:=λb u e z=>by rw[(f b z).1]at e;cases e
 refine I.step (g':=s.gens) (d':=s.drawn) (ch:=ws) (λb g=>⟨(f b g).2.2.2.1,(f b g).2.1,(f b g).2.2.2.2.1,(f b g).2.2.2.2.2⟩) (λb o _ _ a e _=>k b o a e) (λb o _ _ a e _=>⟨o.slots,k b o a e⟩) (λ_ _ _ _ n=>n)
  (λb o a e=>⟨o,k b o a e⟩) (λ_ _ e=>e) (λ_ _ _ e=>e) (λb p e=>⟨#[],by rw[e];simp⟩) (λm h=>?_) (λb u e=>?_) I.bare
 ·obtain⟨o,i,j,l,r⟩:=h;exact⟨o,i,j,k _ o (λz=>(f _ z).2.1 rfl) l,r⟩
 ·refine(I.hok b u e).stay (λc v a q=>k c v ?_ q) (λ_ q=>q) λ_ _ q=>q;rcases a with z|z
  ·rw[z];exact d b u e
  ·exact d c _ z
theorem Ql(I:Inv X C D H s)(f:lN X C H T)(h:X.s₀.heap.objs.size<=T)(i:s.heap.IsTuple T its.toArray)(r:Vals xs its)(j:xs.length<=sizeLine):Inv X C D (fA H T<|.tup xs) s:=by
 obtain⟨k,l,A,B,t,w⟩:=f;have a:∀b o,H b=γ o->b≠T:=λb o e z=>by rw[z,k]at e;cases e
 refine⟨I.ok,I.os,I.bare,⟨I.base.keep,I.base.slot,λb o e n d=>?_,I.base.there,λb xs e=>?_,λb o u e=>?_,λb x e=>?_⟩,I.loc,I.cell,?_,λy c e=>?_,λp g=>?_,λb o e=>?_,I.len⟩
 ·rw[aV<|ig<|av (cu e) h];exact I.base.free b o e n d
 ·have q:=I.base.tups b xs e;rw[aV<|a b _ q];exact q
 ·have q:=I.base.frzs b o u e;rw[aV<|a b _ q];exact q
 ·obtain⟨m,q⟩:=I.base.tbls b x e;exact⟨m,by rw[aV<|a b _ q];exact q⟩
 ·rw[aV<|Ne.symm l];exact I.free
 ·rw[aV<|t y c e];exact I.freeC y c e
 ·obtain⟨e,n,r⟩:=I.pin p g;exact⟨e,by rw[aV<|w p g];exact n,r⟩
 ·by_cases d:b=T
  ·subst d;rw[bJ]at e;cases e;exact⟨j,its,r,i⟩
  ·rw[aV d]at e;exact(I.hok b o e).stay (λc v _ q=>q) (λc q=>by rw[aV<|a c _ q];exact q) λc xs q=>by rw[aV<|a c _ q];exact q
def Itz(K:ς)(a b:Ζ):It:=
 ⟨λi H=>∃c d,SqL K H a c/\SqL K H b d/\i<c.length/\i<d.length,
  λi H x e=>∃T u v,x= .ref T/\H T=ν/\e=fA H T (.tup [u,v])/\(∀c,SqL K H a c->c[i]? =γ u)/\∀d,SqL K H b d->d[i]? =γ v,
  λi H=>∃c d,SqL K H a c/\SqL K H b d/\(c.length<=i\/d.length<=i)⟩
theorem Wf{K:ς}{z TI TO B C S U:Ζ}(D:ZipApart z TI TO B C S U):
  Turn P w K (.Tuple elts k N) (Itz K S U) [z,TI,TO,B,C] z (λi h=>IsZip h z TI TO .none/\IsPair h TI (.ref B) (.ref C)/\(∃a b,IsPair h TO a b)/\h.IsListIter B S i/\h.IsListIter C U i) where
 mem:=by simp
 obj:=λi h st b c=>by
  refine qq0 λqq2=>?_;obtain⟨F,d,⟨x,y,f⟩,⟨o1,Y,_,d1⟩,⟨o2,Z,_,d2⟩⟩:=st;refine qq2 ?_;simp only[Υ,dV,gz]at c;rcases c with rfl|rfl|rfl|rfl|rfl
  ·exact⟨_,F,λv q=>by cases q⟩
  ·exact⟨_,d,λv q=>by cases q⟩
  ·exact⟨_,f,λv q=>by cases q⟩
  ·exact⟨o1,Y,λv q=>by rw[d1]at q;cases q⟩
  ·exact⟨o2,Z,λv q=>by rw[d2]at q;cases q⟩
 keep:=λi h J st O=>by
  refine qq0 λqq2=>?_;obtain⟨F,d,⟨x,y,f⟩,L,M⟩:=st;refine qq2 ?_;exact⟨O z (by simp) _ F,O TI (by simp) _ d,⟨x,y,O TO (by simp) _ f⟩,L.at λo e=>O B (by simp) o e,M.at λo e=>O C (by simp) o e⟩
 item:=by
  intro X hP hw hK hc i pins s σ H E I hf st hg;subst hP hw hK;refine qq0 λqq2=>?_;obtain⟨xs,ys,q1,q2,g1,g2⟩:=hg;obtain⟨j,n,p1,z1⟩:=I.list q1;obtain⟨l,p,p2,z2⟩:=I.list q2;obtain⟨F,d,⟨x0,y0,f⟩,L,M⟩:=st;refine qq2 ?_;have W:=WalksT.zip2 (prog:=X.prog) (w:=X.w) (A:=X.A) (I.ok.hd hc) z TI TO B C S U D j.toArray l.toArray;have L1:=n.length;have L2:=p.length;refine W.item i s _ _ (by simp only[bt];lia) ⟨F,d,⟨_,_,f⟩,L,M,p1.isList,p2.isList⟩ λT vals J tk hv t hT G kk=>?_;refine qq0 λqq2=>?_;obtain⟨x,y,hx,hy,rfl⟩:=hv;refine qq2 ?_;refine⟨_,rfl,W.go elts k N i T {s with heap:=J,toks:=tk} _ _ G λh3 m R=>?_⟩;refine qq0 λqq2=>?_;obtain⟨u,Y⟩:∃u,xs[i]? =γ u:=⟨xs[i],ah g1⟩;obtain⟨v,Z⟩:∃v,ys[i]? =γ v:=⟨ys[i],ah g2⟩;obtain⟨x',e3,r1⟩:=n.get Y;obtain⟨y',e4,r2⟩:=p.get Z;refine qq2 ?_;have ex:x'=x:=by
   have:j[i]? =γ x:=by simpa using hx
   rw[e3]at this;exact bw this
  have ey:y'=y:=by
   have:l[i]? =γ y:=by simpa using hy
   rw[e4]at this;exact bw this
  subst ex;subst ey
  have fw:∀b∈[z,TO,B,C],lN X pins H b:=λb c=>hf b (by
   simp only[Υ,dV,gz]at c⊢
   rcases c with rfl|rfl|rfl|rfl <;>simp)
  have I1:Inv X pins σ H {s with heap:=J,toks:=tk}:=eO I kk fw;have I2:Inv X pins σ H {s with heap:=h3,toks:=tk}:=eO (s:={s with heap:=J,toks:=tk}) I1 R fw;have nT:=W.apart i T J G;have a0:h3.IsTuple T #[x',y']:=by
   obtain⟨o,ho,r⟩:=hT;exact⟨o,R T o nT ho,r⟩
  have fT:lN X pins H T:=I.fpOk t<|I.hok.fresh t;have I3:=Ql (xs:=[u,v]) (its:=[x',y']) I2 fT (Α I.sz t) a0 (.cons r1<|.cons r2 .nil)<|cg<|bX (by show 2<=1000;decide);refine⟨.ref T,fA H T<|.tup [u,v],I3,rfl,⟨T,u,v,rfl,fT.1,rfl,λa1 h=>by rw[I.list_inj h q1];exact Y,λa2 h=>by rw[I.list_inj h q2];exact Z⟩,⟨m.1,m.2.1,m.2.2.1,m.2.2.2.1,m.2.2.2.2.1⟩,λb c=>?_⟩;rw[aV]
  ·exact(hf b c).1
  ·intro e;subst e;have:∃o,s.heap.get? b=γ o:=by
    simp only[Υ,dV,gz]at c;rcases c with rfl|rfl|rfl|rfl|rfl
    ·exact⟨_,F⟩
    ·exact⟨_,d⟩
    ·exact⟨_,f⟩
    ·obtain⟨o,e,_⟩:=L;exact⟨o,e⟩
    ·obtain⟨o,e,_⟩:=M;exact⟨o,e⟩
   obtain⟨o,e⟩:=this;exact ψ (cu e)<|A7.mpr t
 done:=by
  intro X hP hw hK hc i pins s σ H E I hf st hg;subst hP hw hK;refine qq0 λqq2=>?_;obtain⟨xs,ys,q1,q2,g⟩:=hg;obtain⟨j,n,p1,z1⟩:=I.list q1;obtain⟨l,p,p2,z2⟩:=I.list q2;obtain⟨F,d,⟨x0,y0,f⟩,L,M⟩:=st;refine qq2 ?_;have L1:=n.length;have L2:=p.length;refine wpAny_pyNext_zip_end (I.ok.hd hc) D F d f L M p1.isList p2.isList ?_ λJ hk=>⟨rfl,?_⟩
  ·rcases g with g|g
   ·exact .inl (by simp;lia)
   ·exact .inr (by simp;lia)
  ·exact eO (t':=s.toks) (ws:=[z,TO,B,C]) I (λb o c e=>hk b o (λx=>c (by simp[x])) (λx=>c (by simp[x])) (λx=>c (by simp[x])) (λx=>c (by simp[x])) e) λb c=>hf b (by
    simp only[Υ,dV,gz]at c⊢
    rcases c with rfl|rfl|rfl|rfl <;>simp)
 self:=λ_ _ _ _ _ st h=>my st.1 h
theorem Kk:bootBuiltins "zip"=γ (.type "zip"):=by decide +kernel
theorem nU:bootBuiltins "reversed"=γ (.type "reversed"):=by decide +kernel
def aNv(K:ς)(t:TA):TI:=λd H R=>t d H λe c=>∃a b,e=[.ref a,.ref b]/\(∃f,SqL K c a f)/\(∃g,SqL K c b g)/\R (Itz K a b) c
theorem aMb(B:X.K=K)(C:Gl X "zip")(D:X.mg "zip"=ν)(E:PA X [a,b] r)(F:starEach [a,b] X.env=[(false,eval a X.env),(false,eval b X.env)]:=by rfl)(g:starEach [b] X.env=[(false,eval b X.env)]:=by rfl):
  PI X (.Tuple elts k d) (.Call (.Name "zip" p) [a,b] [] f) (aNv K r):=by
 subst B;intro pins s G H R I h;refine yn<|jK I C D Kk<|dh (eP (E f pins s G H _ I h) λus c ⟨vs,J,i,L,M⟩=>?_) (by rw[F,g]) (by rw[g];rfl);refine qq0 λqq2=>?_;obtain⟨N,O,e,⟨xs,P⟩,⟨ys,S⟩,q⟩:=M;refine qq2 ?_;subst e;refine qq0 λqq2=>?_;obtain⟨u,v,rfl,T,U⟩:=yU L;refine qq2 ?_;cases T;cases U;refine qq0 λqq2=>?_;obtain⟨t,W,w,z1⟩:=i.list P;obtain⟨x,Y,y,z2⟩:=i.list S;refine qq2 ?_;have Z:N<c.heap.objs.size:=by obtain⟨_,e,_⟩:=w.isList;exact cu e
 have a2:O<c.heap.objs.size:=by obtain⟨_,e,_⟩:=y.isList;exact cu e
 refine call_zip_2 w.isList y.isList λh' z l m n o _ hk=>my z ?_;refine⟨c.heap.objs.size+4,[c.heap.objs.size+4,c.heap.objs.size+2,c.heap.objs.size+3,c.heap.objs.size,c.heap.objs.size+1],_,_,J,rfl,i.kept (t':=c.toks) hk,Wf<|zipApart_new Z a2,⟨z,l,⟨_,_,m⟩,n,o⟩,λb A=>?_,q⟩;have j:c.heap.objs.size<=b:=by
  simp only[Υ,dV,gz]at A;rcases A with rfl|rfl|rfl|rfl|rfl <;>exact 50
 exact i.fpOk j<|i.hok.fresh j
def Itv(K:ς)(a:Ζ)(n:π):It:=
 ⟨λi H=>∃b,SqL K H a b/\b.length=n/\i<n,λi H x c=>c=H/\∀b,SqL K H a b->b[n-1-i]? =γ x,λi _=>n<=i⟩
theorem Wg{K:ς}:Turn P w K tg (Itv K l n) [f] f (λi h=>i<=n/\h.IsRevIter f l ((n:χ)-1-(i:χ))) where
 mem:=by simp
 obj:=λi h st b g=>by
  have e:b=f:=by simpa using g
  subst e;refine qq0 λqq2=>?_;obtain⟨_,o,e,c,d⟩:=st;refine qq2 ?_;exact⟨o,e,λv z=>by rw[d]at z;cases z⟩
 keep:=λi h m st k=>⟨st.1,st.2.at λo e=>k f (by simp) o e⟩
 item:=by
  intro X r hw t J i pins s L H E I q st y;subst r hw t;refine qq0 λqq2=>?_;obtain⟨O,M,hn,hi⟩:=y;obtain⟨R,S,p,hz⟩:=I.list M;obtain⟨x,N⟩:∃x,O[n-1-i]? =γ x:=⟨_,ah<|by lia⟩;obtain⟨u,T,U⟩:=S.get N;obtain⟨A,B,Y,C,D,F⟩:=q f (by simp);refine qq2 ?_;have G:(n:χ)-1-(i:χ)=((n-1-i:π):χ):=by lia
  have a:=st.2;rw[G]at a;refine wpAny_pyNext_rev_item a p.isList (x:=u) (by simpa using T) λm j Z=>?_;have I1:Inv X pins L H {s with heap:=m}:=I.turned (t':=s.toks) (λb o g e=>(Z.2 b g).trans e) A B C D F;refine qq0 λqq2=>?_;obtain⟨o,e,c,d⟩:=id j;refine qq2 ?_;refine⟨u,rfl,Ad (s:={s with heap:=m}) e c d (by decide) ⟨x,H,I1,U,⟨rfl,λys hy=>by rw[I.list_inj hy M];exact N⟩,⟨‹51›,?_⟩,λb g=>(q b g).1⟩⟩;have e2:(n:χ)-1-((i+1:π):χ)=((n-1-i:π):χ)-1:=by lia
  rw[e2];exact j
 done:=by
  intro X r hw t J i pins s L H E I q st y;subst r hw t;have a0:n<=i:=y;refine qq0 λqq2=>?_;obtain⟨A,B,Y,C,D,F⟩:=q f (by simp);refine qq2 ?_;have G:(n:χ)-1-(i:χ)=-1:=by have:=st.1;lia
  have a:=st.2;rw[G]at a;exact wpAny_pyNext_rev_end (I.ok.hd J) a λm eb=>⟨rfl,I.turned (t':=s.toks) (λb o g e=>eb b o g e) A B C D F⟩
 self:=λ_ _ _ _ _ st h=>tj st.2 h
def aSz(K:ς)(t:TA):TI:=λd H R=>t d H λe b=>∃a c,e=[.ref a]/\SqL K b a c/\R (Itv K a c.length) b
theorem Gy(m:X.K=K)(n:Gl X "reversed")(r:X.mg "reversed"=ν)(t:PA X [a] k)(v:starEach [a] X.env=[(false,eval a X.env)]:=by rfl):
  PI X tg (.Call (.Name "reversed" p) [a] [] d) (aSz K k):=by
 subst m;intro pins s w H R I h;refine yn (jK I n r nU<|dh (eP (t d pins s w H _ I h) λG c ⟨J,x,i,y,z⟩=>?_) (by rw[v];rfl)<|by rfl);refine qq0 λqq2=>?_;obtain⟨l,A,e,B,q⟩:=z;refine qq2 ?_;subst e;refine qq0 λqq2=>?_;obtain⟨u,rfl,C⟩:=jB y;refine qq2 ?_;cases C;refine qq0 λqq2=>?_;obtain⟨f,j,D,L⟩:=i.list B;refine qq2 ?_;have E:=j.length;refine u5 D.isList ?_;have g:(c.heap.push<|revObj l<|(f.toArray.size:χ)-1).IsRevIter c.heap.objs.size l ((A.length:χ)-1-((0:π):χ)):=by
  refine⟨_,aw _ rfl,rfl,?_⟩;simp only[revObj,bt];rw[E];simp
 refine tj g ?_;refine⟨c.heap.objs.size,[c.heap.objs.size],_,_,x,rfl,i.kept (t':=c.toks) λb o e=>Ξ _ e,Wg,⟨iw _,g⟩,λb F=>?_,q⟩;have e:b=c.heap.objs.size:=by simpa using F
 subst e;exact i.fpOk (ω _)<|i.hok.fresh<|ω _
section
variable{K:ς}{H₀:Hp}{E:XK}{te ta tb:TE}{da db de:DE}{dl dk:DL}{t:TA}
def pairD:ε μ->ε μ->ε μ
 |x::a,y::b=>.tuple [x,y]::pairD a b
 |_,_=>[]
theorem zP:∀a b:ε μ,(pairD a b).length=min a.length b.length
 |[],_=>by simp[pairD]
 |_::_,[]=>by simp[pairD]
 |x::a,y::b=>by simp[pairD,zP a b]
theorem Hd:∀{xs ys:ε μ}{i:π}{d:μ},(pairD xs ys)[i]? =γ d->∃x y,xs[i]? =γ x/\ys[i]? =γ y/\d= .tuple [x,y]
 |[],_,_,_,h=>by simp[pairD]at h
 |_::_,[],_,_,h=>by simp[pairD]at h
 |x::xs,y::ys,0,d,h=>⟨x,y,rfl,rfl,by simpa[pairD]using h.symm⟩
 |x::xs,y::ys,i+1,d,h=>by
  refine qq0 λqq2=>?_;obtain⟨u,v,a,b,c⟩:=Hd (xs:=xs) (ys:=ys) (i:=i) (d:=d) (by simpa[pairD]using h);refine qq2 ?_;exact⟨u,v,by simpa using a,by simpa using b,c⟩
def aOi(dl dk:DL)(a:DX)(b:cC)(Q:ε μ->Prop):Prop:=dl a b λc=>dk a b λd=>Q<|pairD c d
theorem Zs(s:Sub G H)(h:SqL K H a c)(j:SqL K H b f)(m:DVs K G c xs)(d2:DVs K G f g)(i:π):
  (∀d,(pairD xs g)[i]? =γ d->(Itz K a b).go i H/\∀x k,(Itz K a b).yld i H x k->∃n,Ext G H n k/\DV K n x d)/\((pairD xs g).length<=i->(Itz K a b).stop i H):=by
 refine⟨λd l=>?_,λl=>⟨c,f,h,j,?_⟩⟩
 ·refine qq0 λqq2=>?_;obtain⟨x,y,w,A,rfl⟩:=Hd l;obtain⟨u,o,B⟩:=m.at w;obtain⟨v,p,C⟩:=d2.at A;refine qq2 ?_;refine⟨⟨c,f,h,j,(Δ.mp o).1,(Δ.mp p).1⟩,λz k ⟨T,M,N,D,F,I,J,L⟩=>?_⟩;subst D I;have q:=J c h;have r:=L f j;rw[o]at q;rw[p]at r;cases q;cases r;have e:=uD (xs:=[u,v]) s F;exact⟨_,e,.tup (SqT.of bJ)<|.cons (dI e.g B)<|.cons (dI e.g C) .nil⟩
 ·rw[zP]at l;have:=m.len;have:=d2.len;lia
theorem Mp(u:gP K H₀ E ta da)(w:gP K H₀ E tb db):IvS K H₀ E (aNv K<|eF ta<|eF tb jP) (aOi (Ek da)<|Ek db):=λj l m G H J R n S q k=>
 u j l m G H _ _ n S q λv d x y f z o=>by
  cases d with
  |list L=>
   refine w j l m x y _ _ n (S.ext f) o λM d2 A B c g p=>?_;cases d2 with
   |list N=>
    refine qq0 λqq2=>?_;obtain⟨a,C,rfl,r,D⟩:=eZ z;obtain⟨b,F,rfl,s,I⟩:=eZ g;refine qq2 ?_;refine⟨a,b,rfl,⟨C,c.h.seq<|f.s.same.seq r⟩,⟨F,c.s.same.seq s⟩,k _ _ A B (f.trans c) (λO P e h i=>?_) p⟩;exact Zs h (h.same.seq<|e.seq<|c.g.seq r) (h.same.seq<|e.seq s) (aR e<|aR c.g D) (aR e I) i
   |_=>exact p.elim
  |_=>exact o.elim
theorem fM(n:Vf K H₀ E ta dl)(o:Vf K H₀ E tb dk):IvE K H₀ E (aNv K<|eF ta<|eF tb jP) (aOi dl dk):=λd f g G H B R h S q k=>
 n d f g G H _ _ h S q λa p C r s j l u v=>o d f g r s _ _ h (S.ext j) v λb w D x y c m z A=>
  ⟨a,b,rfl,⟨p,c.h.seq l⟩,⟨w,m⟩,k _ _ x y (j.trans c) (λF I e i=>Zs e.s (e.h.seq<|c.h.seq l) (e.h.seq m) (aR e.g<|aR c.g u) (aR e.g z) i) A⟩
def aOm(dl:DL)(a:DX)(b:cC)(Q:ε μ->Prop):Prop:=dl a b λc=>Q c.reverse
theorem aNo(s:Sub G H)(h:SqL K H a b)(j:DVs K G b e)(i:π):
  (∀d,e.reverse[i]? =γ d->(Itv K a b.length).go i H/\∀x f,(Itv K a b.length).yld i H x f->∃k,Ext G H k f/\DV K k x d)/\(e.reverse.length<=i->(Itv K a b.length).stop i H):=by
 have m:=j.len;refine⟨λd c=>?_,λc=>?_⟩
 ·have g:i<e.length:=by
   have:=(Δ.mp c).1;simpa using this
  rw[qj g]at c;obtain⟨u,n,o⟩:=j.at c;refine⟨⟨b,h,rfl,‹48›⟩,λz f ⟨p,q⟩=>?_⟩;subst p;have l:=q b h;rw[m,n]at l;cases l;exact⟨G,.refl s,o⟩
 ·show b.length<=i;rw[kb]at c;exact 48
theorem aNr(h:gP K H₀ E ta da):IvS K H₀ E (aSz K<|eF ta jP) (aOm<|Ek da):=λj l m G H w R n S q k=>
 h j l m G H _ _ n S q λv d o p b r c=>by
  cases d with
  |list x=>
   refine qq0 λqq2=>?_;obtain⟨a,s,rfl,e,u⟩:=eZ r;refine qq2 ?_;exact⟨a,s,rfl,b.s.same.seq e,k _ _ o p b (λy z f g i=>aNo g (g.same.seq<|f.seq e) (aR f u) i) c⟩
  |_=>exact c.elim
end
theorem Mn:typeLookup (.type "list_reverseiterator") "__len__"=pure ν:=by rw[x9,sd];kernel_rfl
theorem Zl:typeLookup (.type "list_reverseiterator") "__length_hint__"=pure (γ<|.builtin "list_reverseiterator.__length_hint__"):=by rw[x9,sd];kernel_rfl
theorem uK(d:s.TypeIs (.ref I) "list_reverseiterator")(h:Q false s):ar (model prog w) A (Builtin.List.listLengthHint<|.ref I) Q E s:=by
 unfold Builtin.List.listLengthHint;refine ξ<|nk d Mn ?_;show ar _ A (specialOf (cb I) (ζ "__length_hint__")>>=_) _ _ _;refine ξ<|nk d Zl ?_;generalize c:("list_reverseiterator.__length_hint__":String)=e
 wp_delta
 rw[show splitId e=γ ("list_reverseiterator","__length_hint__")from by subst c;decide +kernel];subst c;refine ξ<|w6 (T:="list_reverseiterator") (b:=true) d (by rw[isSubtype_type];kernel_rfl) ?_;refine nq (λa=>ψ a<|by decide) λ_=>?_;refine nq (λ_=>?_) λa=>ψ (by decide +kernel) a;refine nq (λa=>ψ a<|by decide) λ_=>?_;exact aq h
section
variable{prog:Program}{w:kn}{A:Around}{s:aj}{R:Result->aj->Prop}
variable{I:Ζ}{fp wr:ε Ζ}{G:Array GenState->Array GenState->Prop}{n:π}{P:π->Γ->Prop}{St:π->aj->Prop}
theorem rB(W:WalksS prog w A.in1 I fp wr G n P St)(q:∀i s,St i s->s.TypeIs (.ref I) "list_reverseiterator")(S:Ζ)(g:Γ)(h:π)(c:St 0 s)(j:S∉fp)(r:I∈fp)
  (t:s.heap.get? S=γ {cls:=.type "list",data:=.seq #[] h})
  (u:∀b a d,Moved (S::wr) G s b->b.heap.get? S=γ {cls:=.type "list",dict:=ν,data:=.seq a d,slots:=#[]}->ItemsOf P a n->R (.ok<|.ret g) b) (hn:n<=sizeLine):
  ar (model prog w) A.in1 (Builtin.List.listExtendWith (.ref S) (.ref I) g)
   (λl b=>match l with | .done f=>R (.ok f) b| .again d=>d.quiet=true/\codeAny (model prog w) A d R b) (λe b=>R (.error e) b) s:=by
 have m:S≠I:=λe=>j<|e▸r;unfold Builtin.List.listExtendWith;refine ξ<|wpAny_typeOf (q 0 _ c) ?_;have v:Builtin.List.listSameRef (.ref S) (.ref I)=false:=by simp[Builtin.List.listSameRef,m]
 have x:(Value.type "list_reverseiterator"==Value.type "list")=false:=by decide
 have y:(Value.type "list_reverseiterator"==Value.type "tuple")=false:=by decide
 simp only[v,x,y,zb,p8,qf];refine ξ<|W.self 0 _ _ _ c ?_;refine ξ<|jm<|uK (q 0 _ c) ?_;refine nq (λo=>ψ o<|by decide +kernel) λ_=>?_;exact aq ⟨plainId_quiet F.plain_extend_loop _,codeAny_extend_loopS W hn _ j _ n 0 _ _ _ rfl (iw _) c t (BV P) λb a d z p k=>u b a d z p k⟩
theorem nK(W:WalksS prog w A.in1 I fp wr G n P St)(v:∀i s,St i s->s.TypeIs (.ref I) "list_reverseiterator")(S:Ζ)(p:St 0 s)(j:S∉fp)(x:I∈fp)
  (q:s.heap.get? S=γ {cls:=.type "list",data:=.seq #[]})
  (y:∀c a g,Moved (S::wr) G s c->c.heap.get? S=γ {cls:=.type "list",dict:=ν,data:=.seq a g,slots:=#[]}->ItemsOf P a n->R (.ok<|.ret .none) c) (hn:n<=sizeLine):
  ar (model prog w) A.in1 (Builtin.«list.__init__» ⟨[.ref S,.ref I],[]⟩)
   (λr c=>match r with | .done f=>R (.ok f) c| .again g=>g.quiet=true/\codeAny (model prog w) A g R c) (λe c=>R (.error e) c) s:=by
 show ar _ A.in1 (do let t <-Builtin.List.listItems (.ref S);Builtin.List.listUpdate (.ref S) λ_=>#[];letGo t.toList.reverse;Builtin.List.listExtendWith (.ref S) (.ref I) .none) _ _ s;refine ξ ?_;unfold Builtin.List.listItems;refine ξ<|iz q rfl<|aq ?_;show ar _ A.in1 (updateSeq S (λ_=>#[])>>=λ_=>letGo (#[]:Array Γ).toList.reverse>>=λ_=>Builtin.List.listExtendWith (.ref S) (.ref I) .none) _ _ s;refine ξ<|ya q rfl ?_;have d:=qe (Obj.mapSeq λ_=>(#[]:Array Γ)) q rfl;have k:∀b o,b≠S->s.heap.get? b=γ o->(s.heap.update S<|Obj.mapSeq λ_=>(#[]:Array Γ)).get? b=γ o:=
  λb o l e=>(mh _ _<|Ne.symm l).trans e
 refine ξ<|nc ?_;refine rB (hn:=hn) W v S .none _ (W.frame 0 s _ s.toks p (ω _) λb l o e=>k b o (λh=>j<|h▸l) e) j x d λc a g z u m=>?_;exact y c a g (Moved.trans W.gtrans ((Moved.refl W.grefl).then_heap (ω _) λb o l e=>k b o (λh=>l<|h▸υ) e) z) u m
end
theorem Iu(B:A.handled=ν)(n:l≠it)(f:s.heap.IsRevIter it l<|(items.size:χ)-1)(y:s.heap.IsList l items)(hn:items.size<=sizeLine)
  (C:∀h' tk a p,(∀b o,b≠it->s.heap.get? b=γ o->h'.get? b=γ o) ->
   h'.get? s.heap.objs.size=γ {cls:=.type "list",dict:=ν,data:=.seq a p,slots:=#[]}->ItemsOf (λi v=>items[items.size-1-i]? =γ v) a items.size->Q (.ref s.heap.objs.size) {s with heap:=h',toks:=tk}):
  ar (model prog w) A (call (.type "list") [.ref it]) Q E s:=by
 have W:=(Walks.listRev (prog:=prog) (w:=w) (A:=A.in1.in1) B it l n items).toS;have q:it<s.heap.objs.size:=by obtain⟨o,e,_⟩:=f;exact cu e
 have r:l<s.heap.objs.size:=by obtain⟨o,e,_⟩:=y;exact cu e
 have t:s.heap.objs.size∉[it,l]:=λg=>by
  simp only[Υ,dV,gz]at g;rcases g with e|e
  ·exact ψ (e▸q)<|jo _
  ·exact ψ (e▸r)<|jo _
 refine callType_codes (Q₁:=λh d=>h= .ref s.heap.objs.size/\d={s with heap:=s.heap.push {cls:=.type "list",data:=.seq #[]}}) F.called_list (F.typeCall_list_1 _) F.entry_list_init
  (code_list_new _ ⟨rfl,rfl⟩) λh d j=>?_
 refine qq0 λqq2=>?_;obtain⟨rfl,rfl⟩:=j;refine qq2 ?_;have z:(s.heap.push {cls:=.type "list",data:=.seq #[]}).get? s.heap.objs.size=γ {cls:=.type "list",data:=.seq #[]}:=aw _ rfl;have k:(s.heap.push {cls:=.type "list",data:=.seq #[]}).IsRevIter it l ((items.size:χ)-1-((0:π):χ)):=by
  have:=f.at (h':=s.heap.push {cls:=.type "list",data:=.seq #[]}) λo e=>Ξ _ e;simpa using this
 refine⟨⟨_,z,rfl⟩,F.args_list_init_2 _ _,nK (hn:=hn) W (λi u st=>st.2.1.typeIs) _ ⟨iw _,k,y.at λo e=>Ξ _ e⟩ t (by simp) z λu a p g x m=>?_⟩;rw[Moved.eq_with g];refine⟨rfl,C u.heap u.toks a p (λb o D e=>g.heap b o (λc=>?_)<|Ξ _ e) x m⟩;rcases Υ.mp c with G|c
 ·exact ψ (cu e) (by rw[G];exact jo _)
 ·exact D (by simpa using c)
theorem aFy(I:Inv X C D H s)(f:lN X C H T)(j:X.s₀.heap.objs.size<=T)(g:ObjOk X.prog X.w (fA H T o) s.heap T o):Inv X C D (fA H T o) s:=by
 obtain⟨k,l,A,B,t,w⟩:=f;have a:∀b u,H b=γ u->b≠T:=λb u e z=>by rw[z,k]at e;cases e
 refine⟨I.ok,I.os,I.bare,⟨I.base.keep,I.base.slot,λb u e n d=>?_,I.base.there,λb h e=>?_,λb u v e=>?_,λb x e=>?_⟩,I.loc,I.cell,?_,λy c e=>?_,λp i=>?_,λb u e=>?_,I.len⟩
 ·rw[aV<|ig<|av (cu e) j];exact I.base.free b u e n d
 ·have q:=I.base.tups b h e;rw[aV<|a b _ q];exact q
 ·have q:=I.base.frzs b u v e;rw[aV<|a b _ q];exact q
 ·obtain⟨m,q⟩:=I.base.tbls b x e;exact⟨m,by rw[aV<|a b _ q];exact q⟩
 ·rw[aV<|Ne.symm l];exact I.free
 ·rw[aV<|t y c e];exact I.freeC y c e
 ·obtain⟨e,n,r⟩:=I.pin p i;exact⟨e,by rw[aV<|w p i];exact n,r⟩
 ·by_cases d:b=T
  ·subst d;rw[bJ]at e;cases e;exact g
  ·rw[aV d]at e;exact(I.hok b u e).stay (λc v _ q=>q) (λc q=>by rw[aV<|a c _ q];exact q) λc h q=>by rw[aV<|a c _ q];exact q
theorem Fb:∀{a:ε V}{b:ε Γ},Vals a b->Vals a.reverse b.reverse
 |_,_,.nil=>.nil
 |_,_,.cons r t=>by
  rw[iq,iq];exact Vals.append (Fb t)<|.cons r .nil
theorem Ug{items:ε Γ}(h:ItemsOf (λi v=>items.toArray[items.toArray.size-1-i]? =γ v) a items.toArray.size):a=items.reverse.toArray:=by
 obtain⟨c,d⟩:=h;apply A9;apply List.ext_getElem?;intro i;simp only[bt]at c;by_cases e:i<items.length
 ·have b:i<a.size:=‹48›
  have:=d i a[i] (jv b);simp only[bt,se]at this;rw[qj e,this];simp[b]
 ·rw[qk (by simp;lia),qk (by simp;exact 24)]
def Fw(K:ς)(t:TA):TE:=λd H Q=>t d H λe b=>∃a c,e=[.ref a]/\SqL K b a c/\∀l,b l=ν->Q (.ref l) (fA b l<|.lst c.reverse)
theorem Ll(E:X.K=K)(F:X.calm=true)(w:Gl X "list")(x:X.mg "list"=ν)(G:Gl X "reversed")(J:X.mg "reversed"=ν)(L:PA X [a] B)(M:starEach [a] X.env=[(false,eval a X.env)]:=by rfl)
  (j:starEach [(.Call (.Name "reversed" r) [a] [] c:Expr)] X.env=[(false,eval (.Call (.Name "reversed" r) [a] [] c) X.env)]:=by rfl):
  PE X (.Call (.Name "list" p) [.Call (.Name "reversed" r) [a] [] c] [] i) (Fw K B):=by
 subst E;intro pins s y H Q I h;refine yn (jK I w x rk<|dh ?_ (by rw[j];rfl)<|by rfl);rw[j];show ar _ _ (spliced<|(false,eval (.Call (.Name "reversed" r) [a] [] c) X.env)::backTo i []) _ _ s;refine uz (yn<|jK I G J nU<|dh (eP (L c pins s y H _ I h) λus d ⟨vs,t,k,N,O⟩=>?_) (by rw[M];rfl)<|by rfl);refine qq0 λqq2=>?_;obtain⟨m,P,e,R,q⟩:=O;refine qq2 ?_;subst e;refine qq0 λqq2=>?_;obtain⟨u,rfl,S⟩:=jB N;refine qq2 ?_;cases S;refine qq0 λqq2=>?_;obtain⟨f,C,z,T⟩:=k.list R;refine qq2 ?_;have L1:=C.length;have U:m<d.heap.objs.size:=by obtain⟨_,e,_⟩:=z.isList;exact cu e
 refine u5 z.isList<|vo ?_;have v:Inv X pins y t {d with heap:=d.heap.push<|revObj m<|(f.toArray.size:χ)-1}:=k.kept (t':=d.toks) λb o e=>Ξ _ e;have g:t d.heap.objs.size=ν:=k.hok.fresh<|ω _;have W:lN X pins t d.heap.objs.size:=k.fpOk (ω _) g;refine Iu (s:={d with heap:=d.heap.push<|revObj m<|(f.toArray.size:χ)-1}) (it:=d.heap.objs.size) (l:=m) (items:=f.toArray) (k.ok.hd F) (ig U) ⟨_,aw _ rfl,rfl,rfl⟩ (z.isList.at λo e=>Ξ _ e) (by rw[bt];lia) λY tk D Z kk hS hI=>?_;have e:=Ug hI;subst e
 have I3:Inv X pins y t {d with heap:=Y,toks:=tk}:=eO (s:={d with heap:=d.heap.push (revObj m ((f.toArray.size:χ)-1))}) (ws:=[d.heap.objs.size]) v (λb o A e=>kk b o (by simpa using A) e) (λb A=>by
  have:b=d.heap.objs.size:=by simpa using A
  subst this
  exact W)
 have n:=v.hok.fresh<|ω _;have I4:=aFy (o:=.lst P.reverse) I3 (v.fpOk (ω _) n) v.sz ⟨by rw[kb];exact T,f.reverse,Z,Fb C,hS⟩;exact⟨.ref _,_,I4,rfl,q _ n⟩
section
variable{K:ς}{H₀:Hp}{E:XK}{te:TE}{dl:DL}
theorem Lq(e:Vf K H₀ E te dl):xO K H₀ E (Fw K<|eF te jP) (aOm dl):=λf g h G H r Q i S q k=>
 e f g h G H _ _ i S q λa c s t u b j l m=>⟨a,c,rfl,j,λp d=>by
  obtain⟨n,o⟩:=fN (xs:=c.reverse) (p:=p) b.s d
  exact k p _ _ _ _ (b.trans n) (b.h.free d) o bJ l.rev m⟩
end
open PySem.W
def aWz(N:π)(P:c->Prop):KasT c->Prop
 | .ret a=>P a
 | .ask i j k=>i<N/\j<N/\∀b,aWz N P<|k b
def Ord(N:π)(p:Array π):Prop:=p.Perm<|List.toArray<|range N
abbrev pr(q:χ×χ):μ:=.tuple [.int q.1,.int q.2]
def Pg:V->ε V->Hp->VK->Prop:=λx b H Q=>∃l a i y,x= .ref l/\b=[.int i,y]/\H l=γ (.lst a)/\0<=i/\i<=(a.length:χ)/\a.length<sizeLine/\Q .non (fA H l<|.lst<|a.take i.toNat++y::a.drop i.toNat)
theorem Tk:MtM X "list.insert" Pg:=by
 intro pins s m H x o v p Q I d f h;refine qq0 λqq2=>?_;obtain⟨l,w,i,y,rfl,rfl,b,A,B,C,q⟩:=h;refine qq2 ?_;cases d;refine qq0 λqq2=>?_;obtain⟨u,c,rfl,⟨t,rfl⟩,g⟩:=yU f;obtain⟨z,a,n,r,D,e⟩:=I.lstM b;refine qq2 ?_;have hlen:=r.length;have E:=oN;refine ki u6 ⟨_,e,rfl⟩ F.entry_list_insert (F.args_list_insert_3 _ _ _) (rn l a.toArray n i t c (by simp[Builtin.List.listFitsIndex];lia) (by rw[bt];lia)) ⟨e,?_⟩;refine⟨.non,_,I.lset (its':=a.take i.toNat++c::a.drop i.toNat) b e ?_ ((r.take _).append<|.cons g<|r.drop _) ?_,rfl,q⟩
 ·have j:¬i<0:=by lia
  have k:min i.toNat a.length=i.toNat:=‹50›
  simp only[j,qf,bt,k];apply A9;simp[bA]
 ·rw[Λ,Ε,ao,az];omega
def aOp(i:π)(c f:DE)(e:DEnds)(a:cC):Prop:=match slot a i with
 |some (.own b)=>c e.ex a λx=>(match x with
  | .int k=>f e.ex a λd=>0<=k/\k<=(b.length:χ)/\b.length<1000/\e.nx (put (γ<|.own<|b.take k.toNat++d::b.drop k.toNat) i a)
  |_=>ag)
 |_=>ag
theorem Wp(i:π)(s:jO K T E W X)(h:gP K T E U Y):jQ K T E (Op<|tBM K "list" Pg (iI i)<|eF W<|eF U jP) (aOp i X Y):=λg j G H e D l S q L=>by
 unfold aOp at q;split at q
 ·rename_i N m
  refine qq0 λqq2=>?_;obtain⟨a,t,n,O,o,c⟩:=S.ownAt m;refine qq2 ?_;refine⟨_,n,.inl ⟨rfl,_,SqL.of o⟩,s e.ex g j G H _ _ l S q λv d u w x y p=>?_⟩;cases d with
  |int k=>
   cases cF y;refine h e.ex g j u w _ _ l (S.ext x) p λz d2 A P B f C=>?_;refine qq0 λqq2=>?_;obtain⟨F,I,R,J⟩:=C;refine qq2 ?_;have b:=x.trans B;have M:=S.ext b;have r:=c.len;exact⟨a,t,k,z,rfl,rfl,b.h _ _ o,F,by rw[r];exact I,bX (by rw[r];exact 0),L.nx _ _ A _ b.g (M.updO m n<|((aR b.g c).take _).append<|.cons f<|(aR b.g c).drop _) J⟩
  |_=>exact p.elim
 ·exact q.elim
section
variable{K:ς}{H₀:Hp}{E:XK}{ta tb:TE}{db:DE}{dl:DL}
def aTp(dl:DL)(db:DE)(a:DX)(b:cC)(Q:ε μ->Prop):Prop:=dl a b λc=>db a b λy=>match y with
 | .int k=>(-(2^63)<=k/\k<2^63)/\c.length*k.toNat<=1000/\Q (bp k.toNat c).flatten
 |_=>ag
theorem Qq(h:DVs K G a b):∀n:π,DVs K G (bp n a).flatten (bp n b).flatten
 |0=>.nil
 |n+1=>by
  rw[iy,iy,mj,mj];exact h.append<|Qq h n
theorem Lp(o:MvD K H₀ E ta dl)(r:jO K H₀ E tb db):xO K H₀ E (yZ aRp ta tb) (aTp dl db):=λd e f G H F Q g S q k=>
 o d e f G H _ _ g S q λa h I s t i u l v=>r d e f s t _ _ g (S.ext i) v λy w J L b x c=>by
  cases w with
  |int j=>
   cases cF x;obtain⟨⟨z,A⟩,c,B⟩:=c;refine⟨a,j,h,rfl,rfl,b.h _ _ u,z,A,cg<|bX (by rw[l.len];exact c),λp m=>?_⟩;obtain⟨C,D⟩:=fN (xs:=(bp j.toNat h).flatten) b.s m;have n:=i.trans b;exact k p _ _ _ _ (n.trans C) (n.h.free m) D bJ (Qq (aR b.g l) _) B
  |_=>exact c.elim
end
theorem yI{K:ς}(h:K.lookup a=γ ⟨.type "tuple",e,.seq b n,f⟩)(g:b.size<=sizeLine)(r:Vals xs b.toList)(d:∀H,DVs K H xs c)(H:Hp):DV K H (.ref a) (.tuple c):=
 .tup (.inr ⟨_,b,n,h,rfl,rfl,g,r⟩) (d H)
def aOa:Enc {x:bf//PyData.strOk x=true}:=⟨λx=>.str x.1,0,by decide,λx=>x.2,λ_=>by simp[PyData.depth],λx y=>by simp[PyData.eqv,yb]⟩
def aRs(K:ς)(b:Bool):R2:=λx y H Q=>∃(c:Type)(e:Enc c)(a:c)(bs:ε c),DV K H x (e.d a)/\DV K H y (.tuple<|bs.map e.d)/\∀k:Bool,(k=true↔a∈bs)->Q (.bl<|if b then !k else k) H
theorem aFc(b:X.K=K)(k:X.A.units+64<cLine):lM X (compareOp .NotIn) (aRs K true):=by
 subst b;intro pins s l H x y v u Q I c d h;refine qq0 λqq2=>?_;obtain⟨m,e,a,bs,f,g,q⟩:=h;obtain⟨n,i⟩:=gF I f c;obtain⟨o,j⟩:=gF I g d;refine qq2 ?_;have p:=e.depth a;have r:=e.small;exact xq j i (qV e bs).1 (e.lay a) (by lia) ⟨.bl _,H,I,rfl,q _<|Eu e a bs⟩
def aSj(x y:μ)(Q:μ->Prop):Prop:=∃(b:Type)(e:Enc b)(a:b)(bs:ε b),x=e.d a/\y= .tuple (bs.map e.d)/\∀k:Bool,(k=true↔a∈bs)->Q (.bool !k)
theorem zH:Km K (aRs K true) aSj:=by
 rintro G H x y h i j Q b d ⟨f,e,a,bs,rfl,rfl,q⟩ k;exact⟨f,e,a,bs,b,d,λc g=>k _ _ (.bl _)<|q c g⟩
def Xv(K:ς)(f:ε Bool->Bool):ε V->Hp->VK->Prop:=λa H Q=>∃(p:Ζ)(bs:ε Bool),a=[.ref p]/\SqL K H p (bs.map V.bl)/\Q (.bl<|f bs) H
theorem xI:∀{bs:ε Bool}{a:ε Γ},Vals (bs.map V.bl) a->LSm.BoolsAre a bs
 |[],_,.nil=>.nil
 |b::bs,_,.cons r t=>by
  cases (show _=Value.bool b from r);exact .cons b<|xI t
theorem aWr(j:X.K=K)(k:X.calm=true):iM X (.builtin "all") (Xv K (·.all id)):=by
 subst j;intro pins s x H y z Q I r h;refine qq0 λqq2=>?_;obtain⟨p,bs,rfl,l,q⟩:=h;obtain⟨u,rfl,m⟩:=jB r;refine qq2 ?_;cases m;refine qq0 λqq2=>?_;obtain⟨a,n,o,B⟩:=I.list l;refine qq2 ?_;have f:=xI n;have c:s.heap.IsList p a.toArray:=o.isList;have d:p<s.heap.objs.size:=by obtain⟨_,e,_⟩:=c;exact cu e
 refine call_all_walk<|jy c ?_
 refine⟨s.heap.objs.size,[s.heap.objs.size,p],[s.heap.objs.size],a.toArray.size,_,_,λi=>(bs[i]?).getD true,rfl,yz (A:=X.A.in1) (I.ok.hd k) _ p (ig d) a.toArray,
  ⟨⟨_,aw _ rfl,rfl,rfl⟩,c.push _⟩,λi v C D E t g=>?_,λF tk w=>?_⟩
 ·obtain⟨b,e,rfl⟩:=f.get i v (by simpa using t);simp only[e,zh]at g;exact hJ g
 ·have e:((range a.toArray.size).all λi=>(bs[i]?).getD true)=bs.all id:=by
   rw[bt,f.length];exact LSm.range_all bs
  rw[e];exact⟨.bl _,H,I.kept (t':=tk)<|LSm.kept_iter w,rfl,q⟩
def aPg(b:ε μ)(Q:μ->Prop):Prop:=match b with
 |[.list bs]=>∃a:ε Bool,bs=a.map PyData.bool/\Q (.bool<|a.all id)
 |_=>ag
theorem Ao:∀{a:ε Bool}{b:ε V},DVs K H b (a.map PyData.bool)->b=a.map V.bl
 |[],_,.nil=>rfl
 |k::a,_,.cons h t=>by rw[lR h,Ao t];rfl
theorem Xo:RCb K (Xv K (·.all id)) aPg:=by
 intro G H g h i Q c q k;unfold aPg at q;split at q
 ·refine qq0 λqq2=>?_;obtain⟨d,rfl,q⟩:=q;obtain⟨x,rfl,e⟩:=wU c;obtain⟨a,j,rfl,b,f⟩:=eZ e;refine qq2 ?_;rw[Ao f]at b;exact⟨a,d,rfl,b,k _ _ (.bl _) q⟩
 ·exact q.elim
theorem boot_all:bootBuiltins "all"=γ (.builtin "all"):=by decide +kernel
theorem Ap(y:A.handled=ν)(m:l≠c):∀(n i:π)(s:aj)(Q:ε Γ->aj->Prop),s.heap.IsListIter c l i->s.heap.IsList l items->i+n<=items.size ->
  (∀r tk,r.IsListIter c l (i+n)->r.IsList l items->(∀b o,b≠c->s.heap.get? b=γ o->r.get? b=γ o)->Q ((items.toList.drop i).take n) {s with heap:=r,toks:=tk})->ar (model prog w) A (draw (.ref c) n) Q E s
 |0,i,s,Q,d,t,_,u=>by
  show ar _ _ (pure []) Q E s;exact aq (by simpa using u s.heap s.toks d t λ_ _ _ e=>e)
 |n+1,i,s,Q,d,t,C,u=>by
  have f:i<items.size:=by lia
  show ar _ _ (pyNext (.ref c)>>=_) Q E s;refine ξ<|(yz y c l m items).item i s _ _ f ⟨d,t⟩ λv z x D p g=>?_;refine ξ<|jm<|Ap y m n (i+1) _ _ p.1 p.2 (by lia) λq h a j k=>aq ?_;have F:items[i]=v:=by
   have:=D;rw[jv f]at this;exact bw this
  have G:items.toList.drop i=v::items.toList.drop (i+1):=by
   rw[<-F];simp[gm,f]
  have:=u q h (by rw[show i+(n+1)=i+1+n by exact 48];exact a) j λb o B e=>k b o B<|g b o (by simpa using B) e;rw[G,List.take_succ_cons]at this;exact this
theorem rD(n:A.handled=ν)(k:s.heap.IsList l items)
  (t:∀p tk,(∀b o,s.heap.get? b=γ o->p.get? b=γ o)->Q items.toList {s with heap:=p,toks:=tk}):ar (model prog w) A (unpackItems (.ref l) items.size ν) Q E s:=by
 have h:l≠s.heap.objs.size:=by obtain⟨o,u,_⟩:=k;exact ig<|cu u
 unfold unpackItems;refine ξ ?_
 ·unfold notIterableAtAll;refine ξ<|nk k.typeIs slot_list_iter.lookup ?_;refine aq ?_;simp only[p8,qf];refine ξ<|jm<|jy k ?_;refine ξ<|jm<|Ap n h items.size 0 _ _ ⟨_,aw _ rfl,rfl,rfl⟩ (k.push _) ‹48› λq m a c d=>?_;have i:take items.size (drop 0 items.toList)=items.toList:=by
   rw[mx];exact bA (by simp)
  rw[i];rw[ι<|by simp];refine ξ<|jm<|(yz n _ l h items).done _ _ _ ⟨by simpa using a,c⟩ λj f g=>?_;simp only[Option.isSome_none,p8,qf];refine aq<|t j f λb o e=>?_;have r:b≠s.heap.objs.size:=ig<|cu e;exact g b o (by simpa using r)<|d b o r<|Ξ _ e
theorem qY(g:A.handled=ν)(i:s.heap.IsList l items)
  (j:(assignEach elts a).length=items.size) (c:(assignEach elts a).findIdx? (·.1)=ν)
  (h:∀e tk,(∀b o,s.heap.get? b=γ o->e.get? b=γ o)->ar (model prog w) A (assignInOrder ((assignEach elts a).map (·.2)) items.toList) Q E {s with heap:=e,toks:=tk}):
  ar (model prog w) A (assign (.Tuple elts f d) a<|.ref l) Q E s:=by
 rw[assign_Tuple];refine ξ<|m4 ?_;unfold unpack;rw[j,c];exact ξ<|jm<|rD g i h
def aIm(K:ς)(n:π)(t:Vd):TG:=λv c H Q=>∃a b,v= .ref a/\SqL K H a b/\b.length=n/\t b c H Q
theorem aRx(f:X.K=K)(g:X.calm=true)(h:PGs X b t)
  (i:(assignEach b X.env).length=n:=by rfl) (d:(assignEach b X.env).findIdx? (·.1)=ν:=by rfl):PG X (.Tuple b k c) (aIm K n t):=by
 subst f;intro pins s j H v u Q I r hw;refine qq0 λqq2=>?_;obtain⟨a,l,m,o,p,hw⟩:=hw;refine qq2 ?_;subst m;cases r;refine qq0 λqq2=>?_;obtain⟨q,e,w,y⟩:=I.list o;refine qq2 ?_;refine qY (I.ok.hd g) w.isList (by simp[i,<-p,e.length]) d λz tk x=>?_;exact h pins _ j H l _ Q (I.kept (t':=tk) x) (by simpa using e) hw
def aAb(n:π)(a:DGs)(d:μ)(c:cC)(Q:cC->Prop):Prop:=match d with
 | .list b=>b.length=n/\a b c Q
 |_=>ag
theorem Wy(e:Same H b)(h:SqL K H a c):SqL K b a c:=by
 rcases h with(h|⟨o,h⟩)|h
 ·exact .inl<|.inl<|e _ _ h
 ·exact .inl<|.inr ⟨o,e _ _ h⟩
 ·exact .inr h
theorem Zy(h:aCw K p c e b):Vg K p (aIm K n c) e (aAb n b):=λv d g i G H o Q S j q k=>by
 unfold aAb at q;split at q
 ·obtain⟨a,l,rfl,m,f⟩:=eZ j;exact⟨a,l,rfl,Wy S.sub.same m,by rw[f.len];exact q.1,h _ _ g i G H _ _ S f q.2 k⟩
 ·exact q.elim
def aRc:TS:=λ_ _ _=>ag
theorem mL{st:Stmt}:PS X st aRc:=λ_ _ _ _ _ _ h=>h.elim
def aTu:DS:=λ_ _=>ag
theorem kG{K:ς}:jQ K a E aRc aTu:=λ_ _ _ _ _ _ _ _ q _=>q.elim
local macro_rules|`(tactic|walk_at"o")=>`(tactic|first|exact 50|(refine(λ(h:@Eq π _ _)=>?_);lia))
abbrev eU(h:gy)(T:Ζ)(a b c:Γ):Prop:=h.get? T=γ {cls:=.type "tuple",data:=.seq #[a,b,c]}
theorem xP(a b c:Γ):checkTypeCall "zip" ⟨[a,b,c],[]⟩=pure ():=by kernel_rfl
theorem Dc(a b c:Γ):checkBuiltinCall "zip.__new__" ⟨[.type "zip",a,b,c],[]⟩=pure ():=by kernel_rfl
theorem Nr(a b c d:Γ):argsOk "object.__init__" ⟨[a,b,c,d],[]⟩:=by
 unfold argsOk;rw[signature?_of (id:="object.__init__") (n:=['_','_','t','i','n','i','_','_']) (o:=['t','c','e','j','b','o']) (by kernel_rfl) F.owner_object];kernel_rfl
theorem pF(e:eU s.heap T a b c)
  (h:∀d,d.get? T=γ {cls:=.type "tuple",data:=.seq<|(#[a,b,c]:Array Γ).setIfInBounds k x}->SameBut T s.heap d->Q () {s with heap:=d}):
  ar (model prog w) A (updateSeq T (·.setIfInBounds k x)) Q E s:=by
 refine ya e rfl<|h _ ?_<|SameBut.update ..;rw[qe _ e rfl];simp[Obj.mapSeq]
theorem Rz{Q:Γ->aj->Prop}(L1:F<n)(L2:J<n)(L3:N<n)
  (P:IsZip s.heap (n+5) (n+3) (n+4) .none) (Z:eU s.heap (n+3) (.ref n) (.ref<|n+1)<|.ref<|n+2) (a0:eU s.heap (n+4) a b c)
  (h1:s.heap.IsListIter n F k) (h2:s.heap.IsListIter (n+1) J k) (h3:s.heap.IsListIter (n+2) N k) (g1:s.heap.IsList F xs) (g2:s.heap.IsList J ys) (g3:s.heap.IsList N zs)
  (hx:xs[k]? =γ x) (hy:ys[k]? =γ y) (hv:zs[k]? =γ v)
  (hQ:∀K,IsZip K (n+5) (n+3) (n+4) (rawInt s.heap.objs.size)->eU K (n+4) x y v->K.IsListIter n F (k+1)->K.IsListIter (n+1) J (k+1)->K.IsListIter (n+2) N (k+1)->eU K s.heap.objs.size x y v ->
   (∀(d:π) o,d∉([n,n+1,n+2,n+4,n+5]:ε π)->s.heap.get? d=γ o->K.get? d=γ o)->Q (.ref s.heap.objs.size) {s with heap:=K}):
  ar (model prog w) A (Builtin.«zip.__next__» ⟨[.ref<|n+5],[]⟩) (λa6 s'=>∃v,a6= .done (.ret v)/\Q v s') E s:=by
 show ar _ _ (field (.ref<|n+5) 2>>=_) _ _ _;refine ξ<|jn P rfl (x:=.bool false) rfl ?_;show ar _ _ (field (.ref<|n+5) 3>>=_) _ _ _;refine ξ<|jn P rfl (x:=.ref<|n+3) rfl ?_;refine ξ<|iz Z rfl ?_;show ar _ _ (Builtin.SmallTypes.ownedTupleIsFree (.ref<|n+5)>>=_) _ _ _;refine ξ ?_;unfold Builtin.SmallTypes.ownedTupleIsFree;refine ξ<|jn P rfl (x:=.none) rfl<|aq ?_;simp only[mi];refine ξ<|yl ?_;refine ξ<|jn P rfl (x:=.ref<|n+4) rfl ?_;refine ξ<|kl P (by simp) λL p B=>?_
 replace p:IsZip L (n+5) (n+3) (n+4) .ellipsis:=p
 have q1:∀(d:π) o,d≠n+5->s.heap.get? d=γ o->L.get? d=γ o:=λd o G e=>B.extBut d o G e;refine ξ ?_;simp only[w8,yc,ye,y2];refine ξ<|ξ<|lu ?_;show ar _ _ (Builtin.SmallTypes.nextOf (.ref n)>>=_) _ _ _;refine ξ<|jl (h1.at λo e=>q1 n o (by walk_at"o") e) (g1.at λo e=>q1 F o (by walk_at"o") e) hx λC i1 q=>aq ?_;have q2:∀(d:π) o,d≠n+5->d≠n->s.heap.get? d=γ o->C.get? d=γ o:=λd o H I e=>q.extBut d o I<|q1 d o H e;have z2:IsZip C (n+5) (n+3) (n+4) .ellipsis:=q.extBut _ _ (by walk_at"o") p;have t2:eU C (n+4) a b c:=q2 _ _ (by walk_at"o") (by walk_at"o") a0;refine ξ<|iz t2 rfl ?_;refine ξ<|pF t2 λr t3 l=>?_
 replace t3:eU r (n+4) x b c:=t3
 have q3:∀(d:π) o,d≠n+5->d≠n->d≠n+4->s.heap.get? d=γ o->r.get? d=γ o:=λd o H I M e=>l.extBut d o M<|q2 d o H I e;have z3:IsZip r (n+5) (n+3) (n+4) .ellipsis:=l.extBut _ _ (by walk_at"o") z2;have j3:r.IsListIter n F (k+1):=i1.at λo e=>l.extBut n o (by walk_at"o") e;refine ξ<|nc<|aq ?_;refine ξ<|ξ<|lu ?_;show ar _ _ (Builtin.SmallTypes.nextOf (.ref<|n+1)>>=_) _ _ _;refine ξ<|jl (h2.at λo e=>q3 (n+1) o (by walk_at"o") (by walk_at"o") (by walk_at"o") e) (g2.at λo e=>q3 J o (by walk_at"o") (by walk_at"o") (by walk_at"o") e) hy λt i2 i=>aq ?_;have q4:∀(d:π) o,d≠n+5->d≠n->d≠n+4->d≠n+1->s.heap.get? d=γ o->t.get? d=γ o:=λd o H I M O e=>i.extBut d o O<|q3 d o H I M e;have z4:IsZip t (n+5) (n+3) (n+4) .ellipsis:=i.extBut _ _ (by walk_at"o") z3;have j4:t.IsListIter n F (k+1):=j3.at λo e=>i.extBut n o (by walk_at"o") e;have t4:eU t (n+4) x b c:=i.extBut _ _ (by walk_at"o") t3;refine ξ<|iz t4 rfl ?_;refine ξ<|pF t4 λm t5 j=>?_
 replace t5:eU m (n+4) x y c:=t5
 have q5:∀(d:π) o,d≠n+5->d≠n->d≠n+4->d≠n+1->s.heap.get? d=γ o->m.get? d=γ o:=λd o H I M O e=>j.extBut d o M<|q4 d o H I M O e;have z5:IsZip m (n+5) (n+3) (n+4) .ellipsis:=j.extBut _ _ (by walk_at"o") z4;have j5:m.IsListIter n F (k+1):=j4.at λo e=>j.extBut n o (by walk_at"o") e;have m5:m.IsListIter (n+1) J (k+1):=i2.at λo e=>j.extBut (n+1) o (by walk_at"o") e;refine ξ<|nc<|aq ?_;refine ξ<|ξ<|lu ?_;show ar _ _ (Builtin.SmallTypes.nextOf (.ref<|n+2)>>=_) _ _ _;refine ξ<|jl (h3.at λo e=>q5 (n+2) o (by walk_at"o") (by walk_at"o") (by walk_at"o") (by walk_at"o") e) (g3.at λo e=>q5 N o (by walk_at"o") (by walk_at"o") (by walk_at"o") (by walk_at"o") e) hv λu i3 g=>aq ?_;have z6:IsZip u (n+5) (n+3) (n+4) .ellipsis:=g.extBut _ _ (by walk_at"o") z5;have j6:u.IsListIter n F (k+1):=j5.at λo e=>g.extBut n o (by walk_at"o") e;have m6:u.IsListIter (n+1) J (k+1):=m5.at λo e=>g.extBut (n+1) o (by walk_at"o") e;have t6:eU u (n+4) x y c:=g.extBut _ _ (by walk_at"o") t5;refine ξ<|iz t6 rfl ?_;refine ξ<|pF t6 λf W h=>?_
 replace W:eU f (n+4) x y v:=W
 have z7:IsZip f (n+5) (n+3) (n+4) .ellipsis:=h.extBut _ _ (by walk_at"o") z6;have j7:f.IsListIter n F (k+1):=j6.at λo e=>h.extBut n o (by walk_at"o") e;have m7:f.IsListIter (n+1) J (k+1):=m6.at λo e=>h.extBut (n+1) o (by walk_at"o") e;have p7:f.IsListIter (n+2) N (k+1):=i3.at λo e=>h.extBut (n+2) o (by walk_at"o") e;have q7:∀(d:π) o,d∉([n,n+1,n+2,n+4,n+5]:ε π)->s.heap.get? d=γ o->f.get? d=γ o:=λd o G e=>by
  simp only[Υ,dV,gz,By]at G;obtain⟨H,I,M,O,a5⟩:=G;exact h.extBut d o O<|g.extBut d o M<|q5 d o a5 H O I e
 refine ξ<|nc<|aq<|aq ?_;refine ξ<|iz W rfl ?_;refine ξ<|wpAny_newTuple ?_;have R:f.objs.size=s.heap.objs.size:=by rw[h.1,g.1,j.1,i.1,l.1,q.1,B.1]
 have lz:n+5<f.objs.size:=cu z7;show ar _ _ (Builtin.SmallTypes.ownedTupleHandOut (.ref<|n+5) (.ref f.objs.size)>>=_) _ _ _;refine ξ ?_;unfold Builtin.SmallTypes.ownedTupleHandOut;have z8:IsZip (f.push {cls:=.type "tuple",data:=.seq #[x,y,v]}) (n+5) (n+3) (n+4) .ellipsis:=Ξ _ z7;refine ξ<|kl z8 (by simp) λS z9 D=>?_
 replace z9:IsZip S (n+5) (n+3) (n+4) (rawInt f.objs.size):=z9
 refine kl z9 (by simp) λX Y T=>?_
 replace Y:IsZip X (n+5) (n+3) (n+4) (rawInt f.objs.size):=Y
 have U:∀(d:π) o,d≠n+5->f.get? d=γ o->X.get? d=γ o:=λd o G e=>T.extBut d o G<|D.extBut d o G<|Ξ _ e;have tA:eU X f.objs.size x y v:=T.extBut _ _ (by walk_at"o")<|D.extBut _ _ (by walk_at"o")<|aw _ rfl;rw[R]at Y tA;refine aq ⟨_,rfl,?_⟩;show Q (.ref f.objs.size) _;rw[R];exact hQ X Y (U _ _ (by walk_at"o") W) (j7.at λo e=>U n o (by walk_at"o") e) (m7.at λo e=>U (n+1) o (by walk_at"o") e) (p7.at λo e=>U (n+2) o (by walk_at"o") e) tA λd o G e=>U d o (λz=>G<|by simp[z])<|q7 d o G e
theorem Vk(W:A.handled=ν)(L1:D<n)(L2:F<n)(L3:M<n)
  (H:IsZip s.heap (n+5) (n+3) (n+4) .none) (X:eU s.heap (n+3) (.ref n) (.ref<|n+1)<|.ref<|n+2) (Y:eU s.heap (n+4) a b c)
  (h1:s.heap.IsListIter n D k) (h2:s.heap.IsListIter (n+1) F k) (h3:s.heap.IsListIter (n+2) M k) (g1:s.heap.IsList D N) (g2:s.heap.IsList F O) (g3:s.heap.IsList M U)
  (I:N[k]? =ν\/O[k]? =ν\/U[k]? =ν)
  (Z:∀h' e,(∀(d:π) o,d∉([n,n+1,n+2,n+4,n+5]:ε π)->s.heap.get? d=γ o->h'.get? d=γ o)->(∃o,h'.get? e=γ o/\o.cls= .type "StopIteration")->E (.ref e) {s with heap:=h'}):
  ar (model prog w) A (Builtin.«zip.__next__» ⟨[.ref<|n+5],[]⟩) Q E s:=by
 show ar _ _ (field (.ref<|n+5) 2>>=_) _ _ _;refine ξ<|jn H rfl (x:=.bool false) rfl ?_;show ar _ _ (field (.ref<|n+5) 3>>=_) _ _ _;refine ξ<|jn H rfl (x:=.ref<|n+3) rfl ?_;refine ξ<|iz X rfl ?_;show ar _ _ (Builtin.SmallTypes.ownedTupleIsFree (.ref<|n+5)>>=_) _ _ _;refine ξ ?_;unfold Builtin.SmallTypes.ownedTupleIsFree;refine ξ<|jn H rfl (x:=.none) rfl<|aq ?_;simp only[mi];refine ξ<|yl ?_;refine ξ<|jn H rfl (x:=.ref<|n+4) rfl ?_;refine ξ<|kl H (by simp) λr p z=>?_
 replace p:IsZip r (n+5) (n+3) (n+4) .ellipsis:=p
 have P:∀(d:π) o,d≠n+5->s.heap.get? d=γ o->r.get? d=γ o:=λd o m e=>z.extBut d o m e;have stop:∀(g:gy)(e:Ζ),IsZip g (n+5) (n+3) (n+4) .ellipsis->(∀(d:π) o,d∉([n,n+1,n+2,n+4,n+5]:ε π)->s.heap.get? d=γ o->g.get? d=γ o)->(∃o,g.get? e=γ o/\o.cls= .type "StopIteration") ->
   ∀(R:Unit->aj->Prop),(∀f:gy,(∀(d:π) o,d∉([n,n+1,n+2,n+4,n+5]:ε π)->s.heap.get? d=γ o->f.get? d=γ o)->(∃o,f.get? e=γ o/\o.cls= .type "StopIteration")->R () {s with heap:=f})->∀E',ar (model prog w) A (setField (.ref<|n+5) 0 .none) R E' {s with heap:=g}:=λg e S k2 ⟨oe,ho,hc⟩ R hR E'=>by
  have ne:e≠n+5:=λx=>by
   subst x;rw[S]at ho;cases ho;simp at hc
  refine kl S (by simp) λf _ j=>hR f (λd o m x=>j.extBut d o (λy=>m<|by simp[y])<|k2 d o m x) ⟨oe,j.extBut _ _ ne ho,hc⟩
 refine ξ ?_;simp only[w8,yc,ye,y2];refine ξ<|ξ<|lu ?_;show ar _ _ (Builtin.SmallTypes.nextOf (.ref n)>>=_) _ _ _;have b1:r.IsListIter n D k:=h1.at λo e=>P n o (by walk_at"o") e;have b2:r.IsList D N:=g1.at λo e=>P D o (by walk_at"o") e;cases hx:N[k]? with
 |none=>
  refine ξ<|mv W b1 b2 hx λg e l J=>?_;refine stop g e (l _ _ (by walk_at"o") p) (λd o m x=>?_) J _ (λf k3 e3=>Z f e k3 e3) _;simp only[Υ,dV,gz,By]at m;exact l d o m.1<|P d o m.2.2.2.2 x
 |some x=>
  refine ξ<|jl b1 b2 hx λg i1 l=>aq ?_;have q2:∀(d:π) o,d≠n+5->d≠n->s.heap.get? d=γ o->g.get? d=γ o:=λd o B C e=>l.extBut d o C<|P d o B e;have S:IsZip g (n+5) (n+3) (n+4) .ellipsis:=l.extBut _ _ (by walk_at"o") p;have t2:eU g (n+4) a b c:=q2 _ _ (by walk_at"o") (by walk_at"o") Y;refine ξ<|iz t2 rfl ?_;refine ξ<|pF t2 λf t3 j=>?_
  replace t3:eU f (n+4) x b c:=t3
  have T:∀(d:π) o,d≠n+5->d≠n->d≠n+4->s.heap.get? d=γ o->f.get? d=γ o:=λd o B C G e=>j.extBut d o G<|q2 d o B C e;have z3:IsZip f (n+5) (n+3) (n+4) .ellipsis:=j.extBut _ _ (by walk_at"o") S;refine ξ<|nc<|aq ?_;refine ξ<|ξ<|lu ?_;show ar _ _ (Builtin.SmallTypes.nextOf (.ref<|n+1)>>=_) _ _ _;have c1:f.IsListIter (n+1) F k:=h2.at λo e=>T (n+1) o (by walk_at"o") (by walk_at"o") (by walk_at"o") e;have c2:f.IsList F O:=g2.at λo e=>T F o (by walk_at"o") (by walk_at"o") (by walk_at"o") e;cases hy:O[k]? with
  |none=>
   refine ξ<|mv W c1 c2 hy λq e i J=>?_;refine stop q e (i _ _ (by walk_at"o") z3) (λd o m x=>?_) J _ (λt k5 e5=>Z t e k5 e5) _;simp only[Υ,dV,gz,By]at m;exact i d o m.2.1<|T d o m.2.2.2.2 m.1 m.2.2.2.1 x
  |some y=>
   have hv:U[k]? =ν:=by
    rcases I with h|h|h
    ·rw[hx]at h;cases h
    ·rw[hy]at h;cases h
    ·exact h
   refine ξ<|jl c1 c2 hy λq i2 i=>aq ?_;have q4:∀(d:π) o,d≠n+5->d≠n->d≠n+4->d≠n+1->s.heap.get? d=γ o->q.get? d=γ o:=λd o B C G a4 e=>i.extBut d o a4<|T d o B C G e;have z4:IsZip q (n+5) (n+3) (n+4) .ellipsis:=i.extBut _ _ (by walk_at"o") z3;have t4:eU q (n+4) x b c:=i.extBut _ _ (by walk_at"o") t3;refine ξ<|iz t4 rfl ?_;refine ξ<|pF t4 λt t5 u=>?_;have q5:∀(d:π) o,d≠n+5->d≠n->d≠n+4->d≠n+1->s.heap.get? d=γ o->t.get? d=γ o:=λd o B C G a4 e=>u.extBut d o G<|q4 d o B C G a4 e;have z5:IsZip t (n+5) (n+3) (n+4) .ellipsis:=u.extBut _ _ (by walk_at"o") z4;refine ξ<|nc<|aq ?_;refine ξ<|ξ<|lu ?_;show ar _ _ (Builtin.SmallTypes.nextOf (.ref<|n+2)>>=_) _ _ _;refine ξ<|mv W (h3.at λo e=>q5 (n+2) o (by walk_at"o") (by walk_at"o") (by walk_at"o") (by walk_at"o") e) (g3.at λo e=>q5 M o (by walk_at"o") (by walk_at"o") (by walk_at"o") (by walk_at"o") e) hv λK e v J=>?_;refine stop K e (v _ _ (by walk_at"o") z5) (λd o m x=>?_) J _ (λL k7 e7=>Z L e k7 e7) _;simp only[Υ,dV,gz,By]at m;exact v d o m.2.2.1<|q5 d o m.2.2.2.2 m.1 m.2.2.2.1 m.2.1 x
theorem wD(t:f<n)(u:g<n)(z:h<n)
  (q:IsZip s.heap (n+5) (n+3) (n+4) .none) (i:eU s.heap (n+3) (.ref n) (.ref<|n+1)<|.ref<|n+2) (j:eU s.heap (n+4) a b c)
  (B:s.heap.IsListIter n f k) (C:s.heap.IsListIter (n+1) g k) (D:s.heap.IsListIter (n+2) h k) (G:s.heap.IsList f l) (H:s.heap.IsList g m) (I:s.heap.IsList h p)
  (J:l[k]? =γ x) (K:m[k]? =γ y) (L:p[k]? =γ v)
  (M:∀e,IsZip e (n+5) (n+3) (n+4) (rawInt s.heap.objs.size)->eU e (n+4) x y v->e.IsListIter n f (k+1)->e.IsListIter (n+1) g (k+1)->e.IsListIter (n+2) h (k+1)->eU e s.heap.objs.size x y v ->
   (∀(d:π) o,d∉([n,n+1,n+2,n+4,n+5]:ε π)->s.heap.get? d=γ o->e.get? d=γ o)->Q (γ (.ref s.heap.objs.size)) {s with heap:=e}):
  ar (model prog w) A (pyNext<|.ref<|n+5) Q E s:=by
 have r:s.TypeIs (.ref<|n+5) "zip":=⟨_,q,rfl⟩;unfold pyNext
 exact ξ (zd (ql (name:=ζ "__next__") r nr
  (xa nr r xb
   (Rz t u z q i j B C D G H I J K L λe N O P R S T U=>aq (M e N O P R S T U)) (vy _))))
theorem yF(v:A.handled=ν)(x:g<n)(y:h<n)(z:i<n)
  (t:IsZip s.heap (n+5) (n+3) (n+4) .none) (j:eU s.heap (n+3) (.ref n) (.ref<|n+1)<|.ref<|n+2) (l:eU s.heap (n+4) a b c)
  (B:s.heap.IsListIter n g k) (C:s.heap.IsListIter (n+1) h k) (D:s.heap.IsListIter (n+2) i k) (G:s.heap.IsList g p) (H:s.heap.IsList h q) (I:s.heap.IsList i r)
  (f:p[k]? =ν\/q[k]? =ν\/r[k]? =ν)
  (J:∀m,(∀(d:π) o,d∉([n,n+1,n+2,n+4,n+5]:ε π)->s.heap.get? d=γ o->m.get? d=γ o)->Q ν {s with heap:=m}):ar (model prog w) A (pyNext<|.ref<|n+5) Q E s:=by
 have u:s.TypeIs (.ref<|n+5) "zip":=⟨_,t,rfl⟩;unfold pyNext
 refine ξ (zd (ql (name:=ζ "__next__") u nr
  (xa nr u xb (Vk v x y z t j l B C D G H I f λm e K L=>?_) (vy _))))
 obtain⟨o,M,N⟩:=L;refine ξ<|w6 (T:="StopIteration") (b:=true) ⟨o,M,N⟩ isSubtype_stop ?_;exact aq<|J _ K
abbrev z3a(h:gy)(a:Ζ):gy:=h.push {cls:=.type "list_iterator",data:=.fields #[.ref a,.int 0 0]}
abbrev z3b(h:gy)(a b:Ζ):gy:=(z3a h a).push {cls:=.type "list_iterator",data:=.fields #[.ref b,.int 0 0]}
abbrev z3c(h:gy)(a b c:Ζ):gy:=(z3b h a b).push {cls:=.type "list_iterator",data:=.fields #[.ref c,.int 0 0]}
abbrev z3d(h:gy)(a b c:Ζ):gy:=(z3c h a b c).push {cls:=.type "tuple",data:=.seq #[.ref h.objs.size,.ref (z3a h a).objs.size,.ref (z3b h a b).objs.size]}
abbrev z3e(h:gy)(a b c:Ζ):gy:=(z3d h a b c).push {cls:=.type "tuple",data:=.seq #[.none,.none,.none]}
abbrev z3f(h:gy)(a b c:Ζ):gy:=(z3e h a b c).push {cls:=.type "zip",data:=.fields #[.none,.bool false,.bool false,.ref (z3c h a b c).objs.size,.ref (z3d h a b c).objs.size]}
theorem Mi(a b c:Ζ)(o p q:Array Γ):
  Meets (Builtin.«zip.__new__» ⟨[.type "zip",.ref a,.ref b,.ref c],[]⟩) (λ_ R s=>s.heap.IsList a o/\s.heap.IsList b p/\s.heap.IsList c q/\
   R (.ok (.ret (.ref (z3e s.heap a b c).objs.size))) {s with heap:=z3f s.heap a b c}):=
 .of_wp λprog w A R s h=>by
  refine qq0 λqq2=>?_;obtain⟨e,g,d,tk,f⟩:=s;obtain⟨i,j,k,h⟩:=h;refine qq2 ?_;have r:=sub_zip;have l:IsList (Shared.heap ⟨e,g,d,tk,f⟩) a o:=i;have m:IsList (Shared.heap ⟨z3a e a,g,d,tk,f⟩) b p:=IsList.push j _;have n:IsList (Shared.heap ⟨z3b e a b,g,d,tk,f⟩) c q:=IsList.push (IsList.push k _) _
  wp_walk using jy l,jy m,jy n
  exact⟨_,rfl,h⟩
theorem Uv(i:s.heap.IsList b u)(j:s.heap.IsList d v)(k:s.heap.IsList f y)
  (h:∀(g:gy)(n:π),n=s.heap.objs.size->IsZip g (n+5) (n+3) (n+4) .none->eU g (n+3) (.ref n) (.ref (n+1)) (.ref (n+2))->eU g (n+4) .none .none .none->g.IsListIter n b 0->g.IsListIter (n+1) d 0->g.IsListIter (n+2) f 0 ->
   (∀c o,s.heap.get? c=γ o->g.get? c=γ o)->Q (.ref (n+5)) {s with heap:=g}):
  ar (model prog w) A (call (.type "zip") [.ref b,.ref d,.ref f]) Q E s:=by
 refine callType_new F.called_zip (by decide) (xP _ _ _) (Dc _ _ _) (λl=>Nr l _ _ _) F.entry_zip_new (Mi b d f u v y) ⟨i,j,k,?_⟩;have m:(z3a s.heap b).objs.size=s.heap.objs.size+1:=n7 ..;have p:(z3b s.heap b d).objs.size=s.heap.objs.size+2:=by rw[n7,m]
 have q:(z3c s.heap b d f).objs.size=s.heap.objs.size+3:=by rw[n7,p]
 have r:(z3d s.heap b d f).objs.size=s.heap.objs.size+4:=by rw[n7,q]
 have z:(z3e s.heap b d f).objs.size=s.heap.objs.size+5:=by rw[n7,r]
 have a:∀(h:gy)(o:Obj){c:Ζ}{x:Obj},h.get? c=γ x->(h.push o).get? c=γ x:=λh o c x e=>Ξ _ e;have t:(z3f s.heap b d f).get? (z3e s.heap b d f).objs.size=γ _:=aw _ rfl;have B:(z3f s.heap b d f).get? (z3d s.heap b d f).objs.size=γ _:=a _ _<|aw _ rfl;have C:(z3f s.heap b d f).get? (z3c s.heap b d f).objs.size=γ _:=a _ _<|a _ _<|aw _ rfl;have D:(z3f s.heap b d f).get? (z3b s.heap b d).objs.size=γ _:=a _ _<|a _ _<|a _ _<|aw _ rfl;have G:(z3f s.heap b d f).get? (z3a s.heap b).objs.size=γ _:=a _ _<|a _ _<|a _ _<|a _ _<|aw _ rfl;have H:(z3f s.heap b d f).get? s.heap.objs.size=γ _:=a _ _<|a _ _<|a _ _<|a _ _<|a _ _<|aw _ rfl;show _/\_;rw[z,q,r]at t;rw[q,m,p]at C;rw[r]at B;rw[p]at D;rw[m]at G;rw[z];exact⟨⟨_,t,rfl⟩,h _ _ rfl t C B ⟨_,H,rfl,rfl⟩ ⟨_,G,rfl,rfl⟩ ⟨_,D,rfl,rfl⟩ λc o x=>a _ _<|a _ _<|a _ _<|a _ _<|a _ _<|a _ _ x⟩
def aCv(K:ς)(a b c:Ζ):It:=
 ⟨λi H=>∃d e f,SqL K H a d/\SqL K H b e/\SqL K H c f/\i<d.length/\i<e.length/\i<f.length,
  λi H x g=>∃T u v t,x= .ref T/\H T=ν/\g=fA H T (.tup [u,v,t])/\(∀d,SqL K H a d->d[i]? =γ u)/\(∀e,SqL K H b e->e[i]? =γ v)/\∀f,SqL K H c f->f[i]? =γ t,
  λi H=>∃d e f,SqL K H a d/\SqL K H b e/\SqL K H c f/\(d.length<=i\/e.length<=i\/f.length<=i)⟩
theorem Bl(d:Vals a b)(h:i<a.length):∃u x,a[i]? =γ u/\b.toArray[i]? =γ x/\RelV u x:=by
 have c:a[i]? =γ a[i]:=ah h;obtain⟨x,e,f⟩:=d.get c;exact⟨_,x,c,by simpa using e,f⟩
theorem Si{K:ς}(L1:Y<n)(L2:Z<n)(L3:l3<n):
  Turn P w K (.Tuple elts k U) (aCv K Y Z l3) [n+5,n+3,n+4,n,n+1,n+2] (n+5) (λi h=>IsZip h (n+5) (n+3) (n+4) .none/\eU h (n+3) (.ref n) (.ref<|n+1) (.ref<|n+2)/\(∃a b c,eU h (n+4) a b c)/\h.IsListIter n Y i/\h.IsListIter (n+1) Z i/\h.IsListIter (n+2) l3 i) where
 mem:=by simp
 obj:=λi h st b f=>by
  refine qq0 λqq2=>?_;obtain⟨m,d,⟨x,y,t,j⟩,⟨o1,e1,_,d1⟩,⟨o2,e2,_,d2⟩,⟨o3,e3,_,d3⟩⟩:=st;refine qq2 ?_;simp only[Υ,dV,gz]at f;rcases f with rfl|rfl|rfl|rfl|rfl|rfl
  ·exact⟨_,m,λv q=>by cases q⟩
  ·exact⟨_,d,λv q=>by cases q⟩
  ·exact⟨_,j,λv q=>by cases q⟩
  ·exact⟨o1,e1,λv q=>by rw[d1]at q;cases q⟩
  ·exact⟨o2,e2,λv q=>by rw[d2]at q;cases q⟩
  ·exact⟨o3,e3,λv q=>by rw[d3]at q;cases q⟩
 keep:=λi h O st A=>by
  refine qq0 λqq2=>?_;obtain⟨m,d,⟨x,y,t,j⟩,B,C,D⟩:=st;refine qq2 ?_;exact⟨A _ (by simp) _ m,A _ (by simp) _ d,⟨x,y,t,A _ (by simp) _ j⟩,B.at λo e=>A _ (by simp) o e,C.at λo e=>A _ (by simp) o e,D.at λo e=>A _ (by simp) o e⟩
 item:=by
  intro X hP hw hK hc i pins s σ H E I F st hg;subst hP hw hK;refine qq0 λqq2=>?_;obtain⟨xs,ys,zs,R,S,T,g1,g2,g3⟩:=hg;obtain⟨G,p,p1,z1⟩:=I.list R;obtain⟨J,r,p2,z2⟩:=I.list S;obtain⟨L,z,p3,z3⟩:=I.list T;obtain⟨m,d,⟨x0,y0,t0,j⟩,B,C,D⟩:=st;obtain⟨u,x,e1,f1,r1⟩:=Bl p g1;obtain⟨v,y,e2,f2,r2⟩:=Bl r g2;obtain⟨t,c,e3,f3,r3⟩:=Bl z g3;refine qq2 ?_;refine wD L1 L2 L3 m d j B C D p1.isList p2.isList p3.isList f1 f2 f3 λO a0 M i1 i2 i3 hT kk=>?_;refine⟨_,rfl,wpAny_letOwnedTupleGo_zip a0 λN a1 l=>?_⟩
  have fw:∀b∈[n,n+1,n+2,n+4,n+5],lN X pins H b:=λb f=>F b (by
   simp only[Υ,dV,gz]at f⊢
   rcases f with rfl|rfl|rfl|rfl|rfl <;>simp)
  have I1:Inv X pins σ H {s with heap:=O}:=eO (t':=s.toks) I kk fw
  have I2:Inv X pins σ H {s with heap:=N}:=eO (s:={s with heap:=O}) (t':=s.toks) (ws:=[n+5]) I1 (λb o f e=>l.extBut b o (by simpa using f) e) λb f=>F b (by
   have:b=n+5:=by simpa using f
   simp[this])
  have a3:n+5<s.heap.objs.size:=cu m;have a2:N.IsTuple s.heap.objs.size #[x,y,c]:=⟨_,l.extBut _ _ (by walk_at"o") hT,rfl,_,rfl⟩;have fT:lN X pins H s.heap.objs.size:=I.fpOk (ω _)<|I.hok.fresh<|ω _;have I3:=Ql (xs:=[u,v,t]) (its:=[x,y,c]) I2 fT I.sz a2 (.cons r1<|.cons r2<|.cons r3 .nil)<|cg<|bX (by show 3<=1000;decide);refine⟨.ref s.heap.objs.size,fA H s.heap.objs.size<|.tup [u,v,t],I3,rfl,⟨_,u,v,t,rfl,fT.1,rfl,λa4 h=>by rw[I.list_inj h R];exact e1,λa5 h=>by rw[I.list_inj h S];exact e2,λa6 h=>by rw[I.list_inj h T];exact e3⟩,⟨a1,?_,⟨x,y,c,l.extBut _ _ (by walk_at"o") M⟩,i1.at λo e=>l.extBut _ o (by walk_at"o") e,i2.at λo e=>l.extBut _ o (by walk_at"o") e,i3.at λo e=>l.extBut _ o (by walk_at"o") e⟩,λb f=>?_⟩
  ·refine l.extBut _ _ (by walk_at"o")<|kk _ _ ?_ d;simp only[Υ,dV,gz];lia
  ·rw[aV]
   ·exact(F b f).1
   ·simp only[Υ,dV,gz]at f;rcases f with rfl|rfl|rfl|rfl|rfl|rfl <;>walk_at"o"
 done:=by
  intro X hP hw hK hc i pins s σ H E I F st hg;subst hP hw hK;refine qq0 λqq2=>?_;obtain⟨xs,ys,zs,R,S,T,g⟩:=hg;obtain⟨G,p,p1,z1⟩:=I.list R;obtain⟨J,r,p2,z2⟩:=I.list S;obtain⟨L,z,p3,z3⟩:=I.list T;obtain⟨m,d,⟨x0,y0,t0,j⟩,B,C,D⟩:=st;refine qq2 ?_;have M1:=p.length;have M2:=r.length;have M3:=z.length;refine yF (I.ok.hd hc) L1 L2 L3 m d j B C D p1.isList p2.isList p3.isList ?_ λO hk=>⟨rfl,?_⟩
  ·rcases g with g|g|g
   ·exact .inl (by simp;lia)
   ·exact .inr<|.inl (by simp;lia)
   ·exact .inr<|.inr (by simp;lia)
  ·exact eO (t':=s.toks) I hk λb f=>F b (by
    simp only[Υ,dV,gz]at f⊢
    rcases f with rfl|rfl|rfl|rfl|rfl <;>simp)
 self:=λ_ _ _ _ _ st h=>my st.1 h
def aIi(K:ς)(t:TA):TI:=λe H R=>t e H λf d=>∃a b c,f=[.ref a,.ref b,.ref c]/\(∃g,SqL K d a g)/\(∃h,SqL K d b h)/\(∃i,SqL K d c i)/\R (aCv K a b c) d
theorem aQx(h:Vals [x,y,z] d):∃a b c,d=[a,b,c]/\RelV x a/\RelV y b/\RelV z c:=by
 cases h with
 |cons r t=>
  refine qq0 λqq2=>?_;obtain⟨b,c,rfl,e,f⟩:=yU t;refine qq2 ?_;exact⟨_,b,c,rfl,r,e,f⟩
theorem aEl(O:X.K=K)(P:Gl X "zip")(S:X.mg "zip"=ν)(T:PA X [a,b,c] y)(U:starEach [a,b,c] X.env=[(false,eval a X.env),(false,eval b X.env),(false,eval c X.env)]:=by rfl)(i:starEach [b,c] X.env=[(false,eval b X.env),(false,eval c X.env)]:=by rfl):
  PI X (.Tuple elts k f) (.Call (.Name "zip" p) [a,b,c] [] g) (aIi K y):=by
 subst O;intro pins s W H R I h;refine yn<|jK I P S Kk<|dh (eP (T g pins s W H _ I h) λus j ⟨vs,Y,d,Z,q1⟩=>?_) (by rw[U,i]) (by rw[i];rfl);refine qq0 λqq2=>?_;obtain⟨a',b',c',e,⟨xs,g1⟩,⟨ys,g2⟩,⟨zs,g3⟩,q⟩:=q1;refine qq2 ?_;subst e;refine qq0 λqq2=>?_;obtain⟨u,v,t,rfl,ru,rv,rt⟩:=aQx Z;refine qq2 ?_;cases ru;cases rv;cases rt;refine qq0 λqq2=>?_;obtain⟨z,a0,A,z1⟩:=d.list g1;obtain⟨B,a4,C,z2⟩:=d.list g2;obtain⟨D,a5,E,z3⟩:=d.list g3;refine qq2 ?_;have F:a'<j.heap.objs.size:=by obtain⟨_,e,_⟩:=A.isList;exact cu e
 have G:b'<j.heap.objs.size:=by obtain⟨_,e,_⟩:=C.isList;exact cu e
 have J:c'<j.heap.objs.size:=by obtain⟨_,e,_⟩:=E.isList;exact cu e
 refine Uv A.isList C.isList E.isList λh' n L M m o r w x hk=>my M ?_;rw[<-L]at F G J;refine⟨n+5,[n+5,n+3,n+4,n,n+1,n+2],_,_,Y,rfl,d.kept (t':=j.toks) hk,Si F G J,⟨M,m,⟨_,_,_,o⟩,r,w,x⟩,λb N=>?_,q⟩;have l:j.heap.objs.size<=b:=by
  rw[<-L];simp only[Υ,dV,gz]at N;rcases N with rfl|rfl|rfl|rfl|rfl|rfl <;>first|exact qm _ _|exact ω _
 exact d.fpOk l<|d.hok.fresh l
def triD:ε μ->ε μ->ε μ->ε μ
 |x::a,y::b,z::c=>.tuple [x,y,z]::triD a b c
 |_,_,_=>[]
theorem yY:∀(e f g:ε μ)(i:π),(∀d,(triD e f g)[i]? =γ d->∃x y z,e[i]? =γ x/\f[i]? =γ y/\g[i]? =γ z/\d= .tuple [x,y,z])/\((triD e f g).length<=i->e.length<=i\/f.length<=i\/g.length<=i)
 |[],f,g,i=>⟨λd h=>by simp[triD]at h,λ_=>.inl<|iw _⟩
 |x::e,[],g,i=>⟨λd h=>by simp[triD]at h,λ_=>.inr<|.inl<|iw _⟩
 |x::e,y::f,[],i=>⟨λd h=>by simp[triD]at h,λ_=>.inr<|.inr<|iw _⟩
 |x::e,y::f,z::g,0=>⟨λd h=>⟨x,y,z,rfl,rfl,rfl,by simpa[triD]using h.symm⟩,λh=>by simp[triD]at h⟩
 |x::e,y::f,z::g,i+1=>by
  obtain⟨j,k⟩:=yY e f g i;refine⟨λd h=>?_,λh=>?_⟩
  ·refine qq0 λqq2=>?_;obtain⟨a,b,c,l,m,n,o⟩:=j d (by simpa[triD]using h);refine qq2 ?_;exact⟨a,b,c,by simpa using l,by simpa using m,by simpa using n,o⟩
  ·have:=k (by simpa[triD]using h);simp only[Ε];exact 48
def aIs(f g h:DL)(a:DX)(b:cC)(Q:ε μ->Prop):Prop:=f a b λc=>g a b λd=>h a b λe=>Q<|triD c d e
theorem aFw(s:Sub G H)(l:SqL K H a f)(m:SqL K H b g)(n:SqL K H c h)(q:DVs K G f xs)(d2:DVs K G g j)(r:DVs K G h k)(i:π):
  (∀d,(triD xs j k)[i]? =γ d->(aCv K a b c).go i H/\∀x o,(aCv K a b c).yld i H x o->∃w,Ext G H w o/\DV K w x d)/\((triD xs j k).length<=i->(aCv K a b c).stop i H):=by
 obtain⟨J,L⟩:=yY xs j k i;refine⟨λd p=>?_,λp=>⟨f,g,h,l,m,n,?_⟩⟩
 ·refine qq0 λqq2=>?_;obtain⟨x,y,z,M,N,O,rfl⟩:=J d p;obtain⟨u,A,P⟩:=q.at M;obtain⟨v,B,R⟩:=d2.at N;obtain⟨t,C,S⟩:=r.at O;refine qq2 ?_;refine⟨⟨f,g,h,l,m,n,(Δ.mp A).1,(Δ.mp B).1,(Δ.mp C).1⟩,λz' o ⟨T,u',v',t',U,W,X,Y,Z,m3⟩=>?_⟩;subst U X;have D:=Y f l;have F:=Z g m;have I:=m3 h n;rw[A]at D;rw[B]at F;rw[C]at I;cases D;cases F;cases I;have e:=uD (xs:=[u,v,t]) s W;exact⟨_,e,.tup (SqT.of bJ)<|.cons (dI e.g P)<|.cons (dI e.g R)<|.cons (dI e.g S) .nil⟩
 ·have:=L p;have:=q.len;have:=d2.len;have:=r.len;exact 48
theorem Ds(z:gP K H₀ E ta da)(A:gP K H₀ E tb db)(B:gP K H₀ E tc dc):IvS K H₀ E (aIi K<|eF ta<|eF tb<|eF tc jP) (aIs (Ek da) (Ek db)<|Ek dc):=λl m n G H Y R o S q k=>
 z l m n G H _ _ o S q λv d C D h F s=>by
  cases d with
  |list Z=>
   refine A l m n C D _ _ o (S.ext h) s λv2 d2 I J f p t=>?_;cases d2 with
   |list ys=>
    refine B l m n I J _ _ o ((S.ext h).ext f) t λv3 L M N e r u=>?_;cases L with
    |list zs=>
     refine qq0 λqq2=>?_;obtain⟨a,O,rfl,w,P⟩:=eZ F;obtain⟨b,T,rfl,x,U⟩:=eZ p;obtain⟨c,W,rfl,y,X⟩:=eZ r;refine qq2 ?_;refine⟨a,b,c,rfl,⟨O,e.h.seq<|f.h.seq<|h.s.same.seq w⟩,⟨T,e.h.seq<|f.s.same.seq x⟩,⟨W,e.s.same.seq y⟩,k _ _ M N ((h.trans f).trans e) (λG' H' g j i=>?_) u⟩;exact aFw j (j.same.seq<|g.seq<|e.g.seq<|f.g.seq w) (j.same.seq<|g.seq<|e.g.seq x) (j.same.seq<|g.seq y) (aR g<|aR e.g<|aR f.g P) (aR g<|aR e.g U) (aR g X) i
    |_=>exact u.elim
   |_=>exact t.elim
  |_=>exact s.elim
theorem Ti(o:Θ μ)(a:cC):nQ (o.map Sl.dat::a)=nQ a:=by
 cases o <;>rfl
def aJf(i:π)(d:DS)(e:DEnds)(b:cC):Prop:=d {e with nx:=λa=>e.nx<|wQ i a} b
theorem aDw(i:π)(h:jQ K s E u ds):jQ K s E u (aJf i ds):=λg j G H e D k S q L=>
 h g j G H {e with nx:=λa=>e.nx (wQ i a)} D k S q ⟨λa b l d t f c=>by
  change e.nx (wQ i a)at c
  unfold wQ at c
  split at c
  ·rename_i r m
   obtain⟨n,o,p⟩:=f.frz m
   exact L.nx _ b n d (t.trans o) p c
  ·exact L.nx _ b l d t f c,L.rt,L.bk,L.ct⟩
abbrev D2:=DX->cC->(ε μ->ε μ->Prop)->Prop
def O2D(K:ς)(c:Hp)(E:XK)(t:TA)(d:D2):Prop:=∀g h i G H j Q,lO c E g->Sees K c G h i H->d g h j ->
 (∀a b k l m n e f,Ext G H e f->a≠b->c a=ν->c b=ν->e a=ν->e b=ν->f a=γ (.lst k)->f b=γ (.lst l)->DVs K e k m->DVs K e l n->j m n->Q [.ref a,.ref b] f)->t i H Q
def dOV(i:π)(a:DX)(b:cC)(Q:ε μ->Prop):Prop:=match slot b i with
 |some (.own c)=>Q c
 |_=>ag
def d2(c d:DL)(a:DX)(b:cC)(Q:ε μ->ε μ->Prop):Prop:=c a b λe=>d a b λf=>Q e f
section
variable{K:ς}{H₀:Hp}{E:XK}{ta tb:TE}{dl dk:DL}{t:TA}
theorem aRz(q:dOV i c b Q):∃a,slot b i=γ (.own a)/\Q a:=by
 unfold dOV at q;split at q
 ·rename_i a d
  exact⟨a,d,q⟩
 ·exact q.elim
theorem aSm(l:xO K H₀ E ta dl)(m:xO K H₀ E tb dk):O2D K H₀ E (eF ta<|eF tb jP) (d2 dl dk):=λg h i G H J Q j S q k=>
 l g h i G H _ _ j S q λa n o p r d s u e v w=>m g h i p r _ _ j (S.ext d) w λb x y A B c f C D F I=>
  k a b n x o y A B (d.trans c) (λz=>by subst z;rw[e]at f;cases f) (S.oldH.free s) ((S.ext d).oldH.free f) (c.keep u e) C (c.h _ _ e) D (aR c.g v) F I
theorem Pu(i:π)(g:xO K H₀ E tb dk):O2D K H₀ E (eF (iI i)<|eF tb jP) (d2 (dOV i) dk):=λh j l G H D Q m S q k=>by
 refine qq0 λqq2=>?_;obtain⟨n,o,q⟩:=aRz q;obtain⟨a,p,r,f,d,s⟩:=S.ownAt o;refine qq2 ?_;refine⟨_,r,g h j l G H _ _ m S q λb u v w x c e y A B C=>?_⟩;exact k a b p u n v w x c (λz=>by subst z;rw[d]at e;cases e) (S.old.free f) (S.oldH.free e) (c.keep f d) y (c.h _ _ d) A (aR c.g s) B C
def aIy(d:D2)(e:DEnds)(a:cC):Prop:=d e.ex a λb c=>e.rt<|.two b c
theorem pH(h:O2D K H₀ E t d):jQ K H₀ E (Fu<|aKw t) (aIy d):=λn r G H e D s S q L=>
 h e.ex n r G H _ _ s S q λa b u v w x y A i g B C F I j k J M N=>by
  refine⟨cg<|bX<|by simp,λp f=>?_⟩;have O:a≠p:=bT j f;have P:b≠p:=bT k f;have l:Same y (rm (rm (fA A p<|.tup [.ref a,.ref b]) a) b):=λc o z=>by
   have m:=i.s.same c o z;unfold rm;rw[ι<|bT z I,ι<|bT z F,aV<|bT m f];exact m
  refine L.rt (.ref p) (.two w x) _ (((S.ext i).oldH).trans λc o z=>by rw[aV<|bT z f];exact z) ⟨p,a,b,u,v,rfl,SqT.of bJ,g,B,C,?_,?_,aR l J,aR l M⟩ N
  ·rw[aV O];exact j
  ·rw[aV P];exact k
end
end Dl
namespace Lx
open PySem PySem.Spec PyProof.Rows L2
structure LcOk1(X:Cx)(scope:Scope)(x:bf)(cl:ε<|bf×Ζ)(cap:ε<|Θ π)(NC:ε bf):Prop where
 clos:closureFor scope X.env=pure cl
 kind:scope.kind= .function
 one:∀n,cellsFrom n scope.names cl=(x,n)::cl
 push:∀h,pushCells h scope.names=h.push {cls:=.type "cell",data:=.cell ν}
 fresh:cl.lookup x=ν
 names:∀x∈scope.names,x.2= .local->scope.names.lookup x.1=γ .local
 caps:CapsOk X scope cl cap NC
 cells:∀p∈cl,X.env.cells.lookup p.1=γ p.2
 has:∀c:Ζ,((relabel scope X.env).names.all λp=>(p.2 != .cell && p.2 != .free)||(((x,c)::cl).lookup p.1).isSome)=true
end Lx
namespace Dl
variable{K:ς}
open PySem PySem.Spec PyProof.Rows L2 Lx
section
variable{K:ς}{H₀:Hp}{E:XK}{te:TE}{de:DE}{dl:DL}{ta:TA}
def AvN(K:ς)(H₀:Hp)(E:XK)(ta:TA)(n:π)(dl:DL):Prop:=∀c d e G H f Q,lO H₀ E c->Sees K H₀ G d e H->dl c d f->(∀g a h b,Ext G H h b->DVs K b g a->a.length=n->f a->Q g b)->ta e H Q
theorem aPj:AvN K H₀ E jP 0 aGp:=λa b c G H d Q e S q k=>k [] [] G H S.refl .nil rfl q
theorem Rv(h:jO K H₀ E te de)(t:AvN K H₀ E ta n dl):AvN K H₀ E (eF te ta) (n+1) (Au de dl):=λb c e G H y Q f S q k=>
 h b c e G H _ _ f S q λv d j l g m o=>t b c e j l _ _ f (S.ext g) o λp r s u i a w x=>
  k (v::p) (d::r) s u (g.trans i) (.cons (dI i.h m) a) (by rw[Ε,w]) x
end
theorem Xn(r:Reads h y (.tuple [.int n,.int d]) c)(e:Reads h y (.tuple [.int a,.int b]) bs):n=a/\d=b:=by
 cases (BA r _ _ e).1;exact⟨rfl,rfl⟩
theorem sE:∀{a:ε Γ}{b:ε μ}{c:ε Ζ}{j:π}{u:Γ},ReadsAll h a b c->a[j]? =γ u->∃d bs,b[j]? =γ d/\Reads h u d bs
 |_,_,_,0,_,.cons r _,e=>by
  simp at e;subst e;exact⟨_,_,rfl,r⟩
 |_,_,_,j+1,_,.cons _ t,e=>by
  refine qq0 λqq2=>?_;obtain⟨d,bs,f,g⟩:=sE (j:=j) t (by simpa using e);refine qq2 ?_;exact⟨d,bs,by simpa using f,g⟩
theorem pY:∀{a:ε Γ}{b:ε μ}{c:ε Ζ},ReadsAll h a b c->a.length=b.length
 |_,_,_,.nil=>rfl
 |_,_,_,.cons _ t=>ea (·+1)<|pY t
def Cc(K:ς):V->ε V->Hp->VK->Prop:=λx c H Q=>∃(l:Ζ)(y:V)(b:ε V)(q:θ)(a:ε θ)(j:π),x= .ref l/\c=[y]/\SqL K H l b/\DVs K H b (a.map eRat.d)/\DV K H y (eRat.d q)/\a[j]? =γ q/\(∀m,m<j->a[m]?≠γ q)/\a.length<=1000/\Q (.int (j:χ)) H
theorem Yy(hu:X.A.units+64<cLine):MtM X "list.index" (Cc X.K):=by
 intro pins s σ H x vs v us Q I S T h;refine qq0 λqq2=>?_;obtain⟨l,y,ws,q,t,j,rfl,rfl,U,W,Y,P,D,hlen,k⟩:=h;refine qq2 ?_;cases S;refine qq0 λqq2=>?_;obtain⟨u,rfl,Z⟩:=T.one;obtain⟨f,r,⟨o,n,E,R,a0,g⟩,_⟩:=I.list U;obtain⟨a1,dd,data,sl⟩:=o;refine qq2 ?_;simp only at R g;subst R g;obtain⟨as,G⟩:=nI I W r;obtain⟨a,hits⟩:∃a:Array Γ,f.toArray=a:=⟨_,rfl⟩;have J:a.toList=f:=by rw[<-hits]
 rw[<-J]at G;rw[hits]at E;obtain⟨bs,hY⟩:=gF I Y Z;have hl:a.toList.length=t.length:=by rw[pY G,η]
 have K:a.size=t.length:=by rw[<-uk];exact hl
 have L:∀m (c:m<a.size),∃p bs,t[m]? =γ p/\Reads s.heap a[m] (eRat.d p) bs:=λm c=>by
  refine qq0 λqq2=>?_;obtain⟨d,bs,b,i⟩:=sE (j:=m) G (by rw[sf,jv c]);refine qq2 ?_;rw[el]at b;cases e:t[m]? with
  |none=>rw[e]at b;cases b
  |some p=>
   rw[e]at b;cases b;exact⟨p,bs,rfl,i⟩
 have A:j<a.size:=by rw[K];exact(Δ.mp P).1
 have M:∃e:Γ->Bool,∀z,e z=true↔∃bs,Reads s.heap z (eRat.d q) bs:=by
  have:=Classical.propDecidable;exact⟨λz=>@decide (∃bs,Reads s.heap z (eRat.d q) bs) (Classical.propDecidable _),λz=>by simp⟩
 obtain⟨e,he⟩:=M;have N:∀m (c:m<a.size) p,t[m]? =γ p->(e a[m]=true↔p=q):=λm c p hp=>by
  obtain⟨p',B,b,i⟩:=L m c;rw[hp]at b;cases b;rw[he];constructor
  ·rintro⟨a2,C⟩;obtain⟨z1,z2⟩:=Xn i C;exact zp z1 (by lia)
  ·rintro rfl;exact⟨_,i⟩
 refine ki vz ⟨_,E,rfl⟩ F.entry_list_index (F.args_list_index_2 _ _)
  (SeqAt.list_indexAt l a n dd sl u e j A (by omega) ((N j A q P).mpr rfl) λm c O=>?_) ⟨E,λz hz=>?_,⟨.int (j:χ),H,I.tok _,⟨_,rfl⟩,k⟩⟩
 ·obtain⟨p,B,b,i⟩:=L m c;have:=D m O;rw[b]at this;exact Bool.eq_false_iff.mpr λw=>this (by rw[(N m c p b).mp w])
 ·obtain⟨m,c,rfl⟩:=Array.getElem_of_mem hz;obtain⟨p,B,b,i⟩:=L m c
  have C:=SeqAt.eqAt_reads (eRat.d p) (eRat.d q) (X.A.in1) s a[m] u _ _ i hY (eRat.lay p) (eRat.lay q) (by
   have:=eRat.depth p
   have e1:(X.A.in1).units=X.A.units+1:=rfl
   rw[e1]
   have e2:min (eRat.d p).depth (eRat.d q).depth<=(eRat.d p).depth:=Nat.min_le_left _ _
   have e3:eRat.dep=1:=rfl
   lia)
  have e4:PyData.eqv (eRat.d p) (eRat.d q)=e a[m]:=by
   rw[ko,eRat.eqv,N m c p b]
  rw[e4]at C;exact C
theorem Tl{K:ς}(a:X.K=K)(b:X.A.units+64<cLine):MtM X "list.index" (Cc K):=by subst a;exact Yy b
section
variable{K:ς}{H₀:Hp}{E:XK}{te:TE}{de:DE}{dl:DL}{t:TA}{tt:TT}{dt:DT}{ts tz:TS}{ds dz:DS}
def Ri(i:π)(de:DE)(b:DX)(c:cC)(Q:μ->Prop):Prop:=Rh i b c λe=>de b c λd=>∃(q:θ)(a:ε θ)(j:π),e=a.map eRat.d/\d=eRat.d q/\a[j]? =γ q/\(∀m,m<j->a[m]?≠γ q)/\a.length<=1000/\Q (.int (j:χ))
theorem aAo(i:π)(h:jO K H₀ E te de):gP K H₀ E (tBM K "list" (Cc K) (iI i)<|eF te jP) (Ri i de):=λe f g G H F Q l S q k=>
 aL i e f g G H _ _ l S q λa o I p r m n s u=>⟨.inl ⟨rfl,_,n⟩,h e f g p r _ _ l (S.ext m) u λy d v w b x z=>by
  refine qq0 λqq2=>?_;obtain⟨q,A,j,rfl,rfl,B,c,C,D⟩:=z;refine qq2 ?_
  exact⟨a,y,o,q,A,j,rfl,rfl,b.h.seq n,aR b.s.same (aR b.g s),x,B,c,C,k _ _ v w (m.trans b) (.int _) D⟩⟩
def Re(w:DW)(dl:DL)(e:DEnds)(a:cC):Prop:=dl e.ex a λds=>w ds (λs=>match s with
 | .two b c=>e.rt<|.two b c
 |_=>ag) λ_=>ag
theorem iY(g:uI K H₀ E t dl):jQ K H₀ E (Fu<|jD (Ko K w) [] E0 t) (Re w dl):=λl m G H e D n S q L=>
 g e.ex l m G H _ _ n S q λi ds O P o p u=>by
  refine⟨ds,_,λ_=>ag,by rw[j2];exact p,u,λv s j k r f=>?_,λC j k x=>x.elim⟩;have c:=(S.ext o).oldH;cases s with
  |two y z=>
   refine qq0 λqq2=>?_;obtain⟨t,a,b,i,A,rfl,B,h,F,I,g,J,M,N⟩:=r;refine qq2 ?_;exact L.rt _ (.two y z) j (c.trans k) ⟨t,a,b,i,A,rfl,B,h,c.free F,c.free I,g,J,M,N⟩ f
  |dat d=>exact f.elim
  |own ds=>exact f.elim
  |exc C=>exact f.elim
  |mon R=>exact f.elim
  |fz _ _=>exact f.elim
end
abbrev IsZ(h:gy)(z TI TO:Ζ)(a b:Γ):Prop:=h.get? z=γ {cls:=.type "zip",dict:=ν,data:=.fields #[a,b,.bool false,.ref TI,.ref TO],slots:=#[]}
section
variable{prog:Program}{w:kn}{A:Around}{E:Γ->aj->Prop}{s:aj}
structure ZSt(h:gy)(z TI TO i1 i2 l1 l2 base:Ζ)(i:π)(xs ys:Array Γ):Prop where
 z:IsZ h z TI TO .none (.bool false)\/∃(T:Ζ)(b:Bool)(o:Obj),IsZ h z TI TO (rawInt (T:χ)) (.bool b)/\base<=T/\h.get? T=γ o
 ti:IsPair h TI (.ref i1)<|.ref i2
 to:∃a b,IsPair h TO a b
 i1:h.IsListIter i1 l1 i
 i2:h.IsListIter i2 l2 i
 l1:h.IsList l1 xs
 l2:h.IsList l2 ys
end
def Xu(K:ς):R2:=λx y H Q=>∃l b a c,x= .ref l/\y= .ref b/\SqL K H l a/\SqL K H b c/\a.length+c.length<=sizeLine/\∀p,H p=ν->Q (.ref p) (fA H p<|.lst<|a++c)
theorem aEw:lM X (binaryOp .Add) (Xu X.K):=by
 intro pins s M H x y v u Q I t w h;refine qq0 λqq2=>?_;obtain⟨l,b,N,O,rfl,rfl,A,B,P,q⟩:=h;refine qq2 ?_;cases t;cases w;refine qq0 λqq2=>?_;obtain⟨c,r,⟨⟨C,R,data,D⟩,n,e,f,g,i⟩,z⟩:=I.list A;obtain⟨a,j,⟨⟨k,E,data2,d⟩,G,m,o,d2,p⟩,S⟩:=I.list B;refine qq2 ?_;simp only at f g i o d2 p;subst f g i o d2 p;have T:=r.length;have J:=j.length;refine concat_meets ⟨_,e,rfl⟩ ⟨_,m,rfl⟩ noFill_list_add seq_list_add F.slot_list_add F.entry_list_add (F.args_list_add_2 _ _) (list_addW l b c.toArray a.toArray n G ν ν D d (by simp;lia)) ⟨e,m,?_⟩;have L:c.toArray++a.toArray=(c++a).toArray:=by simp
 rw[L];exact⟨.ref _,_,I.lnew (t':=s.toks) (r.append j) (by rw[Λ];assumption),rfl,q _ I.fresh⟩
theorem aJr(h:X.K=K):lM X (binaryOp .Add) (Xu K):=by subst h;exact aEw
def aTl(w:DW):DW:=λa Q X=>w a (λs=>match s with
 | .two b c=>Q<|.dat<|.tuple [.list b,.list c]
 |s=>Q s) X
theorem rm_same:Same (rm H a) H:=λb o z=>by
 unfold rm at z;split at z
 ·cases z
 ·exact z
theorem aWo{K:ς}(F:FnOk P w K j base l k f m n<|Ko K W):FnOk P w K j base l k f m n (Ko K<|aTl W):=
 F.imp λN H Q E h=>by
  obtain⟨i,O,p,u,x,e,y⟩:=h;refine⟨i,_,p,u,x,λv s c g r q=>?_,y⟩;cases s with
  |two z A=>
   obtain⟨t,a,b,R,S,rfl,B,D,T,U,G,I,J,d2⟩:=r;have o:Same (rm (rm c a) b) c:=rm_same.trans rm_same;exact e _ (.dat<|.tuple [.list z,.list A]) c g (.tup B<|.cons (.lst (SqL.of G)<|aR o J)<|.cons (.lst (SqL.of I)<|aR o d2) .nil) q
  |dat d=>exact e v (.dat d) c g r q
  |own i=>exact e v (.own i) c g r q
  |exc C=>exact e v (.exc C) c g r q
  |mon L=>exact e v (.mon L) c g r q
  |fz M d=>exact e v (.fz M d) c g r q
def aJj(f e:DE)(c:DX)(d:cC)(Q:ε μ->Prop):Prop:=f c d λx=>e c d λy=>∃a b,x= .list a/\y= .list b/\eC a=true/\eC b=true/\a.length+b.length<=1000/\Q (a++b)
theorem Pq(w:jO K H₀ E ta da)(A:jO K H₀ E tb db):xO K H₀ E (yZ (Xu K) ta tb) (aJj da db):=λe f g G H X Q h S q k=>
 w e f g G H _ _ h S q λx Y B C i D F=>A e f g B C _ _ h (S.ext i) F λy d2 I J d L M=>by
  refine qq0 λqq2=>?_;obtain⟨xs,Z,rfl,rfl,N,O,l,P⟩:=M;obtain⟨a,j,rfl,R,m⟩:=eZ D;obtain⟨b,r,rfl,T,s⟩:=eZ L;refine qq2 ?_;have t:∀c o,J c=γ o->(∀xs,o≠ .lst xs)->I c=γ o:=λc o z n=>d.s.other z n;refine⟨a,b,j,r,rfl,rfl,d.h.seq R,T,cg<|bX (by rw[m.len,s.len];exact l),λp u=>?_⟩;obtain⟨U,W⟩:=fN (xs:=j++r) d.s u;have v:=i.trans d;exact k p _ _ _ _ (v.trans U) (v.h.free u) W bJ (DVs.append (jN t (aR d.h m) N)<|jN t s O) P
def aBq(f g:χ->χ->Bool)(e d c:DE)(a:DX)(b:cC)(Q:μ->Prop):Prop:=e a b λx=>d a b λy=>match x,y with
 | .int i,.int j=>if f i j=true then c a b λz=>(match z with
  | .int l=>Q<|.bool<|g j l
  |_=>ag)else Q (.bool false)
 |_,_=>ag
theorem aAq(t:jO K P E U Y)(w:jO K P E W T)(x:jO K P E X R):gP K P E (Wn (Ve λi j=>.bl<|f i j) (Ve λi j=>.bl<|g i j) U W X) (aBq f g Y T R):=λb d e G H M Q h S q k=>
 t b d e G H _ _ h S q λv N y A o B C=>w b d e y A _ _ h (S.ext o) C λu d2 p r D s a=>by
  have m:=o.trans D;split at a
  ·rename_i i j
   refine⟨i,j,cF B,cF s,f i j,rfl,?_⟩;split at a
   ·rename_i c
    rw[ρ c];refine x b d e p r _ _ h (S.ext m) a λz O F I J L n=>?_;split at n
    ·rename_i l
     exact⟨j,l,cF s,cF L,k _ _ F I (m.trans J) (.bl _) n⟩
    ·exact n.elim
   ·rename_i c
    rw[ι c];exact k _ _ p r m (.bl _) a
  ·exact a.elim
theorem Nl(n:π):sliceRange ((n:χ)-1) (-1) (-1)=(range n).map λk=>n-1-k:=by
 unfold sliceRange;rw[ι<|by decide];by_cases h:n=0
 ·subst h;rfl
 ·have e:(((n:χ)-1- -1- -1-1)/(- -1))=(n:χ):=by
   rw[show(- -1:χ)=1 by decide,Int.ediv_one];exact 48
  simp only[show(n:χ)-1>-1 by lia,mi,e,ft];refine df λk a=>?_;have:=di.mp a;lia
theorem Uz(a:ε Γ):slicePick a.toArray ν ν (γ<|-1)=a.reverse.toArray:=by
 have e:sliceBounds ν ν (γ<|-1) a.toArray.size=((a.length:χ)-1,-1,-1):=by simp[sliceBounds]
 unfold slicePick;rw[e];dsimp only;rw[Nl]
 congr 1
 have h:∀k,k∈range a.length->a.toArray[a.length-1-k]? =a.reverse[k]?:=λk d=>by
  have:=di.mp d;rw[se,qj<|‹51›]
 rw[u7];have f:((range a.length).filterMap λk=>a.reverse[k]?)=a.reverse:=by
  have g:∀(b:ε Γ),(range b.length).filterMap (λk=>b[k]?)=b:=λb=>by
   induction b with
   |nil=>rfl
   |cons x b i=>
    rw[Ε,List.range_succ_eq_map,ix];simp only[List.getElem?_cons_zero,u7]
    congr 1
  have:=g a.reverse
  rwa [kb]at this
 rw[<-f];have g:∀c:ε π,(∀k∈c,a.toArray[a.length-1-k]? =a.reverse[k]?)->c.filterMap ((λx=>a.toArray[x]?)∘λk=>a.length-1-k)=c.filterMap λk=>a.reverse[k]?:=λc=>by
  induction c with
  |nil=>intro _;rfl
  |cons k c i=>
   intro d;rw[ix,ix,i λk h=>d k<|ο _ h];have:=d k υ;dsimp only[Function.comp];rw[this]
 rw[f];exact(g _ h).trans f
def aRu(K:ς):V->Hp->VK->Prop:=λx H Q=>∃a b,x= .ref a/\SqL K H a b/\∀p,H p=ν->Q (.ref p) (fA H p<|.lst b.reverse)
def aHv(K:ς)(d:TE)(f:TO):TE:=λa H Q=>d a H λx b=>f a b λi c=>i=γ (-1)/\aRu K x c Q
theorem aEq{K:ς}(j:X.K=K)(k:PE X e J)(l:PO X (γ L) M):PE X (.Subscript e (.Slice ν ν (γ L) O) N) (aHv K J M):=by
 subst j;intro pins s d H Q I h;refine uR<|eP (k pins s d H _ I h) λv m ⟨x,n,p,t,u⟩=>?_;refine AJ ?_;rw[uo];refine aq<|aq<|eP (l pins m d n _ p u) λw c ⟨i,y,z,A,B⟩=>?_;refine qq0 λqq2=>?_;obtain⟨rfl,a,C,rfl,D,q⟩:=B;refine qq2 ?_;cases t;have f:Inv X pins d y {c with heap:=c.heap.push {cls:=.type "slice",data:=.fields #[.none,.none,w]}}:=z.kept (t':=c.toks) λb E q=>Ξ _ q;refine qq0 λqq2=>?_;obtain⟨F,r,g,G⟩:=f.list D;refine qq2 ?_;have hlen:=r.length;refine yp (ops:=[.ref a,.ref c.heap.objs.size]) g.isList.typeIs slot_list_getitem.lookup ?_ (by with_unfolding_all rfl);refine p0 g.isList (u0 ..) .none .none A (by simp) ?_ (by rw[bt] <;>lia);rw[Uz];refine⟨.ref _,_,f.laid (t':=c.toks) (o:=.lst C.reverse) (λb E q=>Ξ _ q) (ω _) ?_,rfl,q _<|f.hok.fresh<|ω _⟩;exact⟨by rw[kb];exact G,_,0,r.reverse,aw _ rfl⟩
section
variable{K:ς}{H₀:Hp}{E:XK}{te:TE}{dl:DL}{t1:TO}{d1:DO}
def aJl(dl:DL)(d1:DO)(a:DX)(b:cC)(Q:ε μ->Prop):Prop:=dl a b λc=>d1 a b λi=>i=γ (-1)/\Q c.reverse
theorem Cl(n:Vf K H₀ E te dl)(o:OvP K H₀ E t1 d1):xO K H₀ E (aHv K te t1) (aJl dl d1):=λc d e G H y Q f S q k=>
 n c d e G H _ _ f S q λa g z r s h t u v=>o c d e r s _ _ f (S.ext h) v λi A B b j=>
  ⟨j.1,a,g,rfl,b.h.seq t,λp l=>by
   obtain⟨w,x⟩:=fN (xs:=g.reverse) b.s l
   have m:=h.trans b
   exact k p _ _ _ _ (m.trans w) (m.h.free l) x bJ (aR b.g u).rev j.2⟩
end
def dMv(i j:π)(e:DEnds)(a:cC):Prop:=match slot a j with
 |some (.own b)=>e.nx<|put (γ<|.own b) i<|put ν j a
 |_=>ag
theorem aRg(i j:π)(N:i≠j):jQ K H₀ E (nW (iI j)<|kR i) (dMv i j):=λl X G H e D Y S q L=>by
 unfold dMv at q;split at q
 ·rename_i m o
  obtain⟨v,p,O⟩:=S.has j _ o;refine⟨v,p,L.nx _ _ G H (Same.refl _) ?_ q⟩;have r:∀k s,slot (put (γ<|.own m) i<|put ν j l) k=γ s->(k=i/\s= .own m/\i<l.length)\/(k≠i/\k≠j/\slot l k=γ s):=λk s h=>by
   rw[jH,lF]at h;by_cases c:k=i/\i<l.length
   ·rw[ρ c]at h;exact .inl ⟨c.1,(bw h).symm,c.2⟩
   ·rw[ι c,jH]at h;by_cases d:k=j/\j<l.length
    ·rw[ρ d]at h;cases h
    ·rw[ι d]at h;have b:=pP h;refine .inr ⟨λz=>c ⟨z,by rw[<-z];exact b⟩,λz=>d ⟨z,by rw[<-z];exact b⟩,h⟩
  refine⟨S.old,S.sub,by rw[lF,lF,l9];exact S.len,λk s h=>?_,λt w y A a P R f g=>?_⟩
  ·rcases r k s h with⟨rfl,rfl,b⟩|⟨n,B,h⟩
   ·exact⟨v,by rw[ja<|av b S.len],O⟩
   ·obtain⟨u,T,U⟩:=S.has k s h;exact⟨u,by rw[ic λz=>n z.symm];exact T,U⟩
  ·rcases r t _ P with⟨C,Z,b⟩|⟨n,B,F⟩ <;>rcases r w _ R with⟨I,s2,x⟩|⟨J,W,M⟩
   ·rw[C,I]
   ·rw[C,ja<|av b S.len]at f;rw[ic λz=>J z.symm]at g;have e:v= .ref a:=bw<|bw f;exact ψ (S.sep j w m A a o M (by rw[p,e]) g) λz=>W z.symm
   ·rw[I,ja<|av x S.len]at g;rw[ic λz=>n z.symm]at f;have e:v= .ref a:=bw<|bw g;exact ψ (S.sep j t m y a o F (by rw[p,e]) f) λz=>B z.symm
   ·rw[ic λz=>n z.symm]at f;rw[ic λz=>J z.symm]at g;exact S.sep t w y A a F M f g
 ·exact q.elim
section
variable{K:ς}{H₀:Hp}{E:XK}{te:TE}{de:DE}{ta:TA}{dl:DL}{ts:TS}{ds:DS}{g:TG}{dg:DG}{ns:ε π}
def aJc(dl:DL)(a:DX)(b:cC)(Q:μ->Prop):Prop:=dl a b λds=>Q<|.list ds
theorem aOw(h:AvN K H₀ E ta n dl)(d:n<=1000):jO K H₀ E (aKx ta) (aJc dl):=λe f i G H s Q j S q k=>
 h e f i G H _ _ j S q λl ds t u a b m o=>⟨cg (bX (by rw[b.len,m];exact d)),λp r=>by
  obtain⟨c,v⟩:=fN (xs:=l) a.s r
  exact k (.ref p) (.list ds) _ _ (a.trans c) (.lst (SqL.of bJ) (aR c.h b)) o⟩
end
theorem boot_str:bootBuiltins "str"=γ (.type "str"):=by decide +kernel
theorem Fi(h:n<=100000):n<sizeLine:=eH h (by decide)
def aRo:V->Θ χ->Θ χ->Hp->VK->Prop:=λx a b H Q=>∃z,x= .str z/\z.length<=sizeLine/\Q (.str<|et z a b) H
theorem aLg:SlR X aRo:=by
 intro pins s n H x v o p r w y Q I g a m e h;refine qq0 λqq2=>?_;obtain⟨z,rfl,b,q⟩:=h;obtain⟨t,rfl⟩:=g;refine qq2 ?_;refine⟨"str",_,slot_str_getitem.lookup,l8 _ _ _,?_⟩;cases m with
 |none=>
  cases e with
  |none=>exact kc (l:=ν) (u:=ν) (st:=ν) a rfl<|nt ⟨Α (ik z ν ν) b,λc k=>⟨.str _,H,I.tok _,⟨_,rfl⟩,q⟩⟩
  |int j d=>exact kc (l:=ν) (u:=γ (j,d)) (st:=ν) a rfl<|nt ⟨Α (ik z ν<|some j) b,λc k=>⟨.str _,H,I.tok _,⟨_,rfl⟩,q⟩⟩
 |int i f=>
  cases e with
  |none=>exact kc (l:=γ (i,f)) (u:=ν) (st:=ν) a rfl<|nt ⟨Α (ik z (γ i) ν) b,λc k=>⟨.str _,H,I.tok _,⟨_,rfl⟩,q⟩⟩
  |int j d=>exact kc (l:=γ (i,f)) (u:=γ (j,d)) (st:=ν) a rfl<|nt ⟨Α (ik z (γ i)<|some j) b,λc k=>⟨.str _,H,I.tok _,⟨_,rfl⟩,q⟩⟩
def vF:V->ε V->Hp->VK->Prop:=λx a H Q=>∃z y,x= .str z/\a=[.str y]/\z.length<=sizeLine/\(y.length==0)=false/\
 ∀p,H p=ν->Q (.ref p) (fA H p<|.tup [.str (Η z y).1,.str (Η z y).2.1,.str (Η z y).2.2])
theorem Df:MtR X "str.partition" vF:=by
 intro pins s j H x k v l Q I c d h;refine qq0 λqq2=>?_;obtain⟨z,y,rfl,rfl,e,f,q⟩:=h;obtain⟨t,rfl⟩:=c;obtain⟨u,rfl,t',rfl⟩:=jB d;refine qq2 ?_;refine ki tm (l8 _ _ _) F.entry_str_partition (F.args_str_partition_2 _ _) (meets_str_partition z y t t' f e) ?_;have a:=q _<|I.hok.fresh<|ω _;unfold Η at a;revert a;cases cf z y 0 z.length 1 with
 |nil=>
  intro a
  exact⟨.ref s.heap.objs.size,_,I.laid (t':=s.toks+1) (o:=.tup [.str z,.str Str.empty,.str Str.empty]) (λb g q=>Ξ _ q) (ω _)
   ⟨cg (bX (show 3<=1000 by decide)),_,.cons ⟨_,rfl⟩ (.cons ⟨_,rfl⟩ (.cons ⟨_,rfl⟩ .nil)),zg _ _⟩,rfl,a⟩
 |cons i r=>
  intro a
  exact⟨.ref s.heap.objs.size,_,I.laid (t':=s.toks+1+1) (o:=.tup [.str (Builtin.Str.strSub z 0 i),.str y,.str (Builtin.Str.strSub z (i+y.length) z.length)]) (λb g q=>Ξ _ q) (ω _)
   ⟨cg (bX (show 3<=1000 by decide)),_,.cons ⟨_,rfl⟩ (.cons ⟨_,rfl⟩ (.cons ⟨_,rfl⟩ .nil)),zg _ _⟩,rfl,a⟩
theorem Uw:iM X (.type "int") (λa H Q=>∃z n,a=[.str z]/\z.length<=640/\PySem.intText? z=γ n/\Q (.int n) H):=by
 intro pins s d H a e Q I r h;refine qq0 λqq2=>?_;obtain⟨z,n,rfl,b,c,q⟩:=h;obtain⟨u,rfl,t,rfl⟩:=jB r;refine qq2 ?_;exact W.KIN.call_text c b ⟨.int n,H,I.tok _,⟨_,rfl⟩,q⟩
def Its(z:bf):It:=⟨λi _=>i<z.cps.size,λi H x a=>a=H/\∃c,z.cps[i]? =γ c/\x= .str ⟨#[c]⟩,λi _=>z.cps.size<=i⟩
theorem Fk{K:ς}(j:Ζ)(z:bf)(t:vh)(ty:String)(l:ty="str_ascii_iterator"\/ty="str_iterator"):
  Turn P w K tg (Its z) [j] j (λi h=>h.IsStrIter j ty z t i) where
 mem:=by simp
 obj:=λi h st b a=>by
  have e:b=j:=by simpa using a
  subst e;obtain⟨o,e,c,d⟩:=st;exact⟨o,e,λv z=>by rw[d]at z;cases z⟩
 keep:=λi h g st k=>let⟨o,N,r⟩:=st;⟨o,k j (by simp) o N,r⟩
 item:=by
  intro X A hw B C i pins s D H E I n st F;subst A hw B;refine qq0 λqq2=>?_;obtain⟨p,q,O,u,x,y⟩:=n j (by simp);obtain⟨c,m⟩:∃c,z.cps[i]? =γ c:=⟨_,jv F⟩;refine qq2 ?_;rcases l with rfl|rfl
  ·refine wpAny_pyNext_ascii_item st m λg f G=>?_;have J:Inv X pins D H {s with heap:=g,toks:=s.toks+1}:=I.turned (λb o a e=>(G.2 b a).trans e) p q u x y;refine qq0 λqq2=>?_;obtain⟨o,e,L,d⟩:=id f;refine qq2 ?_;exact⟨_,rfl,Ad (s:={s with heap:=g,toks:=s.toks+1}) e L d (by decide) ⟨.str ⟨#[c]⟩,H,J,⟨_,rfl⟩,⟨rfl,c,m,rfl⟩,f,λb a=>(n b a).1⟩⟩
  ·refine wpAny_pyNext_wide_item st m λg f G=>?_;have J:Inv X pins D H {s with heap:=g,toks:=s.toks+1}:=I.turned (λb o a e=>(G.2 b a).trans e) p q u x y;refine qq0 λqq2=>?_;obtain⟨o,e,L,d⟩:=id f;refine qq2 ?_;exact⟨_,rfl,Ad (s:={s with heap:=g,toks:=s.toks+1}) e L d (by decide) ⟨.str ⟨#[c]⟩,H,J,⟨_,rfl⟩,⟨rfl,c,m,rfl⟩,f,λb a=>(n b a).1⟩⟩
 done:=by
  intro X A hw B C i pins s D H E I n st F;subst A hw B;refine qq0 λqq2=>?_;obtain⟨p,q,O,u,x,y⟩:=n j (by simp);refine qq2 ?_;have m:z.cps[i]? =ν:=Array.getElem?_eq_none F;rcases l with rfl|rfl
  ·exact wpAny_pyNext_ascii_end (I.ok.hd C) st m λg M=>⟨rfl,I.turned (t':=s.toks) (λb o a e=>M b o a e) p q u x y⟩
  ·exact wpAny_pyNext_wide_end (I.ok.hd C) st m λg M=>⟨rfl,I.turned (t':=s.toks) (λb o a e=>M b o a e) p q u x y⟩
 self:=λ_ _ _ _ _ st h=>by
  rcases l with rfl|rfl
  ·exact wpAny_pyIter_striter_ascii st h
  ·exact wpAny_pyIter_striter_wide st h
def aSy(a:TE):TI:=λb H R=>a b H λx c=>∃z,x= .str z/\R (Its z) c
theorem aMc(j:PE X l f):PI X tg l (aSy f):=by
 intro pins s k H R I h;refine eP (j pins s k H _ I h) λv a ⟨x,d,c,m,n⟩=>?_;obtain⟨z,e,q⟩:=n;subst e;obtain⟨t,rfl⟩:=m;have g:∀b∈[a.heap.objs.size],lN X pins d b:=λb p=>by
  have e:b=a.heap.objs.size:=by simpa using p
  subst e;exact c.fpOk (ω _)<|c.hok.fresh<|ω _
 cases i:z.cps.all (·<128)
 ·refine wpAny_pyIter_wide i ?_;exact⟨a.heap.objs.size,[a.heap.objs.size],_,_,d,rfl,c.kept (t':=a.toks) λb o e=>Ξ _ e,Fk _ z t _<|.inr rfl,⟨_,aw _ rfl,rfl,rfl⟩,g,q⟩
 ·refine wpAny_pyIter_ascii i ?_;exact⟨a.heap.objs.size,[a.heap.objs.size],_,_,d,rfl,c.kept (t':=a.toks) λb o e=>Ξ _ e,Fk _ z t _<|.inl rfl,⟨_,aw _ rfl,rfl,rfl⟩,g,q⟩
section
variable{K:ς}{H₀:Hp}{E:XK}{te ta tb:TE}{de da db:DE}{t1 t2:TO}{d1 d2:DO}
def sgD(c:π):μ:=.str ⟨#[c]⟩
def aOt(de:DE)(a:DX)(b:cC)(Q:ε μ->Prop):Prop:=de a b λd=>match d with
 | .str z=>Q<|z.cps.toList.map sgD
 |_=>ag
theorem Mq(h:gP K H₀ E te de):IvS K H₀ E (aSy te) (aOt de):=λj l m G H y R n S q k=>
 h j l m G H _ _ n S q λv d o p e r f=>by
  cases d with
  |str z=>
   cases dP r;refine⟨z,rfl,k _ _ o p e (λs A B t i=>⟨λd a=>?_,λa=>?_⟩) f⟩
   ·rw[el]at a;refine qq0 λqq2=>?_;obtain⟨c,b,rfl⟩:=rg.mp a;refine qq2 ?_;rw[sf]at b;refine⟨(jr.mp b).1,λx C ⟨u,D,g,w⟩=>?_⟩;subst u;rw[b]at g;cases g;subst w;exact⟨s,.refl t,.str _⟩
   ·show z.cps.size<=i;simpa using a
  |_=>exact f.elim
def aMu(x y:μ)(Q:μ->Prop):Prop:=match x,y with
 | .str z,.int i=>z.length<=100000/\∃c,oX z.cps.toList i=γ c/\Q (.str ⟨#[c]⟩)
 |_,_=>ag
theorem aLq:Km K aRq aMu:=by
 intro G H x y f g h Q a b q k;unfold aMu at q;split at q
 ·cases dP a;cases cF b;obtain⟨d,c,e,q⟩:=q;exact⟨_,_,c,rfl,rfl,cg<|Fi d,e,k _ _ (.str _) q⟩
 ·exact q.elim
def Yr(x y:μ)(Q:μ->Prop):Prop:=match x,y with
 | .str a,.str b=>a.length+b.length<=100000/\Q (.str<|a++b)
 |_,_=>ag
theorem eY:Km K (λx y H Q=>∃i j,x= .str i/\y= .str j/\i.length+j.length<=sizeLine/\Q (.str<|i++j) H) Yr:=by
 intro G H x y c d e Q a b q k;unfold Yr at q;split at q
 ·cases dP a;cases dP b;exact⟨_,_,rfl,rfl,cg<|Fi q.1,k _ _ (.str _) q.2⟩
 ·exact q.elim
def aFa(x y:μ)(Q:μ->Prop):Prop:=match x,y with
 | .str a,.str b=>Q<|.bool<|bo b a
 |_,_=>ag
def Yq(x y:μ)(Q:μ->Prop):Prop:=match x,y with
 | .str a,.str b=>Q<|.bool<|!bo b a
 |_,_=>ag
theorem Xl:Km K (λx y H Q=>∃i j,x= .str i/\y= .str j/\Q (.bl<|!(cf j i 0 j.length 1).isEmpty) H) aFa:=by
 intro G H x y c d e Q a b q k;unfold aFa at q;split at q
 ·cases dP a;cases dP b;exact⟨_,_,rfl,rfl,k _ _ (.bl _) q⟩
 ·exact q.elim
theorem zI:Km K (λx y H Q=>∃i j,x= .str i/\y= .str j/\Q (.bl<|!(!(cf j i 0 j.length 1).isEmpty)) H) Yq:=by
 intro G H x y c d e Q a b q k;unfold Yq at q;split at q
 ·cases dP a;cases dP b;exact⟨_,_,rfl,rfl,k _ _ (.bl _) q⟩
 ·exact q.elim
def aCp(a:ε μ)(Q:μ->Prop):Prop:=match a with
 |[.str z]=>z.length<=100000/\Q (.int z.length)
 |_=>ag
theorem mZ:RCb K (λa H Q=>∃z,a=[.str z]/\z.length<=sizeLine/\Q (.int z.length) H) aCp:=by
 intro G H a d e Q b q k;unfold aCp at q;split at q
 ·obtain⟨x,rfl,c⟩:=wU b;cases dP c;exact⟨_,rfl,cg<|Fi q.1,k _ _ (.int _) q.2⟩
 ·exact q.elim
def aCq(a:ε μ)(Q:μ->Prop):Prop:=match a with
 |[.str z]=>z.length<=640/\∃n,PySem.intText? z=γ n/\Q (.int n)
 |_=>ag
theorem Cb:RCb K (λa H Q=>∃z n,a=[.str z]/\z.length<=640/\PySem.intText? z=γ n/\Q (.int n) H) aCq:=by
 intro G H a f g Q b q k;unfold aCq at q;split at q
 ·refine qq0 λqq2=>?_;obtain⟨x,rfl,c⟩:=wU b;refine qq2 ?_;cases dP c;refine qq0 λqq2=>?_;obtain⟨d,n,e,q⟩:=q;refine qq2 ?_;exact⟨_,n,rfl,d,e,k _ _ (.int _) q⟩
 ·exact q.elim
def aPb(a:ε μ)(Q:μ->Prop):Prop:=match a with
 |[.int i]=>i.natAbs.log2<1920/\Q (.str<|toString i)
 |_=>ag
theorem lD:RCb K (λa H Q=>∃i,a=[.int i]/\i.natAbs.log2<1920/\Q (.str<|toString i) H) aPb:=by
 intro G H a d e Q b q k;unfold aPb at q;split at q
 ·refine qq0 λqq2=>?_;obtain⟨x,rfl,c⟩:=wU b;refine qq2 ?_;cases cF c;exact⟨_,rfl,q.1,k _ _ (.str _) q.2⟩
 ·exact q.elim
def aTn(de:DE)(d1 d2:DO)(a:DX)(b:cC)(Q:μ->Prop):Prop:=de a b λd=>d1 a b λc=>d2 a b λe=>match d with
 | .str z=>z.length<=100000/\Q (.str<|et z c e)
 |_=>ag
theorem Dz(i:jO K H₀ E te de)(j:OvP K H₀ E t1 d1)(l:OvP K H₀ E t2 d2):gP K H₀ E (tSl aRo te t1 t2) (aTn de d1 d2):=λb c e G H y Q f S q k=>
 i b c e G H _ _ f S q λv d m n g o p=>j b c e m n _ _ f (S.ext g) p λz r s h t=>l b c e r s _ _ f (S.ext<|g.trans h) t λA u w x a=>by
  split at a
  ·cases dP o;exact⟨_,rfl,cg<|Fi a.1,k _ _ u w ((g.trans h).trans x) (.str _) a.2⟩
  ·exact a.elim
def aBg(da db:DE)(a:DX)(b:cC)(Q:μ->Prop):Prop:=da a b λx=>match x with
 | .str z=>db a b λy=>match y with
  | .str y=>z.length<=100000/\(y.length==0)=false/\Q (.tuple [.str (Η z y).1,.str (Η z y).2.1,.str (Η z y).2.2])
  |_=>ag
 |_=>ag
theorem qS(l:jO K H₀ E ta da)(m:jO K H₀ E tb db):gP K H₀ E (tBM K "str" vF ta<|eF tb jP) (aBg da db):=λe f g G H u Q h S q k=>
 l e f g G H _ _ h S q λx d1 n o i b c=>by
  split at c
  ·rename_i z
   cases dP b;refine⟨rfl,m e f g n o _ _ h (S.ext i) c λy d2 v w j r a=>?_⟩;split at a
   ·rename_i d
    cases dP r;refine⟨_,_,rfl,rfl,cg<|Fi a.1,a.2.1,λp s=>?_⟩;have t:=uD (xs:=[.str (Η z d).1,.str (Η z d).2.1,.str (Η z d).2.2]) j.s s;exact k _ _ _ _ ((i.trans j).trans t) (.tup (SqT.of bJ)<|.cons (.str _)<|.cons (.str _)<|.cons (.str _) .nil) a.2.2
   ·exact a.elim
  ·exact c.elim
end
theorem Rws.len:∀{bs:ε Ζ}{a:ε<|ε μ},Rws K G H bs a->bs.length=a.length
 |_,_,.nil=>rfl
 |_,_,.cons _ _ r=>ea (·+1) r.len
theorem Rws.at:∀{bs:ε Ζ}{a:ε<|ε μ}{j:π}{d:ε μ},Rws K G H bs a->a[j]? =γ d->∃b c,bs[j]? =γ b/\H b=γ (.lst c)/\DVs K G c d
 |_,_,_,_,.nil,e=>by simp at e
 |_,_,0,_,.cons f g _,e=>by
  simp at e;subst e;exact⟨_,_,rfl,f,g⟩
 |_,_,j+1,_,.cons _ _ r,e=>by
  refine qq0 λqq2=>?_;obtain⟨b,c,i,h⟩:=r.at (j:=j) (by simpa using e);refine qq2 ?_;exact⟨b,c,by simpa using i,h⟩
structure Gst(K:ς)(H₀ G:Hp)(t:π)(δ:cC)(σ:L2.St)(H:Hp)(a:Ζ)(bs:ε Ζ)(dss:ε<|ε μ):Prop where
 un:Sees K H₀ G (put ν t δ) σ H
 dt:∀i s,slot δ i=γ s->(∃d,s= .dat d)\/∃xs c,s= .own xs/\σ[i]? =γ (γ<|.ref c)/\c∉a::bs
 sl:slot δ t=γ (.dat<|.list<|dss.map gk)
 pl:σ[t]? =γ (γ<|.ref a)
 ga:∀c∈a::bs,G c=ν
 nd:(a::bs).Nodup
 ha:H a=γ (.lst<|bs.map V.ref)
 rw:Rws K G H bs dss
def aCx(K:ς)(b G:Hp)(t:π)(d:cC)(e:L2.St)(H:Hp):Prop:=∃a bs c,Gst K b G t d e H a bs c
structure LkG(K:ς)(H₀ G:Hp)(t:π)(e:DEnds)(D:Ends):Prop where
 nx:∀δ σ G' H,Same G G'->aCx K H₀ G' t δ σ H->e.nx δ->D.nx σ H
 rt:∀v s H,Same H₀ H->rA K H₀ H v s->e.rt s->D.rt v H
 bk:∀δ σ G' H,Same G G'->aCx K H₀ G' t δ σ H->e.bk δ->D.bk σ H
 ct:∀δ σ G' H,Same G G'->aCx K H₀ G' t δ σ H->e.ct δ->D.ct σ H
section
variable{K:ς}{H₀:Hp}{E:XK}{te1 te2 te3 te4:TE}{dl d1 d2 d4:DL}{d3:DE}
structure RwI(K:ς)(H₀:Hp)(tb:π)(δ:cC)(σ:L2.St)(G H:Hp)(a:Ζ)(cs:ε Ζ)(dss:ε<|ε μ):Prop where
 sl:slot δ tb=γ (.own<|dss.map gk)
 rw:Rws K G G cs dss
 pl:σ[tb]? =γ (γ<|.ref a)
 ha:H a=γ (.lst<|cs.map V.ref)
 nd:cs.Nodup
 fr:∀c∈cs,H₀ c=ν/\∃zs,G c=γ (.lst zs)
end
theorem Sees.nil(S:Sees K g G c d H):Sees K g G [] b H:=⟨S.old,S.sub,iw _,(λi s h=>by cases h),(λi j e f a h=>by cases h)⟩
theorem yR:∀{c:ε bf}{a:ε Γ},Vals (c.map V.str) a->∃b:ε<|bf×vh,b.map (·.1)=c/\a=strValues b
 |[],_,.nil=>⟨[],rfl,rfl⟩
 |z::c,_,.cons h t=>by
  refine qq0 λqq2=>?_;obtain⟨tk,rfl⟩:=h;obtain⟨b,d,e⟩:=yR t;refine qq2 ?_;exact⟨(z,tk)::b,by rw[Μ,d],by rw[e];rfl⟩
theorem yT:∀(tk:π)(a:ε bf),Vals (a.map V.str) (strsFrom tk a)
 |_,[]=>.nil
 |tk,z::a=>.cons ⟨tk,rfl⟩<|yT (tk+1) a
def Xq(K:ς):V->ε V->Hp->VK->Prop:=λx c H Q=>∃(a:bf)(l:Ζ)(b:ε bf),x= .str a/\c=[.ref l]/\SqL K H l (b.map V.str)/\Builtin.Str.tooLong (b.toArray.foldl (·+·.length+a.length) 0)=false/\Q (.str<|Txt.join a b) H
theorem aFh:MtR X "str.join" (Xq X.K):=by
 intro pins s n H x o v w Q I d e h;refine qq0 λqq2=>?_;obtain⟨a,l,y,rfl,rfl,f,c,q⟩:=h;obtain⟨t,rfl⟩:=d;obtain⟨u,rfl,g⟩:=jB e;refine qq2 ?_;cases g;refine qq0 λqq2=>?_;obtain⟨i,r,j,z⟩:=I.list f;obtain⟨b,k,m⟩:=yR r;refine qq2 ?_;subst k m;refine ki nv (l8 _ _ _) F.entry_str_join (F.args_str_join_2 _ _) (meets_str_join_list a t l b c) ⟨j.isList,?_⟩;have hlen:=joinFit_length c
 match b,q,hlen with
 |[],q,hlen=>exact⟨hlen,.str _,H,I.tok _,⟨_,rfl⟩,q⟩
 |[p],q,hlen=>exact⟨.str _,H,I,⟨_,rfl⟩,q⟩
 |p::A::b,q,hlen=>exact⟨hlen,.str _,H,I.tok _,⟨_,rfl⟩,q⟩
def Xp:V->ε V->Hp->VK->Prop:=λx a H Q=>∃z y,x= .str z/\a=[.str y]/\z.length<=sizeLine/\(y.length==0)=false/\(Txt.split z y).length<=sizeLine/\∀l,H l=ν->Q (.ref l) (fA H l<|.lst<|(Txt.split z y).map V.str)
theorem Ik:MtR X "str.split" Xp:=by
 intro pins s g H x m v n Q I i j h;refine qq0 λqq2=>?_;obtain⟨z,y,rfl,rfl,k,f,d,q⟩:=h;obtain⟨t,rfl⟩:=i;obtain⟨u,rfl,t',rfl⟩:=jB j;refine qq2 ?_;have self:Txt.split z y=[z]->EP X pins g Q (.ref s.heap.objs.size) {s with heap:=s.heap.push {cls:=.type "list",data:=.seq [Value.str z t].toArray}}:=λe=>by
  rw[e]at q;refine⟨.ref s.heap.objs.size,_,I.laid (t':=s.toks) (o:=.lst [.str z]) (λb l q=>Ξ _ q) (ω _) ?_,rfl,q _<|I.hok.fresh<|ω _⟩;exact⟨cg<|bX<|show 1<=1000 by decide,_,0,.cons ⟨_,rfl⟩ .nil,aw _ rfl⟩
 cases a:(decide (z.length<y.length)||decide (Builtin.Str.strKind z<Builtin.Str.strKind y))with
 |true=>
  refine ki la (l8 _ _ _) ph (ov _ _) (meets_str_split_cannot_occur z y t t' a)<|self ?_;unfold Txt.split;rw[ρ a]
 |false=>
  cases c:(cf z y 0 z.length<|z.length+1).isEmpty with
  |true=>
   refine ki la (l8 _ _ _) ph (ov _ _) (meets_str_split_not_found z y t t' a f c)<|self ?_;unfold Txt.split;rw[ι (by rw[a];decide),ρ c]
  |false=>
   have e:Txt.split z y=Builtin.Str.partsBetween z (cf z y 0 z.length<|z.length+1) y.length:=by
    unfold Txt.split;rw[ι (by rw[a];decide),ι (by rw[c];decide)]
   rw[e]at q d;refine ki la (l8 _ _ _) ph (ov _ _) (meets_str_split_sep z y t t' a f c k d) ?_;refine⟨.ref s.heap.objs.size,_,I.laid (t':=s.toks+_) (o:=.lst<|(Builtin.Str.partsBetween z (cf z y 0 z.length<|z.length+1) y.length).map V.str) (λb l q=>Ξ _ q) (ω _) ?_,rfl,q _<|I.hok.fresh<|ω _⟩;exact⟨by rw[η];exact d,_,0,yT _ _,aw _ rfl⟩
theorem wE{K:ς}(a:X.K=K):MtR X "str.join" (Xq K):=by subst a;exact aFh
theorem Ue{a:bf}{b:ε bf}(h:(b.map (·.length)).sum+b.length*a.length<=100000):Builtin.Str.tooLong (b.toArray.foldl (·+·.length+a.length) 0)=false:=by
 rw[BG];unfold Builtin.Str.tooLong;exact aA (by have:=Fi h;lia)
theorem Js{K:ς}:∀{b:ε V}{a:ε bf},DVs K H b (a.map dB)->b=a.map V.str
 |_,[],.nil=>rfl
 |_,z::a,.cons h t=>by
  cases dP h;rw[Js t];rfl
theorem Gc{K:ς}:∀a:ε bf,DVs K H (a.map V.str) (a.map dB)
 |[]=>.nil
 |z::a=>.cons (.str z)<|Gc a
section
variable{K:ς}{H₀:Hp}{E:XK}{ta tb:TE}{da db:DE}{dl:DL}
def aJd(da:DE)(dl:DL)(c:DX)(d:cC)(Q:μ->Prop):Prop:=da c d λx=>match x with
 | .str a=>dl c d λe=>∃b:ε bf,e=b.map dB/\(b.map (·.length)).sum+b.length*a.length<=100000/\Q (.str<|Txt.join a b)
 |_=>ag
theorem uE(i:jO K H₀ E ta da)(j:Vf K H₀ E tb dl):gP K H₀ E (tBM K "str" (Xq K) ta<|eF tb jP) (aJd da dl):=λd e f G H y Q g S q k=>
 i d e f G H _ _ g S q λx z l m h b c=>by
  split at c
  ·cases dP b;refine⟨rfl,j d e f l m _ _ g (S.ext h) c λa A B n o p r s t=>?_⟩;refine qq0 λqq2=>?_;obtain⟨u,rfl,v,w⟩:=t;refine qq2 ?_;have:=Js s;subst this;exact⟨_,a,u,rfl,rfl,r,Ue v,k _ _ n o (h.trans p) (.str _) w⟩
  ·exact c.elim
def aBc(da db:DE)(a:DX)(b:cC)(Q:ε μ->Prop):Prop:=da a b λx=>match x with
 | .str z=>db a b λy=>match y with
  | .str y=>z.length<=90000/\(y.length==0)=false/\Q ((Txt.split z y).map dB)
  |_=>ag
 |_=>ag
theorem vQ(n:jO K H₀ E ta da)(o:jO K H₀ E tb db):xO K H₀ E (tBM K "str" Xp ta<|eF tb jP) (aBc da db):=λd e f G H w Q g S q k=>
 n d e f G H _ _ g S q λx A r s h b c=>by
  split at c
  ·rename_i z
   cases dP b;refine⟨rfl,o d e f r s _ _ g (S.ext h) c λy d2 B C i t a=>?_⟩;split at a
   ·rename_i j
    cases dP t;have D:=split_le z j;refine⟨_,_,rfl,rfl,cg<|Fi<|by lia,a.2.1,cg<|Fi<|by lia,λp l=>?_⟩;obtain⟨u,v⟩:=fN (xs:=(Txt.split z j).map V.str) i.s l;have m:=h.trans i;exact k p _ _ _ _ (m.trans u) (m.h.free l) v bJ (Gc _) a.2.2
   ·exact a.elim
  ·exact c.elim
end
end Dl
namespace Lx
open PySem PySem.Spec PyProof.Rows L2
def ExcG(a h:gy)(H:Hp)(x:Ζ)(C:Γ):Prop:=
 ∃b c,h.get? x=γ b/\b.cls=C/\b.data= .fields c/\H x=ν/\a.get? x=ν/\
  (c[1]? =γ Value.none\/∃T d e,c[1]? =γ (cb T)/\T≠x/\h.get? T=γ d/\d.data= .fields e/\3<e.size/\H T=ν/\a.get? T=ν)
def ExcF(a h:gy)(H:Hp)(x:Ζ)(C:Γ):Prop:=
 ∃b c T d e,h.get? x=γ b/\b.cls=C/\b.data= .fields c/\H x=ν/\a.get? x=ν/\
  c[1]? =γ (cb T)/\T≠x/\h.get? T=γ d/\d.data= .fields e/\3<e.size/\H T=ν/\a.get? T=ν
def KeptO(a:gy)(H:Hp)(c:ε Ζ)(h d:gy):Prop:=
 (∀b o,h.get? b=γ o->(a.get? b≠ν\/H b≠ν)->b∉c->d.get? b=γ o)/\∀b o,h.get? b=γ o->b∈c->∃e,d.get? b=γ {o with slots:=e}
theorem KeptO.trans(x:KeptO a H c h d)(y:KeptO a H c d g):KeptO a H c h g:=
 ⟨λb o e n f=>y.1 b o (x.1 b o e n f) n f,λb o e f=>by
  obtain⟨l,i⟩:=x.2 b o e f
  obtain⟨j,k⟩:=y.2 b _ i f
  exact⟨j,k⟩⟩
end Lx
namespace Dl
variable{K:ς}
open PySem PySem.Spec PyProof.Rows L2 Lx
mutual
def ndD:μ->Bool
 | .dict _=>false
 | .list a=>Ii a
 | .tuple a=>Ii a
 |_=>true
def Ii:ε μ->Bool
 |[]=>true
 |d::a=>ndD d && Ii a
end
mutual
theorem aOb{K:ς}{G H:Hp}(s:∀b o,H b=γ o->(∀a,o≠ .dK a)->G b=γ o):∀{x:V}{d:μ},DV K H x d->ndD d=true->DV K G x d
 |_,_,.non,_=>.non
 |_,_,.bl b,_=>.bl b
 |_,_,.int i,_=>.int i
 |_,_,.str x,_=>.str x
 | _,_,.tup h c,f=>.tup (by
   rcases h with(h|⟨o,h⟩)|h
   ·exact .inl<|.inl<|s _ _ h (by intro e z;cases z)
   ·exact .inl<|.inr ⟨o,s _ _ h (by intro e z;cases z)⟩
   ·exact .inr h) (uF s c f)
 | _,_,.lst h c,f=>.lst (by
   rcases h with(h|⟨o,h⟩)|h
   ·exact .inl<|.inl<|s _ _ h (by intro e z;cases z)
   ·exact .inl<|.inr ⟨o,s _ _ h (by intro e z;cases z)⟩
   ·exact .inr h) (uF s c f)
 |_,_,.dct h,f=>by cases f
 |_,_,.dc0 h,f=>by cases f
theorem uF{K:ς}{G H:Hp}(s:∀b o,H b=γ o->(∀a,o≠ .dK a)->G b=γ o):∀{d:ε V}{c:ε μ},DVs K H d c->Ii c=true->DVs K G d c
 |_,_,.nil,_=>.nil
 |_,_,.cons h t,f=>by
  simp only[Ii,jz]at f;exact .cons (aOb s h f.1)<|uF s t f.2
end
abbrev DKs(K:ς)(G:Hp)(a:ε<|gY×V)(b:ε<|bf×μ):Prop:=Paired (λ(p:gY×V)(q:bf×μ)=>p.1=Sum.inr q.1/\DV K G p.2 q.2) a b
theorem DKs.same{K:ς}(s:Same G b)(h:DKs K G a c):DKs K b a c:=Paired.mapP h λ_ _ z=>⟨z.1,dI s z.2⟩
def dskP(C:Ζ)(f:bf)(b:ε<|bf×μ):ς->Hp->V->Prop:=λK G v=>∃p c d a,v= .ref p/\G p=γ (.ins C c [(f,V.ref d)])/\G d=γ (.dK a)/\DKs K G a b
theorem dskP.same{K:ς}(s:Same G c)(h:dskP C f b K G v):dskP C f b K c v:=by
 obtain⟨p,e,d,a,g,i,j,k⟩:=h;exact⟨p,e,d,a,g,s _ _ i,s _ _ j,k.same s⟩
theorem dskP.sl{K:ς}(h:dskP C f a K G v):SlIs K G H v (.mon<|dskP C f a):=λ_ s=>h.same s
def isP(p:Ζ):ς->Hp->V->Prop:=λ_ _ v=>v= .ref p
def aUj:ς->Hp->V->Prop:=λ_ _ _=>wj
theorem uM{K:ς}:∀{a:ε<|gY×V}{b:ε<|bf×μ},DKs K G a b->b.lookup x=γ d->∃v,pE a (Sum.inr x:gY)=γ v/\DV K G v d
 |_,_,.nil,h=>by simp at h
 |p::a,q::b,.cons i t,h=>by
  obtain⟨k,v⟩:=p;obtain⟨y,e⟩:=q;obtain⟨f,g⟩:=i;dsimp only at f g;subst f;by_cases c:x=y
  ·subst c;rw[gp,fu]at h;cases h;exact⟨v,pD rfl,g⟩
  ·rw[gp,ei.mpr c]at h;obtain⟨w,j,l⟩:=uM t h;exact⟨w,by rw[lW (by intro z;injection z with z;exact c z.symm)];exact j,l⟩
def La(C:Ζ)(f:bf):Sp:=λe H Q _=>∃(p c:Ζ),e=[.ref p]/\H p=γ (.ins C c [])/\∀(d:Ζ)(a:Hp),H d=ν->a p=γ (.ins C c [(f,V.ref d)])->a d=γ (.dK [])->(∀b o,H b=γ o->b≠p->a b=γ o)->Q .non a
abbrev DM:=ε μ->(bf->ε μ->Prop)->Prop
def Gi(K:ς)(C:Ζ)(f:bf)(L:DM):Sp:=λj H Q _=>∃(p k d:Ζ)(c:ε V)(h:ε μ)(R:bf->ε μ->Prop),j= .ref p::c/\H p=γ (.ins C k [(f,V.ref d)])/\H d=γ (.dK [])/\DVs K H c h/\L h R/\
 ∀(x:bf)(g:ε μ)(a:Ζ)(i:ε V)(e:Hp),R x g->eC g=true->(∀b o,b≠d->H b=γ o->e b=γ o)->e d=γ (.dK [(Sum.inr x,V.ref a)])->H a=ν->e a=γ (.lst i)->DVs K e i g->Q (.str "ok") e
abbrev DWK:=ε (bf×μ)->DW
def Lb(K:ς)(C:Ζ)(f:bf)(w:DWK):Sp:=λi H Q E=>∃(c:V)(b:ε V)(d:ε<|bf×μ)(e:ε μ)(g:Sl->Prop)(h:DX),i=c::b/\dskP C f d K H c/\DVs K H b e/\w d e g h/\
 (∀v s a,Same H a->rA K H a v s->g s->Q v a)/\(∀C a,Same H a->h C->E (.ref C) ν a)
section
variable{K:ς}{H₀:Hp}{E:XK}{te ta tb:TE}{da db de:DE}{dl:DL}{t:TA}{g:TG}{dg:DG}{ns:ε π}{ts tz:TS}{ds dz:DS}{C:Ζ}{f m:bf}{w:DWK}
def aBh(C:Ζ)(f:bf)(i:π)(w:DWK)(dl:DL)(c:DX)(a:cC)(Q:μ->Prop):Prop:=∃b,slot a i=γ (.mon<|dskP C f b)/\dl c a λds=>w b ds (Ah Q) λ_=>ag
theorem Dm(h:f≠m):([(f,v)]:ε<|bf×V).lookup m=ν:=by
 rw[gp,ei.mpr<|Ne.symm h];rfl
theorem Jp(i:π)(n:f≠m)(o:uI K H₀ E t dl):gP K H₀ E (Fv C m (Lb K C f w) [] E0 (iI i) t) (aBh C f i w dl):=λu x y G H W Q z S ⟨A,B,q⟩ k=>by
 obtain⟨v,D,F⟩:=S.has i _ B;obtain⟨p,e,d,b,rfl,h,I,J⟩:=F G<|Same.refl _;refine⟨_,D,p,e,_,rfl,S.sub.same _ _ h,Dm n,o u x y G H _ _ z S q λL ds X Y a M N=>?_⟩;refine⟨.ref p,L,A,ds,_,λ_=>ag,by rw[j2],(dskP.same (a.g.trans a.s.same) ⟨p,e,d,b,rfl,h,I,J⟩),M,N,λv s j l r O=>?_,λC j l P=>P.elim⟩;obtain⟨d2,R,T,c,U⟩:=vD a.s l r O;exact k v d2 R j (a.trans T) c U
def aBu(C:Ζ)(f:bf)(i:π)(w:DWK)(dl:DL)(dg:DG)(e:DEnds)(a:cC):Prop:=∃b,slot a i=γ (.mon<|dskP C f b)/\dl e.ex a λds=>nQ a=true/\w b ds (Nt λd=>dg d a e.nx) λ_=>ag
theorem Wr(i:π)(y:f≠m)(A:uI K H₀ E t dl)(B:Vg K H₀ g ns dg):jQ K H₀ E (nW (Fv C m (Lb K C f w) [] E0 (iI i) t) g) (aBu C f i w dl dg):=λn o G H e D F S ⟨I,J,q⟩ L=>by
 obtain⟨v,M,N⟩:=S.has i _ J;obtain⟨p,u,d,c,rfl,x,O,P⟩:=N G<|Same.refl _;refine⟨_,M,p,u,_,rfl,S.sub.same _ _ x,Dm y,A e.ex n o G H _ _ F S q λR ds G1 H1 a T ⟨U,W⟩=>?_⟩;refine⟨.ref p,R,I,ds,_,λ_=>ag,by rw[j2],(dskP.same (a.g.trans a.s.same) ⟨p,u,d,c,rfl,x,O,P⟩),T,W,λv s b h r X=>?_,λC b h Y=>Y.elim⟩;obtain⟨d2,j,Z⟩:=pX r X;exact B v d2 n o b b _ _ ((S.ext a).all2 U h) j Z λk l S' _ q'=>L.nx k l b b ((S.ext a).sub.same.trans h|>λz=>a.g.trans z) S' q'
theorem sD{ds:ε μ}(p:∀k,Same H k->φ K k b)(h:DVs K H d ds):Sees K H H (γ (.mon φ)::jG N ds) (L2.start (x::N)<|b::d) H:=by
 have S:=uY (K:=K) (N:=N) h;have e:L2.start (x::N) (b::d)=γ b::L2.start N d:=by
  simp[L2.start]
 refine⟨S.old,S.sub,?_,λi s c=>?_,λi j q r a c l=>?_⟩
 ·rw[e];exact qo S.len
 ·rw[e];cases i with
  |zero=>cases c;exact⟨b,rfl,p⟩
  |succ i=>exact S.has i s c
 ·intro n o;rw[e]at n o;cases i with
  |zero=>cases c
  |succ i=>
   cases j with
   |zero=>cases l
   |succ j=>exact ea (·+1)<|S.sep i j q r a c l n o
def aBl(C:Ζ)(f:bf)(i:π)(L:DM)(de:DE)(dz:DS)(e:DEnds)(a:cC):Prop:=i<a.length/\de e.ex (put (γ<|.mon aUj) i a) λd=>L [d] λx b=>dz e<|put (γ<|.mon<|dskP C f [(x,.list b)]) i a
theorem Wq(i:π)(hf:f≠m)(ha:jO K H₀ E te de)(hz:jQ K H₀ E tz dz):
  jQ K H₀ E (xQ (nW (aHt C (La C f) [] E0 jP)<|kR i)<|xQ (Wl (Ol<|yZ rNe (Fv C m (Gi K C f L) [] E0 (iI i)<|eF te jP)<|tC<|.str "ok") ts Oo) tz) (aBl C f i L de dz):=λδ σ G H e D Y S ⟨R,q⟩ LK=>by
 intro x A B T a0;refine⟨x,A,rfl,bJ,λd U F P h2 h3=>⟨rfl,?_⟩⟩;have xd:x≠d:=by
  rintro rfl;rw[bJ]at F;cases F
 have p:H d=ν:=by
  have:fA (fA H A<|.own x) x (.ins C A []) d=ν:=F;rw[aV<|Ne.symm xd]at this;by_cases z:d=A
  ·rw[z,bJ]at this;cases this
  ·rw[aV z]at this;exact this
 have s1:Same H U:=λb o c=>h3 b o (by rw[aV<|bT c B,aV<|bT c T];exact c)<|bT c B;have Z:=mU S.sub s1;have S1:=(S.ext Z).setS (v:=.ref x) (s:=.mon aUj) i (λ_ _=>trivial) λ_ _ _ _ z=>nomatch z;have s0:(σ.set i<|some<|V.ref x)[i]? =γ (γ<|.ref x):=by
  rw[ja];exact av R S.len
 refine⟨_,s0,x,A,_,rfl,P,Dm hf,ha e.ex _ _ _ U _ _ Y S1 q λv d2 M l J hv q2=>?_⟩;have N:l d=γ (.dK []):=J.h _ _ h2;refine⟨x,A,d,[v],[d2],_,rfl,J.h _ _ P,N,.cons hv .nil,q2,λy ms a us h hR W k3 kd X km kv=>?_⟩;refine⟨rfl,?_⟩;refine⟨false,by simp,Zt ?_⟩;have j:=Z.trans J;have nd:∀{b:Ζ}{o:HO},H b=γ o->b≠d:=λc=>bT c p;have n2:∀{b:Ζ},l b=ν->H b=ν:=λ{b} z=>by
  cases q:H b with
  |none=>rfl
  |some o=>rw[j.h b o q]at z;cases z
 let I:Hp:=λb=>if b=d then h d else match l b with
  |none=>h b
  |some _=>M b
 have gd:I d=h d:=ρ rfl;have gn:∀{b:Ζ},b≠d->l b=ν->I b=h b:=λ{b} z q=>by
  show(if b=d then h d else match l b with |none=>h b|some _=>M b)=h b;rw[ι z,q]
 have O:∀{b:Ζ}{o:HO},b≠d->l b=γ o->I b=M b:=λ{b o} z q=>by
  show(if b=d then h d else match l b with |none=>h b|some _=>M b)=M b;rw[ι z,q]
 have r:Sub I h:=λb=>by
  by_cases z:b=d
  ·subst z;exact .inl gd
  ·cases q:l b with
   |none=>exact .inl<|gn z q
   |some o=>
    have k:=k3 b o z q;rcases J.s b with w|⟨w,xs,w2⟩
    ·exact .inl (by rw[O z q,w,q,k])
    ·rw[q]at w2;cases w2;exact .inr ⟨by rw[O z q];exact w,xs,k⟩
 have E3:Ext G H I h:=by
  refine⟨λb o c=>?_,λb o c=>k3 b o (nd c)<|j.h b o c,r,λb o c=>?_⟩
  ·have hb:=S.sub.same b o c;rw[O (nd hb)<|j.h b o hb];exact j.g b o c
  ·by_cases z:b=d
   ·exact .inr (by rw[z];exact p)
   ·cases q:l b with
    |none=>exact .inr<|n2 q
    |some u=>
     rw[O z q]at c;exact j.n b o c
 have ad:a≠d:=by
  rintro rfl;rw[N]at X;cases X
 have P3:dskP C f [(y,.list ms)] K I (.ref x):=by
  refine⟨x,A,d,[(Sum.inr y,V.ref a)],rfl,?_,by rw[gd];exact kd,.cons ⟨rfl,.lst (SqL.of (by rw[gn ad X];exact km))<|jN (λb o q n=>r.other q n) kv W⟩ .nil⟩;rw[O xd<|J.h _ _ P];refine J.g _ _ ?_;show(match H x with |none=>U x|some _=>G x)=_;rw[B];exact P
 exact hz _ _ I h e D Y ((S.ext E3).setS i P3.sl λ_ _ _ _ z=>nomatch z) hR<|LK.mono E3.g
end
theorem hu1(h:n+64<m):n+1<m:=by lia
abbrev Tab:=ε<|bf×V×μ
def sY(w:kn)(K:ς)(g:Ζ)(tb:Tab):Prop:=(g==sysModules)=false/\∃(a:Array DictEntry)(n:π),K.lookup g=γ ⟨.type "dict",ν,.dict a n,#[]⟩/\W.KeysLit w.params a.toList/\
 Paired (λ(e:DictEntry)(p:bf×V×μ)=>(∃t,e.key= .str p.1 t)/\RelV p.2.1 e.val) a.toList tb/\∀p∈tb,∀H,DV K H p.2.1 p.2.2
theorem uS:∀{a:ε DictEntry}{tb:Tab},Paired (λ(e:DictEntry)(p:bf×V×μ)=>(∃t,e.key= .str p.1 t)/\RelV p.2.1 e.val) a tb->RelO ((tb.lookup x).map (·.1)) ((a.find? λe=>Value.isStrOf x e.key).map (·.val))
 |_,_,.nil=>trivial
 |e::a,(y,v,d)::tb,.cons ⟨⟨t,b⟩,c⟩ r=>by
  have f:=uS (x:=x) r;dsimp only at b c;by_cases h:x=y
  ·subst h;rw[gp,fu,List.find?_cons_of_pos (by rw[b];simp[Value.isStrOf])];exact c
  ·rw[gp,ei.mpr h,List.find?_cons_of_neg (by rw[b];simp[Value.isStrOf];exact λz=>h z.symm)];exact f
theorem wL{a:Type}{y:a}:∀{l:ε<|bf×a},l.lookup x=γ y->(x,y)∈l
 |[],h=>by simp at h
 |(z,u)::l,h=>by
  by_cases e:x=z
  ·subst e;rw[gp,fu]at h;cases h;exact υ
  ·rw[gp,ei.mpr e]at h;exact ο _<|wL h
def zJ(g:Ζ)(a:Tab):R2:=λx y H Q=>∃s,x= .str s/\y= .ref g/\Q (.bl<|!(a.lookup s).isSome) H
def Xr(g:Ζ)(a:Tab):R2:=λx y H Q=>∃s p,x= .ref g/\y= .str s/\a.lookup s=γ p/\Q p.1 H
theorem Hh{K:ς}(d:X.K=K)(hw:X.w=w)(c:sY w K g z):lM X (compareOp .NotIn) (zJ g z):=by
 rintro pins s p H x y v u Q I f h ⟨a,rfl,rfl,q⟩;subst d;subst hw;obtain⟨t,rfl⟩:=(show ∃t,v=Value.str a t from f);cases (show u=cb g from h);refine qq0 λqq2=>?_;obtain⟨i,b,n,j,k,m,_⟩:=c;refine qq2 ?_;have r:=uS (x:=a) m;refine yu (BB X.prog X.w a t) i (BM (prog:=X.prog) I.kIn j k) ?_;have e:=RelO.isSome_eq r;rw[yt]at e;have o:findBy Value.isStrOf b a=(b.toList.find? λe=>Value.isStrOf a e.key).map (·.val):=by
  obtain⟨l⟩:=b;unfold findBy;rw[u9]
 rw[o,<-e];exact⟨.bl _,H,I.tok _,rfl,q⟩
theorem aNm{K:ς}(i:X.K=K)(hw:X.w=w)(c:sY w K g F):IxR X (Xr g F):=by
 rintro value slice pins s C H x y v u Q I j k ⟨a,p,rfl,rfl,b,q⟩ m;subst i;subst hw;cases (show v=cb g from j);refine qq0 λqq2=>?_;obtain⟨t,rfl⟩:=(show ∃t,u=Value.str a t from k);obtain⟨D,d,n,o,z,A,_⟩:=c;refine qq2 ?_;have r:=uS (x:=a) A;rw[b]at r;have h:=BM (prog:=X.prog) I.kIn o z;have B:findBy Value.isStrOf d a=(d.toList.find? λe=>Value.isStrOf a e.key).map (·.val):=by
  obtain⟨l⟩:=d;unfold findBy;rw[u9]
 obtain⟨E,hw,f⟩:=RelO.some_of r;exact yp h.typeIs slot_dict_getitem.lookup (wz (BB X.prog X.w a t) h (B.trans hw) ⟨p.1,H,I.tok _,f,q⟩) m
def Aq(T:Tab)(c:DE)(a:DX)(b:cC)(Q:μ->Prop):Prop:=c a b λx=>match x with
 | .str s=>Q<|.bool<|!(T.lookup s).isSome
 |_=>ag
theorem Jo(b:jO K o E p r):gP K o E (yZ (zJ g T) p<|tC<|.ref g) (Aq T r):=λc d e G H n Q f S q k=>
 b c d e G H _ _ f S q λx h i j l m a=>by
  cases h with
  |str s=>cases dP m;exact⟨_,rfl,rfl,k _ _ i j l (.bl _) a⟩
  |_=>exact a.elim
def aBj(T:Tab)(c:DE)(a:DX)(b:cC)(Q:μ->Prop):Prop:=c a b λx=>match x with
 | .str s=>∃p,T.lookup s=γ p/\Q p.2
 |_=>ag
theorem aAn(c:sY w K g T)(e:jO K u E v y):gP K u E (yZ (Xr g T) (tC<|.ref g) v) (aBj T y):=λf h i G H t Q j S q k=>
 e f h i G H _ _ j S q λx l b m n o a=>by
  cases l with
  |str s=>
   cases dP o;refine qq0 λqq2=>?_;obtain⟨p,d,a⟩:=a;obtain⟨_,_,_,_,_,_,r⟩:=c;refine qq2 ?_;exact⟨s,p,rfl,rfl,d,k _ _ b m n (r _ (wL d) b) a⟩
  |_=>exact a.elim
section
variable{P:Program}{w:kn}{K:ς}{mg:bf->Θ Γ}{base:gy}{C:Ζ}{f:bf}
theorem okR{st:Stmt}(F:Fun K x qual st a D)(S:FnScope (B::N) j<|bK st)(l:∀e c Q E,W e c Q E->c.length+1=j.length)
  (g:∀(b:Γ)(A:Around)(outer:ε Env)(s:aj)(H:Hp)(E:XK),Room k (A.deeper (envOfC qual (bK st) s.heap.objs.size a b)) ->
   ∃t,Kq (qW (oV P w) P w K mg base (B::N) qual (bK st) a b A outer s H E) (fF st) t/\∃d,jQ K H E t d/\∀e c Q X,W e c Q X->d {nx:=λ_=>Q (.dat .none),rt:=Q,ex:=X} (γ (.mon (dskP C f e))::jG N c)):
  FnOk P w K mg base (oV P w) (k+1) a D j (Lb K C f W):=by
 refine okE F S (λL H Q E h=>?_) λb A outer s H L Q E M h=>?_
 ·obtain⟨O,m,e,c,i,n,rfl,I,o,p,_⟩:=h;rw[Ε,o.len];exact l _ _ _ _ p
 ·refine qq0 λqq2=>?_;obtain⟨O,m,e,c,i,n,rfl,I,o,p,J,R⟩:=h;obtain⟨t,T,d,U,Y⟩:=g b A outer s H E M;refine qq2 ?_;refine⟨t,T,U _ _ H H {nx:=λ_=>i<|.dat .none,rt:=i,ex:=n} _ R (sD (λZ u=>I.same u) o) (Y e c i n p) ⟨λδ σ G y _ S q=>?_,λv s y u r q=>J v s y u r q,λ_ _ _ _ _ _ z=>z.elim,λ_ _ _ _ _ _ z=>z.elim⟩⟩;exact J .non (.dat .none) y S.oldH .non q
def Rf(C:Ζ)(f:bf)(i:π)(c:DE)(d:DX)(a:cC)(Q:Bool->Prop):Prop:=∃b,slot a i=γ (.mon<|dskP C f b)/\c d a λx=>match x with
 | .str s=>Q<|!(b.lookup s).isSome
 |_=>ag
theorem yV{K:ς}:∀{a:ε<|gY×V}{b:ε<|bf×μ},DKs K G a b->b.lookup x=ν->pE a (Sum.inr x:gY)=ν
 |_,_,.nil,h=>rfl
 |p::a,q::b,.cons g t,h=>by
  obtain⟨k,v⟩:=p;obtain⟨y,e⟩:=q;obtain⟨d,i⟩:=g;dsimp only at d i;subst d;by_cases c:x=y
  ·subst c;rw[gp,fu]at h;cases h
  ·rw[gp,ei.mpr c]at h;rw[lW (by intro z;injection z with z;exact c z.symm)];exact yV t h
theorem Fc{K:ς}(h:DKs K G a b):(pE a (Sum.inr x:gY)).isSome=(b.lookup x).isSome:=by
 cases e:b.lookup x with
 |none=>rw[yV h e];rfl
 |some d=>obtain⟨v,c,_⟩:=uM h e;rw[c];rfl
variable{H₀:Hp}{E:XK}{te ta tb:TE}{da db de:DE}{dl:DL}{t:TA}{tt:TT}{dt:DT}{ts tz:TS}{ds dz:DS}
theorem Sh(i:π)(g:Cls K C)(h:NoAttr K C f)(j:jO K H₀ E ta da):Bi K H₀ E (tB<|Oq ta<|aDv K (iI i) f) (Rf C f i da):=λl m n G H L Q o S ⟨M,r,q⟩ k=>
 j l m n G H _ _ o S q λx u c y a z e=>by
  refine qq0 λqq2=>?_;obtain⟨v,A,B⟩:=S.has i _ r;obtain⟨p,b,d,D,rfl,F,I,J⟩:=B c a.g;refine qq2 ?_;cases u with
  |str s=>
   cases dP z;refine⟨_,A,p,C,b,_,_,rfl,a.s.same _ _ F,g,h,by rw[gp,fu],d,_,rfl,DGet.k (k:=Sum.inr s)<|a.s.same _ _ I,_,rfl,k _ c y a ?_⟩;rw[Fc J];exact e
  |_=>exact e.elim
def aJe(C:Ζ)(f:bf)(i:π)(da:DE)(c:DX)(a:cC)(Q:μ->Prop):Prop:=∃b,slot a i=γ (.mon<|dskP C f b)/\da c a λx=>match x with
 | .str s=>∃d,b.lookup s=γ d/\Q d
 |_=>ag
theorem aGv(i:π)(e:Cls K C)(g:NoAttr K C f)(h:jO K H₀ E ta da):gP K H₀ E (aHu (aDv K (iI i) f) ta) (aJe C f i da):=λj l m G H T Q n S ⟨U,o,q⟩ k=>by
 obtain⟨v,y,z⟩:=S.has i _ o;obtain⟨p,b,d,A,rfl,B,D,F⟩:=z G<|Same.refl _;refine⟨_,y,p,C,b,_,_,rfl,S.sub.same _ _ B,e,g,by rw[gp,fu],?_⟩;refine h j l m G H _ _ n S q λx I J L c M a=>?_;cases I with
 |str s=>
  cases dP M;refine qq0 λqq2=>?_;obtain⟨r,N,a⟩:=a;obtain⟨u,O,R⟩:=uM F N;refine qq2 ?_;exact⟨d,u,rfl,O▸DGet.k (k:=Sum.inr s) (c.h _ _<|S.sub.same _ _ D),k u r J L c (dI c.g R) a⟩
 |_=>exact a.elim
structure EndM(K:ς)(H₀:Hp)(d:Ζ)(R:bf->ε μ->Prop)(D:Ends):Prop where
 rt:∀(x:bf)(ms:ε μ)(a:Ζ)(us:ε V)(H':Hp),R x ms->eC ms=true->(∀b o,b≠d->H₀ b=γ o->H' b=γ o)->H' d=γ (.dK [(Sum.inr x,V.ref a)])->H₀ a=ν->H' a=γ (.lst us)->DVs K H' us ms->D.rt (.str "ok") H'
abbrev DMS:=(bf->ε μ->Prop)->DX->cC->Prop
def MuD(K:ς)(H₀:Hp)(E:XK)(C:Ζ)(f:bf)(p e d:Ζ)(ts:TS)(g:DMS):Prop:=∀R b a c G H D,lO H₀ E b->Sees K H₀ G a c H->slot a 0=γ (.mon<|isP p)->H₀ p=γ (.ins C e [(f,V.ref d)])->H₀ d=γ (.dK [])->g R b a->EndM K H₀ d R D->ts D c H
variable{p dx d:Ζ}{dm dm2:DMS}
def aOd(c:bf->ε μ->Prop)(a:DX)(b:cC):Prop:=ag
def aIq(ds:DS)(dm:DMS)(R:bf->ε μ->Prop)(ex:DX)(b:cC):Prop:=ds {nx:=λa=>slot a 0=slot b 0/\dm R ex a,rt:=λ_=>ag,ex:=ex} b
theorem Yv(g:jQ K H₀ E ts ds)(h:MuD K H₀ E C f p dx d tz dm):MuD K H₀ E C f p dx d (xQ ts tz) (aIq ds dm):=λR i j k G H D c S l m n q L=>
 g j k G H _ {D with nx:=tz D} c S q ⟨λa b o r s u e=>h R i a b o r D c u (e.1.trans l) m n e.2 L,λ_ _ _ _ _ z=>z.elim,λ_ _ _ _ _ _ z=>z.elim,λ_ _ _ _ _ _ z=>z.elim⟩
def aOe(dt:DT)(dm dm2:DMS)(R:bf->ε μ->Prop)(a:DX)(c:cC):Prop:=dt a c λb=>if b=true then dm R a c else dm2 R a c
theorem aMy(h:Bi K H₀ E tt dt)(k:MuD K H₀ E C f p dx d tz dm2):MuD K H₀ E C f p dx d (xQ (Wl tt j Oo) tz) (aOe dt aOd dm2):=λR a c e G H D g S l m n q L=>
 h a c e G H _ _ g S q λb o r s i=>by
  cases b with
  |true=>exact i.elim
  |false=>exact Zt<|k R a c e o r D g (S.ext s) l m n i L
theorem aMx(h:Bi K H₀ E tt dt)(k:MuD K H₀ E C f p dx d ts dm):MuD K H₀ E C f p dx d (xQ (Wl tt ts j) tz) (aOe dt dm aOd):=λR a c e G H D g S l m n q L=>
 h a c e G H _ _ g S q λb o r s i=>by
  cases b with
  |true=>exact aNp<|k R a c e o r _ g (S.ext s) l m n i ⟨L.rt⟩
  |false=>exact i.elim
def aAv(i:π)(dl:DL)(R:bf->ε μ->Prop)(c:DX)(b:cC):Prop:=∃x,slot b i=γ (.dat<|.str x)/\dl c b λa=>eC a=true/\Ii a=true/\R x a
theorem aFf(i:π)(r:Cls K C)(s:NoAttr K C f)(u:xO K H₀ E te dl):MuD K H₀ E C f p dx d (xQ (aHy (aDv K (iI 0) f) (iI i) te)<|Fu<|tC<|.str "ok") (aAv i dl):=λR z A B G H D F S I J M ⟨x,N,q⟩ L=>
 u z A B G H _ _ F S q λa O T G1 H1 n g hg h U ⟨W,X,Y⟩=>by
  refine qq0 λqq2=>?_;obtain⟨v,Z,j⟩:=S.has 0 _ I;refine qq2 ?_;cases (show v=V.ref p from j G (Same.refl _));refine qq0 λqq2=>?_;obtain⟨y,hy,l⟩:=S.has i _ N;refine qq2 ?_;cases dP l;have m:=(S.ext n).oldH;have c:=m _ _ M;have ad:a≠d:=by
   rintro rfl;rw[c]at h;cases h
  refine⟨_,Z,p,C,dx,_,_,rfl,m _ _ J,r,s,by rw[gp,fu],_,hy,d,_,rfl,DPut.k (k:=Sum.inr x) c<|by decide,?_⟩;refine L.rt x T a O _ Y W (λb o nb e=>?_) ?_ (S.oldH.free g) ?_ ?_
  ·rw[aV nb];exact m _ _ e
  ·rw[bJ];rfl
  ·rw[aV ad];exact h
  ·refine uF (λb o e no=>?_) (aR n.s.same U) X;have:b≠d:=by
    rintro rfl;rw[c]at e;cases e;exact no _ rfl
   rw[aV this];exact e
def aAw(L:DM)(dl:DL)(R:bf->ε μ->Prop)(a:DX)(b:cC):Prop:=dl a b λds=>L ds R
theorem aFg(i:f≠m)(j:uI K H₀ E t dl):MuD K H₀ E C f p dx d (Fu<|Fv C m (Gi K C f L) [] E0 (iI 0) t) (aAw L dl):=λR k l n G H D r S s h u q y=>by
 obtain⟨v,z,e⟩:=S.has 0 _ s;cases (show v=V.ref p from e G (Same.refl _));refine⟨_,z,p,dx,_,rfl,S.oldH _ _ h,Dm i,j k l n G H _ _ r S q λA ds G1 H1 B g F=>?_⟩;have c:=(S.ext B).oldH;refine⟨p,dx,d,A,ds,R,by rw[j2],c _ _ h,c _ _ u,g,F,λx I a J M N O T U W X Y=>?_⟩;exact y.rt x I a J M N O (λb o Z eb=>T b o Z<|c _ _ eb) U (c.free W) X Y
theorem okM{st:Stmt}(F:Fun K x qual st a o)(S:FnScope (n::N) e<|bK st)(g:∀ds R,L ds R->ds.length+1=e.length)
  (c:∀(b:Γ)(A:Around)(outer:ε Env)(s:aj)(H:Hp)(E:XK),Room k (A.deeper (envOfC qual (bK st) s.heap.objs.size a b)) ->
   ∃t,Kq (qW (oV P w) P w K mg base (n::N) qual (bK st) a b A outer s H E) (fF st) t/\∃dm,(∀p dx d,MuD K H E C f p dx d t dm)/\∀p ds R,L ds R->dm R (λ_=>ag) (γ (.mon (isP p))::jG N ds)):
  FnOk P w K mg base (oV P w) (k+1) a o e (Gi K C f L):=by
 refine okE F S (λq H Q E h=>?_) λb A outer s H q Q E r h=>?_
 ·refine qq0 λqq2=>?_;obtain⟨p,dx,d,i,ds,R,rfl,_,_,j,l,_⟩:=h;refine qq2 ?_;rw[Ε,j.len];exact g _ _ l
 ·refine qq0 λqq2=>?_;obtain⟨p,dx,d,i,ds,R,rfl,u,v,j,l,y⟩:=h;obtain⟨t,B,dm,m,D⟩:=c b A outer s H E r;refine qq2 ?_;refine⟨t,B,m p dx d R (λ_=>ag) _ _ H H _ (λ_ _ _ z=>z.elim) (sD (φ:=isP p) (λ_ _=>rfl) j) rfl u v (D p ds R l) ⟨λx G a I J M O T U W X Y=>y x G a I J M O T U W X Y⟩⟩
theorem aMt{st:Stmt}(F:Fun K x qual st a l)(S:FnScope ["self"] g<|bK st)(q:g.length=1)(r:Cls K C)(u:NoAttr K C f)
  (e:∀(c:Γ)(A:Around)(outer:ε Env)(s:aj)(H:Hp)(E:XK),Room k (A.deeper (envOfC qual (bK st) s.heap.objs.size a c)) ->
   Kq (qW (oV P w) P w K mg base ["self"] qual (bK st) a c A outer s H E) (fF st) (aRn K (iI 0) Wm f)):
  FnOk P w K mg base (oV P w) (k+1) a l g (La C f):=by
 refine okE F S (λv H Q E h=>?_) λc A outer s H v Q E y h=>?_
 ·obtain⟨p,dx,rfl,_⟩:=h;rw[q];rfl
 ·refine qq0 λqq2=>?_;obtain⟨p,dx,rfl,i,B⟩:=h;refine qq2 ?_;refine⟨_,e c A outer s H E y,λd j=>?_⟩;have m:p≠d:=λz=>by rw[z,j]at i;cases i
  refine⟨_,rfl,p,C,dx,[],rfl,by rw[aV m];exact i,r,u,by decide,?_⟩;refine B d _ j (by rw[bJ];rfl) (by rw[aV<|Ne.symm m,bJ]) λb o n D=>?_;rw[aV D,aV<|bT n j];exact n
end
abbrev Ev:=ε<|bf×μ
def putP(a:Ev)(x:bf)(e:μ):Ev:=if (a.any λq=>decide (q.1=x))=true then a.map (λq=>if q.1=x then(q.1,e)else q)else a++[(x,e)]
def aTh(a:Ev)(x:bf):Ev:=a.filter λq=>decide (q.1≠x)
section
variable{K:ς}{G H H':Hp}{kvs:ε (gY×V)}{kv:Ev}{x:bf}{v:V}{e:μ}
abbrev NdP(kv:Ev):Prop:=∀q∈kv,ndD q.2=true
theorem NdP.drop(h:NdP kv):NdP (aTh kv x):=λq a=>h q (ku.mp a).1
structure IsK(K:ς)(H:Hp)(d:Ζ)(kv:Ev):Prop where
 at_:∃kvs,H d=γ (.dK kvs)/\DKs K H kvs kv
 nd:NdP kv
structure Chg(K:ς)(H:Hp)(d:Ζ)(kv':Ev)(H':Hp):Prop where
 keep:∀b o,b≠d->H b=γ o->H' b=γ o
 is:IsK K H' d kv'
end
def aSu:Θ Sl->Θ Sl
 |some (.dat d)=>if ndD d=true then γ (.dat d)else ν
 |_=>ν
def aSv:cC->cC
 |[]=>[]
 |s::a=>aSu s::aSv a
section
variable{K:ς}{H₀:Hp}{E:XK}
abbrev RG:=Ev->μ->Prop
structure EndG(K:ς)(H₀:Hp)(d:Ζ)(R:RG)(D:Ends):Prop where
 rt:∀(v:V)(t:μ)(kv':Ev)(H':Hp),R kv' t->Chg K H₀ d kv' H'->DV K H' v t->D.rt v H'
abbrev DMG:=RG->DX->cC->Prop
variable{i0:π}{φ:ς->Hp->V->Prop}{p d dx C:Ζ}{f:bf}{kv:Ev}{ts tz tw:TS}{ds dz:DS}{dm dm2:DMG}{tt:TT}{dt:DT}{te ta tb td:TE}{da db:DE}{dl:DL}
abbrev LG:=Ev->ε μ->RG->DX->Prop
variable{P:Program}{w:kn}{mg:bf->Θ Γ}{base:gy}
end
structure Store(K:ς)(as:ε Ζ)(ks:ε Ev)(H:Hp):Prop where
 len:as.length=ks.length
 is:∀(i:π)(a:Ζ)(kv:Ev),as[i]? =γ a->ks[i]? =γ kv->IsK K H a kv
structure WEnds where
 nx:cC->ε Ev->Prop
 rt:μ->Prop
section
variable{K:ς}{as:ε Ζ}{Fx:Hp->Prop}{ts tz tb:TS}{ds:DS}
structure LkW(K:ς)(as:ε Ζ)(Fx:Hp->Prop)(e:WEnds)(D:Ends):Prop where
 nx:∀δ ks σ H,Sees K H H δ σ H->Fx H->Store K as ks H->e.nx δ ks->D.nx σ H
 rt:∀v t H,Fx H->DV K H v t->e.rt t->D.rt v H
abbrev DWS:=WEnds->cC->ε Ev->Prop
variable{dw dw2:DWS}
structure GoodF(K:ς)(as:ε Ζ)(Fx:Hp->Prop):Prop where
 mono:∀H H',Same H H'->Fx H->Fx H'
 chg:∀H H' d kv',d∈as->(∃kvs,H d=γ (.dK kvs))->Chg K H d kv' H'->Fx H->Fx H'
variable{g:TG}{ns:ε π}{dg:DG}{t:TA}{dl:DL}{ta:TE}{da:DE}
structure Begun(K:ς)(C:Ζ)(f:bf)(as ps es:ε Ζ)(aD aK:Ζ)(Fx:Hp->Prop):Prop where
 good:GoodF K as Fx
 nd:as.Nodup
 lp:ps.length=2
 le:es.length=2
 hD:∀H,Fx H->H aD=γ (.lst<|ps.map V.ref)
 hp:∀H,Fx H->∀w p,ps[w]? =γ p->∃dx d,H p=γ (.ins C dx [(f,V.ref d)])/\as[0+w]? =γ d
 hK:∀H,Fx H->H aK=γ (.lst<|es.map V.ref)
 he:∀w d,es[w]? =γ d->as[2+w]? =γ d
end
section
variable{K:ς}{as:ε Ζ}{Fx F:Hp->Prop}{tt tu:TT}{ts tz tb:TS}{ds:DS}{dt:DT}
abbrev DTW:=cC->ε Ev->(Bool->cC->ε Ev->Prop)->Prop
variable{d1 d2:DTW}{dw dw2:DWS}
structure Beg1(K:ς)(C:Ζ)(f:bf)(as:ε Ζ)(p:Ζ)(Fx:Hp->Prop):Prop where
 good:GoodF K as Fx
 nd:as.Nodup
 hp:∀H,Fx H->∃dx d,H p=γ (.ins C dx [(f,V.ref d)])/\as[0]? =γ d
variable{C p:Ζ}{f m:bf}{t:TA}{dl:DL}{te:TE}{de:DE}{L:LG}{iO:π}
variable{g:TG}{ns:ε π}{dg:DG}{ta tb':TE}{da db:DE}
end
section
variable{K:ς}{H₀:Hp}{E:XK}{dl:DL}{t:TA}{g:TG}{dg:DG}{ns:ε π}{C:Ζ}{f:bf}{w:DWK}
def aBv(C:Ζ)(f:bf)(i:π)(w:DWK)(dl:DL)(dg:DG)(e:DEnds)(a:cC):Prop:=∃b,slot a i=γ (.mon<|dskP C f b)/\dl e.ex a λc=>nQ a=true/\w b c (Nt λd=>dg d a e.nx) λ_=>ag
theorem Ga(i:π)(o:uI K H₀ E t dl)(u:Vg K H₀ g ns dg):jQ K H₀ E (nW (jD (Lb K C f w) [] E0<|eF (iI i) t) g) (aBv C f i w dl dg):=λm n G H e D x S ⟨y,A,q⟩ L=>by
 obtain⟨v,B,F⟩:=S.has i _ A;obtain⟨p,I,d,c,rfl,J,M,N⟩:=F G<|Same.refl _;refine⟨_,B,o e.ex m n G H _ _ x S q λO P G1 H1 a R ⟨T,U⟩=>?_⟩;refine⟨.ref p,O,y,P,_,λ_=>ag,by rw[j2],(dskP.same (a.g.trans a.s.same) ⟨p,I,d,c,rfl,J,M,N⟩),R,U,λv s b h r W=>?_,λC b h X=>X.elim⟩;obtain⟨d2,j,Y⟩:=pX r W;exact u v d2 m n b b _ _ ((S.ext a).all2 T h) j Y λk l Z _ q'=>L.nx k l b b ((S.ext a).sub.same.trans h|>λz=>a.g.trans z) Z q'
end
end Dl
namespace My
open PySem PySem.Spec PyProof.Rows L2 Lx Dl
local macro_rules|`(tactic|walk_at"c")=>`(tactic|exact⟨rfl,rfl,rfl,by decide +kernel,rfl,by decide +kernel,by decide +kernel⟩)
section
variable{K:ς}{H₀:Hp}{E:XK}{te ta tb:TE}{t:TA}{ts:TS}{de da db:DE}{dl:DL}{ds:DS}{r:R2}{rd:RD2}
theorem vN(i:π)(h:uI K H₀ E t dl):uI K H₀ E (eF (iI i) t) (Au (Ke i) dl):=Rt (aF i) h
theorem vE(h:gP K H₀ E te de)(k:uI K H₀ E t dl):uI K H₀ E (eF te t) (Au de dl):=Rt (aC h) k
theorem bI{n:χ}:jO K H₀ E (tC<|.int n) (dC<|.int n):=aC aU
theorem eX(i j:π):gP K H₀ E (yZ (Xt K) (iI j)<|tC<|.int (i:χ)) (aOo i<|aBb j):=kD i<|bE j
theorem bO(h:Km K r rd)(a:jO K H₀ E ta da)(b:jO K H₀ E tb db):jO K H₀ E (yZ r ta tb) (dOp rd da db):=aC<|bZ h a b
theorem tO(h:Km K r rd)(a:jO K H₀ E ta da)(b:jO K H₀ E tb db):Bi K H₀ E (Ol<|yZ r ta tb) (aGq<|dOp rd da db):=Oi<|bO h a b
theorem sA(i:π)(h:gP K H₀ E te de)(k:jQ K H₀ E ts ds):jQ K H₀ E (xQ (nW te<|kR i) ts) (aOl (aOs de<|Dw i) ds):=aH (eL h<|aG i) k
end
structure Fg(K:ς)(n:bf)(st:Stmt)(f:Ζ)(d:FuncData):Prop where
 a:W.nsIn K mainGlobals n=γ (γ<|.ref f)
 F:Fun K n n st f d
theorem fg_mk{K:ς}{st:Stmt}{kV d h b i:Γ}(a:W.nsIn K mainGlobals x=γ (γ<|.ref f))(l:K.lookup f=γ ⟨j,m,.func<|W.fnOf x x (jX st) (fF st) (bK st) .none kV d h g b i,e⟩)(c:W.codeIn K b x=true)(k:W.keepIn K (.ref f)=true):Fg K x st f (W.fnOf x x (jX st) (fF st) (bK st) .none kV d h g b i):=⟨a,fun_mk l c k⟩
structure Fd(K:ς)(mg:bf->Θ Γ)(n:bf)(st:Stmt)(a:Ζ)(d:FuncData)(ps:ε bf):Prop where
 F:Fun K n n st a d
 m:mg n=γ (.ref a)
 b:Binds K d ps []
theorem Fg.fd{K:ς}{st:Stmt}{a:ε bf}(F:Fg K n st f d)(X:K.In h)(G:h.Ns mainGlobals i)(b:∀(kV c j:Γ)(k:Θ Ζ)(e l:Γ)(g:ε Γ),g.length=a.length->bindArgs (W.fnOf n n (jX st) (fF st) (bK st) .none kV c j k e l) ⟨g,[]⟩=pure (a.zip g)):Fd K i n st f d a:=⟨F.F,ie X G F.a,F.F.binds b⟩
theorem nN{st:Stmt}(F:FnOk X.prog X.w X.K X.mg X.base g k f i j l)(m:Room h X.A)(T:Fd X.K X.mg x st f i j)(n:iR g X E)
  (o:PA X (e::b) t) (q:k<=h:=by decide) (r:Gl X x:=by exact rfl) (c:(x==("__debug__":bf))=false:=by decide) (s:starEach (e::b) X.env=(false,eval e X.env)::starEach b X.env:=by rfl) (d:(backTo a<|starEach b X.env).any (·.1)=false:=by rfl):
  PE X (.Call (.Name x p) (e::b) [] a) (jD l [] E t):=aEp F (m.mono q) r T.m T.F.kp T.b .nil n o c s d
def top(i:π):Stmt:=PySem.Challenge.pw_leastmiss_k81_whole_bent_lines_by_text.main.body.getD i<|.Pass ⟨0,0,0,0⟩
def tb:ε (bf×π×ε bf):=("common_divisor",12,["one","other"])::("fraction",13,["top","bottom"])::("plus",14,["one","other"])::("minus",15,["one","other"])::("product",16,["one","other"])::("quotient",17,["one","other"])::("is_less",18,["one","other"])::("size_of",19,["one"])::("total_of",20,["some"])::("greatest_of",21,["some"])::("solved",24,["table","right"])::("cleared",25,["rows","column"])::("leading_spot",26,["rows","column"])::("without",27,["row","leader","column"])::("height_at",30,["numbers","x"])::("row_of",31,["numbers","marks"])::("powers_of",32,["x","count"])::("bent_through",33,["marks"])::("moments_of",34,["marks","terms","count"])::("count_ahead",37,["marks","place"])::("marks_of",38,["some"])::("misses_of",39,["marks","row"])::("check_kind",42,["kind"])::("weighed_misses",43,["marks","row"])::("measured",44,["kind","marks","row"])::("least_level",46,["kind","marks"])::("middle_of",47,["some","weights"])::("in_order",48,["some","weights"])::("level_sum",49,["marks"])::("line_sum",50,["marks"])::("line_at",51,["marks","mark"])::("line_pulls",52,["marks","line"])::("turn_of",53,["marks","pulls"])::("early_pulls",54,["marks","misses"])::("bend_least",57,["kind","marks","bend"])::("is_bend",58,["bend"])::("through_all",59,["marks","bend"])::("bend_square",60,["marks","bend"])::("bend_far",61,["marks","bend"])::("spread_spots",62,["count","wanted"])::("even_shares",63,["chosen"])::("with_sign_of",64,["one","other"])::("moved_by",65,["chosen","shares","level"])::("pulls_at",66,["spots","shares","level","count"])::("exchanged",67,["spots","misses","spot"])::("check_text",87,["text"])::("is_figures",88,["text"])::("read_whole",89,["text"])::("read_fraction",90,["text"])::("read_mark",91,["text"])::("show_fraction",92,["x"])::("show_fractions",93,["some"])::("words_of",100,["row"])::("check_name",101,["word"])::("bent_fit",102,["kind","marks","bend"])::("parted",103,["parts"])::("bend_answer",104,["kind","marks","bend"])::("judge_answer",107,["kind","marks","words"])::("asked",108,["words","marks"])::("_law_cell",111,["script","k"])::("_law_lowest",112,["top","bottom"])::("_law_less",115,["one","other"])::("_law_joined",116,["kind","one","other"])::("_law_missed",117,["kind","some","row"])::("_law_number",118,["word"])::("_law_read",119,["word"])::("_law_lists",120,["answer"])::("_law_written",121,["x"])::("_law_word",122,["mark"])::("_law_plus",123,["one","other"])::("_law_times",124,["one","other"])::("_law_total",125,["some"])::("_law_misses",126,["some","row"])::("_law_fair",127,["kind","some","misses","pulls"])::("_law_some",128,["script","start","most"])::("_law_height",129,["numbers","x"])::("_law_even",130,["some","pulls","bend"])::("_law_line",131,["cell","bend"])::("_law_judged",132,["desk","kind","numbers","some"])::[]
abbrev tr(i:π):bf×π×ε bf:=tb.getD i ("",0,[])
abbrev nm(i:π):bf:=(tr i).1
abbrev st(i:π):Stmt:=top (tr i).2.1
abbrev pr(i:π):ε bf:=(tr i).2.2
theorem mJ:FnScope ["top","bottom","divisor"] (pr 1) (bK<|st 1):=by walk_at"c"
theorem kJ:FnScope ["text","parts","top","bottom"] (pr 48) (bK<|st 48):=by walk_at"c"
theorem pT:FnScope ["text","parts","others","place","height","weight"] (pr 49) (bK<|st 49):=by walk_at"c"
theorem mI:FnScope ["row","words","bounds"] (pr 52) (bK<|st 52):=by walk_at"c"
theorem jJ:FnScope ["kind","marks","bend","fit","measure"] (pr 56) (bK<|st 56):=by walk_at"c"
theorem sc_law_judged:FnScope ["desk","kind","numbers","some","row"] (pr 78) (bK<|st 78):=by walk_at"c"
abbrev aLp:Stmt:=uC (top 109) 0
theorem aRm:FnScope ["self"] ["self"] (bK aLp):=by walk_at"c"
abbrev aLo:Stmt:=uC (top 109) 1
theorem Gm:FnScope ["self","row","words","marks"] ["self","row"] (bK aLo):=by walk_at"c"
abbrev aLn:Stmt:=uC (top 109) 2
theorem aRl:FnScope ["self","name","words"] ["self","name","words"] (bK aLn):=by walk_at"c"
abbrev aLm:Stmt:=uC (top 109) 3
theorem aRk:FnScope ["self","name"] ["self","name"] (bK aLm):=by walk_at"c"
abbrev aLl:Stmt:=top 133
theorem jI:FnScope ["script","kind","bend","some","at","desk","found","row","told_measure","k","other","judged"] ["script"] (bK aLl):=by walk_at"c"
theorem pxT{K:ς}(h:X.K=K)(d:PE X a c):PE X (.Subscript a (.Constant (.int i) j p) b) (yZ (Xt K) c<|tC<|.int i):=Gz (aWk h) d dH λ_ _=>rfl
theorem sF{K:ς}(h:X.K=K)(d:PE X a c):PE X (.Subscript a (.Constant (.int i) j p) b) (yZ (aEg K) c<|tC<|.int i):=Gz (aNk h) d dH λ_ _=>rfl
theorem Cf(i:π)(S:FnScope X.N c d)(f:PE X e b)(g:X.N[i]? =γ x:=by exact rfl)(h:Loc X.env.scope x:=by exact Or.inl rfl)(j:swapsWith e (γ<|.Name x pos') a.line X.env=pure false:=by rfl)(k:X.fn x=true\/X.env.scope.names.lookup x=γ .local:=by first|exact .inl rfl|exact .inr rfl|assumption):PS X (.Assign [.Name x pos'] e a) (nW b<|kR i):=Xz S.nd g h f j k
theorem pgS(i:π)(S:FnScope X.N b c)(d:X.N[i]? =γ x:=by exact rfl)(e:Loc X.env.scope x:=by exact Or.inl rfl)(f:X.fn x=true\/X.env.scope.names.lookup x=γ .local:=by first|exact .inl rfl|exact .inr rfl|assumption):PG X (.Name x a) (kR i):=tV S.nd d e f
theorem pgN(i:π)(N:ε bf)(e:X.N=N:=by exact rfl)(b:N.Nodup:=by decide)(c:X.N[i]? =γ x:=by exact rfl)(d:Loc X.env.scope x:=by exact Or.inl rfl)(f:X.fn x=true\/X.env.scope.names.lookup x=γ .local:=by first|exact .inl rfl|exact .inr rfl|assumption):PG X (.Name x a) (kR i):=tV (e▸b) c d f
theorem lcO(a:closureFor scope X.env=pure i)(b:scope.kind= .function:=by exact rfl)(c:∀x∈scope.names,x.2≠ .cell:=by decide +kernel)(d:∀x∈scope.names,x.2= .local->scope.names.lookup x.1=γ .local:=by decide +kernel)(e:CapsOk X scope i j k:=by exact trivial)(f:∀p∈i,X.env.cells.lookup p.1=γ p.2:=by exact λ_ h=>nomatch h)(g:((relabel scope X.env).names.all λp=>(p.2 != .cell && p.2 != .free)||(i.lookup p.1).isSome)=true:=by exact rfl):LcOk X scope i j k:=⟨a,b,c,d,e,f,g⟩
local macro_rules|`(tactic|walk_at"l")=>`(tactic|(intro _ _ _ h;repeat (first|(obtain⟨e,_⟩:=h;subst e;rfl)|obtain⟨_,h⟩:=h)))
set_option genInjectivity false in
structure Adr where
 a:π->Ζ
 d:π->FuncData
 a_qa:Ζ
 d_qa:FuncData
 a_qb:Ζ
 d_qb:FuncData
 a_qc:Ζ
 d_qc:FuncData
 a_qd:Ζ
 d_qd:FuncData
 a_qe:Ζ
 d_qe:FuncData
 x_MissError:Ζ
 x_NoNumber:Ζ
 x_NoMarks:Ζ
 x_NoKind:Ζ
 x_NoBend:Ζ
 x_NoAnswer:Ζ
 x_NoText:Ζ
 x_NoName:Ζ
 x_NoRow:Ζ
 g_KINDS:Ζ
 g_NOUGHT:Ζ
 c_Desk:Ζ
 g_COUNTS:Ζ
 g_COUNTS_0:Ζ
 g_COUNTS_1:Ζ
 g_COUNTS_2:Ζ
 g_COUNTS_3:Ζ
 g_COUNTS_4:Ζ
 g_COUNTS_5:Ζ
 g_COUNTS_6:Ζ
 g_COUNTS_7:Ζ
def gJ(A:Adr):Tab:=[("marks",.ref A.g_COUNTS_0,(.tuple [(.int 3),(.int 62)])),("drop",.ref A.g_COUNTS_1,(.tuple [(.int 2),(.int 2)])),("names",.ref A.g_COUNTS_2,(.tuple [(.int 1),(.int 1)])),("show",.ref A.g_COUNTS_3,(.tuple [(.int 2),(.int 2)])),("bend",.ref A.g_COUNTS_4,(.tuple [(.int 4),(.int 4)])),("rise",.ref A.g_COUNTS_5,(.tuple [(.int 3),(.int 3)])),("steps",.ref A.g_COUNTS_6,(.tuple [(.int 4),(.int 4)])),("judge",.ref A.g_COUNTS_7,(.tuple [(.int 4),(.int 63)]))]
structure Txt(K:ς)(mg:bf->Θ Γ)(A:Adr):Prop where
 F:∀i,i<79->Fd K mg (nm i) (st i) (A.a i) (A.d i) (pr i)
 F_qa:Fun K "__init__" "Desk.__init__" aLp A.a_qa A.d_qa
 M_qa:Meth K A.c_Desk "__init__" A.a_qa
 b_qa:Binds K A.d_qa ["self"] []
 F_qb:Fun K "say" "Desk.say" aLo A.a_qb A.d_qb
 M_qb:Meth K A.c_Desk "say" A.a_qb
 b_qb:Binds K A.d_qb ["self","row"] []
 F_qc:Fun K "lay" "Desk.lay" aLn A.a_qc A.d_qc
 M_qc:Meth K A.c_Desk "lay" A.a_qc
 b_qc:Binds K A.d_qc ["self","name","words"] []
 F_qd:Fun K "marks_by" "Desk.marks_by" aLm A.a_qd A.d_qd
 M_qd:Meth K A.c_Desk "marks_by" A.a_qd
 b_qd:Binds K A.d_qd ["self","name"] []
 F_qe:Fd K mg "law" aLl A.a_qe A.d_qe ["script"]
 x_MissError:ExcCl K mg "MissError" A.x_MissError
 x_NoNumber:ExcCl K mg "NoNumber" A.x_NoNumber
 x_NoMarks:ExcCl K mg "NoMarks" A.x_NoMarks
 x_NoKind:ExcCl K mg "NoKind" A.x_NoKind
 x_NoBend:ExcCl K mg "NoBend" A.x_NoBend
 x_NoAnswer:ExcCl K mg "NoAnswer" A.x_NoAnswer
 x_NoText:ExcCl K mg "NoText" A.x_NoText
 x_NoName:ExcCl K mg "NoName" A.x_NoName
 x_NoRow:ExcCl K mg "NoRow" A.x_NoRow
 n_abs:mg "abs"=ν
 n_all:mg "all"=ν
 n_bool:mg "bool"=ν
 n_int:mg "int"=ν
 n_isinstance:mg "isinstance"=ν
 n_len:mg "len"=ν
 n_list:mg "list"=ν
 n_max:mg "max"=ν
 n_min:mg "min"=ν
 n_range:mg "range"=ν
 n_reversed:mg "reversed"=ν
 n_sorted:mg "sorted"=ν
 n_str:mg "str"=ν
 n_sum:mg "sum"=ν
 n_zip:mg "zip"=ν
 m_Desk:mg "Desk"=γ (.ref A.c_Desk)
 cl_Desk:Cls K A.c_Desk
 mk_Desk:Mk K A.c_Desk A.a_qa
 nA_Desk:NoAttr K A.c_Desk "kept"
 c_COUNTS:mg "COUNTS"=γ (.ref A.g_COUNTS)
 c_FIGURES:∃t,mg "FIGURES"=γ (.str "0123456789" t)
 c_KINDS:mg "KINDS"=γ (.ref A.g_KINDS)
 k_KINDS:∀H:Hp,DV K H (.ref A.g_KINDS)<|.tuple [(.str "far"),(.str "sum"),(.str "square")]
 c_LETTERS:∃t,mg "LETTERS"=γ (.str "abcdefghijklmnopqrstuvwxyz" t)
 c_MOST_BEND:∃t,mg "MOST_BEND"=γ (.int 3 t)
 c_MOST_FIGURES:∃t,mg "MOST_FIGURES"=γ (.int 40 t)
 c_MOST_LETTERS:∃t,mg "MOST_LETTERS"=γ (.int 8 t)
 c_MOST_MARKS:∃t,mg "MOST_MARKS"=γ (.int 60 t)
 c_MOST_NUMBERS:∃t,mg "MOST_NUMBERS"=γ (.int 4 t)
 c_MOST_STEPS:∃t,mg "MOST_STEPS"=γ (.int 59 t)
 c_NOUGHT:mg "NOUGHT"=γ (.ref A.g_NOUGHT)
 k_NOUGHT:∀H:Hp,DV K H (.ref A.g_NOUGHT)<|.tuple [(.int 0),(.int 1)]
abbrev Nj:=z0
abbrev nS:=yf
abbrev Ni:=As
abbrev aGx:=zq
abbrev aGw:=rk
abbrev aCl:=AA
abbrev aCm:=AB
theorem aOx:bootBuiltins "sum"=γ (.builtin "sum"):=by decide +kernel
local macro_rules|`(tactic|walk_at"d")=>do
 let a<-("aBv Aq aBj Rf aJe aBh aBu aBl aIq aOe aOd aAv aAw jG slot put aBb Ke Rh dC dFz Ek aGp Au aTm aTx dOp oI oI0 oB0 oEq oNe aSk aTw aOo nth aOn aMu Yr aFa Yq aCp aCq aPb aTn aBg aOt dCb aPh aPc aPd aPa aPe aPf Rg aJd aBc aTv aIz dSl aJl dMv aJc aGq aUe dOr aTt aJn aTr aJa aUb aJk aBs aBr Ro Rp aJb aTo aIx aBd aJi aUa Dw aAa Ms Zz aOs aIt aJm aBt nQ wQ aBk aTq aBe aOu aBf aIw aIv aIu xG aOj aTz isD Oh aUd aBi aTy aOi aOm aOp aJj aTp aAb aJf dOV d2 aIy Ri Re aTl aBq aIs Ti aPg aTu Ah aEt Nt nR eC p9 uq ly Bool.not_true ow true_and AL kr rh me mi qf ite_true ite_false p8 Bool.true_eq_false not_true_eq_false not_false_eq_true reduceCtorEq Ε u2 η".splitOn " ").toArray.mapM λn=>`(Lean.Parser.Tactic.simpLemma|$(Lean.mkIdent n.toName):ident)
 `(tactic|(try simp only[$a,*]))
local macro_rules|`(tactic|walk_at"s")=>`(tactic|(walk_at"d";refine cW ?_;walk_at"d"))
theorem aCk:bootBuiltins "str"=γ (.type "str"):=by decide +kernel
abbrev fr(q:θ):μ:=.tuple [.int q.num,.int (q.den:χ)]
theorem Oe{b:χ}(h:g<=b.natAbs)(a:Wee b):Wee (g:χ):=by
 unfold Wee at *
 exact 104
theorem Od(a:Wee b):Wee (-b):=by
 unfold Wee at *
 exact 49
theorem aUf(h:decide (0<=j/\j<=1000000/\i.natAbs<2^64)=true):aUx i j:=(fb h:0<=j/\j<=1000000/\i.natAbs<2^64)
theorem Sa(h:decide (i.natAbs<2^8000)=true:=by decide +kernel):Wee i:=(fb h:i.natAbs<2^8000)
theorem fR(h:i.natAbs<=n)(a:decide (n<2^8000)=true:=by decide +kernel):Wee i:=eH h<|fb a
theorem yK(h:decide (0<j/\j.natAbs<2^8000)=true:=by decide +kernel):Ry i j:=(fb h:0<j/\j.natAbs<2^8000)
structure Ok(q:θ):Prop where
 n:Wee q.num
 d:Wee (q.den:χ)
theorem iX{g b:π}(h:g<=b)(a:Wee (b:χ)):Wee (g:χ):=by
 unfold Wee at *
 exact 4
theorem kT(q:θ):(0:χ)<(q.den:χ):=by have:=q.den_nz;lia
theorem okS(h:Fm.Sz N q)(a:decide (N<2^8000)=true):Ok q:=⟨fR h.n a,fR (n:=N) (by have:=h.d;assumption) a⟩
theorem aGd(q:θ):nR (fr q)=true:=rfl
theorem bP:∀a:ε θ,eC (a.map fr)=true
 |[]=>rfl
 |q::a=>by
  have:=bP a;simp only[Μ,eC,aGd,this,ly]
variable{P:Program}{w:kn}{K:ς}{mg:bf->Θ Γ}{base:gy}{A:Adr}
def aVt:DW:=λc Q _=>∃a b:χ,c=[.int a,.int b]/\0<=a/\0<=b/\Q (.dat<|.int ((ck a b:π):χ))
structure CtR(X:Cx)(P:Program)(w:kn)(K:ς)(mg:bf->Θ Γ)(base:gy)(A:Around)(x:bf)(e:Expr)(es:ε Expr)(pos:Pos)(k k':π):Prop where
 p:X.prog=P
 w:X.w=w
 K:X.K=K
 mg:X.mg=mg
 b:X.base=base
 A:X.A=A
 hk:k<=k'
 hg:Gl X x
 hdb:(x==("__debug__":bf))=false
 he:starEach (e::es) X.env=(false,eval e X.env)::starEach es X.env
 hpl:(backTo pos<|starEach es X.env).any (·.1)=false
theorem pcR{K:ς}{A:Around}{st:Stmt}(T:Fd K mg x st f h i)(F:FnOk P w K mg base d k f h i j)(l:Room g A)(c:CtR X P w K mg base A x e b a k g)(m:iR d X E)(n:PA X (e::b) t):PE X (.Call (.Name x p) (e::b) [] a) (jD j [] E t):=by
 cases c.p;cases c.w;cases c.K;cases c.mg;cases c.b;cases c.A;exact nN F l T m n c.hk c.hg c.hdb c.he c.hpl
theorem pgC(g:c.Nodup:=by decide)(h:c[i]? =γ x:=by exact rfl)(j:Loc (kP X scope d c C a b e).env.scope x:=by exact Or.inl rfl)(k:(kP X scope d c C a b e).fn x=true\/(kP X scope d c C a b e).env.scope.names.lookup x=γ .local:=by first|exact .inl rfl|exact .inr rfl|assumption):PG (kP X scope d c C a b e) (.Name x f) (kR i):=tV g h j k
def aKy(e:ε bf)(b:TI)(a:ε<|Θ π)(g:TG)(c:TT)(d:TE):TE:=tLC b a g c d
theorem bS{K:ς}{e}(b:ε<|Θ π)(n:ε bf)(o:IvE K a E d e)(p:Vg K a g f h)(q:Bi K a E i k)(r:gP K a E l m)(s:(b.filterMap id).Nodup:=by decide)(c:f.all (λj=>(b[j]?.bind id).isNone)=true:=by decide):xO K a E (aKy n d b g i l) (dLC e b h k m):=He o p q r s c
theorem aMi(L:LcOk X k n cap NC)(d:PI X l m t)(e:∀C a b c,PG (kP X k n NC C a b c) l g)(f:∀C a b c,PTs (kP X k n NC C a b c) o q)(j:∀C a b c,PE (kP X k n NC C a b c) p r)(h:X.calm=true/\∀x,foldedSetIterable m X.env x=pure x):PE X (.ListComp p [⟨l,m,o,0⟩] k s) (aKy NC t cap g q r):=Po h.1 L d e f j h.2
theorem Sv(S:FnScope X.N ps E)(L:LcOk X o v cap NC)(d:PI X p q D)(f:∀C a b c,PG (kP X o v NC C a b c) p g)(h:∀C a b c,PTs (kP X o v NC C a b c) s z)(j:∀C a b c,PE (kP X o v NC C a b c) t B)(k:X.N[i]? =γ x:=by exact rfl)(l:X.env.scope.names.lookup x=γ .local:=by exact rfl)(m:X.calm=true:=by exact rfl)(e:swapsWith (.ListComp t [⟨p,q,s,0⟩] o y) (γ<|.Name x r) u.line X.env=pure true:=by rfl)(n:∀x,foldedSetIterable q X.env x=pure x:=by intro _;rfl):PS X (.Assign [.Name x r] (.ListComp t [⟨p,q,s,0⟩] o y) u) (nW (aKy NC D cap g z B)<|kR i):=Gp S.nd k l m L d f h j e n
theorem Txt.G(T:Txt K mg A)(i:π)(h:i<79:=by decide):Fd K mg (nm i) (st i) (A.a i) (A.d i) (pr i):=T.F i h
def Q(k i:π)(V:Adr->DW):Prop:=∀(A:Adr){P:Program}{w:kn}{K:ς}{mg:bf->Θ Γ}{base:gy},Txt K mg A->FnOk P w K mg base (oV P w) k (A.a i) (A.d i) (pr i) (Ko K<|V A)
local macro_rules|`(tactic|walk_at"m")=>`(tactic|(intro _;walk_at"l"))
theorem fH{V:Adr->DW}(i:π)(N:ε bf)(f:∀{P:Program}{w:kn}{K:ς}{mg:bf->Θ Γ}{base:gy}{a:Γ}{e:Around}{outer:ε Env}{s:aj}{H:Hp}{E:XK}(A:Adr),Txt K mg A->Room k (e.deeper (envOfC (nm i) (bK (st i)) s.heap.objs.size (A.a i) a))->FnScope N (pr i) (bK (st i)) ->
   ∃t,Kq (qW (oV P w) P w K mg base N (nm i) (bK (st i)) (A.a i) a e outer s H E) (fF (st i)) t/\∃d,jQ K H E t d/\∀b Q X,V A b Q X->d {nx:=λ_=>Q (.dat .none),rt:=Q,ex:=X} (jG N b)) (c:∀A b Q E,V A b Q E->b.length=(pr i).length:=by walk_at"m") (S:FnScope N (pr i) (bK (st i)):=by walk_at"c") (g:i<79:=by decide):Q (k+1) i V:=by
 intro A _ _ _ _ _ T;exact okW (T.F i g).F S (c A) λ_ _ _ _ _ _ R=>f A T R S
theorem gM{V:Adr->DW}{K:ς}(F:Q k i V)(T:Txt K mg A)(R:Room d f)(g:nm i=x)(c:CtR X P w K mg base f x e b a k d/\i<79)(h:iR (oV P w) X E)(j:PA X (e::b) t):PE X (.Call (.Name x p) (e::b) [] a) (jD (Ko K<|V A) [] E t):=by
 subst g;exact pcR (T.F i c.2) (F A T) R c.1 h j
set_option hygiene false in
local macro_rules|`(tactic|walk_at"t")=>do
 let q:=#[<-`(?_),<-`(_),<-`(⟨_,rfl⟩)]
 let E:Array (Lean.TSyntax `tactic):=#[<-`(tactic|(refine' Gz ?_ ?_ ?_ λ_ _=>rfl)),<-`(tactic|(refine' aMi ?_ ?_ (λ_ _ _ _=>?_) (λ_ _ _ _=>?_) (λ_ _ _ _=>?_) ⟨rfl,λ_=>rfl⟩)),<-`(tactic|((with_reducible show PS _ (.Assign _ (.ListComp _ _ _ _) _) _);refine' Sv Z ?_ ?_ (λ_ _ _ _=>?_) (λ_ _ _ _=>?_) (λ_ _ _ _=>?_))),<-`(tactic|(refine' Xz Z.nd rfl (.inr rfl) ?_)),<-`(tactic|(refine' aLz rfl Z.nd rfl rfl (by decide) rfl rfl ?_ rfl)),<-`(tactic|((with_reducible show PT _ (.BoolOp _ _ _) _);refine' PW.pt ?_)),<-`(tactic|(exact tV Z.nd rfl (.inr rfl))),<-`(tactic|(refine' aRw (n:=2) rfl rfl ?_)),<-`(tactic|(refine' aRw (n:=3) rfl rfl ?_)),<-`(tactic|(refine' ⟨rfl,rfl,by decide +kernel,by decide +kernel,by repeat' (first|exact trivial|refine' ⟨⟨_,rfl,rfl,rfl,rfl,rfl⟩,?_⟩),by repeat' (first|refine' gw.2 ⟨rfl,?_⟩|exact λ_ h=>nomatch h),rfl⟩)),<-`(tactic|(exact⟨⟨rfl,rfl,rfl,rfl,rfl,rfl,by decide,rfl,by decide,rfl,rfl⟩,by decide⟩)),<-`(tactic|rfl)]
 let D:Array Lean.Term:=#[<-`(PE _ (.Subscript _ _ _) _),<-`(PE _ (.ListComp _ _ _ _) _),<-`(PE _ (.BinOp _ _ _ _) _),<-`(PE _ (.Call _ _ _ _) _),<-`(CtR _ _ _ _ _ _ _ _ _ _ _ _ _/\ _)]
 let x<-("PA _ _ _>!aX|aJ ? ?;PE _ _ ( iI _ )>pv _;PE _ _ ( tC _ )>!dH|!dN|!sH|!Yg|gR rfl T.c_FIGURES.choose_spec %|gR rfl T.c_KINDS rfl|gR rfl T.c_LETTERS.choose_spec %|gR rfl T.c_MOST_BEND.choose_spec %|gR rfl T.c_MOST_FIGURES.choose_spec %|gR rfl T.c_MOST_LETTERS.choose_spec %|gR rfl T.c_MOST_MARKS.choose_spec %|gR rfl T.c_MOST_NUMBERS.choose_spec %|gR rfl T.c_NOUGHT rfl|tW rfl T.n_bool aGx rfl|tW rfl T.n_int Ni rfl|tW rfl T.n_str aCk rfl;#0>pxT rfl ?|sF rfl ?|!mO ? ? ? ?|aEq rfl ? ?|#0;PE _ _ ( jD _ _ _ _ )>gM Lv T R rfl ? ? ?|gM xW T R rfl ? ? ?|gM Yo T R rfl ? ? ?|gM Hk T R rfl ? ? ?|gM aEy T R rfl ? ? ?|gM Lu T R rfl ? ? ?|gM zR T R rfl ? ? ?|gM Lz T R rfl ? ? ?|gM Cq T R rfl ? ? ?|gM Hl T R rfl ? ? ?|gM xS T R rfl ? ? ?|gM gN T R rfl ? ? ?|gM Hz T R rfl ? ? ?|gM vX T R rfl ? ? ?|gM sJ T R rfl ? ? ?|gM xY T R rfl ? ? ?|gM rL T R rfl ? ? ?|gM Hu T R rfl ? ? ?|gM jT T R rfl ? ? ?|gM yD T R rfl ? ? ?|gM vV T R rfl ? ? ?|gM qH T R rfl ? ? ?|gM Td T R rfl ? ? ?|gM tE T R rfl ? ? ?|gM tI T R rfl ? ? ?|gM xT T R rfl ? ? ?|gM Cr T R rfl ? ? ?|gM Ls T R rfl ? ? ?|gM Lw T R rfl ? ? ?|gM sK T R rfl ? ? ?|gM yB T R rfl ? ? ?|gM mP T R rfl ? ? ?|gM qJ T R rfl ? ? ?|gM vU T R rfl ? ? ?|gM Cu T R rfl ? ? ?|gM Ct T R rfl ? ? ?|gM tG T R rfl ? ? ?|gM Lr T R rfl ? ? ?|gM Mb T R rfl ? ? ?|gM Cp T R rfl ? ? ?|gM Cv T R rfl ? ? ?|gM tF T R rfl ? ? ?|gM vW T R rfl ? ? ?|gM Hn T R rfl ? ? ?|gM Hm T R rfl ? ? ?|gM Cw T R rfl ? ? ?|gM Ma T R rfl ? ? ?|gM vS T R rfl ? ? ?|gM Ie T R rfl ? ? ?|gM vZ T R rfl ? ? ?|gM Hy T R rfl ? ? ?|gM xU T R rfl ? ? ?|gM vT T R rfl ? ? ?|gM yE T R rfl ? ? ?|gM Cs T R rfl ? ? ?|gM Hq T R rfl ? ? ?|gM yA T R rfl ? ? ?|gM vY T R rfl ? ? ?|gM qI T R rfl ? ? ?|gM wA T R rfl ? ? ?|gM tH T R rfl ? ? ?|gM Ht T R rfl ? ? ?;#1>#1;#2>!fS ? ? ?;#3>cO ( yH rfl ) rfl T.n_len l0 ?|kL qX rfl T.n_str Dl.boot_str ?|cO xH rfl T.n_abs Nj ?|qE pj u1 F.type_list_append zT ? ?|cO Eo rfl T.n_len l0 ?|cO ( aIh rfl ) rfl T.n_isinstance nS ?|qE ke tm F.type_str_partition Df ? ?|kL Uw rfl T.n_int Ni ?|kL ( aSs rfl ) rfl T.n_list aGw ?|cO ( Ay rfl ) rfl T.n_min aCl ?|cO ( Az rfl ) rfl T.n_max aCm ?|cO ( aWr rfl rfl ) rfl T.n_all Dl.boot_all ?|qE ke la xc Ik ? ?|qE ke nv r0 ( wE rfl ) ? ?|qE pj u6 F.type_list_insert Tk ? ?|Ll rfl rfl rfl T.n_list rfl T.n_reversed ?|kL Ux rfl T.n_int Ni ?|cO ( aVy rfl rfl ) rfl T.n_sum aOx ?|qE pj vz F.type_list_index ( Tl rfl R.units ) ? ?;PE _ _ _>!Yf ?|!lG ?|!aIc ? ?|!aEo ? ? ? ?|!aMg ?|!aMj ? ?|!aRy ? ?|!Yi ? ? ?|!aMh ?|Yk ? ? ? ? ?;Kq _ _ _>!dL|!cB ?|!aY ? ?|cB ?|aY ? ?;PS _ _ _>!fV ?|!fX ? ? ?|#2|Cf _ Z ?|Ya pk rfl ? ? ?|Xy pk ? ?|Pk ?|#3|#4|Lj ? ?|!mL|eS T.x_NoText R.hd ? rfl ?|eS T.x_NoMarks R.hd ? rfl ?|eS T.x_NoNumber R.hd ? rfl ?|eS T.x_NoKind R.hd ? rfl ?|eS T.x_NoAnswer R.hd ? rfl ?|eS T.x_NoBend R.hd ? rfl ?|eS T.x_NoName R.hd ? rfl ?|eS T.x_NoRow R.hd ? rfl ?;PW _ _ _>!rJ ?|!aEh ?|!sG ? ?|!aLx ? ?;PT _ _ _>!dF ? ? ? ?|vH ?|Ce ?|#5;PG _ _ _>pgS _ Z|pgC|#6|#7|#8|aMe ? ? Xf;PGs _ _ _>!Ck|mM ? ?;PTs _ _ _>!pZ|!aEj ?;PI _ _ _ _>Ye rfl ?|aMb rfl rfl T.n_zip ?|Ta rfl T.n_range ?|aEl rfl rfl T.n_zip ?|aMc ?|zN rfl T.n_range ?|Gy rfl rfl T.n_reversed ?|Sy rfl T.n_range ?;PO _ _ _>!qC|!qB ?;lM _ _ _>!Ps|!nO|!Yn|!rK|!qG|!Ym|!aMk|!Yl|!aIe|!fK|!zQ|!aSa|!aMl|!aMo|!Tc|!Cn|!aMm|!aSb|Ps|neK rfl R.units|eqK rfl R.units|aFc rfl R.units;iR _ _ _>!cG|kM;SlR _ _>!aLg|Xc rfl;IxR _ _>!aNn|aNk rfl;LcOk _ _ _ _ _>lcO rfl|#9;#4>#10;>Wc|eM _|#11".splitOn ";").toArray.mapM λy=>do
  let l:=y.splitOn ">"
  let g:=l.head!
  let x<-(l[1]!.splitOn "|").toArray.mapM λx=>do if x.startsWith "#" then pure E[(x.drop 1).toNat!]! else return (<-qq4 q x)[0]!
  let z<-`(tactic|first $[|$x:tactic]*)
  if g=="" then pure z else `(tactic|((with_reducible show $(if g.startsWith "#" then D[(g.drop 1).toNat!]! else qq3 q g));$z:tactic))
 `(tactic|repeat' (first $[|$x:tactic]*))
theorem jT:Q 1 0 (λ_=>aVt):=by
 refine fH 0 ["one","other","rest"] λA T R Z=>⟨_,by walk_at"t",_,(aH (pG (tO pU (aF 1) bI) (sA 2 (bZ dQ (aF 0) (aF 1)) (sA 0 (bE 1) (eL (bE 2) (aG 1)))))
   (dU 0)),?_⟩
 intro n Q X qQ0;refine qq0 λqq2=>?_;obtain⟨a,b,rfl,h,i,k⟩:=qQ0;refine qq2 ?_;walk_at"s";refine⟨λm f=>∃x y r,f=[γ<|.dat<|.int x,γ<|.dat<|.int y,r]/\m=y.toNat/\0<=x/\0<=y/\ck x y=ck a b,⟨_,a,b,ν,rfl,rfl,h,i,rfl⟩,?_⟩;intro m f qQ0;refine qq0 λqq2=>?_;obtain⟨x,y,r,rfl,rfl,j,l,g⟩:=qQ0;refine qq2 ?_;walk_at"d";refine bW (λc=>?_) λc=>?_
 ·have d:y≠0:=c;have e:0<y:=by lia
  walk_at"s";refine⟨e,?_⟩;walk_at"s";walk_at"d";refine⟨_,?_,y,x%y,_,rfl,rfl,l,pq _ d,?_⟩
  ·have:=tp x e;have:=pq x d;lia
  ·rw[Fm.gcd_step x y e,g]
 ·have d:y=0:=h8.mp c;subst d;rw[<-g,Fm.gcd_zero j]at k;exact k
def Se(C:Ζ):DW:=λa Q X=>∃t b:χ,a=[.int t,.int b]/\Wee b/\(b=0->X C)/\(b≠0->Q (.dat<|fr<|bz t b))
theorem Hz:Q 2 1 (λA=>(Se A.x_NoNumber)):=by
 intro A P w K mg base T;refine okW (T.G 1).F mJ (by walk_at"l") λk p outer s H E g=>?_
 refine⟨_,(aY (fX (dF nO (pv 1) dH (eM _)) (cB (eS T.x_NoNumber g.hd kM rfl (aJ dN aX))) dL)
   (aY (Cf 2 mJ (nN (jT _ T) g (T.G 0) cG (aJ (cO xH rfl T.n_abs Nj (aJ (pv 0) aX)) (aJ (cO xH rfl T.n_abs Nj (aJ (pv 1) aX)) aX))))
   (aY (fX (dF Yl (pv 1) dH (eM _)) (cB (Cf 2 mJ (aIc Wc (pv 2)))) dL)
   (cB (fV (Yf (aJ (fS Hi (pv 0) (pv 2)) (aJ (fS Hi (pv 1) (pv 2)) aX)))))))),_,(aH (bF (tO cR (aF 1) bI) (cY (aI aT aQ)) aP)
   (sA 2 (aE (vE (bQ lE (vN 0 aB)) (vE (bQ lE (vN 1 aB)) aB))) (nY (bF (tO eW (aF 1) bI) (eL (iA (aF 2)) (aG 2)) aP)
   (bB (aC (cH (aI (bZ dQ (aF 0) (aF 2)) (aI (bZ dQ (aF 1) (aF 2)) aQ)))))))),?_⟩
 intro q Q X qQ0;refine qq0 λqq2=>?_;obtain⟨t,b,rfl,hw,l,m⟩:=qQ0;refine qq2 ?_;walk_at"s";refine bW (λc=>?_) λc=>?_
 ·exact l c
 have d:b≠0:=c;have n:=m d;walk_at"s";refine⟨_,_,rfl,by rw[Fm.abs_if];exact 29,by rw[Fm.abs_if];exact 29,?_⟩;have o:ck (if t<0 then -t else t) (if b<0 then -b else b)=ck t b:=by
  rw[Fm.abs_if,Fm.abs_if];simp[ck]
 rw[o];walk_at"d";refine ?_;have r:=Fm.gcd_pos_right (a:=t) d;have h:=Oe (Fm.gcd_le_right (a:=t) d) hw;refine oU (λi=>i=[γ<|.dat<|.int t,γ<|.dat<|.int b,γ<|.dat<|.int<|if b<0 then -((ck t b:π):χ)else((ck t b:π):χ)]) ?_ ?_
 ·walk_at"d";refine bW (λf=>?_) (λf=>?_)
  ·rw[ρ f]
  ·rw[ι f]
 ·rintro i rfl;walk_at"d";have j:(if b<0 then -((ck t b:π):χ)else((ck t b:π):χ))≠0:=by split <;>lia
  have e:Wee (if b<0 then -((ck t b:π):χ)else((ck t b:π):χ)):=by
   split
   ·exact Od h
   ·exact h
  refine⟨⟨j,e⟩,⟨j,e⟩,?_⟩;rw[Fm.fr_num d,Fm.fr_den d];exact n
def aKa(f:θ->θ->θ):DW:=λc Q _=>∃a b:θ,c=[fr a,fr b]/\Ok a/\Ok b/\Q (.dat<|fr<|f a b)
theorem aEy:Q 2 2 (λ_=>(aKa (·+·))):=by
 refine fH 2 ["one","other","shared","rest","top","divisor"] λA T R Z=>⟨_,by walk_at"t",_,(sA 2 (aE<|vE (eX 1 0)<|vE (eX 1 1) aB)<|sA 3 (bZ dQ (aC<|eX 1 0)<|aF 2)<|sA 4 (bZ cN (bO dQ (aC<|eX 0 0)<|bO dQ (aC<|eX 1 1)<|aF 2)<|bO dQ (aC<|eX 0 1)<|aF 3)<|sA 5 (aE<|vN 2<|vE (bQ lE<|vN 4 aB) aB)<|bB<|aC<|cH<|aI (bZ dQ (aF 4)<|aF 5)<|aI (bZ dQ (aF 3)<|bO dQ (aC<|eX 1 1)<|aF 5) aQ),?_⟩;intro q Q X qQ0;refine qq0 λqq2=>?_;obtain⟨a,b,rfl,c,f,k⟩:=qQ0;refine qq2 ?_;have h:0<a.den.gcd b.den:=lq _<|dX a.den_nz;have d:Wee ((a.den.gcd b.den:π):χ):=iX (wR (dX a.den_nz)<|n4 _ _) c.d;walk_at"s";refine⟨_,_,rfl,‹29›,‹29›,?_⟩;rw[qp];generalize m:a.den.gcd b.den=e at h d⊢;walk_at"d";refine ?_;walk_at"s";refine⟨⟨‹19›,d⟩,?_⟩;rw[<-mn];walk_at"s";refine⟨⟨‹19›,d⟩,?_⟩;rw[<-mn];refine⟨dJ c.n<|iX (pf _ _) f.d,dJ f.n<|iX (pf _ _) c.d,?_⟩;generalize n:a.num*((b.den/e:π):χ)+b.num*((a.den/e:π):χ)=j;walk_at"s";refine⟨_,_,rfl,‹29›,by rw[Fm.abs_if];exact 29,?_⟩;rw[Fm.abs_if,qp];generalize i:e.gcd j.natAbs=g;have r:0<g:=by rw[<-i];exact lq _ h
 have l:Wee (g:χ):=iX (by rw[<-i];exact wR h<|n4 _ _) d;walk_at"d";refine ?_;obtain⟨o,p⟩:=Fm.add_parts a b e m.symm j n.symm g i.symm;walk_at"d";refine⟨⟨‹19›,l⟩,⟨‹19›,l⟩,dJ (iX (pf _ _) c.d) (by rw[<-mn];exact iX (pf _ _) f.d),?_⟩;rw[<-mn,<-r4,<-o,<-p];exact k
theorem Yo:Q 3 3 (λ_=>(aKa (·-·))):=by
 refine fH 3 ["one","other"] λA T R Z=>⟨_,by walk_at"t",_,(bB<|aC<|aE<|vN 0<|vE (cH<|aI (iA<|aC<|eX 0 1)<|aI (eX 1 1) aQ) aB),?_⟩;intro e Q X qQ0;refine qq0 λqq2=>?_;obtain⟨a,b,rfl,d,c,k⟩:=qQ0;refine qq2 ?_;walk_at"d";refine⟨a,-b,rfl,d,⟨Od c.n,c.d⟩,rfl,?_⟩;dsimp only;rw[<-mr];exact k
theorem Lv:Q 3 4 (λ_=>(aKa (·*·))):=by
 refine fH 4 ["one","other","left","right"] λA T R Z=>⟨_,by walk_at"t",_,(sA 2 (aE<|vE (eX 0 0)<|vE (eX 1 1) aB)<|sA 3 (aE<|vE (eX 0 1)<|vE (eX 1 0) aB)<|bB<|aC<|cH<|aI (bZ dQ (aC<|eX 0 2)<|aC<|eX 0 3)<|aI (bZ dQ (aC<|eX 1 2)<|aC<|eX 1 3) aQ),?_⟩;intro i Q X qQ0;refine qq0 λqq2=>?_;obtain⟨a,b,rfl,c,d,k⟩:=qQ0;refine qq2 ?_;have e:((b.den:π):χ)≠0:=by have:=b.den_nz;exact 128
 have f:((a.den:π):χ)≠0:=by have:=a.den_nz;exact 128
 obtain⟨g,h⟩:=Fm.mul_parts a b;walk_at"s";refine⟨_,_,rfl,d.d,λz=>ψ z e,λ_=>?_⟩;walk_at"s";refine⟨_,_,rfl,c.d,λz=>ψ z f,λ_=>?_⟩;have j:=Fm.num_le a.num e;have l:=Fm.den_le a.num e;have m:=Fm.num_le b.num f;have n:=Fm.den_le b.num f;have o:=c.n;have p:=c.d;have q:=d.n;have r:=d.d
 walk_at"d";refine⟨dJ (by unfold Wee at *;exact 104) (by unfold Wee at *;exact 104),dJ (by unfold Wee at *;exact 104) (by unfold Wee at *;exact 104),?_⟩;rw[<-r4,<-g,<-h];exact k
def aQn:DW:=λc Q _=>∃a b:θ,c=[fr a,fr b]/\Ok a/\Ok b/\Q (.dat<|.bool<|decide (a<b))
theorem Lz:Q 1 6 (λ_=>aQn):=by
 refine fH 6 ["one","other"] λA T R Z=>⟨_,by walk_at"t",_,(bB<|bO eW (bO dQ (aC<|eX 0 0)<|aC<|eX 1 1)<|bO dQ (aC<|eX 0 1)<|aC<|eX 1 0),?_⟩;intro f Q X qQ0;refine qq0 λqq2=>?_;obtain⟨a,b,rfl,c,d,k⟩:=qQ0;refine qq2 ?_;walk_at"d";refine⟨dJ c.n d.d,dJ d.n c.d,?_⟩;have e:decide (a.num*(b.den:χ)<b.num*(a.den:χ))=decide (a<b):=by
  rw[xf];exact Fm.less_iff a b
 rw[e];exact k
def aQi(C:Ζ):DW:=λc Q X=>∃a b:θ,c=[fr a,fr b]/\Ok a/\Ok b/\(b=0->X C)/\(b≠0->Q (.dat<|fr<|a/b))
theorem Hl:Q 4 5 (λA=>(aQi A.x_NoNumber)):=by
 refine fH 5 ["one","other"] λA T R Z=>⟨_,by walk_at"t",_,(aH (bF (tO cR (aC (eX 0 1)) bI) (cY (aI aT aQ)) aP)
   (bB (aC (aE (vN 0 (vE (aE (vE (eX 1 1) (vE (eX 0 1) aB))) aB)))))),?_⟩
 intro j Q X qQ0;refine qq0 λqq2=>?_;obtain⟨a,b,rfl,f,e,g,h⟩:=qQ0;refine qq2 ?_;walk_at"s";refine bW (λc=>?_) λc=>?_
 ·exact g<|sy.mp c
 ·have d:b.num≠0:=c;have i:b≠0:=λz=>d (by rw[z];rfl);walk_at"d";refine⟨_,_,rfl,e.n,λz=>ψ z d,λ_=>⟨rfl,a,b⁻¹,?_,f,?_,rfl,?_⟩⟩
  ·rw[Fm.div_inv]
  ·rw[<-Fm.div_inv];have k:=Fm.num_le (b.den:χ) d;have l:=Fm.den_le (b.den:χ) d;have m:=e.n;have n:=e.d
   exact⟨by unfold Wee at *;exact 104,by unfold Wee at *;exact 104⟩
  ·dsimp only;rw[<-jb];exact h i
theorem aHd(f:b->c)(a:ε b)(i:χ):oX (a.map f) i=(oX a i).map f:=by
 unfold oX;rw[η];cases Uf a.length i with
 |none=>rfl
 |some j=>exact el
theorem aUi{b:Type}[Inhabited b]{a:ε b}{k:χ}(d:0<=k)(f:k<(a.length:χ)):oX a k=γ (a.getD k.toNat default):=by
 have e:k=((k.toNat:π):χ):=‹32›
 have c:k.toNat<a.length:=by omega
 conv=>lhs;rw[e]
 refine fQ ?_;rw[ah c];simp[getD,c]
theorem Es{a b:Type}[Inhabited a](f:a->b){xs:ε a}{k:χ}(c:0<=k)(d:k<(xs.length:χ)):oX (xs.map f) k=γ (f<|xs.getD k.toNat default):=by
 rw[aHd,aUi c d];rfl
theorem getD_mem'{b:Type}[Inhabited b]{a:ε b}{j:π}(h:j<a.length):a.getD j default∈a:=by
 have e:a.getD j default=a[j]:=by simp[getD,h]
 rw[e];exact ax h
theorem aAd{b:Type}[Inhabited b]{a:ε b}{j:π}{p:b->Prop}(h:∀v∈a,p v)(d:p default):p (a.getD j default):=by
 by_cases c:j<a.length
 ·exact h _<|getD_mem' c
 ·have e:a.getD j default=default:=by simp[getD,c]
  rw[e];exact d
def Sc(C:Ζ):DW:=λb Q X=>∃a:ε θ,b=[.list<|a.map fr]/\(∀q∈a,Ok q)/\(a=[]->X C)/\∀q∈a,(∀r∈a,r<=q)->Q (.dat<|fr q)
theorem vV:Q 2 9 (λA=>(Sc A.x_NoNumber)):=by
 refine fH 9 ["some","greatest","one"] λA T R Z=>⟨_,by walk_at"t",_,(aH (bF (tO cR (aC (bQ cT (vN 0 aB))) bI) (cY (aI aT aQ)) aP)
   (sA 1 (bR (aL 0) bI) (aH (eA (iV (bE 0)) (aG 2)
    (bF (lA (aC (aE (vN 1 (vN 2 aB))))) (eL (bE 2) (aG 1)) aP))
   (dU 1)))),?_⟩
 intro y Q X qQ0;refine qq0 λqq2=>?_;obtain⟨a,rfl,p,t,k⟩:=qQ0;refine qq2 ?_;walk_at"s";rcases a with _|⟨b,a⟩
 ·rw[ρ<|by simp];exact t rfl
 rw[ι (by simp;lia)];walk_at"s";refine⟨fr b,fQ (j:=0) rfl,cW<|eJ fr (b::a) (λQ h=>h) (λi m=>∃q r,m=[γ<|.dat<|.list<|(b::a).map fr,γ<|.dat<|fr q,r]/\q∈b::a/\∀j r,j<i->(b::a)[j]? =γ r->r<=q) ⟨b,ν,rfl,υ,λj r f=>ψ f<|og _⟩ ?_ ?_⟩
 ·intro i g m n qQ0;refine qq0 λqq2=>?_;obtain⟨q,r,rfl,l,d⟩:=qQ0;refine qq2 ?_;walk_at"d";refine⟨q,g,rfl,p q l,p g<|Ω n,?_⟩;walk_at"d";have s:∀z,q<=z->g<=z->∀j r,j<i+1->(b::a)[j]? =γ r->r<=z:=λz u v j r f e=>by
   by_cases o:j=i
   ·subst o;rw[n]at e;cases e;exact v
   ·exact vA (d j r ‹13› e) u
  refine bW (λc=>?_) λc=>?_
  ·exact⟨g,_,rfl,Ω n,s g ‹40› au⟩
  ·exact⟨q,_,rfl,l,s q au<|jk.mp c⟩
 ·intro m qQ0;refine qq0 λqq2=>?_;obtain⟨q,r,rfl,l,d⟩:=qQ0;refine qq2 ?_;walk_at"d";refine k q l λr x=>?_;obtain⟨j,f⟩:=tq x;exact d j r (Δ.mp f).1 f
def tot:ε θ->θ
 |[]=>0
 |q::a=>q+tot a
theorem tM:∀(a b:ε θ),tot (a++b)=tot a+tot b
 |[],b=>by simp[tot,vR]
 |q::a,b=>by
  show q+tot (a++b)=q+tot a+tot b;rw[tM a b,ze]
theorem uQ(a:ε θ)(q:θ):tot (a++[q])=tot a+q:=by
 rw[tM];simp[tot,ji]
theorem fO{b:Type}{a:ε b}{x:b}(h:a[i]? =γ x):a.take (i+1)=a.take i++[x]:=by
 rw[rj,h];rfl
def aKb:DW:=λb Q _=>∃a:ε θ,b=[.list<|a.map fr]/\(∀q∈a,Ok q)/\(∀i,Ok<|tot<|a.take i)/\Q (.dat<|fr<|tot a)
theorem Hk:Q 3 8 (λ_=>aKb):=by
 refine fH 8 ["some","total","one"] λA T R Z=>⟨_,by walk_at"t",_,(sA 1 (qT T.k_NOUGHT) (aH (eA (iV (bE 0)) (aG 2)
    (eL (aE (vN 1 (vN 2 aB))) (aG 1)))
   (dU 1))),?_⟩
 intro f Q X qQ0;refine qq0 λqq2=>?_;obtain⟨a,rfl,d,e,k⟩:=qQ0;refine qq2 ?_;walk_at"s";refine ?_;refine cW<|eJ fr a (λQ h=>h) (λi b=>∃r,b=[γ<|.dat<|.list<|a.map fr,γ<|.dat<|fr<|tot<|a.take i,r]) ⟨ν,rfl⟩ ?_ ?_
 ·intro i q b c qQ0;refine qq0 λqq2=>?_;obtain⟨r,rfl⟩:=qQ0;refine qq2 ?_;walk_at"d";refine⟨_,q,rfl,e i,d q<|Ω c,?_⟩;walk_at"d";exact⟨_,by rw[fO c,uQ]⟩
 ·rintro b ⟨r,rfl⟩;walk_at"d";rw[bA<|ω _];exact k
theorem aN{b c:Type}(f:b->c):∀a:ε b,a.flatMap (λx=>[f x])=a.map f
 |[]=>rfl
 |x::a=>by simp[aN f a]
abbrev Mk:=θ×θ×χ
abbrev cP(m:Mk):μ:=.tuple [fr m.1,fr m.2.1,.int m.2.2]
theorem qM:∀a:ε Mk,eC (a.map cP)=true
 |[]=>rfl
 |m::a=>by
  have:=qM a;simp only[Μ,eC,nR,this,ly]
def Bg(n:π)(v:χ):Prop:=v.natAbs<2^n
theorem Bg.bits(h:Bg n v):bj v<=n:=Rr h
theorem Bg.of(h:bj v<=n):Bg (n+1) v:=by
 unfold Bg;by_cases a:v=0
 ·subst a;exact Nat.two_pow_pos _
 ·unfold bj at h;rw[ι<|by simpa using a]at h;exact(yi<|‹16›).mp ‹3›
theorem Bg.mono(h:Bg n v)(l:n<=m):Bg m v:=av h<|Ρ (by decide) l
theorem Bg.add(c:Bg n a)(d:Bg n b):Bg (n+1) (a+b):=by
 unfold Bg at *
 rw[eT];have:=vx a b;lia
theorem Bg.small(h:a.natAbs<2^64)(b:64<=n):Bg n a:=av h<|Ρ (by decide) b
open Fm
theorem cA(h:Dg n q)(l:n<=2400:=by decide):Ok q:=okS (h.mono l) (by decide +kernel)
theorem kA(h:i.natAbs<=10^n)(l:n<=2400):Wee i:=fR<|Α h<|mB l
theorem Mf(a b:θ):bz (a.num*b.num) ((a.den:χ)*(b.den:χ))=a*b:=by
 have c:=Fm.num_eq a;have d:=Fm.num_eq b;refine(Fm.eq_divInt (by have:=a.den_nz;have:=b.den_nz;exact kg ‹28›<|‹28›) ?_).symm;rw[ae,ae,c,d];simp only[Ι];grind
theorem aAz(c:Dg n a)(d:Dg m b)(l:n+m<=2400):Wee ((a.den:χ)*(b.den:χ)):=by
 refine kA (n:=n+m) ?_ l;rw[dj,jd];exact Τ c.d d.d
theorem cK{c d:Type}(f:c->μ)(g:d->μ):∀(a:ε c)(b:ε d),pairD (a.map f) (b.map g)=(a.zip b).map λp=>ay [f p.1,g p.2]
 |[],_=>by simp[Dl.pairD]
 |x::a,[]=>by simp[Dl.pairD]
 |x::a,y::b=>by
  have:=cK f g a b;simp[Dl.pairD,this]
theorem jR{c d e:Type}(f:c->d->e):∀(a:ε c)(b:ε d),((a.zip b).map λp=>f p.1 p.2)=af f a b
 |[],_=>by simp
 |x::a,[]=>by simp
 |x::a,y::b=>by simp[jR f a b]
theorem kW{e f:Type}{p:e->Prop}{q:f->Prop}:∀{c:ε e}{d:ε f},(∀x∈c,p x)->(∀y∈d,q y)->∀z∈c.zip d,p z.1/\q z.2:=λ{c d} g h z i=>by
 have:=eh (a:=z.1) (b:=z.2) i;exact⟨g _ this.1,h _ this.2⟩
theorem fJ{a b c:Type}{f:a->b->c}{p:a->Prop}{q:b->Prop}{r:c->Prop}{d:ε a}{e:ε b}(i:∀x∈d,p x)(j:∀y∈e,q y)(h:∀x y,p x->q y->r (f x y)):∀z∈af f d e,r z:=λz g=>by
 rw[<-jR]at g;obtain⟨w,hw,rfl⟩:=Β.mp g;have:=kW i j w hw;exact h _ _ this.1 this.2
def bM(b:ε Mk)(a:ε θ):ε θ:=af (λ(m:Mk) h=>m.2.1-h) b a
def cI(b:ε Mk)(a:ε θ):ε θ:=af (λ(m:Mk) x=>(m.2.2:θ)*x) b<|bM b a
def xN(d:ε Mk)(c:ε θ):ε θ:=af (λa b=>a*b) (cI d c)<|bM d c
def gC:ε θ->θ
 |[]=>0
 |x::a=>if gC a<x then x else gC a
theorem nE:∀a:ε θ,0<=gC a
 |[]=>au
 |x::a=>by
  have:=nE a;unfold gC;split
  ·grind
  ·exact this
theorem jV:∀{a:ε θ},∀x∈a,x<=gC a
 |y::a,x,h=>by
  have b:=@jV a;unfold gC;rcases Υ.mp h with rfl|h
  ·split
   ·exact au
   ·exact jk.mp ‹_›
  ·have:=b x h;split
   ·grind
   ·exact this
theorem gA:∀{a:ε θ},gC a=0\/gC a∈a
 |[]=>.inl rfl
 |x::a=>by
  unfold gC;split
  ·exact .inr υ
  ·rcases @gA a with h|h
   ·exact .inl h
   ·exact .inr<|ο _ h
theorem nF(c:0<=m)(b:m=0\/m∈a)(d:∀x∈a,x<=m):m=gC a:=by
 refine xt ?_ ?_
 ·rcases b with rfl|b
  ·exact nE a
  ·exact jV m b
 ·rcases @gA a with h|h
  ·rw[h];exact c
  ·exact d _ h
def dS(c:bf)(b:ε Mk)(a:ε θ):θ:=if c="far" then gC ((bM b a).map aM)else if c="sum" then tot ((cI b a).map aM)else tot (xN b a)
theorem Cm.tot:∀{qs:ε θ},(∀q∈qs,Cm L B q)->Cm L (qs.length*B) (tot qs)
 |[],_=>Cm.zero
 |q::qs,h=>by
  have a:=h q υ;have b:=Cm.tot (qs:=qs) λx c=>h x<|ο _ c;exact(a.add b).mono (dA _) (by rw[Ε,l5];exact 48)
theorem gQ(h:B<=10^b):B+B<=10^(b+1):=by rw[eT];lia
theorem gH(h:B<=10^b)(a:C<=10^c):B*C<=10^(b+c):=by rw[jd];exact Τ h a
theorem iZ(a:n<=60)(h:B<=10^b):n*B<=10^(b+2):=by
 have:n*B<=60*10^b:=Τ a h;rw[jd];lia
structure MSz(L B W l b wd:π)(ms:ε Mk)(row:ε θ):Prop where
 len:ms.length<=60
 pos:0<L
 pL:L<=10^l
 pB:B<=10^b
 pW:W<=10^wd
 h:∀m∈ms,Cm L B m.2.1
 r:∀q∈row,Cm L B q
 w:∀m∈ms,m.2.2.natAbs<=W
 fit:2*l+2*b+wd+6<=2400
theorem MSz.miss(z:MSz L B W l b d ms row):∀x∈bM ms row,Cm L (B+B) x:=fJ z.h z.r λ_ _ a c=>a.sub c
theorem MSz.wmiss(z:MSz L B W l b d ms row):∀x∈cI ms row,Cm L (W*(B+B)) x:=fJ z.w z.miss λ_ _ a c=>((Cm.int a).mul c).mono (by rw[jc];exact dA _)<|ω _
theorem MSz.sq(z:MSz L B W l b d ms row):∀x∈xN ms row,Cm (L*L) (W*(B+B)*(B+B)) x:=fJ z.wmiss z.miss λ_ _ a c=>a.mul c
theorem MSz.missOk(z:MSz L B W l b c ms row):∀x∈bM ms row,Ok x:=λx a=>cA ((z.miss x a).dg z.pos z.pL<|gQ z.pB) (by have:=z.fit;lia)
theorem MSz.wmissOk(z:MSz L B W l b c ms row):∀x∈cI ms row,Ok x:=λx a=>cA ((z.wmiss x a).dg z.pos z.pL<|gH z.pW<|gQ z.pB) (by have:=z.fit;lia)
theorem MSz.sqOk(z:MSz L B W l b c ms row):∀x∈xN ms row,Ok x:=λx a=>cA ((z.sq x a).dg (fq z.pos z.pos) (gH z.pL z.pL)<|gH (gH z.pW<|gQ z.pB)<|gQ z.pB) (by have:=z.fit;lia)
theorem kY:(cI ms row).length<=ms.length:=by unfold cI;rw[ba];exact 50
theorem Ou:(xN ms row).length<=ms.length:=by unfold xN;rw[ba];have:=kY (ms:=ms) (row:=row);exact 50
theorem MSz.sumOk(z:MSz L B W l b e ms row)(i:π):Ok (tot<|((cI ms row).map aM).take i):=by
 have h:=Cm.tot (qs:=((cI ms row).map aM).take i) (L:=L) (B:=W*(B+B)) λq a=>by
  obtain⟨x,c,rfl⟩:=Β.mp<|cv a;exact(z.wmiss x c).abs
 have d:(((cI ms row).map aM).take i).length<=60:=by
  rw[ao,η];have:=kY (ms:=ms) (row:=row);have:=z.len;exact 50
 exact cA (h.dg z.pos z.pL<|iZ d<|gH z.pW<|gQ z.pB) (by have:=z.fit;lia)
theorem MSz.sqsOk(z:MSz L B W l b d ms row)(i:π):Ok (tot<|(xN ms row).take i):=by
 have h:=Cm.tot (qs:=(xN ms row).take i) (L:=L*L) (B:=W*(B+B)*(B+B)) λq a=>z.sq q<|cv a;have c:((xN ms row).take i).length<=60:=by
  rw[ao];have:=Ou (ms:=ms) (row:=row);have:=z.len;exact 50
 exact cA (h.dg (fq z.pos z.pos) (gH z.pL z.pL)<|iZ c<|gH (gH z.pW<|gQ z.pB)<|gQ z.pB) (by have:=z.fit;lia)
theorem MSz.measOk(z:MSz L B W l b d ms row):Ok (dS a ms row):=by
 unfold dS;split
 ·rcases @gA ((bM ms row).map aM)with h|h
  ·rw[h];exact⟨Sa,show Wee ((1:π):χ)from Sa⟩
  ·obtain⟨x,c,e⟩:=Β.mp h;rw[<-e];have:=z.missOk x c;exact⟨by rw[iL];have:=this.n;unfold Wee at *;assumption,this.d⟩
 ·split
  ·have:=z.sumOk ((cI ms row).map aM).length
   rwa [bA<|ω _]at this
  ·have:=z.sqsOk (xN ms row).length
   rwa [bA<|ω _]at this
theorem MSz.hOk(z:MSz L B W l b c ms row):∀m∈ms,Ok m.2.1:=λm a=>cA ((z.h m a).dg z.pos z.pL z.pB) (by have:=z.fit;lia)
theorem MSz.rOk(z:MSz L B W l b c ms row):∀q∈row,Ok q:=λm a=>cA ((z.r m a).dg z.pos z.pL z.pB) (by have:=z.fit;lia)
theorem MSz.wOk(z:MSz L B W l b c ms row)(a:m∈ms):Ok (m.2.2:θ):=⟨kA (Α (z.w m a) z.pW) (by have:=z.fit;lia),show Wee ((1:π):χ)from Sa⟩
def aQg:DW:=λa Q _=>∃q:θ,a=[fr q]/\Q (.dat<|fr<|aM q)
theorem Lu:Q 1 7 (λ_=>aQg):=by
 refine fH 7 ["one"] λA T R Z=>⟨_,by walk_at"t",_,(bB<|aC<|cH<|aI (bQ lE<|vE (eX 0 0) aB)<|aI (eX 1 0) aQ),?_⟩;rintro a Q X ⟨q,rfl,k⟩;walk_at"d";rw[Fm.abs_if];exact k
def aDi:DW:=λc Q _=>∃(b:ε Mk)(a:ε θ),c=[.list<|b.map cP,.list<|a.map fr]/\b.length<=1000/\(∀m∈b,Ok m.2.1)/\(∀q∈a,Ok q)/\Q (.own<|(bM b a).map fr)
theorem Cq:Q 4 21 (λ_=>aDi):=by
 refine fH 21 ["marks","row"] λA T R Z=>⟨_,by walk_at"t",_,(dW<|bS [ν,ν] ["mark","height"] (fM (aL 0)<|aL 1) (eB<|aW (aG 0)<|aW (aG 1) dO) bV<|aE<|vE (eX 1 0)<|vN 1 aB),?_⟩;intro g Q X qQ0;refine qq0 λqq2=>?_;obtain⟨b,a,rfl,i,c,R',k⟩:=qQ0;refine qq2 ?_;walk_at"d"
 refine bL (λp:Mk×θ=>ay [cP p.1,fr p.2]) fr (λp:Mk×θ=>[p.1.2.1-p.2]) (b.zip a) (by rw[dR];exact 50) (λQ h=>by
   walk_at"d"
   rw[cK];exact h) (λp d N e f=>?_) ?_
 ·have:=kW c R' p d;walk_at"d";refine⟨p.1.2.1,p.2,rfl,this.1,this.2,?_⟩;walk_at"d";exact f
 ·rw[aN,jR λ(m:Mk) h=>m.2.1-h];exact k
def Vo:DW:=λd Q _=>∃(c:ε Mk)(a:ε θ)(L B W l b e:π),d=[.list<|c.map cP,.list<|a.map fr]/\MSz L B W l b e c a/\Q (.own<|(cI c a).map fr)
theorem qH:Q 5 23 (λ_=>Vo):=by
 refine fH 23 ["marks","row"] λA T R Z=>⟨_,by walk_at"t",_,(dW<|bS [ν,ν] ["mark","miss"] (fM (aL 0)<|lP<|bH<|vN 0<|vN 1 aB) (eB<|aW (aG 0)<|aW (aG 1) dO) bV<|aE<|vE (cH<|aI (eX 2 0)<|aI aU aQ)<|vN 1 aB),?_⟩;intro g Q X qQ0;refine qq0 λqq2=>?_;obtain⟨c,a,L,B,W,l,b,i,rfl,z,k⟩:=qQ0;refine qq2 ?_;walk_at"d"
 refine bL (λp:Mk×θ=>ay [cP p.1,fr p.2]) fr (λp:Mk×θ=>[(p.1.2.2:θ)*p.2]) (c.zip (bM c a)) (by rw[dR];have:=z.len;exact 50) (λQ h=>by
   walk_at"d"
   refine⟨c,a,rfl,by have:=z.len;exact 1,z.hOk,z.rOk,?_⟩
   walk_at"d"
   refine⟨bP _,?_⟩
   rw[cK];exact h) (λp d N e f=>?_) ?_
 ·have:=kW (p:=λm=>m∈c) (λ_ h=>h) z.missOk p d;walk_at"d";refine⟨(p.1.2.2:θ),p.2,rfl,z.wOk this.1,this.2,?_⟩;walk_at"d";exact f
 ·rw[aN,jR λ(m:Mk) x=>(m.2.2:θ)*x];exact k
def eV:ε bf:=["far","sum","square"]
def aNj:ε {x:bf//PyData.strOk x=true}:=[⟨"far",by decide +kernel⟩,⟨"sum",by decide +kernel⟩,⟨"square",by decide +kernel⟩]
theorem aFs(h:PyData.strOk a=true):(⟨a,h⟩:{x:bf//PyData.strOk x=true})∈aNj↔a∈eV:=by
 simp[aNj,eV,yb]
def aKt(C:Ζ):DW:=λb Q X=>∃d:μ,b=[d]/\(∀a:bf,d= .str a->PyData.strOk a=true)/\((∃a:bf,d= .str a/\a∈eV)->Q (.dat .none))/\((∀a:bf,d= .str a->a∉eV)->X C)
theorem yD:Q 1 22 (λA=>(aKt A.x_NoKind)):=by
 refine fH 22 ["kind"] λA T R Z=>⟨_,by walk_at"t",_,(bF (gL (jZ<|lA<|aC<|oQ (by decide)<|aF 0)<|tO zH (aF 0)<|aC<|qT T.k_KINDS) (cY<|aI aT aQ) aP),?_⟩;intro k Q X qQ0;refine qq0 λqq2=>?_;obtain⟨d,rfl,ok,g,f⟩:=qQ0;refine qq2 ?_;have i:(∀a:bf,d≠ .str a)->X A.x_NoKind:=λh=>f λa e=>ψ e<|h a;cases d with
 |str a=>
  walk_at"d";refine⟨_,aOa,⟨a,ok a rfl⟩,aNj,rfl,rfl,λb c=>?_⟩;rw[aFs]at c;cases b with
  |true=>
   walk_at"d";exact g ⟨a,rfl,c.mp rfl⟩
  |false=>
   walk_at"d";refine f λj e h=>?_;cases e;exact ψ (c.mpr h) (by decide)
 |_=>exact i λ_=>by simp
def aHn(C:Ζ):DW:=λf Q X=>∃(d:μ)(e:ε Mk)(a:ε θ)(L B W l b g:π),f=[d,.list<|e.map cP,.list<|a.map fr]/\MSz L B W l b g e a/\e≠[]/\a.length=e.length/\(∀c:bf,d= .str c->PyData.strOk c=true)/\
 (∀c:bf,d= .str c->c∈eV->Q (.dat<|fr<|dS c e a))/\((∀c:bf,d= .str c->c∉eV)->X C)
theorem sJ:Q 6 24 (λA=>(aHn A.x_NoKind)):=by
 refine fH 24 ["kind","marks","row","misses","weighed"] λA T R Z=>⟨_,by walk_at"t",_,(aH (pI (aC (iE (vN 0 aB))))
   (aH (aZ 3 (bH (vN 1 (vN 2 aB))))
   (aH (bF (tO cR (aF 0) (aC aT)) (bB (aC (aE (vE (cL (bS [ν] ["miss"] (cE (aL 3)) (aG 0) bV (aE (vN 0 aB)))) aB)))) aP)
   (aH (aZ 4 (bH (vN 1 (vN 2 aB))))
   (aH (bF (tO cR (aF 0) (aC aT)) (bB (aC (aE (vE (cL (bS [ν] ["one"] (cE (aL 4)) (aG 0) bV (aE (vN 0 aB)))) aB)))) aP)
   (bB (aC (aE (vE (cL (bS [ν,ν] ["one","miss"] (fM (aL 4) (aL 3)) (eB (aW (aG 0) (aW (aG 1) dO))) bV (aE (vN 0 (vN 1 aB))))) aB))))))))),?_⟩
 intro J Q X qQ0;refine qq0 λqq2=>?_;obtain⟨d,ms,row,L,B,W,l,b,C,rfl,z,n,D,ok,k,E⟩:=qQ0;refine qq2 ?_;have M:=z.len;walk_at"s";refine⟨d,rfl,ok,?_,E⟩;intro qQ0;refine qq0 λqq2=>?_;obtain⟨g,rfl,o⟩:=qQ0;refine qq2 ?_;have i:=k g rfl o;walk_at"s";refine⟨ms,row,rfl,‹101›,z.hOk,z.rOk,?_⟩;walk_at"d";refine⟨bP _,?_⟩;walk_at"s";have r:(bM ms row).length=ms.length:=by unfold bM;rw[ba];exact 50
 refine bW (λc=>?_) λc=>?_
 ·have s:g="far":=c;subst s;have e:dS "far" ms row=gC ((bM ms row).map aM):=by unfold dS;rw[ρ rfl]
  rw[e]at i;walk_at"d";refine bL fr fr (λq:θ=>[aM q]) (bM ms row) ‹110› (λQ h=>h) (λq f N j m=>?_) ?_
  ·walk_at"d";refine⟨q,rfl,?_⟩;walk_at"d";exact m
  rw[aN];refine⟨(bM ms row).map aM,rfl,λq f=>?_,λF=>?_,λq f t=>?_⟩
  ·obtain⟨x,u,rfl⟩:=Β.mp f;have:=z.missOk x u;exact⟨by rw[iL];have:=this.n;unfold Wee at *;assumption,this.d⟩
  ·have:=ea length F;rw[η,r]at this;exact ψ (gq.mp this) n
  ·have v:0<=q:=by
    obtain⟨x,_,rfl⟩:=Β.mp f;exact gI x
   rw[nF v (.inr f) t];walk_at"d";exact i
 have G:g≠"far":=c;walk_at"s";refine⟨ms,row,L,B,W,l,b,C,rfl,z,?_⟩;walk_at"d";refine⟨bP _,?_⟩;walk_at"s";have H:=kY (ms:=ms) (row:=row);refine bW (λc=>?_) λc=>?_
 ·have s:g="sum":=c;subst s;have e:dS "sum" ms row=tot ((cI ms row).map aM):=by unfold dS;rw[ι<|by decide,ρ rfl]
  rw[e]at i;walk_at"d";refine bL fr fr (λq:θ=>[aM q]) (cI ms row) ‹111› (λQ h=>h) (λq f N j m=>?_) ?_
  ·walk_at"d";refine⟨q,rfl,?_⟩;walk_at"d";exact m
  rw[aN];refine⟨(cI ms row).map aM,rfl,λq f=>?_,z.sumOk,?_⟩
  ·obtain⟨x,u,rfl⟩:=Β.mp f;have:=z.wmissOk x u;exact⟨by rw[iL];have:=this.n;unfold Wee at *;assumption,this.d⟩
  ·walk_at"d";exact i
 ·have y:g≠"sum":=c;have e:dS g ms row=tot (xN ms row):=by unfold dS;rw[ι G,ι y]
  rw[e]at i;walk_at"d"
  refine bL (λp:θ×θ=>ay [fr p.1,fr p.2]) fr (λp:θ×θ=>[p.1*p.2]) ((cI ms row).zip (bM ms row)) (by rw[dR];exact 50) (λQ h=>by
    walk_at"d"
    rw[cK];exact h) (λp I N j m=>?_) ?_
  ·have:=kW z.wmissOk z.missOk p I;walk_at"d";refine⟨p.1,p.2,rfl,this.1,this.2,?_⟩;walk_at"d";exact m
  rw[aN,jR λa b:θ=>a*b];refine⟨xN ms row,rfl,z.sqOk,z.sqsOk,?_⟩;walk_at"d";exact i
def aS:π->(π->θ)->θ
 |0,_=>0
 |n+1,f=>aS n f+f n
theorem bG(h:∀j,j<n->f j=g j):aS n f=aS n g:=by
 induction n with
 |zero=>rfl
 |succ n a=>rw[aS,aS,a λj b=>h j<|‹3›,h n<|‹48›]
theorem gZ(h:∀j,j<n->f j=0):aS n f=0:=by
 induction n with
 |zero=>rfl
 |succ n a=>rw[aS,a λj b=>h j<|‹3›,h n<|‹48›,ji]
theorem mE(f g:π->θ)(c:θ):aS n (λj=>f j-c*g j)=aS n f-c*aS n g:=by
 induction n with
 |zero=>simp only[aS];grind
 |succ n a=>simp only[aS,a];grind
theorem cZ(f:π->θ)(c:θ):aS n (λj=>c*f j)=c*aS n f:=by
 induction n with
 |zero=>simp only[aS];grind
 |succ n a=>simp only[aS,a];grind
theorem mC(c:i<n)(h:∀j,j<n->j≠i->f j=0):aS n f=f i:=by
 induction n with
 |zero=>exact 39
 |succ n a=>
  rw[aS];by_cases e:i=n
  ·subst e;rw[gZ λj b=>h j ‹3›<|‹35›,vR]
  ·rw[a ‹13› λj b=>h j<|‹3›,h n ‹48›<|Ne.symm e,ji]
def sS(n:π)(r:ε θ)(y:π->θ):θ:=aS n λj=>r.getD j 0*y j
def Hom(n:π)(rows:ε<|ε θ)(y:π->θ):Prop:=∀r∈rows,sS n r y=0
def gE(f:ε θ)(c:π):ε θ:=f.map λa=>a/f.getD c 0
def cX(r l:ε θ)(c:π):ε θ:=af (λa b=>a-r.getD c 0*b) r l
def iC(rows:ε<|ε θ)(a c:π):ε (ε θ):=
 let l:=gE (rows.getD a []) c
 let o:=(rows.take a++rows.drop (a+1)).map λr=>cX r l c
 o.take c++[l]++o.drop c
theorem getD_map'{f:θ->θ}{a:ε θ}(h:j<a.length):(a.map f).getD j 0=f (a.getD j 0):=by simp[getD,h]
theorem Ul{f:θ->θ->θ}(h:j<a.length)(c:j<b.length):(af f a b).getD j 0=f (a.getD j 0) (b.getD j 0):=by
 have d:j<(af f a b).length:=by rw[ba];lia
 simp only[Ο,ah d,ah h,ah c,jh,zh]
theorem qO(h:j<f.length):(gE f c).getD j 0=f.getD j 0/f.getD c 0:=getD_map' h
theorem kZ(h:j<r.length)(a:j<l.length):(cX r l c).getD j 0=r.getD j 0-r.getD c 0*l.getD j 0:=Ul h a
theorem qN(h:m<=f.length)(y:π->θ):sS m (gE f c) y=(f.getD c 0)⁻¹*sS m f y:=by
 unfold sS;rw[<-cZ];refine bG λj a=>?_;rw[qO<|‹102›,jb];grind
theorem sR(h:m<=r.length)(a:m<=l.length)(y:π->θ):sS m (cX r l c) y=sS m r y-r.getD c 0*sS m l y:=by
 unfold sS;rw[<-mE];refine bG λj b=>?_;rw[kZ ‹2›<|‹2›];grind
theorem mem_clear:r∈iC rows a c↔r=gE (rows.getD a []) c\/∃q∈rows.eraseIdx a,r=cX q (gE (rows.getD a []) c) c:=by
 unfold iC;rw[<-mu];dsimp only;generalize gE (rows.getD a []) c=l;generalize rows.eraseIdx a=e;rw[bx,cj,cj];have b:r∈(e.map λr=>cX r l c)↔∃q∈e,r=cX q l c:=by
  rw[Β];exact⟨λ⟨q,h,e⟩=>⟨q,h,e.symm⟩,λ⟨q,h,e⟩=>⟨q,h,e.symm⟩⟩
 have d:r∈(e.map λr=>cX r l c)↔r∈(e.map λr=>cX r l c).take c\/r∈(e.map λr=>cX r l c).drop c:=by
  rw[<-cj,jq]
 rw[<-b,d,br];constructor
 ·rintro(h|h|h)
  ·exact .inr<|.inl h
  ·exact .inl h
  ·exact .inr<|.inr h
 ·rintro(h|h|h)
  ·exact .inr<|.inl h
  ·exact .inl h
  ·exact .inr<|.inr h
theorem Tq{rows:ε<|ε θ}(c:a<rows.length)(h:r∈rows):r=rows.getD a []\/r∈rows.eraseIdx a:=by
 obtain⟨i,b,rfl⟩:=cn h;by_cases e:i=a
 ·subst e;left;simp[getD,b]
 ·right;rw[j8];exact⟨i,b,e,rfl⟩
theorem Ui(j:a<rows.length)(k:∀r∈rows,m<=r.length)(n:(rows.getD a []).getD c 0≠0)(y:π->θ):Hom m (iC rows a c) y↔Hom m rows y:=by
 have l:rows.getD a []∈rows:=by
  have:rows.getD a []=rows[a]:=by simp[getD,j]
  rw[this];exact ax j
 have b:=k _ l;have d:m<=(gE (rows.getD a []) c).length:=by unfold gE;rw[η];exact b
 constructor
 ·intro h;have f:sS m (rows.getD a []) y=0:=by
   have:=h _<|mem_clear.mpr<|.inl rfl;rw[qN b]at this;rcases gc.mp this with z|z
   ·exfalso;have:=tx _ n;rw[z,kf]at this;exact ψ this (by decide)
   ·exact z
  intro r i;rcases Tq j i with e|e
  ·rw[e];exact f
  ·have:=h _<|mem_clear.mpr<|.inr ⟨r,e,rfl⟩;rw[sR (k r i) d,qN b,f]at this;grind
 ·intro h r i;have f:=h _ l;rcases mem_clear.mp i with e|⟨q,o,e⟩
  ·rw[e,qN b,f,fo]
  ·have g:=lr o;rw[e,sR (k q g) d,qN b,f,h q g];grind
def aCy(k:π)(rows:ε<|ε θ):Prop:=∀i,i<rows.length->∀j,j<k->(rows.getD i []).getD j 0=if i=j then 1 else 0
theorem zW(b:a<rows.length)(d:c<=a):(iC rows a c).length=rows.length:=by
 unfold iC;simp only[Λ,ao,az,η,k9];obtain⟨k,e⟩:=jf b;have h:c<=a+k:=Α d<|qm _ _;rw[je<|cg b,e,jg,je h,va,v5 h,va]
theorem aCh(j:a<rows.length)(m:c<=a)(n:i<rows.length):
  (iC rows a c).getD i []=if i=c then gE (rows.getD a []) c else cX (rows.getD (if i<c then i else if i<=a then i-1 else i) []) (gE (rows.getD a []) c) c:=by
 unfold iC;dsimp only;generalize gE (rows.getD a []) c=l;rw[<-mu];have e:(rows.eraseIdx a).length=rows.length-1:=by rw[r6,ρ j]
 have b:∀t,t<rows.length-1->((rows.eraseIdx a).map λr=>cX r l c)[t]? =γ (cX (rows.getD (if t<a then t else t+1) []) l c):=λt o=>by
  rw[el,List.getElem?_eraseIdx];by_cases h:t<a
  ·rw[ρ h,ρ h,ah<|‹105›];simp[getD,show t<rows.length by exact 105]
  ·rw[ι h,ι h,ah<|‹108›];simp[getD,show t+1<rows.length by exact 108]
 rw[Ο,bx];by_cases d:i<c
 ·rw[ek (by rw[ao,η,e];lia),lj d,b i<|‹50›,ι<|show ¬i=c by exact 135,ρ<|show i<a by exact 102,ρ d];rfl
 ·have k:(((rows.eraseIdx a).map λr=>cX r l c).take c).length=c:=by rw[ao,η,e];exact 50
  rw[cx<|by lia,k];by_cases f:i=c
  ·subst f;rw[ρ rfl,oy];rfl
  ·rw[ι f,ι d,cx (by simp;lia)];simp only[k9];rw[qa,show c+(i-c-1)=i-1 by lia,b (i-1)<|‹50›];by_cases g:i<=a
   ·rw[ρ g,ρ<|by lia];rfl
   ·rw[ι g,ι<|by lia,show i-1+1=i by exact 50];rfl
theorem Mw(b:a<rows.length)(m:c<=a)(G:c<n)(o:∀r∈rows,n<=r.length)(B:(rows.getD a []).getD c 0≠0)(h:aCy c rows):aCy (c+1) (iC rows a c):=by
 have p:∀t,t<rows.length->rows.getD t []∈rows:=λt d=>by
  have:rows.getD t []=rows[t]:=by simp[getD,d]
  rw[this];exact ax d
 have f:=o _<|p a b;have C:n<=(gE (rows.getD a []) c).length:=by unfold gE;rw[η];exact f
 have q:∀j,j<c->(gE (rows.getD a []) c).getD j 0=0:=λj s=>by
  rw[qO<|by lia,h a b j s,ι<|by lia,jb,kf]
 have u:(gE (rows.getD a []) c).getD c 0=1:=by
  rw[qO<|‹2›,jb,i5 _ B]
 intro i v j s;rw[zW b m]at v;rw[aCh b m v];by_cases e:i=c
 ·rw[ρ e];by_cases g:j=c
  ·rw[g,u,ρ<|‹51›]
  ·rw[q j<|‹13›,ι<|by lia]
 ·rw[ι e]
  obtain⟨t,d,k⟩:∃t,(if i<c then i else if i<=a then i-1 else i)=t/\(t<rows.length/\(i<c->t=i)/\(c<i->c<=t)):=⟨_,rfl,by
   by_cases x:i<c
   ·rw[ρ x];lia
   ·rw[ι x]
    by_cases y:i<=a
    ·rw[ρ y];lia
    ·rw[ι y];lia⟩
  rw[d];obtain⟨z,D,E⟩:=k;have F:=o _<|p t z;rw[kZ (by lia)<|by lia];by_cases g:j=c
  ·rw[g,u,gf,ι e];grind
  ·rw[q j<|‹13›,h t z j<|‹13›];by_cases l:i<c
   ·rw[D l];grind
   ·have:=E (by lia);rw[ι<|by lia,ι<|by lia];grind
theorem aFe(p:c<n)(h:aCy c rows)(q:∀i,c<=i->i<rows.length->(rows.getD i []).getD c 0=0):∃y:π->θ,y c=1/\Hom n rows y:=by
 refine⟨λj=>if j=c then 1 else if j<c then -(rows.getD j []).getD c 0 else 0,ρ rfl,λr s=>?_⟩;refine qq0 λqq2=>?_;obtain⟨i,g,rfl⟩:=cn s;refine qq2 ?_;have e:rows[i]=rows.getD i []:=by simp[getD,g]
 rw[e];unfold sS;by_cases t:i<c
 ·have a:∀m,i<m->c<m->aS m (λj=>(rows.getD i []).getD j 0*(if j=c then 1 else if j<c then -(rows.getD j []).getD c 0 else 0))=0:=by
   intro m k l;have u:aS m (λj=>(rows.getD i []).getD j 0*(if j=c then 1 else if j<c then -(rows.getD j []).getD c 0 else 0))=
     aS m (λj=>(if j=i then -(rows.getD i []).getD c 0 else 0)-(-1)*(if j=c then(rows.getD i []).getD c 0 else 0)):=by
    refine bG λj f=>?_;by_cases d:j=c
    ·subst d;rw[ρ rfl,ι<|‹134›,ρ rfl];grind
    ·rw[ι d,ι d];by_cases b:j<c
     ·rw[ρ b,h i g j b];by_cases o:i=j
      ·subst o;rw[ρ rfl,ρ rfl];grind
      ·rw[ι o,ι<|Ne.symm o];grind
     ·rw[ι b,ι<|by lia];grind
   rw[u,mE,mC k λj _ f=>ι f,mC l λj _ f=>ι f,ρ rfl,ρ rfl];grind
  exact a n ‹105› p
 ·refine gZ λj f=>?_;dsimp only;by_cases d:j=c
  ·subst d;rw[q i ‹124› g,kf]
  ·rw[ι d];by_cases b:j<c
   ·rw[ρ b,h i g j b,ι<|by lia,kf]
   ·rw[ι b,fo]
theorem Jh(h:aCy n rows)(c:i<rows.length)(a:i<n)(y:π->θ):sS n (rows.getD i []) y=y i:=by
 unfold sS;rw[mC a λj d b=>by rw[h i c j d,ι<|Ne.symm b,kf],h i c i a,ρ rfl,fh]
structure RSz(n V A R:π)(r:ε θ):Prop where
 len:r.length=n+1
 sz:∃s:χ,s≠0/\s.natAbs<=A/\(∀j,j<n->∃v:χ,r.getD j 0*(s:θ)=(v:θ)/\v.natAbs<=A)/\∃v:χ,r.getD n 0*((s*(V:χ):χ):θ)=(v:θ)/\v.natAbs<=R
theorem aNt{s:χ}(h:s≠0):(s:θ)≠0:=λz=>h<|qq.mp z
theorem RSz.at{n V A R:π}(h:RSz n V A R r)(a:j<n):Fm.Sz A (r.getD j 0):=by
 obtain⟨s,b,sA,c,_⟩:=h.sz;obtain⟨v,e,d⟩:=c j a;have:=Fm.size_of b e;exact⟨by lia,by lia⟩
theorem RSz.rhs{n V A R:π}(h:RSz n V A R r)(c:0<V):Fm.Sz (A*V+R) (r.getD n 0):=by
 refine qq0 λqq2=>?_;obtain⟨s,a,sA,_,v,e,d⟩:=h.sz;refine qq2 ?_;have b:s*(V:χ)≠0:=kg a (by lia);have:=Fm.size_of b e;have f:(s*(V:χ)).natAbs<=A*V:=by rw[dj];exact Τ sA (by lia)
 exact⟨by lia,by lia⟩
theorem RSz.lead{n V A R c:π}(h:RSz n V A R f)(g:c<n)(b:f.getD c 0≠0):RSz n V A R (gE f c):=by
 have i:=h.len;refine qq0 λqq2=>?_;obtain⟨s,k,sA,d,w,l,m⟩:=h.sz;obtain⟨p,a,o⟩:=d c g;refine qq2 ?_;have r:=aNt k;have t:p≠0:=λz=>by
  rw[z]at a;rcases gc.mp a with q|q
  ·exact b q
  ·exact r q
 refine⟨by unfold gE;rw[η];exact i,p,t,o,λj u=>?_,w,?_,m⟩
 ·obtain⟨v,e,x⟩:=d j u;refine⟨v,?_,x⟩;rw[qO<|by lia,jb,<-a,<-e];have:(f.getD c 0)⁻¹*f.getD c 0=1:=tx _ b;grind
 ·rw[qO<|‹48›,jb,ae,<-a,<-l,ae];have:(f.getD c 0)⁻¹*f.getD c 0=1:=tx _ b;grind
theorem RSz.without{n V A R c:π}(i:RSz n V A R r)(k:RSz n V A R l)(q:c<n):RSz n V (2*(A*A)) (2*(A*R)) (cX r l c):=by
 refine qq0 λqq2=>?_;obtain⟨t,s,v,m,u,x,y⟩:=i.sz;obtain⟨p,z,g,B,w,C,D⟩:=k.sz;obtain⟨d,e,f⟩:=m c q;refine qq2 ?_;have L:=i.len;have M:=k.len;refine⟨by unfold cX;rw[ba];lia,t*p,kg s z,?_,λj o=>?_,?_⟩
 ·rw[dj];have:=Τ v g;lia
 ·refine qq0 λqq2=>?_;obtain⟨a,E,F⟩:=m j o;obtain⟨b,G,H⟩:=B j o;refine qq2 ?_;refine⟨a*p-d*b,?_,?_⟩
  ·rw[kZ (by lia)<|by lia,ae,pw,ae,ae,<-E,<-G,<-e];grind
  ·have I:=Τ F g;have J:=Τ f H;have h:(a*p-d*b).natAbs<=(a*p).natAbs+(d*b).natAbs:=‹14›
   rw[dj,dj]at h;lia
 ·refine⟨u*p-d*w,?_,?_⟩
  ·rw[kZ ‹48›<|‹48›];simp only[ae,pw]at *
   rw[<-x,<-C,<-e];grind
  ·have I:=Τ g y;have J:=Τ f D;have h:(u*p-d*w).natAbs<=(u*p).natAbs+(d*w).natAbs:=‹14›
   rw[dj,dj,fm u.natAbs]at h;lia
theorem RSz.mono{n V A R a b:π}(h:RSz n V A R r)(i:A<=a)(k:R<=b):RSz n V a b r:=by
 obtain⟨s,c,sA,d,w,f,l⟩:=h.sz;refine⟨h.len,s,c,‹2›,λj g=>?_,w,f,‹2›⟩;obtain⟨v,e,m⟩:=d j g;exact⟨v,e,‹2›⟩
abbrev kF(r:ε θ):μ:=.list<|r.map fr
theorem Ru{rows:ε<|ε θ}{j:π}(e:k=(j:χ))(h:j<rows.length):oX (rows.map kF) k=γ (kF<|rows.getD j []):=by
 rw[Es (xs:=rows) kF (by lia)<|by lia,e,ft];simp[getD,h]
theorem Np{qs:ε θ}{j:π}(e:k=(j:χ))(h:j<qs.length):oX (qs.map fr) k=γ (fr<|qs.getD j 0):=by
 rw[Es (xs:=qs) fr (by lia)<|by lia,e,ft];simp[getD,h]
theorem lC{rows:ε<|ε θ}(h:j<rows.length):rows.getD j []∈rows:=by
 have e:rows.getD j []=rows[j]:=by simp[getD,h]
 rw[e];exact ax h
theorem Pf{a:ε θ}(h:j<a.length):a.getD j 0∈a:=by
 have e:a.getD j 0=a[j]:=by simp[getD,h]
 rw[e];exact ax h
def aQe(C:Ζ):DW:=λb Q X=>∃(rows:ε<|ε θ)(c:π),b=[.list<|rows.map kF,.int (c:χ)]/\rows.length<=60/\c<=rows.length/\(∀r∈rows,c<r.length)/\
 (∀a:π,c<=a->a<rows.length->(rows.getD a []).getD c 0≠0->Q (.dat<|.int (a:χ)))/\((∀i,c<=i->i<rows.length->(rows.getD i []).getD c 0=0)->X C)
theorem tG:Q 1 12 (λA=>(aQe A.x_NoAnswer)):=by
 refine fH 12 ["rows","column","spots"] λA T R Z=>⟨_,by walk_at"t",_,(aH (aZ 2 (bS [ν,γ 1,γ 0] ["spot","column","rows"] (IvS.e (Qk (vN 1 (vE (bQ cT (vN 0 aB)) aB)))) (aG 0) (tO hX (aC (bR (Zk (bR (aL 2) (aF 0))) (aF 1))) (aC (qT T.k_NOUGHT))) (bE 0)))
   (aH (bF (tO cR (aC (bQ cT (vN 2 aB))) bI) (cY (aI aT aQ)) aP)
   (bB (aC (bR (aL 2) bI))))),?_⟩
 intro E Q X qQ0;refine qq0 λqq2=>?_;obtain⟨rows,c,rfl,F,r,R',k,s⟩:=qQ0;refine qq2 ?_;walk_at"s"
 refine bL (λk:π=>ep ((c:χ)+(k:χ)*1)) ep (λk:π=>if (rows.getD (c+k) []).getD c 0≠0 then[((c+k:π):χ)]else[]) (range (rows.length-c)) (by rw[cw];exact 50) (λQ h=>by
   walk_at"d"
   refine⟨by lia,?_⟩
   rw[show((rows.length:χ)-(c:χ)).toNat=rows.length-c by lia];exact h) (λi t N u l=>?_) ?_
 ·have x:=di.mp t;have o:c+i<rows.length:=‹9›
  have y:=Ru (rows:=rows) (k:=(c:χ)+(i:χ)*1) (j:=c+i) (by lia) o;have B:=Np (qs:=rows.getD (c+i) []) (k:=(c:χ)) (j:=c) rfl<|R' _<|lC o;walk_at"d";refine⟨_,y,?_⟩;walk_at"d";refine⟨_,B,?_⟩;refine⟨θ,eRat,(rows.getD (c+i) []).getD c 0,0,rfl,rfl,λb p=>?_⟩;cases b with
  |true=>
   walk_at"d";rw[ι<|by simpa using p.mp rfl]at l;simpa using l
  |false=>
   walk_at"d";rw[ρ λz=>ψ (p.mpr z)<|by decide]at l;rw[show(c:χ)+(i:χ)*1=((c+i:π):χ) by lia];exact l
 obtain⟨d,a⟩:∃d:ε χ,(range<|rows.length-c).flatMap (λk:π=>if (rows.getD (c+k) []).getD c 0≠0 then[((c+k:π):χ)]else[])=d:=⟨_,rfl⟩;rw[a];have n:∀v∈d,∃i:π,v=(i:χ)/\c<=i/\i<rows.length/\(rows.getD i []).getD c 0≠0:=λv q=>by
  rw[<-a]at q;obtain⟨k,m,g⟩:=xg.mp q;have:=di.mp m;split at g
  ·rename_i f
   have:v=((c+k:π):χ):=by simpa using g
   exact⟨c+k,this,‹48›,‹9›,f⟩
  ·exact ψ g (by simp)
 have nil:d=[]->∀i,c<=i->i<rows.length->(rows.getD i []).getD c 0=0:=λC i m g=>by
  refine h8.mp λf=>?_;have:((c+(i-c):π):χ)∈d:=by
   rw[<-a];refine xg.mpr ⟨i-c,di.mpr<|‹50›,?_⟩;rw[show c+(i-c)=i by exact 22,ρ f];simp
  rw[C]at this;exact ψ this (by simp)
 clear a;walk_at"s";cases d with
 |nil=>
  rw[ρ<|by simp];exact s<|nil rfl
 |cons v d=>
  rw[ι (by simp;lia)];walk_at"d";refine⟨_,fQ (j:=0) rfl,?_⟩;obtain⟨i,e,m,g,D⟩:=n v υ;rw[e];exact k i m g D
def Vn:DW:=λa Q _=>∃(r l:ε θ)(c:π),a=[.list<|r.map fr,.list<|l.map fr,.int (c:χ)]/\c<r.length/\r.length<=60/\(∀q∈r,Ok q)/\(∀q∈l,Ok q/\Ok (r.getD c 0*q))/\Q (.own<|(cX r l c).map fr)
theorem Lr:Q 4 13 (λ_=>Vn):=by
 refine fH 13 ["row","leader","column"] λA T R Z=>⟨_,by walk_at"t",_,(dW<|bS [ν,ν,γ 0,γ 2] ["one","led","row","column"] (fM (aL 0)<|aL 1) (eB<|aW (aG 0)<|aW (aG 1) dO) bV<|aE<|vN 0<|vE (aE<|vE (bR (aL 2)<|aF 3)<|vN 1 aB) aB),?_⟩;intro n Q X qQ0;refine qq0 λqq2=>?_;obtain⟨r,l,c,rfl,e,o,f,g,k⟩:=qQ0;refine qq2 ?_;walk_at"d"
 refine bL (λp:θ×θ=>ay [fr p.1,fr p.2]) fr (λp:θ×θ=>[p.1-r.getD c 0*p.2]) (r.zip l) (by rw[dR];exact 50) (λQ h=>by
   walk_at"d"
   rw[cK];exact h) (λp i N j m=>?_) ?_
 ·have d:=kW f g p i;walk_at"d";refine⟨_,Np rfl e,_,p.2,rfl,f _<|Pf e,d.2.1,?_⟩;walk_at"d";refine⟨p.1,_,rfl,d.1,d.2.2,?_⟩;walk_at"d";exact m
 ·rw[aN,jR λa b:θ=>a-r.getD c 0*b];exact k
structure RowsDg(n v a r:π)(rows:ε<|ε θ):Prop where
 h:∃V A R:π,0<V/\V<=10^v/\A<=10^a/\R<=10^r/\∀x∈rows,RSz n V A R x
theorem Bz{n v a r V A R:π}(g:0<V)(i:V<=10^v)(d:A<=10^a)(rr:R<=10^r)(z:RSz n V A R x)(k:a+v+1<=e)(l:r+1<=e):∀q∈x,Dg e q:=λq m=>by
 obtain⟨j,o,rfl⟩:=cn m;have u:=z.len;have p:x[j]=x.getD j 0:=by simp[getD,o]
 rw[p];by_cases h:j<n
 ·have s:Dg a (x.getD j 0):=Fm.Sz.mono (z.at h) d;exact s.mono (by lia)
 ·have t:j=n:=by lia
  rw[t];refine Fm.Sz.mono (z.rhs g) ?_;have f:A*V<=10^(a+v):=by rw[jd];exact Τ d i
  have b:10^(a+v+1)<=10^e:=mB k;have c:10^(r+1)<=10^e:=mB l;rw[eT]at b c;generalize 10^(a+v)=X at f b;generalize 10^r=Y at rr c;generalize 10^e=Z at b c⊢;generalize A*V=W at f⊢;lia
theorem Pb{n V A R a:π}(b:A<=10^a)(z:RSz n V A R x)(d:c<n):Dg a (x.getD c 0):=Fm.Sz.mono (z.at d) b
theorem aCg(h:RowsDg n v a r rows)(j:b<rows.length)(g:c<n)(k:(rows.getD b []).getD c 0≠0):RowsDg n v (2*a+1) (a+r+1) (iC rows b c):=by
 refine qq0 λqq2=>?_;obtain⟨V,A,R,l,m,d,rr,z⟩:=h.h;refine qq2 ?_;have o:2*(A*A)<=10^(2*a+1):=by
  have:=Τ d d;have:=lB a a;rw[show a+a+1=2*a+1 by exact 48]at this;lia
 have p:2*(A*R)<=10^(a+r+1):=by
  have:=Τ d rr;have:=lB a r;lia
 refine⟨V,2*(A*A),2*(A*R),l,m,o,p,λx t=>?_⟩;have f:=(z _<|lC j).lead g k;have i:0<A:=by
  obtain⟨s,y,sA,_⟩:=f.sz;lia
 rcases mem_clear.mp t with e|⟨q,u,e⟩
 ·rw[e];refine f.mono ?_ ?_
  ·have:=Τ i<|ω A;lia
  ·have:=Τ i<|ω R;lia
 ·rw[e];exact(z q<|lr u).without f g
def Vy(C:Ζ):DW:=λd Q X=>∃(rows:ε<|ε θ)(c n v a r:π),d=[.list<|rows.map kF,.int (c:χ)]/\rows.length=n/\n<=50/\c<n/\RowsDg n v a r rows/\2*a+v+6<=2400/\a+r+6<=2400/\
 (∀b:π,c<=b->b<rows.length->(rows.getD b []).getD c 0≠0->Q (.own<|(iC rows b c).map kF))/\((∀i,c<=i->i<rows.length->(rows.getD i []).getD c 0=0)->X C)
theorem Mb:Q 5 11 (λA=>(Vy A.x_NoAnswer)):=by
 refine fH 11 ["rows","column","spot","found","leader","others"] λA T R Z=>⟨_,by walk_at"t",_,(sA 2 (iE (vN 0 (vN 1 aB))) (sA 3 (bR (aL 0) (aF 2)) (aH (aZ 4 (bS [ν,γ 3,γ 1] ["one","found","column"] (cE (aL 3)) (aG 0) bV (aE (vN 0 (vE (bR (aL 1) (aF 2)) aB)))))
   (aH (aZ 5 (bS [ν,γ 4,γ 1] ["row","leader","column"] (cE (lP (iN (fB (gU (aL 0) fZ (cS (aF 2)))) (fB (gU (aL 0) (cS (bO cN (aF 2) bI)) fZ))))) (aG 0) bV (cL (bH (vN 0 (vN 1 (vN 2 aB)))))))
   (nX 4 (dW (iN (fB (iN (fB (gU (aL 5) fZ (cS (aF 1)))) (fB (dG (aI (bE 4) aQ))))) (fB (gU (aL 5) (cS (aF 1)) fZ))))))))),?_⟩
 intro ds Q X qQ0;refine qq0 λqq2=>?_;obtain⟨rows,c,n,v,a,r,rfl,hl,hn,G,W,f1,f2,k,Y⟩:=qQ0;obtain⟨V,A,R,H,I,u,rr,z⟩:=W.h;refine qq2 ?_;have len:∀x∈rows,x.length=n+1:=λx d=>(z x d).len;walk_at"s";refine⟨rows,c,rfl,‹10›,by lia,λx d=>by have:=len x d;lia,λb s1 C D=>?_,Y⟩;have i:=k b s1 C D;walk_at"d";walk_at"s";refine⟨_,Ru rfl C,?_⟩;have E:=z _<|lC C;have lf:=len _<|lC C;have J:=E.lead G D;obtain⟨e,j,m,p,L⟩:∃e,a+v+1<=e/\r+1<=e/\e<=2400/\a+e+1<=2400:=by
  by_cases q:a+v<=r
  ·exact⟨r+1,by lia,‹48›,by lia,by lia⟩
  ·exact⟨a+v+1,‹48›,by lia,by lia,by lia⟩
 have F:=Bz H I u rr J j m;unfold iC at i;dsimp only at i;generalize rows.getD b []=f at D i E lf J F⊢;have s:gE f c=f.map λq=>q/f.getD c 0:=rfl;generalize gE f c=l at i J F s;walk_at"s";refine bL fr fr (λq:θ=>[q/f.getD c 0]) f (by lia) (λQ h=>h) (λq t N M O=>?_) ?_
 ·walk_at"d";refine⟨_,Np rfl<|by lia,q,_,rfl,cA (Bz H I u rr E j m q t) p,cA (Pb u E G)<|by lia,λh0=>ψ h0 D,λ_=>?_⟩;walk_at"d";exact O
 rw[aN,<-s];clear s;walk_at"s";have B:∀x∈rows.take b++rows.drop (b+1),x∈rows:=λx d=>by
  rcases cj.mp d with y|y
  ·exact cv y
  ·exact ny y
 have g:fI (rows.map kF) ν (γ (b:χ))++fI (rows.map kF) (γ<|(b:χ)+1) ν=(rows.take b++rows.drop (b+1)).map kF:=by
  rw[iK,iK,nJ,show(b:χ)+1=((b+1:π):χ) by lia,iF,bu]
 have cl:(fI (rows.map kF) ν<|some (b:χ)).length+(fI (rows.map kF) (γ<|(b:χ)+1) ν).length<=1000:=by
  rw[<-Λ,g,η,Λ,ao,az];lia
 refine bL kF kF (λx:ε θ=>[cX x l c]) (rows.take b++rows.drop (b+1)) (by rw[Λ,ao,az];lia) (λQ h=>by
   walk_at"d"
   refine⟨cl,?_⟩
   rw[g];exact h) (λx d N M O=>?_) ?_
 ·have U:=z x<|B x d;have lx:=len x<|B x d;walk_at"d";refine⟨x,l,c,rfl,by lia,by lia,λq t=>cA (Bz H I u rr U j m q t) p,λq t=>⟨cA (F q t) p,cA ((Pb u U G).mul<|F q t) L⟩,?_⟩;walk_at"d";exact⟨bP _,O⟩
 rw[aN];obtain⟨o,S⟩:∃o,(rows.take b++rows.drop (b+1)).map (λx=>cX x l c)=o:=⟨_,rfl⟩;rw[S]at i;rw[S];have ol:o.length<=60:=by rw[<-S,η,Λ,ao,az];lia
 walk_at"d";rw[iK,iK,nJ,iF];refine⟨by simp only[η,ao];lia,by simp only[Λ,η,ao,az,k9];lia,?_⟩;rw[bu,bu]at i;exact i
def Jg(a:π):π->π
 |0=>a
 |k+1=>2*Jg a k+1
def Mt(a r:π):π->π
 |0=>r
 |k+1=>Jg a k+Mt a r k+1
theorem Dy(a:π):∀{k n:π},k<=n->Jg a k<=Jg a n
 |k,0,h=>by rw[AO.mp h];exact ω _
 |k,n+1,h=>by
  by_cases e:k=n+1
  ·rw[e];exact ω _
  ·have:=Dy a (k:=k) (n:=n) (by lia);simp only[Jg];lia
theorem Dx(a r:π):∀{k n:π},k<=n->Mt a r k<=Mt a r n
 |k,0,h=>by rw[AO.mp h];exact ω _
 |k,n+1,h=>by
  by_cases e:k=n+1
  ·rw[e];exact ω _
  ·have:=Dx a r (k:=k) (n:=n) (by lia);simp only[Mt];lia
def lU(table:ε<|ε θ)(right:ε θ):ε (ε θ):=af (λr v=>r++[v]) table right
theorem Uu(b:a<rows.length)(h:∀x∈rows,x.length=m):∀x∈iC rows a c,x.length=m:=λx d=>by
 rcases mem_clear.mp d with e|⟨q,f,e⟩
 ·rw[e];unfold gE;rw[η];exact h _<|lC b
 ·rw[e];unfold cX gE;rw[ba,η,h q<|lr f,h _<|lC b];exact 50
def aDf(C:Ζ):DW:=λb Q X=>∃(table:ε<|ε θ)(right:ε θ)(n v a r:π),b=[.list<|table.map kF,.list<|right.map fr]/\table.length=n/\right.length=n/\n<=50/\(∀x∈table,x.length=n)/\RowsDg n v a r (lU table right)/\Jg a n+v+6<=2400/\Mt a r n+6<=2400/\
 ((∃y:π->θ,(∃j,j<n/\y j≠0)/\Hom n (lU table right) y)->X C)/\
 ∀x:ε θ,x.length=n->(∀q∈x,Dg (Jg a n+v+Mt a r n+2) q)->Hom (n+1) (lU table right) (λj=>if j<n then x.getD j 0 else -1)->(∀y:π->θ,Hom n (lU table right) y->∀j,j<n->y j=0)->Q (.own<|x.map fr)
theorem Td:Q 6 10 (λA=>(aDf A.x_NoAnswer)):=by
 refine fH 10 ["table","right","rows","column"] λA T R Z=>⟨_,by walk_at"t",_,(aH (aZ 2 (bS [ν,ν] ["row","value"] (fM (aL 0) (aL 1)) (eB (aW (aG 0) (aW (aG 1) dO))) bV (cL (iN (fB (Pp (aL 0))) (fB (dG (aI (bE 1) aQ)))))))
   (aH (nX 2 (eA (lI (vE (bQ cT (vN 1 aB)) aB)) (aG 3)
    (aDx (vN 2 (vN 3 aB)) (aG 2))))
   (dW (bS [ν] ["row"] (cE (aL 2)) (aG 0) bV (bR (aL 0) (aC (Jq (v:=(-1)) (iA bI) (λex F Q h=>Eq.mpr (ea (λz=>Q (.int z)) (by decide +kernel:((-1):χ)=-1)) h)))))))),?_⟩
 intro ds Q X qQ0;refine qq0 λqq2=>?_;obtain⟨table,right,n,v,a,r,rfl,U,H,W,hlen,O,f1,f2,S,k⟩:=qQ0;refine qq2 ?_;walk_at"s"
 refine bL (λp:ε θ×θ=>ay [kF p.1,fr p.2]) kF (λp:ε θ×θ=>[p.1++[p.2]]) (table.zip right) (by rw[dR];exact 50) (λQ h=>by
   walk_at"d"
   rw[cK];exact h) (λp o N s I=>?_) ?_
 ·have:=(kW (p:=λx:ε θ=>x.length=n) (q:=λ_=>wj) hlen (λ_ _=>trivial) p o).1;walk_at"d";refine⟨by lia,?_⟩;have t:N (s++[gk<|(p.1++[p.2]).map fr]):=I;rw[bu]at t;exact t
 rw[aN,jR λ(r:ε θ)(v:θ)=>r++[v]];obtain⟨rows0,u⟩:∃rows0,lU table right=rows0:=⟨_,rfl⟩;have B:af (λ(r:ε θ)(v:θ)=>r++[v]) table right=rows0:=u;rw[B];rw[u]at O S k;have Y:rows0.length=n:=by rw[<-u];unfold lU;rw[ba];lia
 have len0:∀x∈rows0,x.length=n+1:=by
  rw[<-u];unfold lU;exact fJ (p:=λx:ε θ=>x.length=n) (q:=λ_=>wj) hlen (λ_ _=>trivial) λx y c _=>by simp[c]
 clear B u;refine cW ?_;show aBk 2 _ _ _;unfold aBk;walk_at"d"
 refine lJ (lo:=0) (st:=1) (n:=n) (λQ h=>by
   walk_at"d"
   refine⟨by lia,?_⟩
   rw[H,ft];exact h)
  (λi F=>∃(rows:ε<|ε θ)(l:Θ μ),F=[γ<|.dat<|.list<|table.map kF,γ<|.dat<|.list<|right.map fr,γ<|.dat<|.list<|rows.map kF,l.map Sl.dat]/\rows.length=n/\(∀x∈rows,x.length=n+1)/\aCy i rows/\RowsDg n v (Jg a i) (Mt a r i) rows/\∀m,m<=n+1->∀y,Hom m rows y↔Hom m rows0 y)
  ⟨rows0,ν,rfl,Y,len0,λi _ j J=>ψ J<|og _,O,λ_ _ _=>BH⟩ ?_ ?_
 ·intro i F d qQ0;refine qq0 λqq2=>?_;obtain⟨rows,l,rfl,G,b,hform,g,hhom⟩:=qQ0;refine qq2 ?_;have g1:=Dy a (k:=i+1) (n:=n) ‹51›;have g2:=Dx a r (k:=i+1) (n:=n) ‹51›;simp only[Jg]at g1;simp only[Mt]at g2;rw[show(0:χ)+(i:χ)*1=(i:χ) by exact 48];walk_at"d";refine⟨rows,i,n,v,Jg a i,Mt a r i,rfl,G,W,d,g,by lia,by lia,λC l D o=>?_,λhz=>?_⟩
  ·walk_at"d";refine⟨iC rows C i,γ _,rfl,by rw[zW D l,G],Uu D b,Mw (n:=n) D l d (λx c=>by have:=b x c;exact 48) o hform,aCg g D d o,λm hm y=>?_⟩;rw[Ui D (λx c=>by have:=b x c;exact 48) o];exact hhom m hm y
  ·obtain⟨y,y1,L⟩:=aFe d hform hz;exact S ⟨y,⟨i,d,by rw[y1];decide⟩,(hhom n ‹48› y).mp L⟩
 intro F qQ0;refine qq0 λqq2=>?_;obtain⟨rows,l,rfl,G,b,hform,g,hhom⟩:=qQ0;refine qq2 ?_;walk_at"d";refine bL kF fr (λx:ε θ=>[x.getD n 0]) rows ‹110› (λQ h=>h) (λx c N s I=>?_) ?_
 ·have lx:=b x c;have al:oX (x.map fr) (-1)=γ (fr<|x.getD n 0):=by
   unfold oX Uf;rw[ι<|by decide,ρ (by rw[η];lia),η];simp only[Option.bind_some];rw[show((-1:χ)+(x.length:χ)).toNat=n by lia,el,ah<|‹48›];simp[getD,show n<x.length by exact 48]
  walk_at"d";exact⟨_,al,I⟩
 rw[aN];have E:∀i,i<n->(rows.map λx=>x.getD n 0).getD i 0=(rows.getD i []).getD n 0:=λi d=>by
  simp[getD,show i<rows.length by exact 48]
 refine k (rows.map λx=>x.getD n 0) (by rw[η];exact G) (λq hq=>?_) ?_ ?_
 ·refine qq0 λqq2=>?_;obtain⟨x,c,rfl⟩:=Β.mp hq;obtain⟨V,A',R,v0,vv,aa,rr,z⟩:=g.h;refine qq2 ?_;have:=Bz v0 vv aa rr (z x c) (e:=Jg a n+v+Mt a r n+2) ‹48› ‹48›;exact this _<|Pf (by have:=b x c;exact 48)
 ·refine(hhom (n+1) (ω _) _).mp λx c=>?_;refine qq0 λqq2=>?_;obtain⟨i,d,rfl⟩:=cn c;refine qq2 ?_;have e:rows[i]=rows.getD i []:=by simp[getD,d]
  rw[e];have f:=Jh hform d ‹138› λj=>if j<n then(rows.map λx=>x.getD n 0).getD j 0 else -1;unfold sS at f⊢;rw[aS,f,ρ<|‹138›];dsimp only;rw[ι<|jo n,E i<|‹138›];grind
 ·intro y L j J;have M:=(hhom n ‹48› y).mpr L;have:=M _ (lC<|show j<rows.length by exact 48);rw[Jh hform ‹48› J]at this;exact this
def iU(x:θ):π->ε θ
 |0=>[]
 |n+1=>iU x n++[x^n]
theorem fY(x:θ):∀n,(iU x n).length=n
 |0=>rfl
 |n+1=>by rw[iU,Λ,fY x n];rfl
theorem Cg(x:θ):∀{n j:π},j<n->(iU x n).getD j 0=x^j
 |n+1,j,h=>by
  rw[iU,Ο];by_cases e:j<n
  ·rw[ek (by rw[fY];exact e),<-Ο];exact Cg x e
  ·have a:j=n:=by lia
   subst a;rw[cx (by rw[fY];exact ω _),fY,oy];rfl
def aQj:DW:=λa Q _=>∃(x:θ)(n b:π),a=[fr x,.int (n:χ)]/\n<=8/\Dg b x/\8*(b+1)<=2400/\Q (.own<|(iU x n).map fr)
theorem Cp:Q 4 16 (λ_=>aQj):=by
 refine fH 16 ["x","count","powers","power","step"] λA T R Z=>⟨_,by walk_at"t",_,(aH (aZ 2 (dG aQ))
   (sA 3 (cH (aI aU (aI aU aQ))) (aH (eA (lI (vN 1 aB)) (aG 4)
    (aH (nZ 2 (bE 3))
   (eL (aE (vN 3 (vN 0 aB))) (aG 3))))
   (dU 2)))),?_⟩
 intro f Q X qQ0;refine qq0 λqq2=>?_;obtain⟨x,n,b,rfl,g,e,j,k⟩:=qQ0;refine qq2 ?_;walk_at"s";walk_at"s"
 refine cW (lJ (lo:=0) (st:=1) (n:=n) (λQ h=>by
   walk_at"d"
   refine⟨by lia,?_⟩
   rw[ft];exact h)
  (λi a=>∃c:Θ Sl,a=[γ<|.dat<|fr x,γ<|.dat<|.int (n:χ),γ<|.own<|(iU x i).map fr,γ<|.dat<|fr<|x^i,c]/\Dg (i*(b+1)) (x^i))
  ⟨_,by rw[js];rfl,by rw[js];exact Dg.one⟩ ?_ ?_)
 ·intro i a l qQ0;refine qq0 λqq2=>?_;obtain⟨c,rfl,d⟩:=qQ0;refine qq2 ?_;have m:i*(b+1)<=7*(b+1):=Ψ _ (by lia);walk_at"s";refine⟨by rw[fY];exact 111,?_⟩;walk_at"d";refine⟨_,x,rfl,cA d<|by lia,cA e<|by lia,?_⟩;walk_at"d";rw[eo];refine⟨_,by rw[iU,bu];rfl,(d.mul e).mono (by rw[l5];exact 48)⟩
 ·intro a qQ0;refine qq0 λqq2=>?_;obtain⟨c,rfl,d⟩:=qQ0;refine qq2 ?_;walk_at"d";exact k
def bY(a:ε θ)(x:θ):θ:=a.reverse.foldl (λh n=>h*x+n) 0
theorem eQ(x:θ):bY [] x=0:=rfl
theorem bN(n:θ)(a:ε θ)(x:θ):bY (n::a) x=bY a x*x+n:=by
 unfold bY;rw[iq,ro];rfl
theorem kQ(l:ε θ)(c x:θ):bY (l++[c]) x=bY l x+c*x^l.length:=by
 induction l with
 |nil=>rw[ij,bN,eQ,u2,js];grind
 |cons a l b=>rw[fi,bN,bN,b,Ε,eo];grind
theorem Iw(x:θ)(y:π->θ):∀n m,n<=m->sS n (iU x m) y=bY ((range n).map y) x
 |0,m,_=>rfl
 |n+1,m,h=>by
  have a:=Iw x y n m ‹0›;unfold sS at a⊢;rw[aS,a,oz,bu,Μ,pd,kQ,η,cw,Cg x<|‹51›];grind
def qt(a:θ):ε θ->ε θ
 |[]=>[]
 |[_]=>[]
 |_::m::b=>bY (m::b) a::qt a (m::b)
theorem Xw(a:θ):∀(n:θ)(b:ε θ),(qt a<|n::b).length=b.length
 |_,[]=>rfl
 |n,m::c=>by
  rw[qt,Ε,Xw a m c,Ε]
theorem aIb(a x:θ):∀(n:θ)(b:ε θ),bY (n::b) x=(x-a)*bY (qt a<|n::b) x+bY (n::b) a
 |n,[]=>by rw[qt,bN,bN,eQ,eQ];grind
 |n,m::c=>by
  have d:=aIb a x m c;rw[qt,bN n,bN n,bN<|bY (m::c) a,d];grind
theorem rS:∀{l:ε θ},(∀c∈l,c=0)->bY l x=0
 |[],_=>rfl
 |a::l,h=>by
  rw[bN,rS λc b=>h c<|ο _ b,h a υ];grind
theorem Pi(a:θ):∀(n:θ)(d:ε θ),(∀c∈qt a (n::d),c=0)->∀c∈d,c=0
 |_,[],_,c,h=>ψ h (by simp)
 |n,m::e,b,c,h=>by
  rw[qt]at b;have g:=b _ υ;have f:=Pi a m e λc i=>b c<|ο _ i;have j:bY e a=0:=rS f;rw[bN,j]at g;rcases Υ.mp h with rfl|h
  ·grind
  ·exact f c h
theorem Pd:∀(k:π)(l d:ε θ),l.length=k->d.length=k->d.Nodup->(∀x∈d,bY l x=0)->∀c∈l,c=0
 |0,l,_,f,_,_,_,c,j=>by rw[gq.mp f]at j;exact ψ j (by simp)
 |k+1,n::m,g::d,f,o,p,q,c,j=>by
  have r:=q g υ;have a:=ky.mp p;have s:=Pd k (qt g<|n::m) d (by rw[Xw];simpa using f) (by simpa using o) a.2 λx b=>by
   have e:=aIb g x n m;rw[q x<|ο _ b,r,ji]at e;rcases gc.mp e.symm with z|z
   ·exfalso;have:x=g:=by grind
    rw[this]at b;exact a.1 b
   ·exact z
  have i:=Pi g n m s;have t:n=0:=by
   rw[bN,rS i]at r;grind
  rcases Υ.mp j with rfl|h
  ·exact t
  ·exact i c h
 |k+1,[],_,f,_,_,_,_,_=>by simp at f
 |k+1,_::_,[],_,o,_,_,_,_=>by simp at o
theorem Nm(a:ε Mk)(n:π):lU (a.map λm=>iU m.1 n) (a.map (·.2.1))=a.map λm=>iU m.1 n++[m.2.1]:=by
 unfold lU;rw[List.zipWith_map,List.zipWith_self]
theorem Yb{a:ε Mk}(h:∀m∈a,Dg c m.2.1):0<(a.map λm=>m.2.1.den).prod/\(a.map λm=>m.2.1.den).prod<=10^(c*a.length)/\∀m∈a,m.2.1.den∣(a.map λm=>m.2.1.den).prod:=by
 induction a with
 |nil=>exact⟨by decide,by simp,λ_ h=>nomatch h⟩
 |cons m a e=>
  obtain⟨f,g,i⟩:=e λx b=>h x<|ο _ b;have j:=(h m υ).d;simp only[Μ,List.prod_cons,Ε];refine⟨fq (dX m.2.1.den_nz) f,?_,λx b=>?_⟩
  ·rw[v7,ju,qg,jd];exact Τ j g
  ·rcases Υ.mp b with rfl|b
   ·exact⟨_,rfl⟩
   ·exact oa (i x b) ⟨m.2.1.den,fm _ _⟩
theorem Pm(x:θ):∀j:π,((x.num^j:χ):θ)=x^j*((x.den:π):θ)^j
 |0=>by rw[zr,js,js,gf];rfl
 |j+1=>by
  rw[zt,ae,Pm x j,Fm.num_eq x,eo,eo];grind
theorem rR(d:π):∀j:π,(((d:χ)^j:χ):θ)=((d:π):θ)^j
 |0=>by rw[zr,js];rfl
 |j+1=>by rw[zt,ae,rR d j,eo,Ι]
theorem uZ(x:θ)(a:π):∀b:π,x^(a+b)=x^a*x^b
 |0=>by rw[Nat.add_zero,js,gf]
 |b+1=>by rw[<-zf,eo,uZ x a b,eo];exact 46
theorem Sf{d:ε Mk}(D:d.length=n)(E:n<=4)(t:∀m∈d,Dg a m.1)(o:∀m∈d,Dg b m.2.1):RowsDg n (4*b) (3*a) (5*b+3*a) (lU (d.map λm=>iU m.1 n)<|d.map (·.2.1)):=by
 obtain⟨u,v,x⟩:=Yb o;have y:(d.map λm=>m.2.1.den).prod<=10^(4*b):=Α v<|mB (by rw[fm];exact Ψ _<|‹110›);refine⟨(d.map λm=>m.2.1.den).prod,10^(3*a),10^(5*b+3*a),u,y,ω _,ω _,λr p=>?_⟩;rw[Nm]at p;refine qq0 λqq2=>?_;obtain⟨m,g,rfl⟩:=Β.mp p;have h:=t m g;have z:=o m g;obtain⟨c,q⟩:=x m g;refine qq2 ?_;have xd:=Fm.den_pos m.1;have e:((m.1.den:χ)^3).natAbs<=10^(3*a):=by
  rw[y3,fm,rq];exact gx (by have:=h.d;assumption) 3
 have s:(iU m.1 n).length=n:=fY _ _;refine⟨by rw[Λ,s];rfl,(m.1.den:χ)^3,Int.pow_ne_zero<|‹121›,e,λj B=>?_,m.2.1.num*(c:χ)*(m.1.den:χ)^3,?_,?_⟩
 ·refine⟨m.1.num^j*(m.1.den:χ)^(3-j),?_,?_⟩
  ·have i:(iU m.1 n++[m.2.1]).getD j 0=m.1^j:=by
    rw[Ο,ek<|‹48›,<-Ο,Cg _ B]
   rw[i,ae,Pm,rR,rR];have C:((m.1.den:π):θ)^3=((m.1.den:π):θ)^j*((m.1.den:π):θ)^(3-j):=by rw[<-uZ];congr 1;lia
   rw[C];exact 147
  ·rw[dj,y3,y3];have k:=gx h.n j;have l:(m.1.den:χ).natAbs^(3-j)<=(10^a)^(3-j):=gx (by have:=h.d;assumption) _;have f:=Τ k l;rw[<-jd,<-rq,show a*(j+(3-j))=3*a by rw[show j+(3-j)=3 by exact 50];exact 48]at f;exact f
 ·have i:(iU m.1 n++[m.2.1]).getD n 0=m.2.1:=by
   rw[Ο,cx<|‹48›,s,oy];rfl
  rw[i,q,ae,ae,ae,Fm.num_eq m.2.1];simp only[Ι,fy];grind
 ·rw[dj,dj];have k:m.2.1.num.natAbs<=10^b:=z.n;have l:(c:χ).natAbs<=10^(4*b):=by
   have:c<=(d.map λm=>m.2.1.den).prod:=by rw[q];exact ot _<|dX m.2.1.den_nz
   exact 102
  have f:=Τ (Τ k l) e;rw[<-jd,<-jd,show b+4*b+3*a=5*b+3*a by exact 48]at f;exact f
def Vp(e g:Ζ):DW:=λf Q X=>∃a:ε Mk,f=[.list<|a.map cP]/\a.length<=100/\(4<a.length->X e)/\
 (a.length<=4->(a.map (·.1)).Nodup/\∃b c:π,(∀m∈a,Dg b m.1)/\(∀m∈a,Dg c m.2.1)/\Jg (3*b) 4+4*c+6<=2400/\Mt (3*b) (5*c+3*b) 4+6<=2400/\∀d:ε θ,d.length=a.length->(∀m∈a,bY d m.1=m.2.1)->(∀q∈d,Dg (Jg (3*b) a.length+4*c+Mt (3*b) (5*c+3*b) a.length+2) q)->Q (.own<|d.map fr))
theorem tI:Q 7 17 (λA=>(Vp A.x_NoBend A.x_NoAnswer)):=by
 refine fH 17 ["marks","table"] λA T R Z=>⟨_,by walk_at"t",_,(aH (bF (tO eW (aC (bQ cT (vN 0 aB))) bI) (cY (aI aT aQ)) aP)
   (aH (aZ 1 (bS [ν,γ 0] ["mark","marks"] (cE (aL 0)) (aG 0) bV (cL (bH (vE (eX 0 0) (vE (bQ cT (vN 1 aB)) aB))))))
   (dW (aEu (vN 1 (vE (cL (bS [ν] ["mark"] (cE (aL 0)) (aG 0) bV (eX 1 0))) aB)))))),?_⟩
 intro O Q X qQ0;refine qq0 λqq2=>?_;obtain⟨a,rfl,h100,C,k⟩:=qQ0;refine qq2 ?_;walk_at"s";refine bW (λc=>C<|‹120›) λc=>?_;have q:a.length<=4:=by lia
 refine qq0 λqq2=>?_;obtain⟨s,f,t,l,D,E,S,F⟩:=k q;refine qq2 ?_;have u:8*(f+1)<=2400:=by simp only[Jg]at E;lia
 walk_at"s";refine bL cP kF (λm:Mk=>[iU m.1 a.length]) a ‹101› (λQ h=>h) (λm b N v z=>?_) ?_
 ·walk_at"d";refine⟨m.1,a.length,f,rfl,‹101›,l m b,u,?_⟩;walk_at"d";exact⟨bP _,z⟩
 rw[aN];walk_at"d";refine bL cP fr (λm:Mk=>[m.2.1]) a ‹101› (λQ h=>h) (λm b N v z=>?_) ?_
 ·walk_at"d";exact z
 rw[aN];have U:∀r∈lU (a.map λm=>iU m.1 a.length) (a.map (·.2.1)),∃m∈a,r=iU m.1 a.length++[m.2.1]:=λr R=>by
  rw[Nm]at R;obtain⟨m,b,rfl⟩:=Β.mp R;exact⟨m,b,rfl⟩
 have n:∀m∈a,iU m.1 a.length++[m.2.1]∈lU (a.map λm=>iU m.1 a.length) (a.map (·.2.1)):=λm b=>by
  rw[Nm];exact Β.mpr ⟨m,b,rfl⟩
 have d:∀(m:Mk)(y:π->θ),sS a.length (iU m.1 a.length++[m.2.1]) y=bY ((range a.length).map y) m.1:=λm y=>by
  rw[<-Iw m.1 y a.length a.length (ω _)];unfold sS;refine bG λj o=>?_;rw[Ο,ek (by rw[fY];exact o),<-Ο]
 have W:=Dy (3*f) q;have Y:=Dx (3*f) (5*t+3*f) q;refine⟨a.map λm=>iU m.1 a.length,a.map (·.2.1),a.length,4*t,3*f,5*t+3*f,rfl,η _,η _,‹101›,λx l=>?_,Sf rfl q l D,by lia,by lia,?_,?_⟩
 ·obtain⟨m,_,rfl⟩:=Β.mp l;exact fY _ _
 ·intro qQ0;refine qq0 λqq2=>?_;obtain⟨y,⟨j,o,G⟩,g⟩:=qQ0;refine qq2 ?_;exfalso;have H:=Pd a.length ((range a.length).map y) (a.map (·.1)) (by rw[η,cw]) (η _) s λx l=>by
   obtain⟨m,b,rfl⟩:=Β.mp l;rw[<-d m y];exact g _<|n m b
  exact G<|H (y j)<|Β.mpr ⟨j,di.mpr o,rfl⟩
 ·intro x p B g _;walk_at"d";refine⟨bP _,F x p (λm b=>?_) B⟩;have e:=g _<|n m b;unfold sS at e;rw[aS]at e;dsimp only at e;rw[ι<|jo _]at e;have I:(iU m.1 a.length++[m.2.1]).getD a.length 0=m.2.1:=by
   rw[Ο,cx (by rw[fY];exact ω _),fY,oy];rfl
  rw[I]at e;have J:aS a.length (λj=>(iU m.1 a.length++[m.2.1]).getD j 0*(if j<a.length then x.getD j 0 else -1))=bY x m.1:=by
   have:=d m λj=>x.getD j 0;unfold sS at this;have L:(range a.length).map (λj=>x.getD j 0)=x:=by
    rw[<-p];apply j1
    ·simp
    ·intro i h1 M;simp[getD,M]
   rw[L]at this;rw[<-this];refine bG λj o=>?_;rw[ρ o]
  rw[J]at e;grind
def aDr:DW:=λd Q _=>∃(c:ε θ)(x:θ)(a b:π),d=[.list<|c.map fr,fr x]/\c.length<=60/\(∀n∈c,Dg a n)/\Dg b x/\c.length*(a+b+2)<=2300/\Q (.dat<|fr<|bY c x)
theorem Cv:Q 4 14 (λ_=>aDr):=by
 refine fH 14 ["numbers","x","height","number"] λA T R Z=>⟨_,by walk_at"t",_,(sA 2 (qT T.k_NOUGHT) (aH (eA (aNr (bE 0)) (aG 3)
    (eL (aE (vE (aE (vN 2 (vN 1 aB))) (vN 3 aB))) (aG 2)))
   (dU 2))),?_⟩
 intro t Q X qQ0;refine qq0 λqq2=>?_;obtain⟨c,x,a,b,rfl,u,o,l,v,k⟩:=qQ0;refine qq2 ?_;walk_at"s"
 refine cW (eJ fr c.reverse (λQ h=>by
   walk_at"d"
   rw[<-px];exact h)
  (λi f=>∃(q:θ)(r:Θ Sl),f=[γ<|.dat<|.list<|c.map fr,γ<|.dat<|fr x,γ<|.dat<|fr q,r]/\q=(c.reverse.take i).foldl (λh n=>h*x+n) 0/\Dg (i*(a+b+2)) q)
  ⟨0,_,rfl,rfl,Dg.zero⟩ ?_ ?_)
 ·intro i n f g qQ0;refine qq0 λqq2=>?_;obtain⟨q,r,rfl,e,j⟩:=qQ0;refine qq2 ?_;have y:i<c.length:=by have:=(Δ.mp g).1;simpa using this
  have d:=o n (by have:=Ω g;simpa using this);have p:i*(a+b+2)+(a+b+2)<=2300:=by
   have:=Ψ (a+b+2) (show i+1<=c.length by assumption);rw[l5,jc]at this;exact 102
  have m:=j.mul l;have s:=m.add d;walk_at"d";refine⟨q,x,rfl,cA j<|by lia,cA l<|by lia,?_⟩;walk_at"d";refine⟨_,n,rfl,cA m<|by lia,cA d<|by lia,?_⟩;walk_at"d";refine⟨_,_,rfl,?_,s.mono (by rw[l5];exact 48)⟩;rw[fO g,ro,e];rfl
 ·intro f qQ0;refine qq0 λqq2=>?_;obtain⟨q,r,rfl,e,j⟩:=qQ0;refine qq2 ?_;walk_at"d";rw[bA<|ω _]at e;rw[e];exact k
def Vq:DW:=λe Q _=>∃(c:ε θ)(d:ε Mk)(a b:π),e=[.list<|c.map fr,.list<|d.map cP]/\c.length<=60/\d.length<=1000/\(∀n∈c,Dg a n)/\(∀m∈d,Dg b m.1)/\c.length*(a+b+2)<=2300/\Q (.own<|(d.map λm=>bY c m.1).map fr)
theorem zR:Q 5 15 (λ_=>Vq):=by
 refine fH 15 ["numbers","marks"] λA T R Z=>⟨_,by walk_at"t",_,(dW<|bS [ν,γ 0] ["mark","numbers"] (cE<|aL 1) (aG 0) bV<|aE<|vN 1<|vE (eX 0 0) aB),?_⟩;intro o Q X qQ0;refine qq0 λqq2=>?_;obtain⟨c,d,a,b,rfl,e,f,g,i,j,k⟩:=qQ0;refine qq2 ?_;walk_at"d";refine bL cP fr (λm:Mk=>[bY c m.1]) d f (λQ h=>h) (λm h N l n=>?_) ?_
 ·walk_at"d";refine⟨c,m.1,a,b,rfl,e,g,i m h,j,?_⟩;walk_at"d";exact n
 ·rw[aN];exact k
def fW(a b:ε θ):π->ε θ
 |0=>a
 |j+1=>af (λt x=>t*x) (fW a b j) b
def tJ(a b:ε θ)(n:π):ε θ:=(range n).map λj=>tot<|fW a b j
theorem rE(h:b.length=a.length):∀j,(fW b a j).length=a.length
 |0=>h
 |j+1=>by rw[fW,ba,rE h j];exact 50
structure TSz(L B M C l b m c n:π)(ts xs:ε θ):Prop where
 len:ts.length=xs.length
 le:xs.length<=60
 pos:0<L
 posM:0<M
 pL:L<=10^l
 pB:B<=10^b
 pM:M<=10^m
 pC:C<=10^c
 h:∀t∈ts,Cm L B t
 x:∀x∈xs,Cm M C x
 fit:l+b+n*(m+c)+4<=2400
theorem TSz.term(z:TSz L B M C l b m c n d e):∀j,∀t∈fW d e j,Cm (L*M^j) (B*C^j) t
 |0=>λt f=>by rw[ir,ir,ju,ju];exact z.h t f
 |j+1=>by
  have g:=z.term j;rw[fW];refine fJ g z.x λa b h i=>?_;rw[eT,eT,<-gi,<-gi];exact h.mul i
theorem TSz.dg(z:TSz L B M C l b m c n a d)(e:j<=n)(f:k<=60)(h:Cm (L*M^j) (k*(B*C^j)) t):Dg (l+b+n*(m+c)+3) t:=by
 have g:L*M^j<=10^(l+m*j):=by
  rw[jd,rq];exact Τ z.pL<|gx z.pM j
 have i:B*C^j<=10^(b+c*j):=by
  rw[jd,rq];exact Τ z.pB<|gx z.pC j
 have o:=h.dg (fq z.pos<|jt z.posM) g<|iZ f i;refine o.mono ?_;have p:(m+c)*j<=(m+c)*n:=Χ _ e;rw[l5]at p;rw[fm n<|m+c];exact 48
theorem TSz.termOk(z:TSz L B M C l b m c n a d)(e:j<=n):∀t∈fW a d j,Ok t:=λt f=>
 cA (z.dg e (k:=1) (by decide) (by rw[jc];exact z.term j t f)) (by have:=z.fit;exact 0)
theorem TSz.totOk(z:TSz L B M C l b m c n a d)(e:j<=n)(i:π):Ok (tot<|(fW a d j).take i):=by
 have h:=Cm.tot (qs:=(fW a d j).take i) (L:=L*M^j) (B:=B*C^j) λq f=>z.term j q<|cv f;have:=rE z.len j;have:=z.le;exact cA (z.dg e (by rw[ao];exact 50) h) (by have:=z.fit;exact 0)
def Vs:DW:=λe Q _=>∃(a:ε Mk)(d:ε θ)(n L B M C l b m c:π),e=[.list<|a.map cP,.list<|d.map fr,.int (n:χ)]/\n<=20/\TSz L B M C l b m c n d (a.map (·.1))/\Q (.own<|(tJ d (a.map (·.1)) n).map fr)
theorem xT:Q 4 18 (λ_=>Vs):=by
 refine fH 18 ["marks","terms","count","moments","step"] λA T R Z=>⟨_,by walk_at"t",_,(aH (aZ 3 (dG aQ))
   (aH (eA (lI (vN 2 aB)) (aG 4)
    (aH (nZ 3 (aE (vN 1 aB)))
   (aDw 1 (aZ 1 (bS [ν,ν] ["term","mark"] (fM (aL 1) (aL 0)) (eB (aW (aG 0) (aW (aG 1) dO))) bV (aE (vN 0 (vE (eX 0 1) aB))))))))
   (dU 3))),?_⟩
 intro F Q X qQ0;refine qq0 λqq2=>?_;obtain⟨a,d,n,L,B,M,C,l,b,m,c,rfl,G,z,k⟩:=qQ0;refine qq2 ?_;have H:a.length<=60:=by have:=z.le;rwa [η]at this
 walk_at"s"
 refine cW (lJ (lo:=0) (st:=1) (n:=n) (λQ h=>by
   walk_at"d"
   refine⟨by lia,?_⟩
   rw[ft];exact h)
  (λi f=>∃g:Θ Sl,f=[γ<|.dat<|.list<|a.map cP,γ<|.dat<|.list<|(fW d (a.map (·.1)) i).map fr,γ<|.dat<|.int (n:χ),γ<|.own<|(tJ d (a.map (·.1)) i).map fr,g])
  ⟨_,rfl⟩ ?_ ?_)
 ·intro i f I qQ0;refine qq0 λqq2=>?_;obtain⟨g,rfl⟩:=qQ0;refine qq2 ?_;have r:=rE z.len i;rw[η]at r;walk_at"s";refine⟨_,rfl,z.termOk<|‹100›,z.totOk<|‹100›,?_⟩;walk_at"d";refine⟨by unfold tJ;rw[η,cw];exact 111,?_⟩;walk_at"d"
  refine bL (λp:θ×Mk=>ay [fr p.1,cP p.2]) fr (λp:θ×Mk=>[p.1*p.2.1]) ((fW d (a.map (·.1)) i).zip a) (by rw[dR];exact 50) (λQ h=>by
    walk_at"d"
    rw[cK];exact h) (λp s N u v=>?_) ?_
  ·have o:=kW (z.termOk (j:=i) ‹100›) (q:=λe:Mk=>Ok e.1) (λe x=>by
    have y:=z.x e.1<|Β.mpr ⟨e,x,rfl⟩
    have J:=z.fit
    have O:m+c<=n*(m+c):=ot _ ‹137›
    exact cA (y.dg z.posM z.pM z.pC) (by lia)) p s
   walk_at"d";refine⟨p.1,p.2.1,rfl,o.1,o.2,?_⟩;walk_at"d";exact v
  rw[aN,jR λ(t:θ)(e:Mk)=>t*e.1];have D:af (λ(t:θ)(e:Mk)=>t*e.1) (fW d (a.map (·.1)) i) a=fW d (a.map (·.1)) (i+1):=by
   rw[fW,List.zipWith_map_right]
  rw[D];have E:(tJ d (a.map (·.1)) i).map fr++[fr<|tot<|fW d (a.map (·.1)) i]=(tJ d (a.map (·.1))<|i+1).map fr:=by
   unfold tJ;rw[oz,bu,bu];rfl
  rw[E];walk_at"d";exact⟨_,rfl⟩
 ·intro f qQ0;refine qq0 λqq2=>?_;obtain⟨g,rfl⟩:=qQ0;refine qq2 ?_;walk_at"d";exact k
def aDq:DW:=λa Q _=>∃b:χ,a=[.int b]/\0<=b/\b<=3/\Q (.dat<|.bool true)
theorem Ma:Q 1 35 (λ_=>aDq):=by
 refine fH 35 ["bend"] λA T R Z=>⟨_,by walk_at"t",_,(bB<|aC<|Nb (aC<|oQ (by decide)<|aF 0)<|Nb (aC<|aNz<|aC<|oQ (by decide)<|aF 0)<|aAq bI (aF 0) bI),?_⟩;intro d Q X qQ0;refine qq0 λqq2=>?_;obtain⟨b,rfl,a,c,k⟩:=qQ0;refine qq2 ?_;walk_at"d";rw[ρ<|by decide,ρ<|by decide,ρ a,cD c];exact k
def cM(n:π)(y:π->θ):ε θ:=(range n).map y
theorem Sx(n:π)(y:π->θ):cM (n+1) y=cM n y++[y n]:=by unfold cM;rw[oz,bu];rfl
theorem vK(n:π)(y:π->θ):(cM n y).length=n:=by unfold cM;rw[η,cw]
theorem qA(n:π)(y:π->θ)(x:θ):bY (cM (n+1) y) x=bY (cM n y) x+y n*x^n:=by
 rw[Sx,kQ,vK]
theorem aO{b:Type}{a:ε b}{d:b}(h:k<a.length):a.getD k d=a[k]:=by simp[getD,h]
theorem kK(h:x.length=n):cM n (λj=>x.getD j 0)=x:=by
 unfold cM;rw[<-h];apply j1
 ·simp
 ·intro i b a;simp[getD,a]
theorem jW(x:θ)(a:ε θ):∀n,bY (a++bp n 0) x=bY a x
 |0=>by rw[List.replicate_zero,j2]
 |n+1=>by
  rw[List.replicate_succ',<-bx,kQ,jW x a n,kf,ji]
theorem Du:∀(a b:ε θ)(x:θ),a.length=b.length->bY (af (λp q=>p-q) a b) x=bY a x-bY b x
 |[],[],x,_=>by rw[qr,eQ];grind
 |p::a,q::b,x,h=>by
  rw[Κ,bN,bN,bN,Du a b x<|by simpa using h];grind
theorem Hj{a b xs:ε θ}(g:a.length=xs.length)(i:b.length=xs.length)(d:xs.Nodup)(h:∀x∈xs,bY a x=bY b x):a=b:=by
 have k:=Pd xs.length (af (λp q=>p-q) a b) xs (by rw[ba];lia) rfl d λx e=>by
  rw[Du a b x<|‹48›,h x e];grind
 refine j1 ‹48› λj l m=>?_
 have:=k (a[j]-b[j]) (by
  have c:j<(af (λp q=>p-q) a b).length:=by rw[ba];lia
  rw[<-jh (f:=λp q=>p-q) (h:=c)]
  exact ax c)
 grind
def dM:π->(π->θ)->θ
 |0,_=>1
 |n+1,f=>dM n f*f n
theorem Gs(h:∀j,j<n->f j=g j):dM n f=dM n g:=by
 induction n with
 |zero=>rfl
 |succ n a=>rw[dM,dM,a λj b=>h j<|‹3›,h n<|‹48›]
theorem Gr(f:π->θ):dM (n+1) f=f 0*dM n (λj=>f<|j+1):=by
 induction n with
 |zero=>simp only[dM];exact 45
 |succ n a=>rw[dM,a,dM];exact 46
theorem Kz(f:π->θ):aS (n+1) f=f 0+aS n (λj=>f<|j+1):=by
 induction n with
 |zero=>simp only[aS];grind
 |succ n a=>rw[aS,a,aS];grind
def Wt(x:π->θ)(m t:π):θ:=dM m λi=>if i=t then 1 else(x t-x i)⁻¹
def Sd(x:π->θ)(m j:π):θ:=aS m λt=>x t^j*Wt x m t
theorem Jd{a:θ}(h:a≠0):a*a⁻¹=1:=i5 a h
theorem aDc(b:t<m)(h:x t≠x m):(x t-x m)*Wt x (m+1) t=Wt x m t:=by
 unfold Wt;rw[dM,ι<|‹34›];have:=Jd (a:=x t-x m) (by grind);grind
theorem Vm(h:x (t+1)≠x 0):(x (t+1)-x 0)*Wt x (m+1) (t+1)=Wt (λi=>x<|i+1) m t:=by
 unfold Wt;rw[Gr,ι<|by lia];have:=Jd (a:=x (t+1)-x 0) (by grind);have e:dM m (λj=>if j+1=t+1 then 1 else(x (t+1)-x (j+1))⁻¹)=dM m (λi=>if i=t then 1 else(x (t+1)-x (i+1))⁻¹):=Gs λj _=>by
  by_cases e:j=t
  ·rw[ρ<|‹48›,ρ e]
  ·rw[ι<|by lia,ι e]
 rw[e];grind
theorem Pa(h:∀t,t<m->x t≠x m):Sd x (m+1) (j+1)-x m*Sd x (m+1) j=Sd x m j:=by
 unfold Sd;rw[<-mE,aS];have e:aS m (λt=>x t^(j+1)*Wt x (m+1) t-x m*(x t^j*Wt x (m+1) t))=aS m λt=>x t^j*Wt x m t:=bG λt a=>by
  rw[<-aDc a (h t a),eo];grind
 rw[e,eo];grind
theorem Xg(h:∀t,t<m->x (t+1)≠x 0):Sd x (m+1) (j+1)-x 0*Sd x (m+1) j=Sd (λi=>x<|i+1) m j:=by
 unfold Sd;rw[<-mE,Kz];have e:aS m (λt=>x (t+1)^(j+1)*Wt x (m+1) (t+1)-x 0*(x (t+1)^j*Wt x (m+1) (t+1)))=aS m λt=>x (t+1)^j*Wt (λi=>x<|i+1) m t:=bG λt a=>by
  rw[<-Vm (h t a),eo];grind
 rw[e,eo];grind
theorem Bx:∀(m:π)(x:π->θ),(∀i j,i<j->j<m->x i≠x j)->∀j,j+2<=m->Sd x m j=0
 |0,_,_,j,h=>by lia
 |1,_,_,j,h=>by lia
 |2,x,c,j,h=>by
  have n:j=0:=by lia
  subst n;have:=c 0 1 (by decide) (by decide);have s:=Jd (a:=x 0-x 1) (by grind);have u:=Jd (a:=x 1-x 0) (by grind);unfold Sd Wt;simp only[aS,dM,js,mi];rw[ι<|by decide,ι<|by decide];grind
 |m+3,x,c,j,h=>by
  have l:=Bx (m+2) x λa b d o=>c a b d ‹103›;have p:=Bx (m+2) (λi=>x<|i+1) λa b d o=>c (a+1) (b+1) ‹108› ‹108›;have e:∀j,j+2<=m+2->Sd x (m+3) j=0:=λj f=>by
   have k:=Pa (x:=x) (m:=m+2) (j:=j) λt g=>c t (m+2) g ‹48›;have q:=Xg (x:=x) (m:=m+2) (j:=j) λt g=>Ne.symm (c 0 (t+1) ‹48›<|‹108›);rw[l j f]at k;rw[p j f]at q;have r:=c 0 (m+2) ‹137› ‹48›;have:(x (m+2)-x 0)*Sd x (m+3) j=0:=by grind
   rcases gc.mp this with z|z
   ·exfalso;grind
   ·exact z
  by_cases f:j+2<=m+2
  ·exact e j f
  ·obtain⟨i,rfl⟩:∃i,j=i+1:=⟨j-1,‹50›⟩;have k:=Pa (x:=x) (m:=m+2) (j:=i) λt g=>c t (m+2) g ‹48›;rw[l i<|‹107›,e i<|‹107›]at k;grind
def sg:π->θ
 |0=>1
 |k+1=>-sg k
theorem Gj(k:π):sg k*sg k=1:=by
 induction k with
 |zero=>show(1:θ)*1=1;exact gf 1
 |succ k a=>rw[sg];grind
theorem eR(k:π):sg k=1\/sg k=-1:=by
 induction k with
 |zero=>exact .inl rfl
 |succ k a=>rw[sg];rcases a with h|h <;>rw[h];exact .inr rfl;exact .inl (by grind)
def Ey(n:π)(x:π->θ):Prop:=∀i j,i<j->j<n->x i<x j
theorem inv_pos'{a:θ}(h:0<a):0<a⁻¹:=zu.mpr h
theorem inv_neg'{a:θ}(h:a<0):a⁻¹<0:=by
 have b:=Jd (a:=a) ‹42›;refine oD.mp λc=>?_;have:=Ν c (show 0<=-a by grind);grind
theorem zK:∀{n:π},(∀i,i<n->0<f i)->0<dM n f
 |0,_=>show(0:θ)<1 by decide
 |n+1,h=>by rw[dM];exact gu (zK λi a=>h i<|‹3›) (h n<|‹48›)
theorem Ob:∀{m:π},Ey (t+1+m) x->0<sg m*Wt x (t+1+m) t
 |0,a=>by
  show 0<sg 0*Wt x (t+1) t;unfold Wt;rw[sg,fh,dM,ρ rfl,gf];refine zK λi c=>?_;rw[ι<|‹35›];exact inv_pos' (by have:=a i t c ‹48›;grind)
 |m+1,a=>by
  have d:=Ob (x:=x) (t:=t) (m:=m) λi j b f=>a i j b ‹3›;have e:Wt x (t+1+(m+1)) t=Wt x (t+1+m) t*(x t-x (t+1+m))⁻¹:=by
   unfold Wt;rw[show t+1+(m+1)=t+1+m+1 by exact 48,dM,ι<|by lia]
  have g:(x t-x (t+1+m))⁻¹<0:=inv_neg' (by have:=a t (t+1+m) ‹48› ‹48›;grind);rw[e,sg];have:=gu d (show 0< -(x t-x (t+1+m))⁻¹ by grind);grind
theorem Vl(b:t<n)(a:Ey n x):0<sg (n-1-t)*Wt x n t:=by
 have:=Ob (x:=x) (t:=t) (m:=n-1-t) (by rw[show t+1+(n-1-t)=n by lia];exact a)
 rwa [show t+1+(n-1-t)=n by lia]at this
theorem Gb:∀{n:π},0<n->(∀i,i<n->0<f i)->0<aS n f
 |0,h,_=>‹39›
 |1,_,h=>by rw[aS,aS];have:=h 0 ‹51›;grind
 |n+2,_,h=>by
  rw[aS];have a:=Gb (f:=f) (n:=n+1) ‹48› λi b=>h i ‹3›;have c:=h (n+1) ‹48›;grind
theorem jF(f g:π->θ):∀n,aS n (λt=>f t+g t)=aS n f+aS n g
 |0=>by show(0:θ)=0+0;grind
 |n+1=>by rw[aS,aS,aS,jF f g n];grind
def yP(x:π->θ)(n:π):θ:=aS n λt=>sg (n-1-t)*Wt x n t
def gT(x:π->θ)(n t:π):θ:=Wt x n t/yP x n
theorem kX(a:0<n)(b:Ey n x):0<yP x n:=Gb a λt c=>Vl c b
theorem tP(a:0<n)(b:Ey n x)(t:π):gT x n t*yP x n=Wt x n t:=gj (by have:=kX a b;exact 41)
theorem oF(b:t<n)(a:Ey n x):0<sg (n-1-t)*gT x n t:=by
 have d:=kX ‹37› a;have e:=Vl b a;rw[<-tP ‹37› a]at e;refine oD.mp λc=>?_;have:=Ν (show 0<=-(sg (n-1-t)*gT x n t) by grind)<|cq d;grind
theorem tN(a:0<n)(b:Ey n x):aS n (λt=>sg (n-1-t)*gT x n t)=1:=by
 have d:=kX a b;have e:yP x n*aS n (λt=>sg (n-1-t)*gT x n t)=yP x n*1:=by
  rw[<-cZ,gf];refine bG λt f=>?_;have:=tP a b t;grind
 have c:yP x n*(aS n (λt=>sg (n-1-t)*gT x n t)-1)=0:=by grind
 rcases gc.mp c with z|z
 ·grind
 ·grind
theorem Oy(d:0<n)(a:Ey n x)(b:j+2<=n):aS n (λt=>gT x n t*x t^j)=0:=by
 have f:=kX d a;have h:=Bx n x (λi j c b=>by have:=a i j c b;exact 42) j b;unfold Sd at h;have e:yP x n*aS n (λt=>gT x n t*x t^j)=0:=by
  rw[<-cZ,<-h];refine bG λt g=>?_;have:=tP d a t;grind
 rcases gc.mp e with z|z
 ·grind
 ·exact z
theorem Oz(f:Ey n x):∀(k:π)(a:ε θ),a.length=k->k+1<=n->aS n (λt=>gT x n t*bY a (x t))=0
 |0,a,h,i=>by
  have:a=[]:=gq.mp h;subst this;have e:(λt=>gT x n t*bY [] (x t))=λt=>0*gT x n t:=by funext t;rw[eQ];exact 145
  rw[e,cZ,kf]
 |k+1,a,h,i=>by
  have b:a≠[]:=λz=>by rw[z]at h;simp at h
  obtain⟨c,d,rfl⟩:∃c d,a=c++[d]:=⟨a.dropLast,a.getLast b,(List.dropLast_concat_getLast b).symm⟩;have g:c.length=k:=by rw[Λ]at h;simpa using h
  have j:=Oz f k c g ‹100›;have e:(λt=>gT x n t*bY (c++[d]) (x t))=λt=>gT x n t*bY c (x t)+d*(gT x n t*x t^k):=by
   funext t;rw[kQ,g];grind
  rw[e,jF,j,cZ,Oy ‹137› f<|‹51›];grind
def lQ(x y:π->θ)(n:π):θ:=aS n λt=>gT x n t*y t
theorem Ix(a:Ey n x)(b:cs.length+1<=n):lQ x y n=aS n λt=>gT x n t*(y t-bY cs (x t)):=by
 have h:=Oz a cs.length cs rfl b;have e:(λt=>gT x n t*(y t-bY cs (x t)))=λt=>gT x n t*y t+(-1)*(gT x n t*bY cs (x t)):=by funext t;grind
 rw[e,jF,cZ,h];unfold lQ;grind
theorem Sk(h:∀t,t<n->f t=0):aS (n+1) f=f n:=by
 rw[aS,gZ h];grind
theorem zV(a:Ey (n+1) x)(l:cs.length=n)(h:∀t,t<n->bY cs (x t)=y t-sg (n-t)*lQ x y (n+1)):∀t,t<n+1->y t-bY cs (x t)=sg (n-t)*lQ x y (n+1):=by
 have g:=Ix (y:=y) a (cs:=cs) ‹48›;have i:aS (n+1) (λt=>gT x (n+1) t*(sg (n-t)*lQ x y (n+1)))=lQ x y (n+1):=by
  have:=tN (n:=n+1) ‹48› a;have e:(λt=>gT x (n+1) t*(sg (n-t)*lQ x y (n+1)))=λt=>lQ x y (n+1)*(sg (n+1-1-t)*gT x (n+1) t):=by
   funext t;rw[t7];grind
  rw[e,cZ,this,gf]
 have j:aS (n+1) (λt=>gT x (n+1) t*((y t-bY cs (x t))-sg (n-t)*lQ x y (n+1)))=0:=by
  have e:(λt=>gT x (n+1) t*((y t-bY cs (x t))-sg (n-t)*lQ x y (n+1)))=λt=>gT x (n+1) t*(y t-bY cs (x t))+(-1)*(gT x (n+1) t*(sg (n-t)*lQ x y (n+1))):=by funext t;grind
  rw[e,jF,cZ,<-g,i];grind
 have b:=Sk (f:=λt=>gT x (n+1) t*((y t-bY cs (x t))-sg (n-t)*lQ x y (n+1))) (n:=n) λt d=>by
  rw[h t d];grind
 rw[j]at b;intro t d;by_cases c:t=n
 ·subst c;have k:=oF (n:=t+1) (t:=t) ‹51› a;rcases gc.mp b.symm with z|z
  ·rw[z]at k;grind
  ·grind
 ·have:=h t ‹13›;grind
theorem Ty(a:Ey n x)(p:cs.length+1<=n)(D:e=1\/e=-1)(h:∀t,t<n->l<=e*(sg (n-1-t)*(y t-bY cs (x t))))(b:s<n)(E:l<e*(sg (n-1-s)*(y s-bY cs (x s)))):l<e*lQ x y n:=by
 have r:=Ix (y:=y) a p;have o:=tN (n:=n) ‹37› a;have u:e*lQ x y n-l=aS n λt=>(sg (n-1-t)*gT x n t)*(e*(sg (n-1-t)*(y t-bY cs (x t)))-l):=by
  have v:(λt=>(sg (n-1-t)*gT x n t)*(e*(sg (n-1-t)*(y t-bY cs (x t)))-l))=λt=>e*(gT x n t*(y t-bY cs (x t)))+(-l)*(sg (n-1-t)*gT x n t):=by
   funext t
   have:=Gj<|n-1-t;grind
  rw[v,jF,cZ,cZ,<-r,o];grind
 have z:∀t,t<n->0<=(sg (n-1-t)*gT x n t)*(e*(sg (n-1-t)*(y t-bY cs (x t)))-l):=λt d=>Ν (cq<|oF d a) (by have:=h t d;grind);have B:0<(sg (n-1-s)*gT x n s)*(e*(sg (n-1-s)*(y s-bY cs (x s)))-l):=gu (oF b a) (by grind);have g:∀(f:π->θ)(m:π),(∀t,t<m->0<=f t)->∀s,s<m->f s<=aS m f:=λf m=>by
  induction m with
  |zero=>intro _ s b;exact 39
  |succ m C=>
   intro i s b;rw[aS];have j:∀q,q<=m->0<=aS q f:=λq=>by
    induction q with
    |zero=>intro _;exact au
    |succ q k=>
     intro F;rw[aS];have:=k ‹0›;have:=i q ‹3›;exact 44
   have G:=j m<|ω _;by_cases c:s=m
   ·subst c;grind
   ·have:=C (λt d=>i t<|‹3›) s ‹13›;have:=i m ‹48›;grind
 have:=g _ n z s b;rw[<-u]at this;grind
theorem Bw(h:t+1<n):sg (n-1-t)=-sg (n-1-(t+1)):=by
 rw[show n-1-t=(n-1-(t+1))+1 by lia,sg]
theorem Ox(L:θ):∃a:θ,(a=1\/a=-1)/\a*L=aM L:=by
 rcases bC L with⟨_,e⟩|⟨_,e⟩
 ·exact⟨1,.inl rfl,by rw[e];grind⟩
 ·exact⟨-1,.inr rfl,by rw[e];grind⟩
theorem Yc{a b:θ}(c:a=1\/a=-1)(d:b=1\/b=-1):a*b=1\/a*b=-1:=by
 rcases c with rfl|rfl <;>rcases d with rfl|rfl <;>grind
theorem Ch(b:a=1\/a=-1)(h:0<=a*r):a*r=aM r:=by
 rcases bC r with⟨c,e⟩|⟨c,e⟩ <;>rw[e] <;>rcases b with rfl|rfl <;>grind
structure NewS(n N v:π)(R:π->θ)(L:θ)(ss:π->π):Prop where
 up:∀i j,i<j->j<n->ss i<ss j
 lt:∀t,t<n->ss t<N
 turn:∃e:θ,(e=1\/e=-1)/\(∀t,t<n->aM L<=e*(sg (n-1-t)*R (ss t)))/\∃t,t<n/\aM L<e*(sg (n-1-t)*R (ss t))
section
variable{n N v a:π}{R:π->θ}{L:θ}{ss:π->π}
theorem aAl(E:∀i j,i<j->j<n->ss i<ss j)(F:∀t,t<n->ss t<N)(G:v<N)(r:∀t,t<n->R (ss t)=sg (n-1-t)*L)(f:aM L<aM (R v))(s:b<n)(H:∀t,t<b->ss t<v)(I:∀t,b<t->t<n->v<ss t)(u:0<=R (ss b)*R v):NewS n N v R L λt=>if t=b then v else ss t:=by
 refine⟨λi j h x=>?_,λt k=>?_,?_⟩
 ·try dsimp only
  by_cases y:i=b
  ·rw[ρ y,ι<|by lia];exact I j (by lia) x
  ·rw[ι y];by_cases l:j=b
   ·rw[ρ l];exact H i ‹38›
   ·rw[ι l];exact E i j h x
 ·try dsimp only
  split
  ·exact G
  ·exact F t k
 ·refine qq0 λqq2=>?_;obtain⟨d,m,B⟩:=Ox L;refine qq2 ?_;have Y:R v≠0:=λz=>by
   rw[z,bU (q:=0) au]at f;have:=gI L;grind
  have o:=eR<|n-1-b;have J:∃e:θ,(e=1\/e=-1)/\e*L=aM L/\0<=e*sg (n-1-b)*R v:=by
   by_cases c:0<=d*sg (n-1-b)*R v
   ·exact⟨d,m,B,c⟩
   ·have l:d*sg (n-1-b)*R v<0:=oD.mp c;have M:L=0:=by
     refine h8.mp λz=>?_;have O:0<aM L:=by rcases bC L with⟨_,e⟩|⟨_,e⟩ <;>rw[e] <;>grind
     rw[r b s]at u;have p:=gu O (show 0< -(d*sg (n-1-b)*R v) by grind);rw[<-B]at p;have S:d*d=1:=by rcases m with rfl|rfl <;>grind
     generalize sg (n-1-b)=g at u p;have T:d*L*-(d*g*R v)=-((d*d)*(g*L*R v)):=by grind
     rw[T,S,fh]at p;grind
    refine⟨-d,?_,?_,by grind⟩
    ·rcases m with rfl|rfl
     ·exact .inr rfl
     ·exact .inl (by grind)
    ·rw[M,bU (q:=0) au,fo]
  refine qq0 λqq2=>?_;obtain⟨e,C,U,W⟩:=J;refine qq2 ?_;have D:e*(sg (n-1-b)*R v)=aM (R v):=by
   rw[<-j9];exact Ch (Yc C o) W
  refine⟨e,C,λt k=>?_,b,s,by rw[ρ rfl,D];exact f⟩
  try dsimp only
  by_cases c:t=b
  ·subst c;rw[ρ rfl,D];exact cq f
  ·rw[ι c,r t k];have:=Gj<|n-1-t;have X:e*(sg (n-1-t)*(sg (n-1-t)*L))=e*L:=by grind
   rw[X,U];exact au
theorem Hg(j:R (ss b)=sg (n-1-b)*L)(h:R (ss b)*R v<0):∃d:θ,(d=1\/d=-1)/\d*L=aM L/\-d*(sg (n-1-b)*R v)=aM (R v):=by
 obtain⟨d,e,i⟩:=Ox L;refine⟨d,e,i,?_⟩;have k:-d=1\/-d=-1:=by
  rcases e with rfl|rfl
  ·exact .inr rfl
  ·exact .inl (by grind)
 rw[<-j9];refine Ch (Yc k<|eR _) ?_;rw[j]at h;have l:d*d=1:=by rcases e with rfl|rfl <;>grind
 refine jk.mp λc=>?_;have f:=Ν (gI L) (show 0<=d*sg (n-1-b)*R v by grind);rw[<-i]at f;generalize sg (n-1-b)=g at h f;have m:d*L*(d*g*R v)=(d*d)*(g*L*R v):=by grind
 rw[m,l,fh]at f;grind
theorem aAm(m:∀i j,i<j->j<n->ss i<ss j)(o:∀t,t<n->ss t<N)(p:v<N)(e:∀t,t<n->R (ss t)=sg (n-1-t)*L)(f:aM L<aM (R v))(g:0<n)(q:∀t,t<n->v<ss t)(r:R (ss 0)*R v<0):NewS n N v R L λt=>if t=0 then v else ss (t-1):=by
 refine⟨λi j s B=>?_,λt h=>?_,?_⟩
 ·try dsimp only
  rw[ι<|show j≠0 by lia];by_cases k:i=0
  ·rw[ρ k];exact q _ ‹12›
  ·rw[ι k];exact m _ _ ‹50› ‹12›
 ·try dsimp only
  split
  ·exact p
  ·exact o _ ‹12›
 ·refine qq0 λqq2=>?_;obtain⟨d,x,y,l⟩:=Hg (n:=n) (v:=v) (L:=L) (b:=0) (e 0 g) r;refine qq2 ?_;refine⟨-d,?_,λt h=>?_,0,g,by rw[ρ rfl,l];exact f⟩
  ·rcases x with rfl|rfl
   ·exact .inr rfl
   ·exact .inl (by grind)
  ·try dsimp only
   by_cases c:t=0
   ·subst c;rw[ρ rfl,l];exact cq f
   ·obtain⟨u,rfl⟩:∃u,t=u+1:=⟨t-1,‹50›⟩;rw[ι c,t7,e u<|‹0›,Bw (n:=n) (t:=u) h];have:=Gj<|n-1-(u+1);have z:-d*(sg (n-1-(u+1))*(-sg (n-1-(u+1))*L))=d*L:=by grind
    rw[z,y];exact au
theorem aGh(k:∀i j,i<j->j<n->ss i<ss j)(l:∀t,t<n->ss t<N)(m:v<N)(e:∀t,t<n->R (ss t)=sg (n-1-t)*L)(f:aM L<aM (R v))(y:0<n)(o:∀t,t<n->ss t<v)(p:R (ss<|n-1)*R v<0):NewS n N v R L λt=>if t=n-1 then v else ss (t+1):=by
 refine⟨λi j q z=>?_,λt r=>?_,?_⟩
 ·try dsimp only
  rw[ι<|show i≠n-1 by lia];by_cases g:j=n-1
  ·rw[ρ g];exact o _ ‹4›
  ·rw[ι g];exact k _ _ ‹8› (by lia)
 ·try dsimp only
  split
  ·exact m
  ·exact l _ (by lia)
 ·refine qq0 λqq2=>?_;obtain⟨d,s,u,h⟩:=Hg (n:=n) (v:=v) (L:=L) (b:=n-1) (e (n-1)<|‹31›) p;refine qq2 ?_;refine⟨-d,?_,λt r=>?_,n-1,‹31›,by rw[ρ rfl,h];exact f⟩
  ·rcases s with rfl|rfl
   ·exact .inr rfl
   ·exact .inl (by grind)
  ·try dsimp only
   by_cases c:t=n-1
   ·subst c;rw[ρ rfl,h];exact cq f
   ·rw[ι c,e (t+1)<|by lia,Bw (n:=n) (t:=t)<|by lia];have:=Gj<|n-1-(t+1);have x:-d*(-sg (n-1-(t+1))*(sg (n-1-(t+1))*L))=d*L:=by grind
    rw[x,u];exact au
theorem aNy(g:∀i j,i<j->j<n->ss i<ss j)(h:∀t,t<n->ss t<N)(k:v<N)(b:∀t,t<n->R (ss t)=sg (n-1-t)*L)(l:aM L<aM (R v))(q:0<a)(d:a<n)(m:∀t,t<a->ss t<v)(o:∀t,a<=t->t<n->v<ss t)(p:R (ss<|a-1)*R v<0):NewS n N v R L λt=>if t=a then v else ss t:=by
 refine aAl g h k b l d m (λt e c=>o t ‹0› c) ?_;have e:=b (a-1) ‹12›;have c:=b a d;have f:=Bw (n:=n) (t:=a-1) (by lia);rw[show a-1+1=a by exact 50]at f;rw[e,f]at p;rw[c];grind
end
def Ww:ε π->ε (ε π)
 |[]=>[[]]
 |a::l=>(Ww l).map (a::·)++Ww l
theorem uT:∀{l s:ε π},s.Sublist l->s∈Ww l
 |[],s,h=>by rw[List.sublist_nil.mp h];exact υ
 |a::l,s,h=>by
  cases h with
  |cons _ h=>exact cc _<|uT h
  |cons_cons _ h=>exact ib _<|Β.mpr ⟨_,uT h,rfl⟩
theorem rG:∀(k a:π)(s:ε π),s.Pairwise (·<·)->(∀x∈s,a<=x/\x<a+k)->s.Sublist (List.range' a k)
 |0,a,[],_,_=>xh _
 |0,a,x::s,_,h=>by have:=h x υ;lia
 |k+1,a,[],_,_=>xh _
 |k+1,a,x::s,e,h=>by
  rw[List.range'_succ];have b:=fv.mp e;have f:=h x υ;by_cases c:x=a
  ·subst c;refine List.Sublist.cons_cons _<|rG k (x+1) s b.2 λy d=>?_;have:=b.1 y d;have:=h y<|ο _ d;lia
  ·refine List.Sublist.cons _<|rG k (a+1) (x::s) e λy d=>?_;have:=h y d;rcases Υ.mp d with rfl|d
   ·lia
   ·have:=b.1 y d;lia
theorem Nh(a:s.Pairwise (·<·))(h:∀x∈s,x<N):s∈Ww (range N):=by
 rw[List.range_eq_range'];exact uT<|rG N 0 s a λx b=>⟨iw _,by have:=h x b;lia⟩
theorem aIo{i:Type}{f:i->θ}{s:i}:∀{a:ε i},s∈a->l<f s->(a.filter λc=>decide (f s<f c)).length<(a.filter λc=>decide (l<f c)).length
 |[],h,_=>nomatch h
 |c::a,h,j=>by
  have k:∀a:ε i,(a.filter λc=>decide (f s<f c)).length<=(a.filter λc=>decide (l<f c)).length:=λa=>by
   induction a with
   |nil=>exact ω _
   |cons d a b=>
    by_cases e:f s<f d
    ·rw[gv<|by simpa using e,gv<|by simpa using(show l<f d by grind)];simpa using b
    ·rw[ip<|by simpa using e];by_cases g:l<f d
     ·rw[gv<|by simpa using g,Ε];exact 3
     ·rw[ip<|by simpa using g];exact b
  rcases Υ.mp h with rfl|h
  ·rw[ip<|by simp,gv<|by simpa using j,Ε];have:=k a;exact 48
  ·have b:=aIo h j;by_cases e:f s<f c
   ·rw[gv<|by simpa using e,gv<|by simpa using(show l<f c by grind)];simpa using b
   ·rw[ip<|by simpa using e];by_cases g:l<f c
    ·rw[gv<|by simpa using g,Ε];exact 3
    ·rw[ip<|by simpa using g];exact b
def rN(c:θ)(a:ε θ):ε θ:=af (λp q=>p-q) (0::a)<|a.map (λq=>c*q)++[0]
theorem Mg(c:θ)(a:ε θ):(rN c a).length=a.length+1:=by
 unfold rN;rw[ba,Ε,Λ,η];simp
theorem Qn(c x:θ):∀a:ε θ,bY (a.map λq=>c*q) x=c*bY a x
 |[]=>by rw[pd,eQ,fo]
 |q::a=>by rw[Μ,bN,bN,Qn c x a];grind
theorem Mh(c x:θ)(a:ε θ):bY (rN c a) x=(x-c)*bY a x:=by
 unfold rN;rw[Du _ _ _ (by rw[Ε,Λ,η];rfl),bN,kQ,Qn];grind
def oO:ε θ->ε θ
 |[]=>[1]
 |c::a=>rN c<|oO a
theorem Jb:∀a:ε θ,(oO a).length=a.length+1
 |[]=>rfl
 |c::a=>by rw[oO,Mg,Jb a,Ε]
def iS(x:θ):ε θ->θ
 |[]=>1
 |c::a=>(x-c)*iS x a
theorem Jc(x:θ):∀a:ε θ,bY (oO a) x=iS x a
 |[]=>by show bY [1] x=1;rw[bN,eQ];grind
 |c::a=>by rw[oO,Mh,Jc x a,iS]
theorem vI:∀{a:ε θ},x∈a->iS x a=0
 |c::a,h=>by
  rw[iS];rcases Υ.mp h with rfl|h
  ·grind
  ·rw[vI h];grind
theorem vJ:∀{a:ε θ},x∉a->iS x a≠0
 |[],_=>by show(1:θ)≠0;decide
 |c::a,h=>by
  rw[iS];intro z;rcases gc.mp z with z|z
  ·exact h (by rw[show x=c by grind];exact υ)
  ·exact vJ (λq=>h<|ο _ q) z
theorem Qh:∀{xs:ε θ},(∀x∈xs,Cm M C x)->∀q∈oO xs,Cm (M^xs.length) ((C+1)^xs.length) q
 |[],_,q,h=>by
  rw[br.mp h];exact Cm.int (i:=1) (show 1<=(C+1)^0 from ω _)
 |c::xs,g,q,h=>by
  have j:=Qh (xs:=xs) λx h=>g x<|ο _ h;have m:=g c υ;rw[oO]at h;unfold rN at h;rw[Ε,eT,eT];have b:∀p r:θ,Cm (M^xs.length) ((C+1)^xs.length) p->Cm (M^xs.length) ((C+1)^xs.length) r->Cm (M^xs.length*M) ((C+1)^xs.length*(C+1)) (p-c*r):=λp r e n=>by
   have a:=m.mul n;rw[fm M]at a;exact((e.mono (fx _ M)<|ω _).sub a).mono (dA _) (by rw[v7,ju,fm C];exact 48)
  obtain⟨i,k⟩:=tq h;rw[List.getElem?_zipWith_eq_some]at k;refine qq0 λqq2=>?_;obtain⟨p,r,a,d,rfl⟩:=k;refine qq2 ?_;have e:Cm (M^xs.length) ((C+1)^xs.length) p:=by
   rcases Υ.mp (Ω a)with rfl|a
   ·exact Cm.zero
   ·exact j p a
  rcases cj.mp (Ω d)with d|d
  ·obtain⟨l,f,rfl⟩:=Β.mp d;exact b p l e<|j l f
  ·rw[br.mp d];have:=b p 0 e Cm.zero;rw[fo]at this;exact this
theorem rF(f:π->π->θ)(m:π):∀n,aS n (λk=>aS m λt=>f k t)=aS m λt=>aS n λk=>f k t
 |0=>by
  show(0:θ)=_;exact(gZ λ_ _=>rfl).symm
 |n+1=>by
  rw[aS,rF f m n];have e:∀m,aS m (λt=>aS n λk=>f k t)+aS m (λt=>f n t)=aS m λt=>aS (n+1) λk=>f k t:=λm=>by
   induction m with
   |zero=>show(0:θ)+0=0;grind
   |succ m a=>rw[aS,aS,aS,<-a,aS];grind
  exact e m
theorem mR(h:b.length=m)(x:θ):bY b x=aS m λk=>b.getD k 0*x^k:=by
 have e:=kK h;rw[<-e];have g:∀n (y:π->θ),bY (cM n y) x=aS n λk=>y k*x^k:=λn y=>by
  induction n with
  |zero=>rfl
  |succ n a=>rw[qA,a,aS]
 rw[g];refine bG λk c=>?_;rw[e]
def Ja(a:ε θ)(y:π->θ):ε θ:=cM a.length λk=>aS a.length λt=>(y t/iS (a.getD t 0) (a.eraseIdx t))*(oO<|a.eraseIdx t).getD k 0
theorem wN(p:a.Nodup)(y:π->θ)(f:s<a.length):bY (Ja a y) (a.getD s 0)=y s:=by
 have q:∀t,t<a.length->(oO<|a.eraseIdx t).length=a.length:=λt d=>by
  rw[Jb,r6,ρ d];exact 50
 unfold Ja;have g:∀n (z:π->θ)(x:θ),bY (cM n z) x=aS n λk=>z k*x^k:=λn z x=>by
  induction n with
  |zero=>rfl
  |succ n r=>rw[qA,r,aS]
 rw[g];have u:aS a.length (λk=>aS a.length (λt=>(y t/iS (a.getD t 0) (a.eraseIdx t))*(oO<|a.eraseIdx t).getD k 0)*a.getD s 0^k)=aS a.length λt=>(y t/iS (a.getD t 0) (a.eraseIdx t))*iS (a.getD s 0) (a.eraseIdx t):=by
  have v:∀k,k<a.length->aS a.length (λt=>(y t/iS (a.getD t 0) (a.eraseIdx t))*(oO<|a.eraseIdx t).getD k 0)*a.getD s 0^k=aS a.length λt=>(y t/iS (a.getD t 0) (a.eraseIdx t))*((oO<|a.eraseIdx t).getD k 0*a.getD s 0^k):=λk _=>by
   rw[n6,<-cZ];exact bG λt _=>by grind
  rw[bG v,rF];refine bG λt d=>?_;rw[cZ,<-mR (q t d),Jc]
 rw[u];have m:a.getD s 0=a[s]:=aO f;have i:∀t,t<a.length->t≠s->a[s]∈a.eraseIdx t:=λt d b=>by
  rw[j8];exact⟨s,f,λz=>b z.symm,rfl⟩
 have nm:a[s]∉a.eraseIdx s:=λh=>by
  rw[j8]at h;obtain⟨j,o,l,e⟩:=h;have:=fj.mp p;rcases k6 l with c|c
  ·exact this j s o f c e
  ·exact this s j f o c e.symm
 rw[mC f λt d b=>by
  rw[m,vI (i t d b),fo]]
 rw[m];exact gj<|vJ nm
theorem Zu(h:Cm M B d)(j:0<M)(e:d≠0):∃V:π,0<V/\V<=B*M/\Cm V M d⁻¹:=by
 have f:d.num≠0:=λz=>e<|sy.mp z;have g:d.den<=M:=h.den j;have i:=Fm.num_eq d;have n:(0:θ)<(d.den:θ):=by rw[<-Ι];exact gb.mpr (by have:=Fm.den_pos d;assumption)
 have k:d⁻¹=bz (d.den:χ) d.num:=by
  refine Fm.eq_divInt f ?_;rw[Ι,i];have:=i5 d e;grind
 refine⟨d.num.natAbs,‹15›,Α h.num<|Χ _ g,?_⟩;have o:(d.den:θ)<=(M:θ):=lK g;have l:d⁻¹.den∣d.num.natAbs:=by rw[k];exact Ei _ f
 have inv1:=i5 d e;have b:(d.num:θ)<=-1\/1<=(d.num:θ):=by
  by_cases c:0<d.num
  ·exact .inr (bh.mpr<|show(1:χ)<=d.num by assumption)
  ·exact .inl (by
    have:((d.num:χ):θ)<=((-1:χ):θ):=bh.mpr (by lia)
    exact this)
 have m:d⁻¹*(d.num:θ)=(d.den:θ):=by rw[i];grind
 refine⟨l,?_,?_⟩
 ·rcases b with b|b
  ·refine jk.mp λc=>?_;have:=Ν (show 0<=-d⁻¹-(M:θ) by grind) (show 0<=-(d.num:θ)-1 by grind);have a:=jY M;have:=Ν a (show 0<=-(d.num:θ)-1 by grind);grind
  ·refine jk.mp λc=>?_;have a:=jY M;have:=Ν (show 0<=-d⁻¹-(M:θ) by grind) (show 0<=(d.num:θ)-1 by grind);have:=Ν a (show 0<=(d.num:θ)-1 by grind);grind
 ·rcases b with b|b
  ·refine jk.mp λc=>?_;have a:=jY M;have:=Ν (show 0<=d⁻¹-(M:θ) by grind) (show 0<=-(d.num:θ)-1 by grind);have:=Ν a (show 0<=-(d.num:θ)-1 by grind);grind
  ·refine jk.mp λc=>?_;have a:=jY M;have:=Ν (show 0<=d⁻¹-(M:θ) by grind) (show 0<=(d.num:θ)-1 by grind);have:=Ν a (show 0<=(d.num:θ)-1 by grind);grind
theorem Gv:∀{xs:ε θ},(∀c∈xs,Cm M E<|x-c)->Cm (M^xs.length) (E^xs.length) (iS x xs)
 |[],_=>Cm.int (i:=1) (show 1<=E^0 from ω _)
 |c::xs,h=>by
  rw[iS,Ε,eT,eT,fm<|M^_,fm<|E^_];exact(h c υ).mul<|Gv λd a=>h d<|ο _ a
theorem Br{κ:Type}{L A B:π}{f:κ->π->θ}:∀{m:π},(∀t,t<m->∃V:π,0<V/\V<=A/\∀k,Cm (L*V) B<|f k t)->∃V:π,0<V/\V<=A^m/\∀k,Cm (L*V) (m*B) (aS m<|f k)
 |0,_=>⟨1,by decide,ω _,λ_=>Cm.zero⟩
 |m+1,h=>by
  obtain⟨V,a,b,c⟩:=Br (f:=f) (m:=m) λt l=>h t ‹3›;refine qq0 λqq2=>?_;obtain⟨U,d,e,g⟩:=h m ‹48›;refine qq2 ?_;refine⟨V*U,fq a d,by rw[eT];exact Τ b e,λk=>?_⟩;rw[aS];have i:=(c k).mono (L':=L*(V*U)) (by rw[<-gi];exact fx _ _)<|ω _;have j:=(g k).mono (L':=L*(V*U)) (by rw[fm V U,<-gi];exact fx _ _)<|ω _;exact(i.add j).mono (dA _) (by rw[l5,jc];exact ω _)
theorem Ot{L A B:π}(h:∀t,t<m->∃V:π,0<V/\V<=A/\Cm (L*V) B (f t)):∃V:π,0<V/\V<=A^m/\Cm (L*V) (m*B) (aS m f):=by
 obtain⟨V,d,e,g⟩:=Br (κ:=Unit) (f:=λ_=>f) λt i=>(h t i).imp λ_ ⟨a,b,c⟩=>⟨a,b,λ_=>c⟩;exact⟨V,d,e,g ()⟩
theorem Qg(r:0<M)(s:xs.Nodup)(u:∀x∈xs,Cm M C x)(v:∀x∈xs,∀z∈xs,Cm M E<|x-z)(B:∀t,t<xs.length->Cm L Y (y t)):
  ∃V:π,0<V/\V<=(E^(xs.length-1)*M^(xs.length-1))^xs.length/\∀q∈Ja xs y,Cm (L*M^(xs.length-1)*V) (xs.length*(Y*M^(xs.length-1)*(C+1)^(xs.length-1))) q:=by
 suffices h:∃V:π,0<V/\V<=(E^(xs.length-1)*M^(xs.length-1))^xs.length/\∀k:π,Cm (L*M^(xs.length-1)*V) (xs.length*(Y*M^(xs.length-1)*(C+1)^(xs.length-1))) (aS xs.length λt=>(y t/iS (xs.getD t 0) (xs.eraseIdx t))*(oO<|xs.eraseIdx t).getD k 0) by
  refine qq0 λqq2=>?_;obtain⟨V,d,f,g⟩:=h;refine qq2 ?_;refine⟨V,d,f,λq m=>?_⟩;unfold Ja cM at m;refine qq0 λqq2=>?_;obtain⟨k,J,rfl⟩:=Β.mp m;refine qq2 ?_;exact g k
 refine Br λt a=>?_;have n:(xs.eraseIdx t).length=xs.length-1:=by rw[r6,ρ a]
 have b:∀z∈xs.eraseIdx t,z∈xs:=λz i=>lr i;have D:xs.getD t 0=xs[t]:=aO a;have F:xs[t]∈xs:=ax a;have nm:xs[t]∉xs.eraseIdx t:=λh=>by
  rw[j8]at h;obtain⟨j,o,l,e⟩:=h;have:=fj.mp s;rcases k6 l with c|c
  ·exact this j t o a c e
  ·exact this t j a o c e.symm
 have p:=Gv (x:=xs[t]) (xs:=xs.eraseIdx t) λc G=>v _ F c<|b c G;rw[n]at p;obtain⟨V,d,f,g⟩:=Zu p (jt r)<|vJ nm;have H:∀k,Cm (M^(xs.length-1)) ((C+1)^(xs.length-1)) ((oO<|xs.eraseIdx t).getD k 0):=λk=>by
  have h:=Qh (xs:=xs.eraseIdx t) λz i=>u z<|b z i;rw[n]at h;by_cases c:k<(oO<|xs.eraseIdx t).length
  ·rw[aO c];exact h _<|ax c
  ·rw[Ο,qk<|‹24›];exact Cm.zero
 refine⟨V,d,f,λk=>?_⟩;rw[D,jb];have I:=((B t a).mul g).mul<|H k;refine I.mono ?_<|ω _;rw[gi,gi,fm V];exact dA _
theorem sM(q:θ):q.num<0↔q<0:=by
 have:=@ma q;rw[<-oD,<-this];lia
def uJ(a b:θ):θ:=if a<0 then -b else b
def xL(a:ε Mk)(t:π):θ:=(a.getD t (0,0,0)).1
def yL(a:ε Mk)(t:π):θ:=(a.getD t (0,0,0)).2.1
structure CZ(cs:ε Mk):Prop where
 n2:2<=cs.length
 n5:cs.length<=5
 up:cs.Pairwise λa b=>a.1<b.1
 x:∀m∈cs,Dg 9 m.1
 d:∀m∈cs,∀o∈cs,Cm 2 (10^3)<|m.1-o.1
theorem CZ.upF(Z:CZ a):Ey a.length (xL a):=λi j b c=>by
 have:=fj.mp Z.up i j ‹5› c b;unfold xL;rw[aO<|‹5›,aO c];exact this
theorem CZ.dd(Z:CZ a)(c:m∈a)(d:o∈a):Dg 5 (m.1-o.1):=(Z.d m c o d).dg (by decide) (l:=1) (by decide) (b:=3)<|ω _
theorem Oc(Z:CZ a)(b:t<a.length):∀j,j<=a.length->Dg (6*j) (dM j λi=>if i=t then 1 else(xL a t-xL a i)⁻¹)
 |0,_=>Dg.one
 |j+1,g=>by
  have d:=Oc Z b j ‹0›;rw[dM];by_cases c:j=t
  ·rw[ρ c,gf];exact d.mono ‹48›
  ·rw[ι c];have e:Dg 5 (xL a t-xL a j):=by
    unfold xL;rw[aO b,aO<|show j<a.length by assumption];exact Z.dd (ax _)<|ax _
   have f:xL a t-xL a j≠0:=λz=>by
    rcases k6 c with q|q
    ·have:=Z.upF j t q b;grind
    ·have:=Z.upF t j q ‹51›;grind
   exact(d.mul<|e.inv f).mono ‹48›
theorem Kw:∀{l:ε θ},(∀q∈l,Dg d q)->Dg ((d+1)*l.length) (tot l)
 |[],_=>Dg.zero
 |q::l,h=>by
  rw[tot,Ε,v7,ju];exact((h q υ).add<|Kw λx a=>h x<|ο _ a).mono ‹48›
theorem mY(f:π->θ):∀n,tot ((range n).map f)=aS n f
 |0=>rfl
 |n+1=>by rw[oz,bu,vc,uQ,mY f n,aS]
def Sb:DW:=λc Q _=>∃a b:θ,c=[fr a,fr b]/\Q (.dat<|fr<|uJ a b)
theorem tE:Q 1 41 (λ_=>Sb):=by
 refine fH 41 ["one","other"] λA T R Z=>⟨_,by walk_at"t",_,(aH (bF (tO eW (aC (eX 0 0)) bI) (bB (aC (cH (aI (iA (aC (eX 0 1))) (aI (eX 1 1) aQ))))) aP)
   (dU 1)),?_⟩
 intro d Q X qQ0;refine qq0 λqq2=>?_;obtain⟨a,b,rfl,k⟩:=qQ0;refine qq2 ?_;unfold uJ at k;walk_at"s";refine bW (λc=>?_) λc=>?_
 ·rw[ρ<|(sM a).mp c]at k;exact k
 ·rw[ι λz=>c<|(sM a).mpr z]at k;walk_at"d";exact k
def aDg:DW:=λb Q _=>∃a:ε Mk,b=[.list<|a.map cP]/\CZ a/\Q (.own<|((range a.length).map<|gT (xL a) a.length).map fr)
theorem vW:Q 5 40 (λ_=>aDg):=by
 refine fH 40 ["chosen","shares","mark","share","other","whole"] λA T R Z=>⟨_,by walk_at"t",_,(aH (aZ 1 (dG aQ))
   (aH (eA (iV (bE 0)) (aG 2)
    (sA 3 (cH (aI aU (aI aU aQ))) (aH (eA (iV (bE 0)) (aG 4)
    (bF (tO hX (aC (eX 0 4)) (aC (eX 0 2))) (eL (aE (vN 3 (vE (aE (vE (eX 0 2) (vE (eX 0 4) aB))) aB))) (aG 3)) aP))
   (nZ 1 (bE 3)))))
   (sA 5 (aE (vE (cL (bS [ν] ["share"] (cE (aL 1)) (aG 0) bV (aE (vN 0 aB)))) aB)) (dW (bS [ν,γ 5] ["share","whole"] (cE (aL 1)) (aG 0) bV (aE (vN 0 (vN 1 aB)))))))),?_⟩
 intro ds Q X qQ0;refine qq0 λqq2=>?_;obtain⟨a,rfl,Z,k⟩:=qQ0;refine qq2 ?_;have n5:=Z.n5;have n2:=Z.n2;walk_at"s"
 refine cW (eJ cP a (λQ h=>by walk_at"d";exact h)
  (λi p=>∃y B g:Θ μ,p=[γ<|.dat<|.list<|a.map cP,γ<|.own<|((range i).map<|Wt (xL a) a.length).map fr,y.map Sl.dat,B.map Sl.dat,g.map Sl.dat,ν])
  ⟨ν,ν,ν,rfl⟩ ?_ ?_)
 ·intro t m p n qQ0;refine qq0 λqq2=>?_;obtain⟨y,B,g,rfl⟩:=qQ0;refine qq2 ?_;have C:=(Δ.mp n).1;have H:=Ω n;have D:xL a t=m.1:=by unfold xL;rw[aO C,(Δ.mp n).2]
  walk_at"s"
  refine cW (eJ cP a (λQ h=>by walk_at"d";exact h)
   (λj p=>∃g:Θ μ,p=[γ<|.dat<|.list<|a.map cP,γ<|.own<|((range t).map<|Wt (xL a) a.length).map fr,γ<|.dat<|cP m,γ<|.dat<|fr<|dM j λi=>if i=t then 1 else(xL a t-xL a i)⁻¹,g.map Sl.dat,ν])
   ⟨g,rfl⟩ ?_ ?_)
  ·intro j o p r qQ0;refine qq0 λqq2=>?_;obtain⟨g,rfl⟩:=qQ0;refine qq2 ?_;have I:=(Δ.mp r).1;have J:=Ω r;have L:xL a j=o.1:=by unfold xL;rw[aO I,(Δ.mp r).2]
   have M:=Oc Z C j ‹100›;walk_at"d";refine⟨θ,eRat,o.1,m.1,rfl,rfl,λv O=>?_⟩;rw[dM];cases v with
   |true=>
    have e:o.1=m.1:=O.mp rfl;have E:j=t:=by
     refine h8.mp λc=>?_;rw[<-L,<-D]at e;rcases k6 c with q|q
     ·have:=Z.upF j t q C;grind
     ·have:=Z.upF t j q I;grind
    rw[ρ E,gf];dsimp only;rw[ι<|by decide];exact⟨γ _,rfl⟩
   |false=>
    have S:o.1≠m.1:=λz=>by have:=O.mpr z;cases this
    have E:j≠t:=λz=>by
     subst z;rw[n]at r;exact S (by rw[bw r])
    rw[ι E,D,L];dsimp only;rw[ρ<|by decide];walk_at"d";rw[D]at M;refine⟨_,_,rfl,cA<|Z.x m H,cA<|Z.x o J,?_⟩;walk_at"d";refine⟨_,_,rfl,cA M<|by lia,cA<|Z.dd H J,λz=>ψ z λz=>S<|by grind,λ_=>?_⟩;walk_at"d";rw[jb];exact⟨γ _,rfl⟩
  intro p qQ0;refine qq0 λqq2=>?_;obtain⟨g,rfl⟩:=qQ0;refine qq2 ?_;walk_at"d";refine⟨by rw[cw];exact 111,γ<|cP m,γ<|fr<|dM a.length λi=>if i=t then 1 else(xL a t-xL a i)⁻¹,g,?_⟩;rw[oz,bu,bu];rfl
 intro p qQ0;refine qq0 λqq2=>?_;obtain⟨y,B,g,rfl⟩:=qQ0;obtain⟨b,d⟩:∃b,(range a.length).map (Wt (xL a) a.length)=b:=⟨_,rfl⟩;refine qq2 ?_;have wl:b.length=a.length:=by rw[<-d,η,cw]
 have s:∀q∈b,Dg 30 q:=λq f=>by
  rw[<-d]at f;obtain⟨t,n,rfl⟩:=Β.mp f;exact(Oc Z (di.mp n) a.length<|ω _).mono (by lia)
 rw[d];walk_at"s";refine bL fr fr (λq:θ=>[aM q]) b ‹110› (λQ h=>by walk_at"d";exact h) (λq f N F G=>?_) ?_
 ·walk_at"d";refine⟨q,rfl,?_⟩;walk_at"d";exact G
 rw[aN];have U:∀q∈b.map aM,Dg 30 q:=λq f=>by
  obtain⟨x,hx,rfl⟩:=Β.mp f;exact(s x hx).abs
 have W:∀i,Dg 155 (tot<|(b.map aM).take i):=λi=>by
  refine(Kw (l:=(b.map aM).take i) λq f=>U q<|cv f).mono ?_;rw[ao,η,wl];have:(30+1)*min i a.length<=(30+1)*5:=Χ _ ‹50›;assumption
 have Y:tot (b.map aM)=yP (xL a) a.length:=by
  rw[<-d,ia,mY];unfold yP;refine bG λt n=>?_;show aM (Wt (xL a) a.length t)=_;exact(Ch (eR _)<|cq<|Vl n Z.upF).symm
 have u:=W (b.map aM).length;rw[kh,Y]at u;have T0:=kX ‹100› Z.upF;refine⟨b.map aM,rfl,λq f=>cA<|U q f,λi=>cA<|W i,?_⟩;rw[Y];walk_at"d";refine bL fr fr (λq:θ=>[q/yP (xL a) a.length]) b ‹110› (λQ h=>by walk_at"d";exact h) (λq f N F G=>?_) ?_
 ·walk_at"d";refine⟨q,_,rfl,cA<|s q f,cA u,λz=>ψ z<|‹141›,λ_=>?_⟩;walk_at"d";exact G
 rw[aN];have ef:b.map (λq=>q/yP (xL a) a.length)=(range a.length).map (gT (xL a) a.length):=by
  rw[<-d,ia];rfl
 rw[ef];exact k
abbrev eN(k:π):μ:=.int (k:χ)
theorem Av(v:π):∀{a:ε π},a.Pairwise (·<·)->(∀t,t<(a.flatMap λs=>if s<v then[s]else[]).length->a.getD t 0<v)/\(∀t,(a.flatMap λs=>if s<v then[s]else[]).length<=t->t<a.length->v<=a.getD t 0)/\(a.flatMap λs=>if s<v then[s]else[]).length<=a.length
 |[],_=>⟨λt h=>by simp at h,λt _ h=>by simp at h,by simp⟩
 |x::a,i=>by
  have b:=fv.mp i;refine qq0 λqq2=>?_;obtain⟨j,k,m⟩:=Av v b.2;refine qq2 ?_;by_cases c:x<v
  ·rw[v8,ρ c,List.singleton_append,Ε,Ε];refine⟨λt f=>?_,λt f g=>?_,‹48›⟩
   ·cases t with
    |zero=>exact c
    |succ t=>exact j t ‹107›
   ·cases t with
    |zero=>lia
    |succ t=>exact k t (by lia) ‹107›
  ·have e:(a.flatMap λs=>if s<v then[s]else[])=[]:=by
    rw[List.flatMap_eq_nil_iff];intro s l;have:=b.1 s l;rw[ι<|by lia]
   rw[v8,ι c,e];refine⟨λt f=>by simp at f,λt _ g=>?_,by simp⟩;cases t with
   |zero=>show v<=x;exact 124
   |succ t=>
    have d:t<a.length:=by simpa using g
    show v<=a.getD t 0;rw[aO d];have:=b.1 _<|ax d;lia
theorem Mc(p q:θ):0<=p.num*q.num↔0<=p*q:=by
 have a:(0:θ)<(p.den:θ):=by rw[<-Ι];exact gb.mpr (by have:=Fm.den_pos p;assumption)
 have d2:(0:θ)<(q.den:θ):=by rw[<-Ι];exact gb.mpr (by have:=Fm.den_pos q;assumption)
 have d:=gu a d2;have e:((p.num*q.num:χ):θ)=p*q*((p.den:θ)*(q.den:θ)):=by
  rw[ae,Fm.num_eq p,Fm.num_eq q];grind
 rw[<-hF,e];constructor
 ·intro h;refine jk.mp λz=>?_;have:=gu (show 0< -(p*q) by grind) d;grind
 ·intro h;exact Ν h<|cq d
theorem Gk{a:ε π}(d:b<a.length):(a.take b++[v]++a.drop (b+1)).getD t 0=if t=b then v else a.getD t 0:=by
 have e:a.take b++[v]++a.drop (b+1)=a.set b v:=by
  rw[List.set_eq_take_append_cons_drop,ρ d,bx];rfl
 rw[e,Ο,v9];by_cases c:t=b
 ·subst c;rw[ρ rfl,ρ d,ρ rfl];rfl
 ·rw[ι<|Ne.symm c,ι c,Ο]
theorem Mz{a:ε π}(b:t<a.length):(v::a.dropLast).getD t 0=if t=0 then v else a.getD (t-1) 0:=by
 cases t with
 |zero=>rfl
 |succ t=>
  rw[ι<|by lia,List.getD_cons_succ,t7,Ο,List.getElem?_dropLast,ρ<|‹7›,Ο]
theorem Ua{a:ε π}(b:0<a.length)(d:t<a.length):(a.drop 1++[v]).getD t 0=if t=a.length-1 then v else a.getD (t+1) 0:=by
 by_cases c:t=a.length-1
 ·rw[ρ c,Ο,cx (by rw[az];exact 50),az,c,oy];rfl
 ·rw[ι c,Ο,ek (by rw[az];exact 50),qa,Ο,qg]
theorem NewS.congr(h:NewS n N v R L f)(e:∀t,t<n->g t=f t):NewS n N v R L g:=by
 obtain⟨d,k,l,t,a,m⟩:=h.turn;refine⟨λi j b c=>by rw[e i<|‹5›,e j c];exact h.up i j b c,λt a=>by rw[e t a];exact h.lt t a,d,k,λt a=>by rw[e t a];exact l t a,t,a,by rw[e t a];exact m⟩
def aQr:DW:=λd Q _=>∃(a:ε π)(b:ε θ)(v:π)(L:θ),d=[.list<|a.map eN,.list<|b.map fr,.int (v:χ)]/\2<=a.length/\a.length<=5/\a.Pairwise (·<·)/\(∀s∈a,s<b.length)/\b.length<=60/\v<b.length/\(∀q∈b,Ok q)/\(∀t,t<a.length->b.getD (a.getD t 0) 0=sg (a.length-1-t)*L)/\aM L<aM (b.getD v 0)/\
 ∀c:ε π,c.length=a.length->NewS a.length b.length v (λi=>b.getD i 0) L (λt=>c.getD t 0)->Q (.own<|c.map eN)
theorem Cw:Q 1 44 (λ_=>aQr):=by
 refine fH 44 ["spots","misses","spot","ahead","beside"] λA T R Z=>⟨_,by walk_at"t",_,(sA 3 (bQ cT (vE (cL (bS [ν,γ 2] ["one","spot"] (cE (aL 0)) (aG 0) (tO eW (aF 0) (aF 1)) (bE 0))) aB)) (sA 4 (bQ Li (vE (bZ cN (aF 3) bI) (vE aU aB))) (nY (bF (tO eW (bO dQ (aC (kD 0 (bR (aL 1) (aC (bR (aL 0) (aF 4)))))) (aC (kD 0 (bR (aL 1) (aF 2))))) bI) (dW (iN (fB (iN (fB (gU (aL 0) fZ (cS (aF 4)))) (fB (dG (aI (bE 2) aQ))))) (fB (gU (aL 0) (cS (bO cN (aF 4) bI)) fZ)))) aP)
   (aH (bF (tO cR (aF 3) bI) (dW (iN (fB (dG (aI (bE 2) aQ))) (fB (gU (aL 0) fZ (cS (aC (Jq (v:=(-1)) (iA bI) (λex Y Q h=>Eq.mpr (ea (λz=>Q (.int z)) (by decide +kernel:((-1):χ)=-1)) h)))))))) aP)
   (aH (bF (tO cR (aF 3) (aC (bQ cT (vN 0 aB)))) (dW (iN (fB (gU (aL 0) (cS bI) fZ)) (fB (dG (aI (bE 2) aQ))))) aP)
   (dW (iN (fB (iN (fB (gU (aL 0) fZ (cS (aF 3)))) (fB (dG (aI (bE 2) aQ))))) (fB (gU (aL 0) (cS (bO cN (aF 3) bI)) fZ))))))))),?_⟩
 intro ds Q X qQ0;refine qq0 λqq2=>?_;obtain⟨d,g,v,L,rfl,n2,n5,up,lt,a5,y,ok,E,l,k⟩:=qQ0;obtain⟨J,M,c3⟩:=Av v up;refine qq2 ?_;have rC:∀i j,i<j->j<d.length->d.getD i 0<d.getD j 0:=λi j a1 hj=>by
  rw[aO<|‹5›,aO hj];exact fj.mp up i j ‹5› hj a1
 have o:∀t,t<d.length->d.getD t 0<g.length:=λt f=>by rw[aO f];exact lt _<|ax f
 have x:∀t,t<d.length->d.getD t 0≠v:=λt f z=>by
  have F:=E t f;rw[z]at F;rw[F]at l;rcases eR (d.length-1-t)with e|e <;>rw[e]at l <;>rcases bC L with⟨q,B⟩|⟨q,B⟩ <;>rw[B]at l
  ·rw[fh,B]at l;grind
  ·rw[fh,B]at l;grind
  ·rw[cV<|by grind]at l;grind
  ·rw[bU<|by grind]at l;grind
 walk_at"s";refine bL eN eN (λs:π=>if s<v then[s]else[]) d ‹1› (λQ h=>by walk_at"d";exact h) (λq hq N a6 O=>?_) ?_
 ·walk_at"d";refine bW (λc=>?_) (λc=>?_)
  ·rw[ρ<|‹20›]at O;exact O
  ·rw[ι<|by lia]at O;simpa using O
 obtain⟨a,ha⟩:∃a,(d.flatMap λs=>if s<v then[s]else[]).length=a:=⟨_,rfl⟩;rw[ha]at J M c3;walk_at"d";rw[ha];obtain⟨b,hb⟩:∃b:π,a-1=b:=⟨_,rfl⟩;have bl:b<d.length:=by lia
 have a2:∀{t:π},t<d.length->∀{z:χ},z=(t:χ)->oX (d.map eN) z=γ (.int ((d.getD t 0:π):χ)):=λ{t} f {z} hz=>by
  rw[hz];exact fQ (by rw[el,ah f,aO f];rfl)
 have G:∀{t:π},t<g.length->oX (g.map fr) (t:χ)=γ (fr<|g.getD t 0):=λ{t} f=>fQ (by rw[el,ah f,aO f];rfl);have okR:∀{t:π},t<g.length->Ok (g.getD t 0):=λ{t} f=>by rw[aO f];exact ok _<|ax f
 walk_at"s";obtain⟨S,a3,H⟩:∃S:χ,(if (0:χ)>(a:χ)-1 then 0 else(a:χ)-1)=S/\S=(b:χ):=⟨_,rfl,by split <;>lia⟩;rw[a3];have lp:d.getD b 0<g.length:=o b bl;have r:=Mc (g.getD (d.getD b 0) 0)<|g.getD v 0;refine qq0 λqq2=>?_;obtain⟨C,q1,f1,F⟩:∃C q1:χ,fr (g.getD (d.getD b 0) 0)= .tuple [.int C,.int q1]/\(g.getD (d.getD b 0) 0).num=C:=⟨_,_,rfl,rfl⟩;obtain⟨D,q2,f2,h2⟩:∃D q2:χ,fr (g.getD v 0)= .tuple [.int D,.int q2]/\(g.getD v 0).num=D:=⟨_,_,rfl,rfl⟩;refine qq2 ?_;have w1:Wee C:=by rw[<-F];exact(okR lp).n
 have w2:Wee D:=by rw[<-h2];exact(okR y).n
 rw[F,h2]at r;obtain⟨pp,I⟩:∃pp,C*D=pp:=⟨_,rfl⟩;rw[I]at r;have u:∀m:π,m<d.length->fI (d.map eN) ν (γ (m:χ))++[eN v]++fI (d.map eN) (γ ((m+1:π):χ)) ν=(d.take m++[v]++d.drop (m+1)).map eN:=λm hm=>by
  rw[nJ,iF,bu,bu,ou,tf];rfl
 have l3:∀m:π,m<d.length->(d.take m++[v]++d.drop (m+1)).length=d.length:=λm hm=>by
  rw[Λ,Λ,ao,az];simp;lia
 refine oU (λY=>Y=[γ<|.dat<|.list<|d.map eN,γ<|.dat<|.list<|g.map fr,γ<|.dat<|.int (v:χ),γ<|.dat<|.int (a:χ),γ<|.dat<|.int S]/\g.getD (d.getD b 0) 0*g.getD v 0<0) ?_ ?_
 ·walk_at"d";refine⟨_,a2 bl H,.tuple [.int C,.int q1],by rw[G lp,f1],.tuple [.int D,.int q2],by rw[G y,f2],dJ w1 w2,?_⟩;rw[I];refine bW (λc=>?_) (λc=>?_)
  ·rw[H,show((b:χ)+1)=((b+1:π):χ) by lia];have e3:=u b bl;have ll:(fI (d.map eN) ν<|some (b:χ)).length<=5/\(fI (d.map eN) (γ ((b+1:π):χ)) ν).length<=5:=by
    rw[nJ,iF,ao,az,η];lia
   refine⟨by lia,by rw[Λ];show _+1+_<=1000;lia,?_⟩;rw[show fI (d.map eN) ν (γ (b:χ))++[ep (v:χ)]++fI (d.map eN) (γ ((b+1:π):χ)) ν=(d.take b++[v]++d.drop (b+1)).map eN from e3];refine k _ (l3 b bl) ?_;refine(aAl rC o y E l bl (λt f=>J t<|by lia) (λt a4 p=>?_)<|r.mp c).congr λt f=>Gk bl;have:=M t (by lia) p;have:=x t p;lia
  ·show _<(0:θ);exact oD.mp λz=>c<|r.mpr z
 rintro Y ⟨rfl,U⟩;walk_at"s";have dl:fI (d.map eN) ν (γ<|-1)=d.dropLast.map eN:=by
  unfold fI;rw[HT.sIx_none,mx,yy,η];have e:HT.sIx d.length d.length (γ<|-1)=d.length-1:=by
   unfold HT.sIx;simp;lia
  rw[e,<-ou,si]
 refine bW (λc=>?_) λc=>?_
 ·have a0:a=0:=by lia
  have b0:b=0:=by lia
  rw[dl];refine⟨by rw[η,r8];lia,?_⟩;refine k (v::d.dropLast) (by rw[Ε,r8];exact 50) ?_;refine(aAm rC o y E l ‹0› (λt f=>?_) (by rw[b0]at U;exact U)).congr λt f=>Mz f;have:=M t ‹48› f;have:=x t f;lia
 walk_at"s";refine bW (λc'=>?_) λc'=>?_
 ·have an:a=d.length:=by lia
  have e1:fI (d.map eN) (γ 1) ν=(d.drop 1).map eN:=by
   have:=iF (d.map eN) 1;rw[tf];exact this
  rw[e1];refine⟨by rw[η,az];lia,?_⟩;have B:(d.drop 1).map eN++[ep (v:χ)]=(d.drop 1++[v]).map eN:=by rw[bu];rfl
  rw[B];refine k _ (by rw[Λ,az];simp;exact 50) ?_;refine(aGh rC o y E l ‹0› (λt f=>J t<|‹48›) (by rw[show d.length-1=b by lia];exact U)).congr λt f=>Ua ‹0› f
 ·have W:a<d.length:=by lia
  rw[show((a:χ)+1)=((a+1:π):χ) by lia];have e3:=u a W;have ll:(fI (d.map eN) ν<|some (a:χ)).length<=5/\(fI (d.map eN) (γ ((a+1:π):χ)) ν).length<=5:=by
   rw[nJ,iF,ao,az,η];lia
  walk_at"d";refine⟨by lia,by rw[Λ];show _+1+_<=1000;lia,?_⟩;rw[show fI (d.map eN) ν (γ (a:χ))++[ep (v:χ)]++fI (d.map eN) (γ ((a+1:π):χ)) ν=(d.take a++[v]++d.drop (a+1)).map eN from e3];refine k _ (l3 a W) ?_;refine(aNy rC o y E l (by lia) W J (λt a4 p=>?_) (by rw[hb];exact U)).congr λt f=>Gk W;have:=M t ‹51› p;have:=x t p;lia
theorem Lf(n:π):(bp n [ay [ep 0,ep 1]]).flatten=(bp n (0:θ)).map fr:=by
 rw[List.map_replicate];simp
theorem ixN_nat'{n j:π}(e:k=(j:χ))(h:j<n):Uf n k=γ j:=by
 unfold Uf;rw[ρ<|by lia,ρ<|by lia,e,ft]
theorem Gd{N w t:π}(a:2<=w)(h:w<=N):t*(N-1)/(w-1)<(t+1)*(N-1)/(w-1):=by
 have b:t*(N-1)/(w-1)*(w-1)<=t*(N-1):=Nat.div_mul_le_self _ _;refine(Nat.le_div_iff_mul_le<|‹7›).mpr ?_;rw[mm,l5,jc];lia
theorem zF{N w:π}(b:2<=w)(h:w<=N):∀{i j:π},i<j->i*(N-1)/(w-1)<j*(N-1)/(w-1)
 |i,0,a=>‹39›
 |i,j+1,a=>by
  have s:=Gd (t:=j) b h;by_cases c:i=j
  ·subst c;exact s
  ·exact m9 (zF b h<|show i<j by exact 13) s
def Tj(a:ε Mk)(b:ε θ)(L:θ):ε Mk:=af (λ(m:Mk) q=>(m.1,m.2.1-uJ q L,m.2.2)) a b
def tU(L:θ):ε (π×θ)->ε θ->ε θ
 |[],a=>a
 |z::r,a=>tU L r (if L=0 then a else a.set z.1 (uJ L z.2))
theorem Gx(L:θ)(z:π×θ):∀(r:ε<|π×θ)(a:ε θ),tU L (r++[z]) a=if L=0 then tU L r a else(tU L r a).set z.1 (uJ L z.2)
 |[],a=>rfl
 |y::r,a=>by rw[fi,tU,Gx L z r,tU]
theorem Cj(L:θ):∀(r:ε<|π×θ)(a:ε θ),(tU L r a).length=a.length
 |[],a=>rfl
 |y::r,a=>by
  rw[tU,Cj L r];split
  ·rfl
  ·rw[l9]
def aDe:DW:=λb Q _=>∃N v:π,b=[.int (N:χ),.int (v:χ)]/\2<=v/\v<=5/\v<=N/\N<=60/\∀a:ε π,a.length=v->a.Pairwise (·<·)->(∀s∈a,s<N)->Q (.own<|a.map eN)
theorem tF:Q 1 39 (λ_=>aDe):=by
 refine fH 39 ["count","wanted"] λA T R Z=>⟨_,by walk_at"t",_,(dW<|bS [ν,γ 1,γ 0] ["spot","wanted","count"] (IvS.e<|lI<|vN 1 aB) (aG 0) bV<|bZ dQ (bO dQ (aF 0)<|bO cN (aF 2) bI)<|bO cN (aF 1) bI),?_⟩;intro y Q X qQ0;refine qq0 λqq2=>?_;obtain⟨N,v,rfl,q,z,vN,N60,k⟩:=qQ0;obtain⟨b,g⟩:∃b:χ,(N:χ)=b:=⟨_,rfl⟩;obtain⟨a,c⟩:∃a:χ,(v:χ)=a:=⟨_,rfl⟩;refine qq2 ?_;rw[g,c];walk_at"d"
 refine bL (λk:π=>ep (k:χ)) eN (λt:π=>[t*(N-1)/(v-1)]) (range v) (by rw[cw];exact 11) (λQ h=>by
   walk_at"d"
   refine⟨⟨by lia,by lia⟩,?_⟩
   have e:pV 0 a.toNat 1=(range v).map λk:π=>ep (k:χ):=by
    unfold pV
    rw[<-c,ft]
    exact df λk _=>by rw[zv,pb]
   rw[e];exact h) (λt i r j o=>?_) ?_
 ·have l:=di.mp i;obtain⟨f,d⟩:∃f:χ,(t:χ)=f:=⟨_,rfl⟩;have p:eN (t*(N-1)/(v-1))=ep (f*(b-1)/(a-1)):=by
   show ep ((t*(N-1)/(v-1):π):χ)=_;rw[mn,r4,d,show((N-1:π):χ)=b-1 by lia,show((v-1:π):χ)=a-1 by lia]
  rw[d];have m:r (j++[ep<|f*(b-1)/(a-1)]):=by
   rw[<-p];exact o
  clear o p;exact⟨dJ (fR (n:=5)<|by lia)<|fR (n:=60)<|by lia,⟨by lia,fR (n:=5)<|by lia⟩,m⟩
 rw[aN];refine k _ (by rw[η,cw]) ?_ λs u=>?_
 ·rw[iu];exact pairwise_lt_range.imp λh=>zF q vN h
 ·obtain⟨t,i,rfl⟩:=Β.mp u;have l:=di.mp i;have x:t*(N-1)/(v-1)<=(v-1)*(N-1)/(v-1):=Nat.div_le_div_right (Ψ _<|‹7›);rw[fm<|v-1,Nat.mul_div_cancel _<|‹7›]at x;lia
def aKi:DW:=λc Q _=>∃(a:ε Mk)(b:ε θ)(L:θ),c=[.list<|a.map cP,.list<|b.map fr,fr L]/\a.length<=60/\(∀m∈a,Ok m.2.1)/\Ok L/\Q (.own<|(Tj a b L).map cP)
theorem Hn:Q 4 42 (λ_=>aKi):=by
 refine fH 42 ["chosen","shares","level"] λA T R Z=>⟨_,by walk_at"t",_,(dW<|bS [ν,ν,γ 2] ["mark","share","level"] (fM (aL 0)<|aL 1) (eB<|aW (aG 0)<|aW (aG 1) dO) bV<|cH<|aI (eX 0 0)<|aI (aE<|vE (eX 1 0)<|vE (aE<|vN 1<|vN 2 aB) aB)<|aI (eX 2 0) aQ),?_⟩;intro q Q X qQ0;refine qq0 λqq2=>?_;obtain⟨d,c,L,rfl,g,f,e,k⟩:=qQ0;refine qq2 ?_;clear qq2;walk_at"d";refine bL (λz:Mk×θ=>ay [cP z.1,fr z.2]) cP (λz:Mk×θ=>[(z.1.1,z.1.2.1-uJ z.2 L,z.1.2.2)]) (d.zip c) (by rw[dR];exact 50) (λQ h=>by walk_at"d";rw[cK];exact h) (λz i N j l=>?_) ?_
 ·have m:=(eh (a:=z.1) (b:=z.2) i).1;have n:Ok (uJ z.2 L):=by
   unfold uJ;split
   ·exact⟨by have:=e.n;unfold Wee at *;show(-L.num).natAbs<_;exact 49,e.d⟩
   ·exact e
  walk_at"d";refine⟨_,_,rfl,?_⟩;walk_at"d";refine⟨_,_,rfl,f _ m,n,?_⟩;walk_at"d";exact l
 have o:(d.zip c).map (λz:Mk×θ=>(z.1.1,z.1.2.1-uJ z.2 L,z.1.2.2))=Tj d c L:=by
  unfold Tj;clear k f g
  induction d generalizing c with
  |nil=>rfl
  |cons a d p=>cases c with
   |nil=>rfl
   |cons b c=>rw[ka,Μ,Κ,p]
 rw[aN,o];exact k
def Vr:DW:=λc Q _=>∃(a:ε π)(b:ε θ)(L:θ)(N:π),c=[.list<|a.map eN,.list<|b.map fr,fr L,.int (N:χ)]/\a.length<=5/\(∀s∈a,s<N)/\N<=60/\Q (.own<|(tU L (a.zip b)<|bp N 0).map fr)
theorem Hm:Q 2 43 (λ_=>Vr):=by
 refine fH 43 ["spots","shares","level","count","pulls","spot","share"] λA T R Z=>⟨_,by walk_at"t",_,(aH (aZ 4 (Lp (fB (dG (aI (qT T.k_NOUGHT) aQ))) (aF 3)))
   (aH (eA (Mp (bE 0) (bE 1)) (eB (aW (aG 5) (aW (aG 6) dO)))
    (bF (tO hX (aF 2) (aC (qT T.k_NOUGHT))) (Wo 4 (aE (vN 2 (vN 6 aB))) (aF 5)) aP))
   (dU 4))),?_⟩
 intro s Q X qQ0;refine qq0 λqq2=>?_;obtain⟨c,d,L,N,rfl,t,n,N60,k⟩:=qQ0;refine qq2 ?_;walk_at"s";rw[ft,Lf];refine⟨⟨‹29›,by omega⟩,by lia,?_⟩
 refine cW (eJ (λz:π×θ=>ay [eN z.1,fr z.2]) (c.zip d) (λQ h=>by walk_at"d";rw[cK];exact h)
  (λi f=>∃g j:Θ μ,f=[γ<|.dat<|.list<|c.map eN,γ<|.dat<|.list<|d.map fr,γ<|.dat<|fr L,γ<|.dat<|.int (N:χ),γ<|.own<|(tU L ((c.zip d).take i)<|bp N 0).map fr,g.map Sl.dat,j.map Sl.dat])
  ⟨ν,ν,rfl⟩ ?_ ?_)
 ·intro i qQ0 f l qQ1;refine qq0 λqq2=>?_;obtain⟨e,q⟩:=qQ0;obtain⟨g,j,rfl⟩:=qQ1;refine qq2 ?_;have u:=n e (eh (a:=e) (b:=q)<|Ω l).1;have o:(tU L ((c.zip d).take i)<|bp N 0).length=N:=by rw[Cj,eg]
  have p:=Gx L (e,q) ((c.zip d).take i)<|bp N 0;rw[fO l,p];generalize tU L ((c.zip d).take i) (bp N 0)=r at o⊢;walk_at"d";refine⟨θ,eRat,L,0,rfl,rfl,λv m=>?_⟩;cases v with
  |true=>
   rw[ρ<|m.mp rfl];dsimp only;rw[ι<|by decide];exact⟨γ _,γ _,rfl⟩
  |false=>
   rw[ι (λz=>by have:=m.mpr z;cases this)];dsimp only;rw[ρ<|by decide];walk_at"d";refine⟨L,q,rfl,?_⟩;walk_at"d";refine⟨e,ixN_nat' rfl<|‹48›,γ<|eN e,γ<|fr q,?_⟩;rw[List.map_set];rfl
 intro f qQ0;refine qq0 λqq2=>?_;obtain⟨g,j,rfl⟩:=qQ0;refine qq2 ?_;rw[kh];walk_at"d";exact k
theorem zM(f g:π->θ):∀n,dM n f*dM n g=dM n λi=>f i*g i
 |0=>gf 1
 |n+1=>by rw[dM,dM,dM,<-zM f g n];grind
theorem zL:∀{n:π},(∀i,i<n->f i=1)->dM n f=1
 |0,_=>rfl
 |n+1,h=>by rw[dM,zL λi a=>h i<|‹3›,h n<|‹48›,gf]
theorem Gu:∀{n:π},(∀i,i<n->Cm M E (f i))->Cm (M^n) (E^n) (dM n f)
 |0,_=>Cm.int (i:=1) (show 1<=E^0 from ω _)
 |n+1,h=>by
  rw[dM,eT,eT];exact(Gu λi a=>h i<|‹3›).mul (h n<|‹48›)
theorem aHm(Z:CZ a)(f:t<a.length):∃V:π,0<V/\V<=10^17/\Cm V 32 (Wt (xL a) a.length t):=by
 have j:=Z.n5;have k:∀i,i<a.length->i≠t->xL a t-xL a i≠0:=λi b c z=>by
  rcases k6 c with q|q
  ·have:=Z.upF i t q f;grind
  ·have:=Z.upF t i q b;grind
 obtain⟨D,g⟩:∃D,dM a.length (λi=>if i=t then(1:θ)else xL a t-xL a i)=D:=⟨_,rfl⟩;have d:Wt (xL a) a.length t*D=1:=by
  unfold Wt;rw[<-g,zM];refine zL λi b=>?_;by_cases c:i=t
  ·rw[ρ c,ρ c];exact gf 1
  ·rw[ι c,ι c,n6];exact i5 _<|k i b c
 have h:D≠0:=λz=>by rw[z,fo]at d;exact ψ d (by decide)
 have l:Cm (2^a.length) ((10^3)^a.length) D:=by
  rw[<-g];refine Gu λi b=>?_;by_cases c:i=t
  ·rw[ρ c];exact(Cm.int (i:=1) (B:=10^3)<|by decide).mono (BI _)<|ω _
  ·rw[ι c];unfold xL;rw[aO f,aO b];exact Z.d _ (ax _) _<|ax _
 have e:Cm 32 (10^15) D:=l.mono (by rw[show(32:π)=2^5 from rfl];exact k8 2 j) (by rw[<-rq];exact Ρ (by decide)<|by lia);obtain⟨V,m,n,o⟩:=Zu e (by decide) h;refine⟨V,m,Α n<|by decide,?_⟩;have p:Wt (xL a) a.length t=D⁻¹:=by
  have:=i5 D h;have r:Wt (xL a) a.length t*D*D⁻¹=Wt (xL a) a.length t:=by rw[j9,this,gf]
  rw[<-r,d,fh]
 rw[p];exact o
theorem aGk{a b:θ}(h:b≠0):(a/b).den<=a.den*b.num.natAbs:=by
 have d:b.num≠0:=λz=>h<|sy.mp z;have e:a/b=bz (a.num*(b.den:χ)) ((a.den:χ)*b.num):=by
  have f:=Fm.num_eq a;have g:=Fm.num_eq b;have c:(a.den:χ)≠0:=by have:=a.den_nz;exact 28
  refine Fm.eq_divInt (kg c d) ?_;rw[ae,ae,f,g,Ι,Ι];have:a/b*b=a:=gj h;grind
 rw[e];have:=Fm.den_le (a.num*(b.den:χ)) (b:=(a.den:χ)*b.num)<|kg (by have:=a.den_nz;exact 28) d;rw[dj,en]at this;exact this
theorem Bq:∀{n:π},(∀t,t<n->0<=f t)->0<=aS n f
 |0,_=>au
 |n+1,h=>by
  rw[aS];have a:=Bq (f:=f) (n:=n) λt b=>h t ‹3›;have c:=h n ‹48›;exact 44
theorem aNc(d:0<n)(b:Ey n x)(f:∀t,t<n->-Y<=y t/\y t<=Y):-Y<=lQ x y n/\lQ x y n<=Y:=by
 have o:=tN d b;have a:∀e:θ,(e=1\/e=-1)->0<=Y-e*lQ x y n:=λe g=>by
  have i:Y-e*lQ x y n=aS n λt=>(sg (n-1-t)*gT x n t)*(Y-e*(sg (n-1-t)*y t)):=by
   have j:(λt=>(sg (n-1-t)*gT x n t)*(Y-e*(sg (n-1-t)*y t)))=λt=>Y*(sg (n-1-t)*gT x n t)+(-e)*(gT x n t*y t):=by
    funext t
    have:=Gj<|n-1-t;grind
   rw[j,jF,cZ,cZ,o];unfold lQ;grind
  rw[i];refine Bq λt c=>Ν (cq<|oF c b) ?_;have:=f t c;rcases g with rfl|rfl <;>rcases eR (n-1-t)with h|h <;>rw[h] <;>grind
 have k:=a 1<|.inl rfl;have l:=a (-1)<|.inr rfl;exact⟨by grind,by grind⟩
theorem Zo(Z:CZ a)(o:0<c)(p:∀m∈a,Cm c Y m.2.1):(lQ (xL a) (yL a) a.length).den<=c*10^173/\-(Y:θ)<=lQ (xL a) (yL a) a.length/\lQ (xL a) (yL a) a.length<=(Y:θ):=by
 have y:=Z.n5;have z:=Z.n2;have l:∀t,t<a.length->Cm c Y (yL a t):=λt b=>by
  unfold yL;rw[aO b];exact p _<|ax b
 refine⟨?_,aNc ‹0› Z.upF λt b=>⟨(l t b).lo,(l t b).hi⟩⟩;obtain⟨V,g,i,d⟩:=Ot (L:=c) (A:=10^17) (B:=32*Y) (f:=λt=>Wt (xL a) a.length t*yL a t) (m:=a.length) λt b=>by
  refine qq0 λqq2=>?_;obtain⟨V,g,i,d⟩:=aHm Z b;refine qq2 ?_;exact⟨V,g,i,by have:=d.mul<|l t b;rwa [fm V]at this⟩
 obtain⟨U,C,q,r⟩:=Ot (L:=1) (A:=10^17) (B:=32) (f:=λt=>sg (a.length-1-t)*Wt (xL a) a.length t) (m:=a.length) λt b=>by
  refine qq0 λqq2=>?_;obtain⟨V,g,i,d⟩:=aHm Z b;refine qq2 ?_;refine⟨V,g,i,?_⟩;rw[jc];rcases eR (a.length-1-t)with h|h <;>rw[h]
  ·rw[fh];exact d
  ·rw[show(-1:θ)*Wt (xL a) a.length t=-Wt (xL a) a.length t by grind];exact d.neg
 have D:=kX ‹0› Z.upF;have e:lQ (xL a) (yL a) a.length=aS a.length (λt=>Wt (xL a) a.length t*yL a t)/yP (xL a) a.length:=by
  have s:yP (xL a) a.length≠0:=‹41›
  have u:yP (xL a) a.length*lQ (xL a) (yL a) a.length=aS a.length (λt=>Wt (xL a) a.length t*yL a t):=by
   unfold lQ;rw[<-cZ];refine bG λt b=>?_;have:=tP (n:=a.length) ‹0› Z.upF t;grind
  rw[<-u,jb,n6,<-j9,n6 (yP (xL a) a.length)⁻¹,i5 _ s,fh]
 have j:(10^17)^a.length<=10^85:=by rw[<-rq];exact Ρ (by decide) (by lia)
 have v:(aS a.length λt=>Wt (xL a) a.length t*yL a t).den<=c*10^85:=Α (d.den<|fq o g)<|Χ _<|Α i j;have x:(yP (xL a) a.length).num.natAbs<=10^88:=by
  have k:Cm (1*U) (a.length*32) (yP (xL a) a.length):=r;refine Α k.num ?_;have:(yP (xL a) a.length).den<=10^85:=Α (k.den<|by lia) (by rw[jc];exact Α q j);exact Α (Τ (show a.length*32<=160 by lia) this) (by decide +kernel)
 rw[e];refine Α (aGk<|‹41›)<|Α (Τ v x) ?_;rw[gi];exact Χ _ (by decide +kernel)
theorem wM(a:ε θ)(y:π->θ):(Ja a y).length=a.length:=vK _ _
theorem aAj(Z:CZ a)(I:0<g)(J:g<=10^13)(L:∀m∈a,Cm g (10^37) m.2.1)(X:∀m∈a,Cm 6 (10^7) m.1)(p:nu.length+1=a.length)
  (h:∀t,t<nu.length->bY nu (xL a t)=yL a t-sg (nu.length-t)*lQ (xL a) (yL a) a.length):
  ((∀q∈nu,Dg 320 q)/\∃V:π,0<V/\V<=10^248/\∀q∈nu,q.den∣V)/\∀t,t<a.length->yL a t-bY nu (xL a t)=sg (a.length-1-t)*lQ (xL a) (yL a) a.length:=by
 have n5:=Z.n5;have Y:=Z.upF;refine qq0 λqq2=>?_;obtain⟨f,N,O⟩:=Zo Z I L;refine qq2 ?_;have j:∀t,t<a.length->yL a t-bY nu (xL a t)=sg (a.length-1-t)*lQ (xL a) (yL a) a.length:=λt i=>by
  have:=zV (x:=xL a) (y:=yL a) (n:=nu.length) (by rw[p];exact Y) rfl (by rw[p];exact h) t ‹48›;rw[p]at this;rw[this,show a.length-1-t=nu.length-t by lia]
 refine⟨?_,j⟩;obtain⟨l,r⟩:∃l,lQ (xL a) (yL a) a.length=l:=⟨_,rfl⟩;rw[r]at f N O h;obtain⟨xs,c⟩:∃xs:ε θ,(a.map (·.1)).take nu.length=xs:=⟨_,rfl⟩;have xl:xs.length=nu.length:=by rw[<-c,ao,η];exact 50
 have s:∀t,t<nu.length->xs.getD t 0=xL a t:=λt i=>by
  unfold xL;rw[aO<|‹48›,aO<|show t<a.length by lia];subst c;rw[rx,dr]
 have u:∀x∈xs,∃m∈a,m.1=x:=λx b=>by
  rw[<-c]at b;obtain⟨m,k,e⟩:=Β.mp<|cv b;exact⟨m,k,e⟩
 have v:xs.Nodup:=by
  rw[<-c];refine BC (n3 _ _) ?_;rw[er,iu];exact Z.up.imp λh=>‹142›
 have R:Cm l.den (10^37) l:=⟨dA _,N,O⟩;have cy:∀t,t<xs.length->Cm (g*l.den) (2*10^37) (yL a t-sg (nu.length-t)*l):=λt i=>by
  have y1:Cm g (10^37) (yL a t):=by
   unfold yL;rw[aO<|show t<a.length by lia];exact L _<|ax _
  have s1:Cm l.den (10^37) (sg (nu.length-t)*l):=by
   rcases eR (nu.length-t)with e|e <;>rw[e]
   ·rw[fh];exact R
   ·rw[show(-1:θ)*l=-l by grind];exact R.neg
  exact((y1.mono (fx _ _)<|ω _).sub<|s1.mono (iv _ _)<|ω _).mono (dA _) ‹48›
 have B:nu=Ja xs λt=>yL a t-sg (nu.length-t)*l:=by
  refine Hj (xs:=xs) xl.symm (wM _ _) v λx b=>?_;obtain⟨t,i,rfl⟩:=cn b;have e:=wN v (λt=>yL a t-sg (nu.length-t)*l) i;rw[aO i]at e;rw[e];have S:=s t ‹138›;rw[aO i]at S;rw[S];exact h t ‹138›
 obtain⟨V,V0,V1,D⟩:=Qg (M:=6) (C:=10^7) (E:=10^3) (by decide) v (λx b=>by
  obtain⟨m,k,rfl⟩:=u x b
  exact X m k) (λx b z hz=>by
  obtain⟨m,k,rfl⟩:=u x b
  obtain⟨o,ho,rfl⟩:=u z hz
  exact(Z.d m k o ho).mono (by decide) (ω _)) cy
 have T:xs.length<=4:=by omega
 have F:=dX l.den_nz;have G:6^(xs.length-1)<=216:=Α (Ρ (by decide)<|show xs.length-1<=3 by omega) (by decide);have p3:(10^3)^(xs.length-1)<=10^9:=by rw[<-rq];exact Ρ (by decide) (by omega)
 have p7:(10^7+1)^(xs.length-1)<=10^22:=Α (Ρ (by decide)<|show xs.length-1<=3 by omega) (by decide +kernel);have V2:V<=10^46:=by
  refine Α V1 ?_;refine Α (gx (Τ p3 G) _) ?_;exact Α (Ρ (by decide) T) (by decide +kernel)
 have L2:g*l.den<=10^199:=by
  refine Α (Τ J<|Α f<|Ψ _ J) ?_;decide +kernel
 have U:g*l.den*6^(xs.length-1)*V<=10^248:=Α (Τ (Τ L2 G) V2) (by decide +kernel);have b2:xs.length*(2*10^37*6^(xs.length-1)*(10^7+1)^(xs.length-1))<=10^63:=Α (Τ T<|Τ (Χ _ G) p7) (by decide +kernel);rw[<-B]at D;have W:=fq (fq (fq I F)<|jt (n:=xs.length-1)<|show 0<6 by decide) V0;exact⟨λq H=>((D q H).dg W U b2).mono<|by decide,_,W,U,λq H=>(D q H).d⟩
def eG(a:ε Mk)(b:ε π):ε Mk:=b.map λs=>a.getD s (0,0,0)
theorem fG(b:ε Mk)(a:ε π):(eG b a).length=a.length:=by unfold eG;rw[η]
theorem xD(c:t<a.length):xL (eG b a) t=xL b (a.getD t 0):=by
 unfold xL eG;rw[aO (show t<(a.map λs=>b.getD s (0,0,0)).length by rw[η];exact c),dr,aO c]
theorem aJq(c:t<a.length):yL (eG b a) t=yL b (a.getD t 0):=by
 unfold yL eG;rw[aO (show t<(a.map λs=>b.getD s (0,0,0)).length by rw[η];exact c),dr,aO c]
structure FZ(ms:ε Mk)(Ly:π):Prop where
 n60:ms.length<=60
 up:ms.Pairwise λa b=>a.1<b.1
 x:∀m∈ms,Cm 6 (10^7) m.1
 d:∀m∈ms,∀o∈ms,Cm 2 (10^3)<|m.1-o.1
 L0:0<Ly
 L1:Ly<=10^13
 y:∀m∈ms,Cm Ly (10^37) m.2.1
structure Cho(N n:π)(ss:ε π):Prop where
 len:ss.length=n
 up:ss.Pairwise (·<·)
 lt:∀s∈ss,s<N
theorem iH(c:∀s∈b,s<a.length):∀m∈eG a b,m∈a:=λm d=>by
 obtain⟨s,e,rfl⟩:=Β.mp d;rw[aO<|c s e];exact ax _
theorem Cho.at(C:Cho N n a)(b:t<n):a.getD t 0<N:=by
 rw[aO (by rw[C.len];exact b)];exact C.lt _<|ax _
theorem FZ.upF{d:π}(Z:FZ a d):Ey a.length (xL a):=λi j b c=>by
 have:=fj.mp Z.up i j ‹5› c b;unfold xL;rw[aO<|‹5›,aO c];exact this
theorem FZ.cz(Z:FZ c j)(C:Cho c.length n g)(n2:2<=n)(n5:n<=5):CZ (eG c g) where
 n2:=by rw[fG,C.len];exact n2
 n5:=by rw[fG,C.len];exact n5
 up:=by
  unfold eG;rw[iu];refine Pairwise.imp_of_mem ?_ C.up;intro a b h i e;rw[aO<|C.lt a h,aO<|C.lt b i];exact fj.mp Z.up a b (C.lt a h) (C.lt b i) e
 x:=λm f=>(Z.x m<|iH C.lt m f).dg (by decide) (l:=1) (by decide) (b:=7)<|ω _
 d:=λm f o k=>Z.d m (iH C.lt m f) o<|iH C.lt o k
def iP(b:ε Mk)(a:ε π):θ:=lQ (xL<|eG b a) (yL<|eG b a) a.length
theorem Os:∀{n:π},(∀t,t<n->Dg d (f t))->Dg ((d+1)*n) (aS n f)
 |0,_=>Dg.zero
 |n+1,h=>by
  rw[aS,zw];exact((Os (f:=f) λt a=>h t<|‹3›).add<|h n<|‹48›).mono ‹48›
theorem wt_dg'(Z:CZ a)(b:t<a.length):Dg 30 (Wt (xL a) a.length t):=(Oc Z b a.length<|ω _).mono (by have:=Z.n5;lia)
theorem Bu(Z:CZ a)(b:t<a.length):Dg 186 (gT (xL a) a.length t):=by
 have f:=Z.n5;have g:=kX ‹37› Z.upF;have c:Dg 155 (yP (xL a) a.length):=by
  unfold yP;refine(Os (d:=30) λt b=>?_).mono (by lia);rcases eR (a.length-1-t)with e|e <;>rw[e]
  ·rw[fh];exact wt_dg' Z b
  ·rw[show(-1:θ)*Wt (xL a) a.length t=-Wt (xL a) a.length t by grind];exact(wt_dg' Z b).neg
 exact(wt_dg' Z b).div c ‹41›
theorem aDd(a:t<n)(b:Ey n x)(l:θ):uJ (gT x n t) l=sg (n-1-t)*l:=by
 have h:=oF a b;unfold uJ;rcases eR (n-1-t)with e|e <;>rw[e]at h⊢
 ·rw[ι<|by grind,fh]
 ·rw[ρ<|by grind];grind
def mH(a:ε Mk):ε θ:=(range a.length).map<|gT (xL a) a.length
theorem pR(a:ε Mk):(mH a).length=a.length:=by unfold mH;rw[η,cw]
theorem aMz(Z:CZ a)(l:θ):Tj a (mH a) l=(range a.length).map λt=>(xL a t,yL a t-sg (a.length-1-t)*l,(a.getD t (0,0,0)).2.2):=by
 unfold Tj mH;refine j1 (by simp) λi d c=>?_;have b:i<a.length:=by simpa using c
 rw[jh,dr,dr,hE,aDd b Z.upF];unfold xL yL;rw[aO b]
theorem De(Z:CZ a)(b:a.length=k+1)(l:θ):(Tj a (mH a) l).dropLast=(range k).map λt=>(xL a t,yL a t-sg (k-t)*l,(a.getD t (0,0,0)).2.2):=by
 rw[aMz Z,b,oz,bu,vc,List.dropLast_concat];refine df λt c=>?_;rw[show k+1-1-t=k-t by lia]
theorem aFj(a:ε Mk):((mH a).zip a).map (λz:θ×Mk=>z.1*z.2.2.1)=(range a.length).map λt=>gT (xL a) a.length t*yL a t:=by
 unfold mH;refine j1 (by simp) λi d b=>?_;have c:i<a.length:=by simpa using b
 rw[dr,mf,dr,dr,hE];unfold yL;rw[aO c]
theorem FZ.ydg(Z:FZ a c)(d:m∈a):Dg 51 m.2.1:=(Z.y m d).dg Z.L0 (l:=13) Z.L1 (b:=37)<|ω _
section
variable{ms:ε Mk}{Ly n:π}{ss:ε π}
theorem aIf(Z:FZ ms Ly)(C:Cho ms.length n ss)(c:2<=n)(d:n<=5):∀q∈(range (eG ms ss).length).map λt=>gT (xL<|eG ms ss) (eG ms ss).length t*yL (eG ms ss) t,Dg 238 q:=λq e=>by
 obtain⟨t,f,rfl⟩:=Β.mp e;have a:=di.mp f;refine(Bu (Z.cz C c d) a).mul (b:=51) ?_;unfold yL;rw[aO a];exact Z.ydg<|iH C.lt _<|ax _
theorem aSr(Z:FZ ms Ly)(C:Cho ms.length n ss)(a:2<=n)(b:n<=5)(i:π):Dg 1195 (tot<|((range (eG ms ss).length).map λt=>gT (xL<|eG ms ss) (eG ms ss).length t*yL (eG ms ss) t).take i):=by
 refine(Kw λq c=>aIf Z C a b q<|cv c).mono ?_;rw[ao,η,cw,fG,C.len];have:(238+1)*min i n<=(238+1)*5:=Χ _ ‹50›;assumption
theorem aNb:tot ((range (eG ms ss).length).map λt=>gT (xL<|eG ms ss) (eG ms ss).length t*yL (eG ms ss) t)=iP ms ss:=by
 rw[mY,fG];rfl
theorem Qf(Z:FZ ms Ly)(C:Cho ms.length n ss)(d:2<=n)(e:n<=5):(iP ms ss).den<=Ly*10^173/\Cm (iP ms ss).den (10^37) (iP ms ss):=by
 obtain⟨a,b,c⟩:=Zo (Z.cz C d e) Z.L0 λm f=>Z.y m<|iH C.lt m f;rw[fG]at a b c;exact⟨a,dA _,b,c⟩
theorem aFo(Z:FZ ms Ly)(C:Cho ms.length n ss)(c:2<=n)(d:n<=5):Dg 224 (iP ms ss):=by
 obtain⟨a,b⟩:=Qf Z C c d;refine b.dg (dX (iP ms ss).den_nz) (l:=186) (Α a ?_) (b:=37)<|ω _;exact Α (Ψ _ Z.L1) (by decide +kernel)
theorem aSq(Z:FZ ms Ly)(C:Cho ms.length n ss)(d:2<=n)(f:n<=5)(j:k+1=n):∀m∈(Tj (eG ms ss) (mH<|eG ms ss)<|iP ms ss).dropLast,Dg 9 m.1/\Dg 238 m.2.1:=λm g=>by
 have i:=Z.cz C d f;rw[De i (k:=k)<|by rw[fG,C.len,j]]at g;obtain⟨t,o,rfl⟩:=Β.mp g;have c:t<(eG ms ss).length:=by have:=di.mp o;rw[fG,C.len];lia
 obtain⟨a,b⟩:=Qf Z C d f;refine⟨?_,?_⟩
 ·show Dg 9 (xL (eG ms ss) t);unfold xL;rw[aO c];exact i.x _<|ax _
 ·show Dg 238 (yL (eG ms ss) t-sg (k-t)*iP ms ss);generalize iP ms ss=l at a b⊢;have p:Cm Ly (10^37) (yL (eG ms ss) t):=by
   unfold yL;rw[aO c];exact Z.y _<|iH C.lt _<|ax _
  have q:Cm l.den (10^37) (sg (k-t)*l):=by
   rcases eR (k-t)with e|e <;>rw[e]
   ·rw[fh];exact b
   ·rw[show(-1:θ)*l=-l by grind];exact b.neg
  have h:=((p.mono (fx _ l.den)<|ω _).sub<|q.mono (iv _ Ly)<|ω _);refine h.dg (fq Z.L0<|dX l.den_nz) (l:=199) ?_ (b:=38) (by decide +kernel);exact Α (Τ Z.L1<|Α a<|Ψ _ Z.L1) (by decide +kernel)
theorem Yw(Z:FZ ms Ly)(C:Cho ms.length n ss)(e:2<=n)(f:n<=5)(g:k+1=n)(l:θ):((Tj (eG ms ss) (mH<|eG ms ss) l).dropLast.map (·.1)).Nodup:=by
 have d:=Z.cz C e f;rw[De d (k:=k)<|by rw[fG,C.len,g],ia,er,iu];refine Pairwise.imp_of_mem ?_<|wa (n:=k);intro a b j h c z;have:=d.upF a b c (by rw[fG,C.len];have:=di.mp h;lia);have i:xL (eG ms ss) a=xL (eG ms ss) b:=z;rw[i]at this;exact ψ this (by grind)
def yG(ms:ε Mk)(a:ε θ)(i:π):θ:=yL ms i-bY a (xL ms i)
theorem aAi(Z:FZ ms Ly)(C:Cho ms.length n ss)(f:2<=n)(g:n<=5)(l:nu.length+1=n)(h:∀m∈(Tj (eG ms ss) (mH<|eG ms ss)<|iP ms ss).dropLast,bY nu m.1=m.2.1):
  ((∀q∈nu,Dg 320 q)/\∃V:π,0<V/\V<=10^248/\∀q∈nu,q.den∣V)/\∀t,t<n->yG ms nu (ss.getD t 0)=sg (n-1-t)*iP ms ss:=by
 have c:=Z.cz C f g;have d:=fG ms ss;rw[C.len]at d;rw[De c (k:=nu.length)<|‹48›]at h;have e:iP ms ss=lQ (xL<|eG ms ss) (yL<|eG ms ss) (eG ms ss).length:=by rw[fG];rfl
 obtain⟨i,j⟩:=aAj c Z.L0 Z.L1 (λm b=>Z.y m<|iH C.lt m b) (λm b=>Z.x m<|iH C.lt m b) (nu:=nu) ‹48› λt a=>by
  have:=h _<|Β.mpr ⟨t,di.mpr a,rfl⟩;rw[<-e];exact this
 refine⟨i,λt a=>?_⟩;have:=j t ‹48›;rw[<-e,d,xD (by rw[C.len];exact a),aJq (by rw[C.len];exact a)]at this;exact this
theorem Nu(k:π)(L:θ):aM (sg k*L)=aM L:=by
 rcases eR k with e|e <;>rw[e]
 ·rw[fh]
 ·rcases bC L with⟨q,a⟩|⟨q,a⟩ <;>rw[a]
  ·rw[cV<|by grind];grind
  ·rw[bU<|by grind];grind
theorem Pw(h:NewS n N v R L λt=>a.getD t 0)(c:a.length=n):Cho N n a where
 len:=c
 up:=by
  rw[fj];intro i j d e b;have:=h.up i j b ‹138›
  rwa [aO d,aO e]at this
 lt:=λs f=>by
  obtain⟨t,g,rfl⟩:=cn f;have:=h.lt t ‹138›
  rwa [aO g]at this
theorem aRv(a:e=1\/e=-1):e*q<=aM q:=by
 rcases a with rfl|rfl <;>rcases bC q with⟨c,e⟩|⟨c,e⟩ <;>rw[e] <;>grind
theorem xE(Z:FZ ms Ly)(C:Cho ms.length n ss):Ey n (xL<|eG ms ss):=λi j a b=>by
 rw[xD (by rw[C.len];exact 5),xD (by rw[C.len];assumption)];refine Z.upF _ _ ?_<|C.at b;rw[aO (by rw[C.len];exact 5),aO (by rw[C.len];assumption)];exact fj.mp C.up i j (by rw[C.len];exact 5) (by rw[C.len];assumption) a
theorem Zn(Z:FZ ms Ly)(r:nu.length+1=n)(k:∀i,i<ms.length->R i=yG ms nu i)(h:NewS n ms.length v R L λt=>a.getD t 0)(d:a.length=n):aM L<aM (iP ms a):=by
 have C:=Pw h d;obtain⟨e,f,m,s,j,o⟩:=h.turn;have b:∀t,t<n->R (a.getD t 0)=yL (eG ms a) t-bY nu (xL (eG ms a) t):=λt c=>by
  rw[k _<|C.at c,xD<|‹48›,aJq<|‹48›];rfl
 have g:=Ty (x:=xL<|eG ms a) (y:=yL<|eG ms a) (n:=n) (cs:=nu) (e:=e) (l:=aM L) (xE Z C) ‹48› f (λt c=>by rw[<-b t c];exact m t c) j (by rw[<-b s j];exact o);have p:=aRv (q:=lQ (xL<|eG ms a) (yL<|eG ms a) n) f;unfold iP;rw[d];grind
def cnt(ms:ε Mk)(ss:ε π):π:=((Ww<|range ms.length).filter λc=>decide (aM (iP ms ss)<aM (iP ms c))).length
theorem aCc(C:Cho ms.length n a)(h:aM (iP ms ss)<aM (iP ms a)):cnt ms a<cnt ms ss:=
 aIo (f:=λc=>aM<|iP ms c) (Nh C.up C.lt) h
structure FarB(ms:ε Mk)(b:π)(nu pl:ε θ):Prop where
 len:nu.length=b+1
 dg:∀q∈nu,Dg 320 q
 vb:∃V:π,0<V/\V<=10^248/\∀q∈nu,q.den∣V
 ch:∃ss:ε π,Cho ms.length (b+2) ss/\(∀t,t<b+2->yG ms nu (ss.getD t 0)=sg (b+1-t)*iP ms ss)/\(∀i,i<ms.length->aM (yG ms nu i)<=aM (iP ms ss))/\pl=tU (iP ms ss) (ss.zip<|mH<|eG ms ss) (bp ms.length 0)
end
theorem Dv(d:Dg b x):∀{c:ε θ},(∀n∈c,Dg a n)->Dg (c.length*(a+b+2)) (bY c x)
 |[],_=>by rw[eQ];exact Dg.zero
 |n::c,h=>by
  rw[bN,Ε,mm];exact(((Dv d λq e=>h q<|ο _ e).mul d).add<|h n υ).mono ‹48›
theorem aGr{b c:Type}(f:b->c){a:ε b}(h:0<a.length):fI (a.map f) ν (γ<|-1)=a.dropLast.map f:=by
 unfold fI;rw[HT.sIx_none,mx,yy,η];have e:HT.sIx a.length a.length (γ<|-1)=a.length-1:=by
  unfold HT.sIx;simp;lia
 rw[e,<-ou,si]
theorem Aj{c:Type}[DecidableEq c]{a:c}:∀{l:ε c},a∈l->∃j:π,l[j]? =γ a/\∀m:π,m<j->l[m]?≠γ a
 |[],h=>nomatch h
 |b::l,h=>by
  by_cases e:b=a
  ·exact⟨0,by rw[e];rfl,λm d=>ψ d<|og _⟩
  ·obtain⟨j,f,g⟩:=Aj (l:=l) (by
    rcases Υ.mp h with z|z
    ·exact ψ z.symm e
    ·exact z)
   refine⟨j+1,by simpa using f,λm d=>?_⟩;cases m with
   |zero=>simpa using e
   |succ m=>simpa using g m ‹107›
theorem rM:∀a:ε π,eC (a.map eN)=true
 |[]=>rfl
 |p::a=>by
  have:=rM a;simp only[Μ,eC,nR,this,ly]
theorem wK:∀a:ε Mk,eC (a.map cP)=true
 |[]=>rfl
 |p::a=>by
  have:=wK a;simp only[Μ,eC,nR,this,ly,fr]
theorem zU(a:ε Mk)(b:ε θ):bM a (a.map λm=>bY b m.1)=(range a.length).map (yG a b):=by
 unfold bM;refine j1 (by simp) λi e c=>?_;have d:i<a.length:=by simpa using c
 rw[jh,dr,dr,hE];unfold yG xL yL;rw[aO d]
def aQv:DW:=λe Q _=>∃(a:ε Mk)(b f:π),e=[.list<|a.map cP,.int (b:χ)]/\b<=3/\b+2<=a.length/\FZ a f/\∀c d:ε θ,FarB a b c d->Q (.two (c.map fr)<|d.map fr)
theorem Ie:Q 8 38 (λ_=>aQv):=by
 refine fH 38 ["marks","bend","spots","chosen","shares","level","numbers","misses","sizes","greatest"] λA T R Z=>⟨_,by walk_at"t",_,(aH (aZ 2 (bH (vE (bQ cT (vN 0 aB)) (vE (bZ cN (aF 1) bI) aB))))
   (pG (lA (aC jM)) (aH (aZ 3 (bS [ν,γ 0] ["spot","marks"] (cE (aL 2)) (aG 0) bV (bR (aL 1) (aF 0))))
   (aH (aZ 4 (bH (vN 3 aB)))
   (sA 5 (aE (vE (cL (bS [ν,ν] ["share","mark"] (fM (aL 4) (aL 3)) (eB (aW (aG 0) (aW (aG 1) dO))) bV (aE (vN 0 (vE (eX 1 1) aB))))) aB)) (aH (aZ 6 (bH (vE (cL (gU (lP (bH (vN 3 (vN 4 (vN 5 aB))))) fZ (cS (aC (Jq (v:=(-1)) (iA bI) (λex δ Q h=>Eq.mpr (ea (λz=>Q (.int z)) (by decide +kernel:((-1):χ)=-1)) h)))))) aB)))
   (aH (aZ 7 (bH (vN 0 (vE (cL (bH (vN 6 (vN 0 aB)))) aB))))
   (aH (aZ 8 (bS [ν] ["miss"] (cE (aL 7)) (aG 0) bV (aE (vN 0 aB))))
   (sA 9 (aE (vN 8 aB)) (aH (bF (tO mK (aF 9) (aC (aE (vN 5 aB)))) (pH (Pu 6 (bH (vN 2 (vN 4 (vN 5 (vE (bQ cT (vN 0 aB)) aB))))))) aP)
   (aZ 2 (bH (vN 2 (vN 7 (vE (aAo 8 (aF 9)) aB))))))))))))))),?_⟩
 intro ds Q X qQ0;refine qq0 λqq2=>?_;obtain⟨c,o,Ly,rfl,b3,n2,Z,k⟩:=qQ0;refine qq2 ?_;have I:=Z.n60;have D:∀m∈c,Ok m.2.1:=λm j=>cA<|Z.ydg j;have J:∀m∈c,Dg 9 m.1:=λm j=>(Z.x m j).dg (by decide) (l:=1) (by decide) (b:=7)<|ω _;walk_at"s";refine⟨c.length,o+2,by rw[show((o+2:π):χ)=(o:χ)+2 by lia],‹48›,‹48›,n2,I,λd M su O=>?_⟩;walk_at"d";refine⟨rM _,?_⟩;refine⟨λm δ=>∃(d:ε π)(o3 o4 o5 o6 o7 o8 o9:Θ Sl),δ=[γ<|.dat<|.list<|c.map cP,γ<|.dat<|.int (o:χ),γ<|.own<|d.map eN,o3,o4,o5,o6,o7,o8,o9]/\Cho c.length (o+2) d/\m=cnt c d,⟨cnt c d,d,_,_,_,_,_,_,_,rfl,⟨M,su,O⟩,rfl⟩,?_⟩;clear M su O d;intro m δ qQ0;refine qq0 λqq2=>?_;obtain⟨d,o3,o4,o5,o6,o7,o8,o9,rfl,C,rfl⟩:=qQ0;refine qq2 ?_;have cz:=Z.cz C ‹48› ‹48›;have cl:(eG c d).length=o+2:=by rw[fG,C.len]
 have M:=C.len;have a9:=pR<|eG c d;walk_at"d";walk_at"s";refine bL eN cP (λs:π=>[c.getD s (0,0,0)]) d (by lia) (λQ h=>by walk_at"d";exact h) (λs hs N S U=>?_) ?_
 ·have W:=C.lt s hs;walk_at"d";exact⟨cP<|c.getD s (0,0,0),fQ (by rw[el,ah W,aO W];rfl),U⟩
 rw[aN,show d.map (λs=>c.getD s (0,0,0))=eG c d from rfl];walk_at"s";refine⟨eG c d,rfl,cz,?_⟩;rw[show(range (eG c d).length).map (gT (xL<|eG c d) (eG c d).length)=mH (eG c d)from rfl];walk_at"d";refine⟨bP _,?_⟩;walk_at"s";refine bL (λz:θ×Mk=>ay [fr z.1,cP z.2]) fr (λz:θ×Mk=>[z.1*z.2.2.1]) ((mH<|eG c d).zip<|eG c d) (by rw[dR];exact 50) (λQ h=>by walk_at"d";rw[cK];exact h) (λz hz N S U=>?_) ?_
 ·have Y:=(eh (a:=z.1) (b:=z.2) hz).1;have a4:=(eh (a:=z.1) (b:=z.2) hz).2;have o1:Ok z.1:=by
   unfold mH at Y;obtain⟨t,ht,e⟩:=Β.mp Y;rw[<-e];exact cA<|Bu cz<|di.mp ht
  walk_at"d";refine⟨_,_,rfl,o1,D _<|iH C.lt _ a4,?_⟩;walk_at"d";exact U
 rw[aN,aFj];refine⟨_,rfl,λq u=>cA<|aIf Z C ‹48› ‹48› q u,λi=>cA<|aSr Z C ‹48› ‹48› i,?_⟩;rw[aNb];obtain⟨L,y⟩:∃L,iP c d=L:=⟨_,rfl⟩;have oL:Ok L:=by rw[<-y];exact cA (aFo Z C ‹48›<|‹48›)
 rw[y];walk_at"d";walk_at"s";refine⟨eG c d,mH<|eG c d,L,rfl,by lia,λm j=>D m<|iH C.lt m j,oL,?_⟩;walk_at"d";have b0:(Tj (eG c d) (mH<|eG c d) L).length=o+2:=by unfold Tj;rw[ba];lia
 rw[aGr cP<|‹48›];have dl:(Tj (eG c d) (mH<|eG c d) L).dropLast.length=o+1:=by rw[r8];lia
 have E:=aSq Z C ‹48› ‹48› (k:=o+1) rfl;rw[y]at E;refine⟨wK _,(Tj (eG c d) (mH<|eG c d) L).dropLast,rfl,by lia,λh=>ψ h<|‹48›,λ_=>⟨Yw Z C ‹48› ‹48› (k:=o+1) rfl L,9,238,λm j=>(E m j).1,λm j=>(E m j).2,by decide,by decide,λnu nl nh _=>?_⟩⟩;walk_at"d";refine⟨bP _,?_⟩;refine qq0 λqq2=>?_;obtain⟨⟨F,a5⟩,f⟩:=aAi Z C ‹48› ‹48› (nu:=nu) ‹48› (by rw[y];exact nh);refine qq2 ?_;rw[y]at f;have a0:∀m∈c,Dg 1324 (bY nu m.1):=λm j=>by
  refine(Dv (J m j) F).mono ?_;have:nu.length*(320+9+2)<=4*(320+9+2):=Ψ _ ‹110›;assumption
 walk_at"s";refine⟨nu,c,320,9,rfl,‹110›,‹101›,F,J,Α (Ψ _<|show nu.length<=4 by exact 110)<|by decide,?_⟩;walk_at"d";refine⟨bP _,?_⟩;refine⟨c,_,rfl,‹101›,D,λq u=>?_,?_⟩
 ·obtain⟨m,j,rfl⟩:=Β.mp u;exact cA<|a0 m j
 walk_at"d";refine⟨bP _,?_⟩;rw[zU];obtain⟨p,r⟩:∃p,(range c.length).map (yG c nu)=p:=⟨_,rfl⟩;have rl:p.length=c.length:=by rw[<-r,η,cw]
 have a1:∀i,i<c.length->p.getD i 0=yG c nu i:=λi H=>by
  rw[aO<|‹48›];subst r;rw[dr,hE]
 have a2:∀q∈p,Ok q:=λq u=>by
  rw[<-r]at u;obtain⟨i,H,rfl⟩:=Β.mp u;have G:=di.mp H;unfold yG xL yL;rw[aO G];exact cA<|(Z.ydg<|ax G).sub<|a0 _<|ax G
 have a6:∀q∈p.map aM,Ok q:=λq u=>by
  obtain⟨x,hx,rfl⟩:=Β.mp u;have:=a2 x hx;exact⟨by have:=this.n;unfold Wee at *;rw[iL];assumption,this.d⟩
 rw[r];walk_at"s";refine bL fr fr (λq:θ=>[aM q]) p ‹110› (λQ h=>by walk_at"d";exact h) (λq u N S U=>?_) ?_
 ·walk_at"d";refine⟨q,rfl,?_⟩;walk_at"d";exact U
 rw[aN];walk_at"s";refine⟨p.map aM,rfl,a6,λh0=>?_,λg hg a7=>?_⟩
 ·have:(p.map aM).length=0:=by rw[h0];rfl
  rw[η]at this;lia
 walk_at"d";walk_at"s";refine⟨L,rfl,?_⟩;walk_at"d";have top:∀i,i<c.length->aM (yG c nu i)<=g:=λi H=>by
  refine a7 _<|Β.mpr ⟨yG c nu i,?_,rfl⟩;rw[<-r];exact Β.mpr ⟨i,di.mpr H,rfl⟩
 refine⟨θ,eRat,g,aM L,rfl,rfl,λv hv=>?_⟩;cases v with
 |true=>
  have e:g=aM L:=hv.mp rfl;walk_at"d";refine⟨d,mH<|eG c d,L,c.length,rfl,‹48›,C.lt,I,?_⟩;walk_at"d";refine⟨bP _,?_⟩;refine k nu _ ⟨‹48›,F,a5,d,C,λt ht=>?_,λi H=>?_,by rw[y]⟩
  ·rw[y,f t ht];rfl
  ·rw[y,<-e];exact top i H
 |false=>
  have ne:g≠aM L:=λz=>by have:=hv.mpr z;cases this
  refine qq0 λqq2=>?_;obtain⟨vi,B,a8⟩:=Aj hg;refine qq2 ?_;have vl:vi<c.length:=by have:=(Δ.mp B).1;rw[η]at this;exact 138
  have vg:aM (p.getD vi 0)=g:=by
   rw[el,ah<|‹48›]at B;rw[aO<|‹48›];exact bw B
  have lg:aM L<=g:=by
   have h0:=f 0 ‹48›;have:=top _ (C.at<|show 0<o+2 by exact 48);rw[h0,Nu]at this;exact this
  walk_at"d";refine⟨g,p.map aM,vi,rfl,rfl,B,a8,by rw[η];exact 110,?_⟩;refine⟨d,p,vi,L,rfl,‹48›,‹48›,C.up,λs hs=>by rw[rl];exact C.lt s hs,‹110›,‹48›,a2,λt ht=>?_,by rw[vg];grind,λa3 l' N'=>?_⟩
  ·rw[a1 _<|C.at<|‹138›,f t<|‹138›,M]
  walk_at"d";rw[M]at N' l';rw[rl]at N';have nx:=Zn Z (n:=o+2) (nu:=nu) ‹48› a1 N' l';rw[<-y]at nx;have C':=Pw N' l';exact⟨rM _,cnt c a3,aCc C' nx,a3,_,_,_,_,_,_,_,rfl,C',rfl⟩
def aUw(M:θ)(z:θ×θ):Prop:=z.2≠0->aM z.1=M/\0<z.1*z.2
def Ew(b a:ε θ):Prop:=((∀p∈a,p=0)/\∀x∈b,x=0)\/(¬(∀p∈a,p=0)/\(∀z∈b.zip a,aUw (gC<|b.map aM) z)/\tot (a.map aM)=1)
def aUk(w x p:θ):Prop:=aM p<=w/\(0<x->p=w)/\(x<0->p=-w)
def aHk(a:ε Mk)(b c:ε θ):Prop:=∀z∈a.zip (b.zip c),aUk (z.1.2.2:θ) z.2.1 z.2.2
def yM(d:bf)(b:ε Mk)(a c:ε θ):Prop:=if d="far" then Ew (bM b a) c else if d="sum" then aHk b (bM b a) c else c=cI b a
def oR:ε θ->ε θ->θ
 |a::c,b::bs=>a*b+oR c bs
 |_,_=>0
theorem absR_le_iff:aM a<=b↔-b<=a/\a<=b:=by
 rcases bC a with⟨h,e⟩|⟨h,e⟩ <;>rw[e] <;>constructor <;>intro c
 ·constructor <;>grind
 ·exact c.2
 ·constructor <;>grind
 ·grind
theorem Me(h:aM y<=M):p*y<=aM p*M:=by
 have b:=absR_le_iff.mp h;rcases bC p with⟨a,e⟩|⟨a,e⟩ <;>rw[e]
 ·have:=Ν a (show 0<=M-y by grind);grind
 ·have:=Ν (show 0<=-p by grind) (show 0<=M+y by grind);grind
theorem wW:∀{ps ys:ε θ}{M:θ},ps.length=ys.length->(∀y∈ys,aM y<=M)->oR ps ys<=tot (ps.map aM)*M
 |[],[],M,_,_=>by simp[oR,tot,kf]
 |p::ps,y::ys,M,a,h=>by
  have c:=wW (ps:=ps) (ys:=ys) (M:=M) (by simpa using a) λx b=>h x<|ο _ b;have d:=Me (p:=p)<|h y υ;simp only[oR,Μ,tot];grind
theorem wX:∀{ps xs:ε θ}{M:θ},ps.length=xs.length->(∀z∈ps.zip xs,z.1=0\/(aM z.2=M/\0<z.2*z.1))->oR ps xs=tot (ps.map aM)*M
 |[],[],M,_,_=>by simp[oR,tot,kf]
 |p::ps,x::xs,M,g,h=>by
  have i:=wX (ps:=ps) (xs:=xs) (M:=M) (by simpa using g) λz j=>h z (by simp[j]);have a:=h (p,x) (by simp);simp only[oR,Μ,tot,i];have e:p*x=aM p*M:=by
   rcases a with a|⟨a,k⟩
   ·dsimp only at a;rw[a,bU au,kf,kf]
   ·dsimp only at a k;rw[<-a];rcases bC p with⟨b,c⟩|⟨b,c⟩ <;>rcases bC x with⟨d,f⟩|⟨d,f⟩ <;>rw[c,f]
    ·exfalso;have:=Ν b (show 0<=-x by grind);grind
    ·exfalso;have:=Ν (show 0<=-p by grind) d;grind
    ·grind
  rw[e];grind
theorem Qx:∀{ws ps xs ys:ε θ},ps.length=ws.length->xs.length=ws.length->ys.length=ws.length->(∀z∈ws.zip (ps.zip xs),aM z.2.1<=z.1/\(0<z.2.2->z.2.1=z.1)/\(z.2.2<0->z.2.1=-z.1)) ->
  tot (af (λw x=>w*aM x) ws xs)=oR ps xs/\oR ps ys<=tot (af (λw y=>w*aM y) ws ys)
 |[],[],[],[],_,_,_,_=>⟨rfl,au⟩
 |w::ws,p::ps,x::xs,y::ys,f,g,i,h=>by
  obtain⟨j,l⟩:=Qx (ws:=ws) (ps:=ps) (xs:=xs) (ys:=ys) (by simpa using f) (by simpa using g) (by simpa using i) λz k=>h z (by simp[k]);obtain⟨a,b,c⟩:=h (w,p,x) (by simp);dsimp only at a b c;simp only[Κ,tot,oR];constructor
  ·rw[j];have e:w*aM x=p*x:=by
    by_cases q:0<x
    ·rw[b q,bU<|‹40›]
    ·by_cases d:x<0
     ·rw[c d,cV<|‹40›];grind
     ·have:x=0:=xt (jk.mp q)<|jk.mp d;rw[this,bU au,fo,fo]
   rw[e]
  ·have e:p*y<=w*aM y:=by
    have m:=absR_le_iff.mp a;rcases bC y with⟨q,e⟩|⟨q,e⟩ <;>rw[e]
    ·have:=Ν (show 0<=w-p by grind) q;grind
    ·have:=Ν (show 0<=w+p by grind) (show 0<=-y by grind);grind
   grind
theorem aAu:∀{ws xs ys:ε θ},xs.length=ws.length->ys.length=ws.length->(∀w∈ws,0<w) ->
  0<=tot (af (λw (z:θ×θ)=>w*(z.2-z.1)*(z.2-z.1)) ws<|xs.zip ys)/\
  (tot (af (λw (z:θ×θ)=>w*(z.2-z.1)*(z.2-z.1)) ws<|xs.zip ys)=0->ys=xs)/\
  tot (af (λw y=>w*y*y) ws ys)=tot (af (λw x=>w*x*x) ws xs)+2*(oR (af (λw x=>w*x) ws xs) ys-oR (af (λw x=>w*x) ws xs) xs)+tot (af (λw (z:θ×θ)=>w*(z.2-z.1)*(z.2-z.1)) ws<|xs.zip ys)
 |[],[],[],_,_,_=>⟨au,λ_=>rfl,by simp[tot,oR] <;>grind⟩
 |w::ws,x::xs,y::ys,d,f,hw=>by
  obtain⟨g,c,i⟩:=aAu (ws:=ws) (xs:=xs) (ys:=ys) (by simpa using d) (by simpa using f) λv j=>hw v<|ο _ j;have m:=hw w υ;simp only[ka,Κ,tot,oR];generalize tot (af (λw (z:θ×θ)=>w*(z.2-z.1)*(z.2-z.1)) ws<|xs.zip ys)=S at g c i⊢;have n:0<=w*(y-x)*(y-x):=by
   have h:=Ν (show(0:θ)<=w by exact 40) (show 0<=(y-x)*(y-x) by
    rcases qi (a:=0) (b:=y-x)with q|q
    ·exact Ν q q
    ·have:=Ν (show 0<=-(y-x) by grind) (show 0<=-(y-x) by grind)
     grind)
   grind
  refine⟨‹44›,λe=>?_,by grind⟩;have k:w*(y-x)*(y-x)=0:=by grind
  have l:S=0:=by grind
  rw[c l];have o:y-x=0:=by
   rcases gc.mp k with z|z
   ·rcases gc.mp z with z|z
    ·grind
    ·exact z
   ·exact z
  have:y=x:=by grind
  rw[this]
theorem Ec:∀(b:ε θ)(c:ε Mk)(a:ε θ),b.length=c.length->a.length=c.length->oR b (bM c a)=oR b (c.map (·.2.1))-oR b a
 |[],[],[],_,_=>by simp[oR,bM];grind
 |p::b,m::c,r::a,e,f=>by
  have d:=Ec b c a (by simpa using e) (by simpa using f);unfold bM at d⊢;simp only[Κ,Μ,oR,d];grind
theorem Ez{b:ε Mk}{a c:ε θ}{p:θ->θ×θ->Prop}(h:∀z∈b.zip (a.zip c),p (z.1.2.2:θ) (z.2.2,z.2.1)):∀z∈(b.map λm=>(m.2.2:θ)).zip (c.zip a),p z.1 z.2:=by
 intro z f;obtain⟨i,e,rfl⟩:=cn f;simp only[dR,η]at e;have d:i<(b.zip<|a.zip c).length:=by
  simp only[dR];rw[Nat.min_comm a.length];exact e
 have:=h _<|ax d;simpa using this
theorem sX{w x:θ}(hw:0<w):aM (w*x)=w*aM x:=by
 rcases bC x with⟨d,c⟩|⟨d,c⟩
 ·rw[c,bU<|Ν ‹40› d]
 ·rw[c,cV]
  ·grind
  ·have:=Ν (a:=w) (b:=-x) ‹40› (by grind);grind
theorem Ny{f:θ->θ->θ}:af (λ(m:Mk) x=>f (m.2.2:θ) x) a b=af f (a.map λm=>(m.2.2:θ)) b:=by rw[List.zipWith_map_left]
theorem Vj{f g:Mk->θ->θ}(h:∀m x,m∈a->f m x=g m x):af f a b=af g a b:=by
 induction a generalizing b with
 |nil=>simp
 |cons m a c=>
  cases b with
  |nil=>simp
  |cons x b=>rw[Κ,Κ,h m x υ,c λd e i=>h d e<|ο _ i]
theorem Io:∀{ms:ε Mk}{b a:ε θ},b.length=ms.length->a.length=ms.length->bM ms b=bM ms a->b=a
 |[],[],[],_,_,_=>rfl
 |m::ms,o::b,r::a,c,d,h=>by
  unfold bM at h;rw[Κ,Κ]at h;injection h with f e
  have:=Io (ms:=ms) (by simpa using c) (by simpa using d) e;rw[this];have:o=r:=by grind
  rw[this]
theorem maxR_zero'{a:ε θ}:gC (a.map aM)=0↔∀x∈a,x=0:=by
 constructor
 ·intro h x c;have f:=jV (aM x)<|Β.mpr ⟨x,c,rfl⟩;rw[h]at f;have g:=gI x;have d:aM x=0:=xt f g;rcases bC x with⟨_,b⟩|⟨_,b⟩
  ·rw[b]at d;exact d
  ·rw[b]at d;grind
 ·intro h;rcases @gA (a.map aM)with z|z
  ·exact z
  ·obtain⟨x,c,e⟩:=Β.mp z;rw[<-e,h x c,bU au]
theorem sP(hw:∀m∈b,0<m.2.2):(cI b a).map aM=af (λw x=>w*aM x) (b.map λm=>(m.2.2:θ)) (bM b a):=by
 unfold cI;rw[t8,<-Ny];refine Vj λm x c=>?_;exact sX<|gb.mpr<|hw m c
theorem aHx:∀(d c:ε θ),af (λa b=>a*b) (af (λw x=>w*x) d c) c=af (λw x=>w*x*x) d c
 |[],_=>by simp
 |_::_,[]=>by simp
 |w::d,x::c=>by simp[aHx d c]
theorem Na(j:f∈eV)(hw:∀m∈a,0<m.2.2)(u:b.length=a.length)(B:c.length=a.length)(o:ps.length=a.length)(g:yM f a b ps)(T:oR ps c<=oR ps b):
  dS f a b<=dS f a c/\(f="square"->dS f a c=dS f a b->c=b):=by
 have C:(bM a b).length=a.length:=by unfold bM;rw[ba];exact 50
 have D:(bM a c).length=a.length:=by unfold bM;rw[ba];exact 50
 have U:=Ec ps a b o u;have W:=Ec ps a c o B;have d:oR ps (bM a b)<=oR ps (bM a c):=by grind
 simp only[eV,Υ,dV,gz]at j;unfold yM at g;unfold dS;rcases j with rfl|rfl|rfl
 ·rw[ρ rfl]at g⊢;rw[ρ rfl];refine⟨?_,λh=>ψ h<|by decide⟩;rcases g with⟨_,q⟩|⟨_,hfar,htot⟩
  ·rw[maxR_zero'.mpr q];exact nE _
  ·have l:=wX (ps:=ps) (xs:=bM a b) (M:=gC<|(bM a b).map aM) ‹48› λy k=>by
    by_cases E:y.1=0
    ·exact .inl E
    ·have s:(y.2,y.1)∈(bM a b).zip ps:=by
      obtain⟨i,I,rfl⟩:=cn k;rw[dR]at I;rw[mf];have t:i<((bM a b).zip ps).length:=by rw[dR];lia
      have:=ax t;rw[mf]at this;exact this
     exact .inr<|hfar _ s E
   have n:=wW (ps:=ps) (ys:=bM a c) (M:=gC<|(bM a c).map aM) ‹48› λy k=>jV _<|Β.mpr ⟨y,k,rfl⟩;rw[htot,fh]at l n;rw[l]at d;exact vA d n
 ·rw[ι<|by decide,ρ rfl]at g⊢;rw[ι<|by decide,ρ rfl];refine⟨?_,λh=>ψ h<|by decide⟩;rw[sP hw,sP hw];obtain⟨l,n⟩:=Qx (ws:=a.map λm=>(m.2.2:θ)) (ps:=ps) (xs:=bM a b) (ys:=bM a c) (by simp[o]) (by simp[C]) (by simp[D])<|Ez (p:=λw z=>aM z.1<=w/\(0<z.2->z.1=w)/\(z.2<0->z.1=-w)) λy k=>g y k;rw[l];exact vA d n
 ·rw[ι<|by decide,ι<|by decide]at g⊢;rw[ι<|by decide,ι<|by decide];obtain⟨J,F,L⟩:=aAu (ws:=a.map λm=>(m.2.2:θ)) (xs:=bM a b) (ys:=bM a c) (by simp[C]) (by simp[D]) λv N=>by
   obtain⟨m,O,rfl⟩:=Β.mp N;exact gb.mpr<|hw m O
  have G:∀r:ε θ,cI a r=af (λw x=>w*x) (a.map λm=>(m.2.2:θ)) (bM a r):=λr=>by unfold cI;exact Ny
  have H:∀r:ε θ,xN a r=af (λw x=>w*x*x) (a.map λm=>(m.2.2:θ)) (bM a r):=λr=>by unfold xN;rw[G,aHx]
  rw[H,H];rw[g,G]at d;generalize tot (af (λw (z:θ×θ)=>w*(z.2-z.1)*(z.2-z.1)) (a.map λm=>(m.2.2:θ))<|(bM a b).zip<|bM a c)=S at J F L;refine⟨by grind,λ_ X=>?_⟩;have R:S=0:=by grind
  have e:=F R;exact Io B u e
theorem aPk(h:aM q<=g):-g<=q/\q<=g:=by
 rcases bC q with⟨c,e⟩|⟨c,e⟩ <;>rw[e]at h <;>constructor <;>grind
theorem Ci(L:θ)(k:π):∀(r:ε<|π×θ)(a:ε θ),(∀z∈r,z.1≠k)->(tU L r a).getD k 0=a.getD k 0
 |[],a,_=>rfl
 |y::r,a,h=>by
  rw[tU,Ci L k r _ λz b=>h z<|ο _ b];split
  ·rfl
  ·rw[Ο,v9,ι<|h y υ,Ο]
theorem FarB.plen(F:FarB a b d c):c.length=a.length:=by
 obtain⟨f,C,g,h,e⟩:=F.ch;rw[e,Cj,eg]
def tD(a:π->θ->θ)(l:ε θ):θ:=aS l.length λi=>a i<|l.getD i 0
theorem getD_set'{l:ε θ}(h:k<l.length):(l.set k x).getD i 0=if i=k then x else l.getD i 0:=by
 rw[Ο,v9];by_cases c:k=i
 ·subst c;rw[ρ rfl,ρ h,ρ rfl];rfl
 ·rw[ι c,ι<|Ne.symm c,Ο]
theorem Wv(d:k<n)(h:∀i,i<n->i≠k->g i=f i):aS n g=aS n f+(g k-f k):=by
 induction n with
 |zero=>exact 39
 |succ n a=>
  rw[aS,aS];by_cases c:k=n
  ·subst c;rw[bG λi b=>h i ‹3›<|‹35›];grind
  ·rw[a ‹13› λi b=>h i<|‹3›,h n ‹48›<|Ne.symm c];grind
theorem Wu(b:∀i,a i 0=0)(c:k<l.length)(d:l.getD k 0=0):tD a (l.set k x)=tD a l+a k x:=by
 unfold tD;rw[l9,Wv (k:=k) (f:=λi=>a i<|l.getD i 0) c λi g e=>by rw[getD_set' c,ι e]];rw[getD_set' c,ρ rfl,d,b];grind
theorem Pn(g:L≠0)(d:∀i,f i 0=0):∀(r:ε<|π×θ)(c:ε θ),(r.map (·.1)).Pairwise (·<·)->(∀z∈r,z.1<c.length/\c.getD z.1 0=0)->tD f (tU L r c)=tD f c+tot (r.map λz=>f z.1<|uJ L z.2)
 |[],c,_,_=>by rw[tU,pd,tot];grind
 |y::r,c,j,h=>by
  rw[Μ]at j;have e:=fv.mp j;obtain⟨k,m⟩:=h y υ;rw[tU,ι g,Pn g d r _ e.2 λz l=>?_,Wu d k m,Μ,tot]
  ·grind
  ·have:=e.1 z.1<|Β.mpr ⟨z,l,rfl⟩;obtain⟨a,b⟩:=h z<|ο _ l;rw[l9,getD_set' k,ι<|‹34›];exact⟨a,b⟩
theorem Yd(d:L≠0):∀(r:ε<|π×θ)(c:ε θ),(r.map (·.1)).Pairwise (·<·)->(∀z∈r,z.1<c.length)->∀z∈r,(tU L r c).getD z.1 0=uJ L z.2
 |[],_,_,_,z,a=>nomatch a
 |y::r,c,f,h,z,a=>by
  rw[Μ]at f;have b:=fv.mp f;rw[tU,ι d];rcases Υ.mp a with rfl|a
  ·rw[Ci _ _ _ _ λw hw e=>by
    have:=b.1 w.1<|Β.mpr ⟨w,hw,rfl⟩
    lia]
   rw[getD_set'<|h z υ,ρ rfl]
  ·exact Yd d r _ b.2 (λw hw=>by rw[l9];exact h w<|ο _ hw) z a
theorem oH:∀(r:ε<|π×θ)(a:ε θ),tU 0 r a=a
 |[],a=>rfl
 |y::r,a=>by rw[tU,ρ rfl,oH r]
structure PlOk(ms:ε Mk)(b:π)(nu pl:ε θ)(ss:ε π)(L:θ):Prop where
 C:Cho ms.length (b+2) ss
 m:∀t,t<b+2->yG ms nu (ss.getD t 0)=sg (b+1-t)*L
 top:∀i,i<ms.length->aM (yG ms nu i)<=aM L
 len:pl.length=ms.length
 p:∀t,t<b+2->pl.getD (ss.getD t 0) 0=if L=0 then 0 else uJ L (gT (xL<|eG ms ss) (b+2) t)
 out:∀i,i∉ss->pl.getD i 0=0
 sum:∀φ:π->θ->θ,(∀i,φ i 0=0)->tD φ pl=if L=0 then 0 else aS (b+2) λt=>φ (ss.getD t 0)<|uJ L<|gT (xL<|eG ms ss) (b+2) t
theorem zB(a:∀i,b i 0=0)(n:π):tD b (bp n 0)=0:=by
 unfold tD;refine gZ λi c=>?_;rw[eg]at c;rw[aO (by rw[eg];exact c),pz,a]
theorem nM{a:Type}(f:a->θ)(d:a)(l:ε a):tot (l.map f)=aS l.length λi=>f (l.getD i d):=by
 rw[<-mY]
 congr 1
 refine j1 (by simp) λi b e=>?_;have c:i<l.length:=by simpa using b
 rw[dr,dr,hE,aO c]
theorem FarB.pok(F:FarB f b q r):∃d L,PlOk f b q r d L:=by
 obtain⟨d,C,s,u,j⟩:=F.ch;have v:(eG f d).length=b+2:=by rw[fG,C.len]
 have I:=C.len;obtain⟨L,x⟩:∃L,iP f d=L:=⟨_,rfl⟩;rw[x]at s u j;have y:(d.zip<|mH<|eG f d).length=b+2:=by rw[dR,pR];lia
 have k:∀t,t<b+2->(d.zip<|mH<|eG f d).getD t (0,0)=(d.getD t 0,gT (xL<|eG f d) (b+2) t):=λt l=>by
  have m:t<(mH<|eG f d).length:=by rw[pR];exact 48
  have B:(mH<|eG f d).getD t 0=gT (xL<|eG f d) (eG f d).length t:=by
   rw[aO m];simp only[mH,dr,hE]
  have D:gT (xL<|eG f d) (eG f d).length t=gT (xL<|eG f d) (b+2) t:=by rw[v]
  have E:(mH<|eG f d).getD t 0=(mH<|eG f d)[t]:=aO m;rw[aO<|‹48›,mf,aO<|‹48›];exact BP rfl<|E.symm.trans<|B.trans D
 have n:((d.zip<|mH<|eG f d).map (·.1)).Pairwise (·<·):=by
  rw[List.map_fst_zip (by rw[pR];exact 48)];exact C.up
 have o:∀z∈d.zip (mH<|eG f d),z.1<(bp f.length (0:θ)).length/\(bp f.length (0:θ)).getD z.1 0=0:=λz p=>by
  have h:=C.lt _ (eh (a:=z.1) (b:=z.2) p).1;rw[eg];exact⟨h,by rw[aO (by rw[eg];exact h),pz]⟩
 refine⟨d,L,C,s,u,F.plen,λt l=>?_,λi G=>?_,λJ g=>?_⟩
 ·by_cases c:L=0
  ·rw[ρ c,j,c,oH];have:=C.at l;rw[aO (by rw[eg];exact this),pz]
  ·rw[ι c,j];have H:(d.zip<|mH<|eG f d).getD t (0,0)∈d.zip (mH<|eG f d):=by rw[aO<|‹48›];exact ax _
   have:=Yd c _ (bp f.length 0) n (λz p=>(o z p).1) _ H;rw[k t l]at this;exact this
 ·rw[j,Ci _ _ _ _ λz p e=>G (by
   have:=(eh (a:=z.1) (b:=z.2) p).1
   rwa [e]at this)]
  rw[Ο,qd];split <;>rfl
 ·by_cases c:L=0
  ·rw[ρ c,j,c,oH,zB g]
  ·rw[ι c,j,Pn c g _ _ n o,zB g,nM _ (0,0),y,vR];exact bG λt l=>by rw[k t l]
theorem Bk(L s:θ)(a:L≠0):∃e:θ,(e=1\/e=-1)/\e*L=aM L/\∀s,uJ L s=e*s:=by
 unfold uJ;by_cases c:L<0
 ·refine⟨-1,.inr rfl,?_,λs=>by rw[ρ c];grind⟩;rw[cV<|‹40›];grind
 ·refine⟨1,.inl rfl,?_,λs=>by rw[ι c];grind⟩;rw[bU<|by grind];grind
theorem PlOk.mem(H:PlOk ms b nu pl f L)(h:pl.getD i 0≠0):∃t,t<b+2/\f.getD t 0=i:=by
 have a:i∈f:=h8.mp λc=>h<|H.out i c;obtain⟨t,d,e⟩:=cn a;exact⟨t,by have:=H.C.len;exact 138,by rw[aO d,e]⟩
theorem PlOk.zero(H:PlOk ms b nu pl d L)(h:L=0)(i:π):pl.getD i 0=0:=by
 refine h8.mp λc=>?_;obtain⟨t,a,e⟩:=H.mem c;have:=H.p t a;rw[e,ρ h]at this;exact c this
theorem PlOk.pos(Z:FZ ms k)(H:PlOk ms b nu pl j L)(c:L≠0)(a:t<b+2):0<yG ms nu (j.getD t 0)*pl.getD (j.getD t 0) 0:=by
 have d:=xE Z H.C;have s:=oF a d;rw[show b+2-1-t=b+1-t by lia]at s;obtain⟨e,i,f,g⟩:=Bk L 0 c;rw[H.m t a,H.p t a,ι c,g];have h:0<aM L:=by rcases bC L with⟨_,q⟩|⟨_,q⟩ <;>rw[q] <;>grind
 have:=gu h s;rw[<-f]at this;grind
theorem PlOk.ne(Z:FZ ms e)(H:PlOk ms b nu pl d L)(a:L≠0)(c:t<b+2):pl.getD (d.getD t 0) 0≠0:=λz=>by
 have:=H.pos Z a c;rw[z,fo]at this;exact ψ this (by decide)
theorem PlOk.one(Z:FZ ms k)(H:PlOk ms b nu pl j L)(a:L≠0):tD (λ_ p=>aM p) pl=1:=by
 rw[H.sum (λ_ p=>aM p) λ_=>bU au,ι a];have d:=xE Z H.C;rw[<-tN (n:=b+2) ‹48› d];refine bG λt f=>?_;obtain⟨e,g,_,h⟩:=Bk L 0 a;rw[h];have s:=oF f d;have i:=Ch (eR _)<|cq s;rw[i];rcases g with rfl|rfl
 ·rw[fh]
 ·rcases bC (gT (xL<|eG ms j) (b+2) t)with⟨c,q⟩|⟨c,q⟩
  ·rw[q,cV<|by grind];grind
  ·rw[q,bU<|by grind];grind
theorem PlOk.even(Z:FZ ms l)(H:PlOk ms b nu pl k L)(g:j<=b):tD (λi p=>p*xL ms i^j) pl=0:=by
 rw[H.sum (λi p=>p*xL ms i^j) λi=>kf _];split
 ·rfl
 ·next a=>
  have c:=xE Z H.C;refine qq0 λqq2=>?_;obtain⟨e,_,_,d⟩:=Bk L 0 a;refine qq2 ?_;have h:=Oy (n:=b+2) (j:=j) ‹48› c ‹48›;have:(aS (b+2) λt=>uJ L (gT (xL<|eG ms k) (b+2) t)*xL ms (k.getD t 0)^j)=aS (b+2) λt=>e*(gT (xL<|eG ms k) (b+2) t*xL (eG ms k) t^j):=bG λt f=>by
   rw[d,xD (by rw[H.C.len];exact f)];exact 46
  rw[this,cZ,h,fo]
theorem PlOk.max(H:PlOk ms b nu pl e L):gC (((range ms.length).map<|yG ms nu).map aM)=aM L:=by
 refine(nF (gI L) (.inr ?_) λx a=>?_).symm
 ·refine Β.mpr ⟨yG ms nu<|e.getD 0 0,Β.mpr ⟨_,di.mpr<|H.C.at<|show 0<b+2 by exact 48,rfl⟩,?_⟩;rw[H.m 0<|‹48›,Nu]
 ·obtain⟨y,c,rfl⟩:=Β.mp a;obtain⟨i,d,rfl⟩:=Β.mp c;exact H.top i<|di.mp d
theorem PlOk.fair(Z:FZ ms v)(H:PlOk ms b nu pl u L):Ew ((range ms.length).map<|yG ms nu) pl:=by
 by_cases a:L=0
 ·refine .inl ⟨λp g=>?_,λx n=>?_⟩
  ·obtain⟨i,d,rfl⟩:=cn g;have:=H.zero a i
   rwa [aO d]at this
  ·obtain⟨i,d,rfl⟩:=Β.mp n;have:=H.top i<|di.mp d;rw[a,bU (q:=0) au]at this;have:=gI<|yG ms nu i;rcases bC (yG ms nu i)with⟨c,q⟩|⟨c,q⟩ <;>grind
 ·refine .inr ⟨λz=>?_,λz o=>?_,?_⟩
  ·have j:=H.ne Z a (show 0<b+2 by exact 48);have k:u.getD 0 0<pl.length:=by rw[H.len];exact H.C.at ‹48›
   rw[aO k]at j;exact j<|z _<|ax k
  ·intro f;obtain⟨i,d,e⟩:=cn o;have h:i<ms.length:=by rw[dR,η,cw]at d;exact 17
   have g:i<pl.length:=by rw[H.len];exact h
   rw[mf,dr,hE]at e;have r:z.1=yG ms nu i:=by rw[<-e]
   have l:z.2=pl.getD i 0:=by rw[<-e,aO g]
   rw[l]at f;obtain⟨t,m,s⟩:=H.mem f;rw[r,l,<-s,H.max];exact⟨by rw[H.m t m,Nu],H.pos Z a m⟩
  ·have:=H.one Z a;unfold tD at this;rw[nM _ 0];exact this
abbrev Rw:=π->θ
def jC(r:Rw):Rw:=λj=>r<|j+1
def dE(D:ε Rw->θ):ε Rw->ε Rw->θ
 |_,[]=>0
 |pre,r::rest=>r 0*D ((pre++rest).map jC)-dE D (pre++[r]) rest
def dD:π->ε Rw->θ
 |0,_=>1
 |n+1,rows=>dE (dD n) [] rows
def Va(r s:Rw)(c:θ):Rw:=λj=>r j+c*s j
theorem aHq(r s:Rw)(c:θ):jC (Va r s c)=Va (jC r) (jC s) c:=rfl
def aPq(n:π)(D:ε Rw->θ):Prop:=∀(a b:ε Rw)(r s:Rw)(c:θ),a.length+b.length+1=n->D (a++Va r s c::b)=D (a++r::b)+c*D (a++s::b)
def aPu(n:π)(D:ε Rw->θ):Prop:=∀(a b:ε Rw)(r:Rw),a.length+b.length+2=n->D (a++r::r::b)=0
theorem Rk(h:aPq n D)(r s:Rw)(c:θ):∀(rest a b:ε Rw),a.length+b.length+rest.length=n->dE D (a++Va r s c::b) rest=dE D (a++r::b) rest+c*dE D (a++s::b) rest
 |[],a,b,_=>by simp only[dE];grind
 |x::rest,a,b,g=>by
  rw[Ε]at g;have d:=Rk h r s c rest a (b++[x]) (by rw[Λ];simp;lia);have e:∀t:Rw,(a++t::b++rest).map jC=a.map jC++jC t::(b++rest).map jC:=λt=>by simp
  have f:=h (a.map jC) ((b++rest).map jC) (jC r) (jC s) c (by simp;lia);rw[<-aHq]at f;simp only[dE,e,bx,fi,f]at d⊢;rw[d];grind
theorem Rj(h:aPq n D)(r s:Rw)(c:θ)(a:ε Rw):∀(b pre:ε Rw),pre.length+b.length+a.length=n->dE D pre (b++Va r s c::a)=dE D pre (b++r::a)+c*dE D pre (b++s::a)
 |[],pre,f=>by
  have d:=Rk h r s c a pre [] (by simpa using f);simp only[ij,dE]at d⊢;rw[d];show(r 0+c*s 0)*_-_=_;grind
 |x::b,pre,f=>by
  rw[Ε]at f;have g:=Rj h r s c a b (pre++[x]) (by rw[Λ];simp;lia);have e:∀t:Rw,(pre++(b++t::a)).map jC=(pre++b).map jC++jC t::a.map jC:=λt=>by simp
  have d:=h ((pre++b).map jC) (a.map jC) (jC r) (jC s) c (by simp;lia);rw[<-aHq]at d;simp only[fi,dE,e,d,g];grind
theorem Rm(h:aPu n D)(r:Rw):∀(rest a b:ε Rw),a.length+b.length+rest.length+1=n->dE D (a++r::r::b) rest=0
 |[],_,_,_=>rfl
 |x::rest,a,b,d=>by
  rw[Ε]at d;have c:=Rm h r rest a (b++[x]) (by rw[Λ];simp;lia);have e:(a++r::r::b++rest).map jC=a.map jC++jC r::jC r::(b++rest).map jC:=by simp
  have f:=h (a.map jC) ((b++rest).map jC) (jC r) (by simp;lia);simp only[dE,e,bx,fi,f]at c⊢;rw[c];grind
theorem Rl(h:aPu n D)(r:Rw)(a:ε Rw):∀(b pre:ε Rw),pre.length+b.length+a.length+1=n->dE D pre (b++r::r::a)=0
 |[],pre,d=>by
  have c:=Rm h r a pre [] (by simpa using d);simp only[ij,dE,bx,fi]at c⊢;rw[c];grind
 |x::b,pre,d=>by
  rw[Ε]at d;have f:=Rl h r a b (pre++[x]) (by rw[Λ];simp;lia);have e:(pre++(b++r::r::a)).map jC=(pre++b).map jC++jC r::jC r::a.map jC:=by simp
  have c:=h ((pre++b).map jC) (a.map jC) (jC r) (by simp;lia);simp only[fi,dE,e,c,f];grind
theorem Ej:∀(rest pre:ε Rw),(∀r∈rest,r 0=0)->dE D pre rest=0
 |[],_,_=>rfl
 |r::rest,pre,h=>by
  rw[dE,h r υ,Ej rest _ λx a=>h x<|ο _ a];grind
theorem mV:∀n,aPq n (dD n)
 |0=>λa b r s c h=>by lia
 |n+1=>λa b r s c h=>Rj (mV n) r s c b a [] (by simp;lia)
theorem wZ:∀n,aPu n (dD n)
 |0=>λa b r h=>by lia
 |n+1=>λa b r h=>Rl (wZ n) r b a [] (by simp;lia)
theorem Rn(h:a.length+b.length+2=n):dD n (a++r::s::b)=-dD n (a++s::r::b):=by
 have d:=wZ n a b (Va r s 1) h;rw[mV n a (Va r s 1::b) r s 1 (by simp;assumption)]at d;have e:∀t:Rw,a++t::Va r s 1::b=(a++[t])++Va r s 1::b:=λt=>by simp
 rw[e r,e s,mV n (a++[r]) b r s 1 (by simp;exact 48),mV n (a++[s]) b r s 1 (by simp;exact 48)]at d;have c:∀t u:Rw,(a++[t])++u::b=a++t::u::b:=λt u=>by simp
 rw[c,c,c,c,wZ n a b r h,wZ n a b s h]at d;grind
theorem uH:∀(m a:ε Rw),a.length+m.length+b.length+2=n->dD n (a++r::(m++r::b))=0
 |[],a,h=>wZ n a b r (by simpa using h)
 |x::m,a,h=>by
  rw[Ε]at h;have d:=uH (n:=n) (b:=b) (r:=r) m (a++[x]) (by simp;lia);rw[fi,Rn (by simp;lia)];rw[bx]at d;have c:dD n (a++x::r::(m++r::b))=0:=d;rw[c];grind
theorem Kc:∀(a c:ε Rw),c.length+a.length+b.length+1=n->(dD n (c++(a++p::b))=0↔dD n (c++p::(a++b))=0)
 |[],c,_=>BH
 |x::a,c,h=>by
  rw[Ε]at h;have e:=Kc (n:=n) (b:=b) (p:=p) a (c++[x]) (by simp;lia);rw[bx,bx]at e;have d:dD n (c++x::(a++p::b))=0↔dD n (c++x::p::(a++b))=0:=e;rw[fi,fi,d,Rn (by simp;lia)];constructor
  ·intro z;grind
  ·intro z;rw[z];grind
def xC(p r:Rw):Rw:=Va r p<|-(r 0/p 0)
theorem Kd:∀(rest a:ε Rw),a.length+rest.length+1=n->dD n (p::(a++rest))=dD n (p::(a++rest.map (xC p)))
 |[],_,_=>rfl
 |r::rest,a,h=>by
  rw[Ε]at h;have c:=Kd (n:=n) (p:=p) rest (a++[xC p r]) (by simp;lia);have e:=mV n (p::a) rest r p (-(r 0/p 0)) (by simp;lia);have z:=uH (n:=n) (b:=rest) (r:=p) a [] (by simp;assumption);have d:dD n ((p::a)++p::rest)=0:=z;rw[d,fo,ji]at e;rw[bx,bx]at c;rw[Μ];exact e.symm.trans c
theorem Kh(h:p 0≠0):xC p r 0=0:=by
 show r 0+-(r 0/p 0)*p 0=0;have:r 0/p 0*p 0=r 0:=gj h;grind
theorem aBm{rest:ε Rw}(b:rest.length=n)(h:p 0≠0):dD (n+1) (p::rest)=p 0*dD n ((rest.map<|xC p).map jC):=by
 have e:=Kd (n:=n+1) (p:=p) rest [] (by simp;assumption);rw[ij,ij]at e;rw[e];show dE (dD n) [] (p::rest.map (xC p))=_
 rw[dE,Ej _ _ λr a=>by
  obtain⟨x,_,rfl⟩:=Β.mp a
  exact Kh h,ij]
 grind
theorem jE(f:π->θ):∀n,aS (n+1) f=f 0+aS n λj=>f (j+1)
 |0=>by simp only[aS];grind
 |n+1=>by
  have a:=jE f n;rw[aS,a];simp only[aS];grind
def Kr(n:π)(rows:ε Rw)(y:Rw):Prop:=∀r∈rows,aS n (λj=>r j*y j)=0
theorem Bp(n:π)(p r y:Rw):aS n (λj=>xC p r j*y j)=aS n (λj=>r j*y j)-r 0/p 0*aS n (λj=>p j*y j):=by
 rw[<-mE];refine bG λj _=>?_;show(r j+-(r 0/p 0)*p j)*y j=_;grind
theorem uG:∀(n:π)(rows:ε Rw),rows.length=n->(dD n rows=0↔∃y:Rw,(∃j,j<n/\y j≠0)/\Kr n rows y)
 |0,rows,_=>⟨λh=>ψ (show(1:θ)=0 from h)<|by decide,λ⟨y,⟨j,l,_⟩,_⟩=>ψ l<|og _⟩
 |n+1,rows,F=>by
  by_cases B:∃p∈rows,p 0≠0
  ·refine qq0 λqq2=>?_;obtain⟨p,o,m⟩:=B;obtain⟨a,b,rfl⟩:=List.append_of_mem o;refine qq2 ?_;have d:(a++b).length=n:=by simp at F⊢;lia
   have C:=Kc (n:=n+1) (b:=b) (p:=p) a [] (by simp;simp at d;assumption);rw[ij,ij]at C;have G:=uG n (((a++b).map<|xC p).map jC) (by simpa using d);have H:p 0*dD n (((a++b).map<|xC p).map jC)=0↔dD n (((a++b).map<|xC p).map jC)=0:=
    ⟨λh=>(gc.mp h).resolve_left m,λh=>by rw[h,fo]⟩
   rw[C,aBm d m,H,G];have I:∀r,r∈a++b↔r∈a++b:=λ_=>BH;have f:∀(r y:Rw),aS (n+1) (λj=>xC p r j*y j)=aS n λj=>jC (xC p r) j*jC y j:=λr y=>by
    rw[jE,Kh m,kf,vR];rfl
   constructor
   ·intro qQ0;refine qq0 λqq2=>?_;obtain⟨z,⟨j,l,J⟩,D⟩:=qQ0;refine qq2 ?_
    refine⟨λj=>match j with
     |0=>-(aS n λj=>p (j+1)*z j)/p 0
     |j+1=>z j,⟨j+1,‹8›,J⟩,λr c=>?_⟩
    generalize k:(λj=>match j with
     |0=>-(aS n λj=>p (j+1)*z j)/p 0
     |j+1=>z j:Rw)=y
    have L:y 0=-(aS n λj=>p (j+1)*z j)/p 0:=by rw[<-k]
    have s:jC y=z:=by rw[<-k];rfl
    have g:aS (n+1) (λj=>p j*y j)=0:=by
     rw[jE,L];have e:(aS n λj=>p (j+1)*y (j+1))=aS n λj=>p (j+1)*z j:=by rw[<-s];rfl
     rw[e];have:-(aS n λj=>p (j+1)*z j)/p 0*p 0=-(aS n λj=>p (j+1)*z j):=gj m;grind
    rcases cj.mp c with h|h
    ·have t:=D _<|Β.mpr ⟨_,Β.mpr ⟨r,ib _ h,rfl⟩,rfl⟩;rw[<-s,<-f r y,Bp,g]at t;grind
    ·rcases Υ.mp h with rfl|h
     ·exact g
     ·have t:=D _<|Β.mpr ⟨_,Β.mpr ⟨r,cc _ h,rfl⟩,rfl⟩;rw[<-s,<-f r y,Bp,g]at t;grind
   ·intro qQ0;refine qq0 λqq2=>?_;obtain⟨y,⟨j,l,E⟩,k⟩:=qQ0;refine qq2 ?_;have g:=k p<|cc _ υ;have u:∀r∈a++b,aS (n+1) (λj=>r j*y j)=0:=λr c=>by
     rcases cj.mp c with h|h
     ·exact k r<|ib _ h
     ·exact k r<|cc _<|ο _ h
    refine⟨jC y,?_,λr c=>?_⟩
    ·refine lb λM=>?_;have z:∀i,i<n->y (i+1)=0:=λi v=>lb λh=>M ⟨i,v,h⟩;cases j with
     |succ i=>exact E (z i<|‹7›)
     |zero=>
      rw[jE,gZ λi v=>by rw[z i v,fo],ji]at g;rcases gc.mp g with h|h
      ·exact m h
      ·exact E h
    ·refine qq0 λqq2=>?_;obtain⟨q,N,rfl⟩:=Β.mp c;obtain⟨r,x,rfl⟩:=Β.mp N;refine qq2 ?_;rw[<-f r y,Bp,u r x,g];grind
  ·have z:∀r∈rows,r 0=0:=λr c=>lb λh=>B ⟨r,c,h⟩;refine⟨λ_=>⟨λj=>if j=0 then 1 else 0,⟨0,‹48›,by decide⟩,λr c=>?_⟩,λ_=>Ej rows [] z⟩;rw[mC (i:=0) ‹48› λj _ l=>by dsimp only;rw[ι l,fo],z r c,kf]
theorem aBn(h:a.length+b.length+1=n):dD n (a++(λ_=>0)::b)=0:=by
 have c:=mV n a b (λ_=>0) (λ_=>0) 1 h;have e:Va (λ_=>0) (λ_=>0) 1=λ_=>(0:θ):=by funext j;show(0:θ)+1*0=0;grind
 rw[e]at c;grind
theorem aOr(i:rows.length=n)(j:k<n)(d:m<rows.length):dD n (rows.take k++rows[m]::rows.drop (k+1))=if m=k then dD n rows else 0:=by
 by_cases c:m=k
 ·subst c;rw[ρ rfl,<-gm d,jq]
 ·rw[ι c];rcases k6 c with q|q
  ·have l:m<(rows.take k).length:=by rw[ao];exact Nat.lt_min.2 ⟨q,d⟩
   have e:rows.take k=(rows.take k).take m++rows[m]::(rows.take k).drop (m+1):=by
    have o:(rows.take k)[m]=rows[m]:=rx;rw[<-o,<-gm l,jq]
   rw[e,bx,fi];refine uH _ _ ?_;rw[ao,az,ao,az,i,je<|cg j,je<|cg q];obtain⟨b,f⟩:=jf j;obtain⟨a,g⟩:=jf q;rw[f,g];simp only[jg]at *
   exact 48
  ·have l:m-(k+1)<(rows.drop<|k+1).length:=by rw[az];exact Nat.sub_lt_sub_right q d
   have e:rows.drop (k+1)=(rows.drop<|k+1).take (m-(k+1))++rows[m]::(rows.drop<|k+1).drop (m-(k+1)+1):=by
    have o:(rows.drop<|k+1)[m-(k+1)]=rows[m]:=by rw[List.getElem_drop];congr 1;exact v5 q
    rw[<-o,<-gm l,jq]
   rw[e];refine uH _ _ ?_;rw[ao,ao,az,az,az,i,je<|cg j];rw[i]at d;obtain⟨a,g⟩:=jf q;obtain⟨b,f⟩:=jf d;subst g;have h:n-(k+1)=a+(1+b):=Nat.sub_eq_of_eq_add ‹48›;rw[jg,h,je<|qm _ _,<-zf,jg];exact 48
def cmb(rows:ε Rw)(x:π->θ):π->Rw
 |0=>λ_=>0
 |m+1=>Va (cmb rows x m) (rows.getD m λ_=>0)<|x m
theorem Ng(rows:ε Rw)(x:π->θ)(j:π):∀m,cmb rows x m j=aS m λi=>x i*rows.getD i (λ_=>0) j
 |0=>rfl
 |m+1=>by rw[cmb,aS,<-Ng rows x j m];rfl
theorem Nd(a:rows.length=n)(x:π->θ)(b:k<n):∀m,m<=n->dD n (rows.take k++cmb rows x m::rows.drop (k+1))=if k<m then x k*dD n rows else 0
 |0,_=>by
  rw[ι<|by lia];exact aBn (by rw[ao,az];lia)
 |m+1,f=>by
  rw[cmb,mV n _ _ _ _ _ (by rw[ao,az];lia),Nd a x b m<|‹0›];have e:rows.getD m (λ_=>0)=rows[m]'(by omega):=by simp[getD,show m<rows.length by lia]
  rw[e,aOr a b<|by lia];by_cases c:m=k
  ·subst c;rw[ι<|by lia,ρ rfl,ρ<|‹48›];grind
  ·rw[ι c];by_cases d:k<m
   ·rw[ρ d,ρ<|‹3›];grind
   ·rw[ι d,ι<|by lia];grind
def bD(B:π):π->π
 |0=>1
 |n+1=>(n+1)*(B*bD B n)
theorem aJg(d:∀rows:ε Rw,rows.length=n->(∀r∈rows,∀j,j<n->Cm L B (r j))->Cm F E (D rows)):∀(rest pre:ε Rw),pre.length+rest.length=n+1->(∀r∈pre,∀j,j<n+1->Cm L B (r j))->(∀r∈rest,∀j,j<n+1->Cm L B (r j))->Cm (L*F) (rest.length*(B*E)) (dE D pre rest)
 |[],pre,_,_,_=>by rw[dE];exact Cm.zero
 |r::rest,pre,f,e,c=>by
  rw[Ε]at f;rw[dE,Ε,mm]
  have g:=aJg d rest (pre++[r]) (by rw[Λ];simp;lia) (λq a=>by
   rcases cj.mp a with a|a
   ·exact e q a
   ·rw[br.mp a];exact c r υ) λq a=>c q (ο _ a)
  have h:=d ((pre++rest).map jC) (by rw[η,Λ];lia) λq a j k=>by
   obtain⟨s,b,rfl⟩:=Β.mp a;show Cm L B (s<|j+1);rcases cj.mp b with b|b
   ·exact e s b (j+1) ‹8›
   ·exact c s (ο _ b) (j+1) ‹8›
  have i:=((c r υ 0<|‹48›).mul h).sub g;exact i.mono (dA _) ‹48›
theorem aBo:∀(n:π)(rows:ε Rw),rows.length=n->(∀r∈rows,∀j,j<n->Cm L B (r j))->Cm (L^n) (bD B n) (dD n rows)
 |0,rows,_,_=>Cm.int (i:=1) (show 1<=bD B 0 from ω _)
 |n+1,rows,a,h=>by
  have:=aJg (D:=dD n) (n:=n) (L:=L) (B:=B) (F:=L^n) (E:=bD B n) (aBo n) rows [] (by simpa using a) (λ_ h=>nomatch h) h;rw[a]at this;rw[dD,eT,fm<|L^n,bD];exact this
theorem iB(h:Cm L B q):∃v:χ,q*(L:θ)=(v:θ):=⟨_,lZ h.d⟩
theorem aWq{x:π->θ}(y:rows.length=n)(O:0<L)(l:0<L')(C:L∣L')(D:B<=B')(E:dD n rows≠0)(m:∀r∈rows,∀j,j<n->Cm L B (r j))(R:∀j,j<n->Cm L' B' (aS n λi=>x i*rows.getD i (λ_=>0) j)):
  ∃V:π,0<V/\V<=L'^n*(bD B n*L^n)/\∀k,k<n->Cm V (bD B' n*L^n) (x k):=by
 have h:=aBo n rows y m;obtain⟨w,hw⟩:=iB h;obtain⟨d,F⟩:∃d,dD n rows=d:=⟨_,rfl⟩;rw[F]at h hw E;have Ln:0<L^n:=jt O;have f:0<L'^n:=jt l;have a:(0:θ)<((L^n:π):θ):=by rw[<-Ι];exact gb.mpr ‹119›
 have Y:w≠0:=λz=>by
  rw[z]at hw;rcases gc.mp (show d*((L^n:π):θ)=0 from hw)with q|q
  ·exact E q
  ·rw[q]at a;exact ψ a (by decide)
 have S:w.natAbs<=bD B n*L^n:=by
  have Z:=h.lo;have h2:=h.hi;have G:(0:θ)<=((L^n:π):θ):=cq a;have k1:=Ν (show 0<=((bD B n:π):θ)-d by grind) G;have k2:=Ν (show 0<=((bD B n:π):θ)+d by grind) G;have e:(((bD B n*L^n:π):χ):θ)=((bD B n:π):θ)*((L^n:π):θ):=by rw[Ι,fy]
  have T:(w:θ)<=(((bD B n*L^n:π):χ):θ):=by rw[e,<-hw];grind
  have U:(((-w:χ)):θ)<=(((bD B n*L^n:π):χ):θ):=by rw[e,ee,<-hw];grind
  have q3:=bh.mp T;have q4:=bh.mp U;lia
 have H:0<w.natAbs:=‹115›
 refine⟨L'^n*w.natAbs,fq f H,Χ _ S,λk I=>?_⟩;have J:=Nd y x I n<|ω _;rw[ρ I,F]at J;have o:Cm (L'^n) (bD B' n) (x k*d):=by
  rw[<-J];refine aBo n _ (by rw[Λ,Ε,ao,az];lia) λr b j p=>?_;rcases cj.mp b with b|b
  ·exact(m r (cv b) j p).mono C D
  ·rcases Υ.mp b with b|b
   ·rw[b,Ng];exact R j p
   ·exact(m r (ny b) j p).mono C D
 obtain⟨u,W⟩:=iB o
 suffices s:(x k).den∣L'^n*w.natAbs/\-((bD B' n*L^n:π):θ)<=x k/\x k<=((bD B' n*L^n:π):θ)from⟨s.1,s.2.1,s.2.2⟩
 refine⟨?_,?_⟩
 ·refine oS (n:=(if 0<=w then u*(L^n:π)else -(u*(L^n:π)))) (vn<|fq f H) ?_;have M:x k*((L'^n:π):θ)*(w:θ)=(u:θ)*((L^n:π):θ):=by rw[<-hw,<-W];grind
  rw[fy];by_cases c:0<=w
  ·rw[ρ c,ae,Ι,<-M];have:((w.natAbs:π):θ)=(w:θ):=by rw[<-Ι];congr 1;lia
   rw[this];exact 147
  ·rw[ι c,ee,ae,Ι,<-M];have:((w.natAbs:π):θ)=-(w:θ):=by rw[<-Ι,<-ee];congr 1;lia
   rw[this];grind
 ·have dl:(1:θ)<=aM d*((L^n:π):θ):=by
   rcases bC d with⟨c,e⟩|⟨c,e⟩ <;>rw[e]
   ·rw[hw];have:(0:θ)<=(w:θ):=by rw[<-hw];exact Ν c (cq a)
    have:0<=w:=hF.mp this;exact bh.mpr (show(1:χ)<=w by lia)
   ·have N:-d*((L^n:π):θ)=((-w:χ):θ):=by rw[ee,<-hw];grind
    rw[N];have:(0:θ)<=((-w:χ):θ):=by rw[<-N];exact Ν (by grind)<|cq a
    have:0<=-w:=hF.mp this;exact bh.mpr (show(1:χ)<=-w by lia)
  have b1:=o.lo;have b2:=o.hi;have ab:aM (x k)*aM d<=((bD B' n:π):θ):=by
   rcases bC d with⟨c,e⟩|⟨c,e⟩ <;>rcases bC (x k)with⟨t,g⟩|⟨t,g⟩ <;>rw[e,g] <;>grind
  have X:=gI<|x k;have m1:=Ν X (show 0<=aM d*((L^n:π):θ)-1 by grind);have m2:=Ν (show 0<=((bD B' n:π):θ)-aM (x k)*aM d by grind)<|cq a;have v:aM (x k)<=((bD B' n*L^n:π):θ):=by
   rw[fy];grind
  rcases bC (x k)with⟨t,g⟩|⟨t,g⟩ <;>rw[g]at v <;>constructor <;>grind
theorem aDs(a:ε Mk):tot (a.map λ_=>(0:θ))=0:=by
 induction a with
 |nil=>rfl
 |cons m a b=>rw[Μ,tot,b,ji]
def fC(a:ε Mk)(f:Mk->θ)(i:π):θ:=tot<|a.map λm=>(m.2.2:θ)*f m*m.1^i
theorem nB(a:ε Mk)(f g:Mk->θ)(i:π):fC a (λm=>f m+g m) i=fC a f i+fC a g i:=by
 unfold fC
 induction a with
 |nil=>simp[tot,ji]
 |cons m a b=>
  simp only[Μ,tot];rw[b];grind
theorem Tn(a:ε Mk)(c:θ)(k i:π):fC a (λm=>c*m.1^k) i=c*fC a (λ_=>1) (k+i):=by
 unfold fC
 induction a with
 |nil=>simp[tot,fo]
 |cons m a b=>
  simp only[Μ,tot];rw[b,uZ];grind
theorem wF(a:ε Mk)(i:π):fC a (λ_=>0) i=0:=by
 unfold fC
 induction a with
 |nil=>rfl
 |cons m a b=>
  simp only[Μ,tot];rw[b];grind
theorem nA(a:ε Mk)(y:π->θ)(i:π):∀n,aS n (λj=>fC a (λ_=>1) (i+j)*y j)=fC a (λm=>bY (cM n y) m.1) i
 |0=>by
  have e:(λm:Mk=>bY (cM 0 y) m.1)=λ_=>0:=rfl;rw[e,wF];rfl
 |n+1=>by
  have e:(λm:Mk=>bY (cM (n+1) y) m.1)=λm=>bY (cM n y) m.1+y n*m.1^n:=by
   funext m;exact qA n y m.1
  rw[e,nB a (λm=>bY (cM n y) m.1) λm=>y n*m.1^n,Tn,<-nA a y i n];show aS n _+fC a (λ_=>1) (i+n)*y n=_;rw[qg i n];grind
theorem Dj(a:ε Mk)(f:Mk->θ)(y:π->θ):∀n,(∀i,i<n->fC a f i=0)->tot (a.map λm=>(m.2.2:θ)*f m*bY (cM n y) m.1)=0
 |0,_=>by
  have e:(λm:Mk=>(m.2.2:θ)*f m*bY (cM 0 y) m.1)=λm=>0:=by funext m;show _*bY [] m.1=0;rw[eQ,fo]
  rw[e];exact aDs a
 |n+1,h=>by
  have b:=Dj a f y n λi g=>h i ‹3›;have d:=h n ‹48›;have c:tot (a.map λm=>(m.2.2:θ)*f m*bY (cM (n+1) y) m.1)=tot (a.map λm=>(m.2.2:θ)*f m*bY (cM n y) m.1)+y n*fC a f n:=by
   unfold fC;clear b d h
   induction a with
   |nil=>simp[tot,fo,ji]
   |cons m a b=>
    simp only[Μ,tot];rw[b,qA];grind
  rw[c,b,d,fo,ji]
theorem sB:∀{qs:ε θ},(∀q∈qs,0<=q)->tot qs=0->∀q∈qs,q=0
 |[],_,_,_,h=>by cases h
 |a::qs,f,e,q,h=>by
  have l:=f a υ;have m:0<=tot qs:=by
   have:∀{d:ε θ},(∀q∈d,0<=q)->0<=tot d:=λ{d}=>by
    induction d with
    |nil=>intro _;exact au
    |cons b bs i=>
     intro g;have n:=g b υ;have o:=i λq c=>g q<|ο _ c;rw[tot];exact 44
   exact this λq c=>f q<|ο _ c
  rw[tot]at e;have j:a=0:=by grind
  have k:tot qs=0:=by grind
  rcases Υ.mp h with rfl|h
  ·exact j
  ·exact sB (λq c=>f q<|ο _ c) k q h
theorem oK(hw:∀m∈d,1<=m.2.2)(p:(d.map (·.1)).Nodup)(D:n<=d.length)(h:∀i,i<n->fC d (λm=>bY (cM n y) m.1) i=0):∀j,j<n->y j=0:=by
 have r:=Dj d (λm=>bY (cM n y) m.1) y n h
 have s:=sB (qs:=d.map λm=>(m.2.2:θ)*bY (cM n y) m.1*bY (cM n y) m.1) (λq t=>by
  obtain⟨m,f,rfl⟩:=Β.mp t
  have l:(0:θ)<=(m.2.2:θ):=hF.mpr (by have:=hw m f;exact 36)
  have u:(0:θ)<=bY (cM n y) m.1*bY (cM n y) m.1:=by
   rcases qi (a:=0) (b:=bY (cM n y) m.1)with c|c
   ·exact Ν c c
   ·have:=Ν (show 0<=-bY (cM n y) m.1 by grind) (show 0<=-bY (cM n y) m.1 by grind)
    grind
  have:=Ν l u
  rw[j9];exact this) r
 have v:∀m∈d,bY (cM n y) m.1=0:=λm f=>by
  have e:=s _<|Β.mpr ⟨m,f,rfl⟩;have l:(m.2.2:θ)≠0:=λz=>by have:=qq.mp z;have:=hw m f;lia
  have g:=gc.mp e;rcases g with g|g
  ·rcases gc.mp g with o|o
   ·exact ψ o l
   ·exact o
  ·exact g
 have k:=Pd n (cM n y) ((d.map (·.1)).take n) (vK n y) (by rw[ao,η];exact 50) (p.sublist (n3 _ _)) (λx B=>by
  obtain⟨m,f,rfl⟩:=Β.mp<|cv B
  exact v m f)
 intro j C;exact k (y j)<|Β.mpr ⟨j,di.mpr C,rfl⟩
theorem aCf(h:Cm L B q)(c:0<L):∃v:χ,q*((L:χ):θ)=(v:θ)/\v.natAbs<=B*L:=by
 obtain⟨k,a⟩:=h.d;have d:=Fm.den_pos q;have b:=h.num;refine⟨q.num*(k:χ),?_,?_⟩
 ·rw[ae,Fm.num_eq q,a];simp only[Ι];rw[fy];exact 47
 ·rw[dj,en]
  calc q.num.natAbs*k<=(B*q.den)*k:=Ψ _ b
   _=B*L:=by rw[a,gi]
theorem aCa(d:π):∀b:ε θ,(∀q∈b,Dg d q)->∃L:π,0<L/\L<=10^(d*b.length)/\∀q∈b,Cm L (10^d) q
 |[],_=>⟨1,by decide,by simp,λq h=>nomatch h⟩
 |a::b,h=>by
  obtain⟨L,g,i,j⟩:=aCa d b λq c=>h q<|ο _ c;have e:=h a υ;have f:=dX a.den_nz;refine⟨a.den*L,fq f g,?_,λq c=>?_⟩
  ·rw[Ε,zw,qg,jd];exact Τ e.d i
  ·rcases Υ.mp c with rfl|c
   ·exact Cm.of (fx _ _)<|Α e.n<|gg _ f
   ·exact(j q c).mono (iv _ _)<|ω _
theorem oY(f:Mk->θ):∀a:ε Mk,(a.map f).zip a=a.map λm=>(f m,m)
 |[]=>rfl
 |m::a=>by rw[Μ,ka,oY f a];rfl
theorem Fq(h:a.length=b.length):∀j,fW a b j=af (λt x=>t*x^j) a b
 |0=>by
  rw[fW];refine j1 (by rw[ba];lia) λi c d=>?_;rw[jh,js,gf]
 |j+1=>by
  rw[fW,Fq h j];refine j1 (by rw[ba,ba,ba];exact 50) λi c d=>?_;rw[jh,jh,jh,eo,j9]
theorem Px(a:ε Mk)(f:Mk->θ)(j:π):tot (fW (a.map λm=>(m.2.2:θ)*f m) (a.map (·.1)) j)=fC a f j:=by
 rw[Fq<|by rw[η,η]];unfold fC
 congr 1
 induction a with
 |nil=>rfl
 |cons m a b=>rw[Μ,Μ,Μ,Κ,b]
theorem aGs{a:ε b}(h:f+n<=a.length):fI a (γ (f:χ)) (γ<|(f:χ)+(n:χ))=(a.drop f).take n:=by
 unfold fI;rw[show(f:χ)+(n:χ)=((f+n:π):χ) by lia,HT.sIx_nat,HT.sIx_nat,je<|‹51›,je<|by lia,jg]
def rH(a:ε Mk)(n i:π):ε θ:=((range n).map λj=>fC a (λ_=>1)<|i+j)++[fC a (λm=>m.2.1) i]
theorem Xk(a:ε Mk)(n i:π):(rH a n i).length=n+1:=by simp[rH]
theorem Pc(h:j<n):(rH a n i).getD j 0=fC a (λ_=>1) (i+j):=by
 unfold rH;rw[Ο,ek (by rw[η,cw];exact h)];simp[h]
theorem Gn(a:ε Mk)(n i:π):(rH a n i).getD n 0=fC a (λm=>m.2.1) i:=by
 unfold rH;rw[Ο,cx (by rw[η,cw];exact ω _)];simp
theorem yO{a b c d:Type}(f:b->c->d)(g:a->b)(h:a->c):∀l:ε a,af f (l.map g) (l.map h)=l.map λx=>f (g x) (h x)
 |[]=>rfl
 |x::l=>by rw[Μ,Μ,Μ,Κ,yO f g h l]
theorem aHb(d:b=(range<|2*n-1).map λk=>fC a (λ_=>1) k)(e:c=(range n).map λk=>fC a (λm=>m.2.1) k):
  lU ((range n).map λk=>(b.drop k).take n) c=(range n).map (rH a n):=by
 unfold lU;rw[e,yO];refine df λi f=>?_;have g:=di.mp f;unfold rH
 congr 1
 rw[d];refine j1 (by simp;exact 50) λj h l=>?_;simp
theorem Qe(y:π->θ):sS n (rH ms n i) y=fC ms (λm=>bY (cM n y) m.1) i:=by
 rw[<-nA ms y i n];unfold sS;exact bG λj a=>by rw[Pc a]
theorem aFn(h:x.length=n):sS (n+1) (rH ms n i) (λj=>if j<n then x.getD j 0 else -1)=fC ms (λm=>bY x m.1) i-fC ms (λm=>m.2.1) i:=by
 have e:=Qe (ms:=ms) (n:=n) (i:=i) λj=>x.getD j 0;rw[kK h]at e;unfold sS at e⊢;rw[aS];dsimp only;rw[ι<|jo _,Gn];have a:aS n (λj=>(rH ms n i).getD j 0*(if j<n then x.getD j 0 else -1))=aS n λj=>(rH ms n i).getD j 0*x.getD j 0:=bG λj b=>by rw[ρ b]
 rw[a,e];grind
theorem Mr{L M A C:π}(a:Cm M C x)(d:1<=A):∀{nu:ε θ},(∀n∈nu,Cm L A n)->Cm (L*M^nu.length) (A*(C+1)^nu.length) (bY nu x)
 |[],_=>Cm.zero
 |n::nu,h=>by
  have e:=Mr a d (nu:=nu) λc f=>h c<|ο _ f;have g:=(h n υ).mono (L':=L*M^(nu.length+1)) ⟨_,rfl⟩<|ω _;have b:=e.mul a;rw[show L*M^nu.length*M=L*M^(nu.length+1) by rw[eT,gi]]at b;rw[bN,Ε];refine(b.add g).mono (dA _) ?_;have p:1<=(C+1)^nu.length:=jt ‹48›;have i:A<=A*(C+1)^nu.length:=gg _ p;rw[eT,<-gi,v7<|A*(C+1)^nu.length,ju];exact 48
def SqB(a:ε Mk)(b:π)(c:ε θ):Prop:=c.length=b+1/\∀i,i<b+1->fC a (λm=>bY c m.1) i=fC a (λm=>m.2.1) i
structure SQ(ms:ε Mk)(Lh:π):Prop where
 n14:ms.length<=14
 x:∀m∈ms,Cm 2 (10^3) m.1
 w:∀m∈ms,1<=m.2.2/\m.2.2<=5
 L0:0<Lh
 L1:Lh<=10^13
 h:∀m∈ms,Cm Lh (10^21) m.2.1
 nd:(ms.map (·.1)).Nodup
theorem SQ.x7(Z:SQ a b):∀m∈a,Cm 2 (10^7) m.1:=λm c=>(Z.x m c).mono (dA _) (by decide)
theorem tY(d:a.length<=N)(hw:∀m∈a,m.2.2.natAbs<=W)(e:∀m∈a,Cm 2 X m.1)(g:∀m∈a,Cm L B<|f m):Cm (L*2^i) (N*(W*B*X^i)) (fC a f i):=by
 have j:∀m∈a,∀k,Cm (2^k) (X^k) (m.1^k):=λm b k=>by
  induction k with
  |zero=>rw[js];exact Cm.int (i:=1) (show 1<=X^0 from ω _)
  |succ k l=>rw[eo,eT,eT];exact l.mul<|e m b
 unfold fC;have h:=Cm.tot (qs:=a.map λm=>(m.2.2:θ)*f m*m.1^i) (L:=L*2^i) (B:=W*B*X^i) λq n=>by
  obtain⟨m,b,rfl⟩:=Β.mp n;have c:=((Cm.int (i:=m.2.2) (B:=W)<|hw m b).mul<|g m b).mul<|j m b i;rw[jc]at c;exact c
 refine h.mono (dA _) ?_;rw[η];exact Ψ _ d
theorem Bs(Z:SQ a g)(N:n<=4)(B:n<=a.length)(C:x.length=n)(h:∀i,i<n->fC a (λm=>bY x m.1) i=fC a (λm=>m.2.1) i):∃V:π,0<V/\V<=10^211/\∀q∈x,Cm V (10^308) q:=by
 obtain⟨rows,d⟩:∃rows:ε Rw,(range n).map (λi j=>fC a (λ_=>1)<|i+j)=rows:=⟨_,rfl⟩;have u:rows.length=n:=by rw[<-d,η,cw]
 have l:∀i,i<n->rows.getD i (λ_=>0)=λj=>fC a (λ_=>1) (i+j):=λi b=>by
  rw[aO<|‹48›];subst d;rw[dr,hE]
 have hw:∀m∈a,m.2.2.natAbs<=5:=λm o=>by have:=Z.w m o;lia
 have D:∀r∈rows,∀j,j<n->Cm 64 (14*(5*1*(10^3)^6)) (r j):=λr c j f=>by
  rw[<-d]at c;obtain⟨i,b,rfl⟩:=Β.mp c;have E:=di.mp b;have p:Cm 1 1 (1:θ):=Cm.int (i:=1) (by decide);refine(tY (i:=i+j) Z.n14 hw Z.x λ_ _=>p).mono ?_ ?_
  ·rw[jc];exact k8 2 (show i+j<=6 by lia)
  ·exact Χ _ (Χ _<|Ρ (by decide)<|by lia)
 have F:∀j,j<n->Cm (64*g) (14*(5*10^21*(10^3)^6)) (aS n λi=>x.getD i 0*rows.getD i (λ_=>0) j):=λj f=>by
  have e:(aS n λi=>x.getD i 0*rows.getD i (λ_=>0) j)=fC a (λm=>m.2.1) j:=by
   rw[<-h j f];have v:=nA a (λi=>x.getD i 0) j n;rw[kK C]at v;rw[<-v];refine bG λi b=>?_;rw[l i b,qg j i];exact 145
  rw[e];refine(tY (i:=j) Z.n14 hw Z.x Z.h).mono ?_ ?_
  ·rw[fm];exact Nat.mul_dvd_mul_right (k8 2<|show j<=6 by lia) _
  ·exact Χ _ (Χ _<|Ρ (by decide)<|by lia)
 have G:dD n rows≠0:=λz=>by
  obtain⟨y,⟨j,f,H⟩,s⟩:=(uG n rows u).mp z;refine H<|oK (λm o=>(Z.w m o).1) Z.nd B (λi b=>?_) j f;rw[<-nA a y i n];exact s _ (by rw[<-d];exact Β.mpr ⟨i,di.mpr b,rfl⟩)
 obtain⟨V,I,J,L⟩:=aWq u (by decide) (fq (by decide) Z.L0) (fx _ _) (by decide +kernel) G D F;refine⟨V,I,Α J ?_,λq M=>?_⟩
 ·have p:(64*g)^n<=(64*10^13)^n:=gx (Χ _ Z.L1) n;refine Α (Ψ _ p) ?_;have t:n=0\/n=1\/n=2\/n=3\/n=4:=by lia
  rcases t with e|e|e|e|e <;>rw[e] <;>decide +kernel
 ·obtain⟨k,s,rfl⟩:=cn M;have:=L k ‹138›;rw[aO s]at this;refine this.mono (dA _) ?_;have t:n=0\/n=1\/n=2\/n=3\/n=4:=by lia
  rcases t with e|e|e|e|e <;>rw[e] <;>decide +kernel
def aVv:DW:=λd Q _=>∃(a:ε Mk)(b e:π),d=[.list<|a.map cP,.int (b:χ)]/\b<=3/\b+1<=a.length/\SQ a e/\∀c:ε θ,SqB a b c->Q (.two (c.map fr)<|(cI a<|a.map λm=>bY c m.1).map fr)
theorem vZ:Q 7 37 (λ_=>aVv):=by
 refine fH 37 ["marks","bend","weights","weighed","moments","table","numbers"] λA T R Z=>⟨_,by walk_at"t",_,(aH (aZ 2 (bS [ν] ["mark"] (cE (aL 0)) (aG 0) bV (cH (aI (eX 2 0) (aI aU aQ)))))
   (aH (aZ 3 (bS [ν,ν] ["weight","mark"] (fM (aL 2) (aL 0)) (eB (aW (aG 0) (aW (aG 1) dO))) bV (aE (vN 0 (vE (eX 1 1) aB)))))
   (aH (aZ 4 (bH (vN 0 (vN 2 (vE (bZ cN (bO dQ bI (aF 1)) bI) aB)))))
   (aH (aZ 5 (bS [ν,γ 4,γ 1] ["power","moments","bend"] (IvS.e (lI (vE (bZ cN (aF 1) bI) aB))) (aG 0) bV (cL (gU (aL 1) (cS (aF 0)) (cS (bO cN (bO cN (aF 0) (aF 2)) bI))))))
   (aH (aZ 6 (bH (vN 5 (vE (cL (bH (vN 0 (vN 3 (vE (bZ cN (aF 1) bI) aB))))) aB))))
   (pH (Pu 6 (bH (vN 0 (vE (cL (bH (vN 6 (vN 0 aB)))) aB)))))))))),?_⟩
 intro ds Q X qQ0;refine qq0 λqq2=>?_;obtain⟨c,a,F,rfl,b3,n1,Z,k⟩:=qQ0;refine qq2 ?_;have a4:∀m∈c,1<=m.2.2:=λm h=>(Z.w m h).1;have M:=Z.n14;have G:=Z.L0;have O:∀m∈c,Dg 35 m.2.1:=λm d=>(Z.h m d).dg Z.L0 (l:=13) Z.L1 (b:=21)<|ω _;obtain⟨p,f⟩:∃p:ε θ,c.map (λm=>(m.2.2:θ))=p:=⟨_,rfl⟩;have lw:p.length=c.length:=by rw[<-f,η]
 obtain⟨r,s⟩:∃r:ε θ,c.map (λm=>(m.2.2:θ)*m.2.1)=r:=⟨_,rfl⟩;have lh:r.length=c.length:=by rw[<-s,η]
 have a5:∀m∈c,Dg 1 (m.2.2:θ):=λm h=>Dg.int (by have:=Z.w m h;omega);have hL:∀q∈r,Cm F (5*10^21) q:=λq o=>by
  rw[<-s]at o;obtain⟨m,d,rfl⟩:=Β.mp o;have:=(Cm.int (i:=m.2.2) (B:=5) (by have:=Z.w m d;omega)).mul<|Z.h m d
  rwa [jc]at this
 walk_at"s";refine bL cP fr (λm:Mk=>[(m.2.2:θ)]) c (by omega) (λQ h=>by walk_at"d";exact h) (λm d N S U=>?_) ?_
 ·walk_at"d";exact U
 rw[aN,f];walk_at"s";refine bL (λz:θ×Mk=>ay [fr z.1,cP z.2]) fr (λz:θ×Mk=>[z.1*z.2.2.1]) (p.zip c) (by rw[dR];omega) (λQ h=>by walk_at"d";rw[cK];exact h) (λz hz N S U=>?_) ?_
 ·have a6:=(eh hz).2;have W:=(eh hz).1;rw[<-f]at W;refine qq0 λqq2=>?_;obtain⟨m',a7,e'⟩:=Β.mp W;refine qq2 ?_;have o1:Ok z.1:=by rw[<-e'];exact cA (a5 m' a7)
  walk_at"d";refine⟨_,_,rfl,o1,cA<|O _ a6,?_⟩;walk_at"d";exact U
 have e1:(p.zip c).map (λz:θ×Mk=>z.1*z.2.2.1)=r:=by
  rw[<-f,<-s,oY,ia];rfl
 rw[aN,e1];walk_at"s"
 have tz:TSz 1 5 2 (10^7) 0 1 1 7 (2*a+1) p (c.map (·.1)):=⟨by rw[lw,η],by rw[η];omega,by decide,by decide,by decide,by decide,by decide,by decide,λt ht=>by
  rw[<-f]at ht
  obtain⟨m,d,rfl⟩:=Β.mp ht
  exact Cm.int (by have:=Z.w m d;omega),λx D=>by
  obtain⟨m,d,rfl⟩:=Β.mp D
  exact Z.x7 m d,by omega⟩
 have a8:∀j,tot (fW p (c.map (·.1)) j)=fC c (λ_=>1) j:=λj=>by
  rw[<-Px,<-f]
  congr 2
  exact df λm _=>(gf _).symm
 have a9:∀j,tot (fW r (c.map (·.1)) j)=fC c (λm=>m.2.1) j:=λj=>by rw[<-Px,<-s]
 refine⟨dJ (Sa)<|fR (n:=3)<|by omega,c,p,2*a+1,1,5,2,10^7,0,1,1,7,by rw[show((2*a+1:π):χ)=2*(a:χ)+1 by omega],by omega,tz,?_⟩;walk_at"d";refine⟨bP _,?_⟩;obtain⟨u,H⟩:∃u,tJ p (c.map (·.1)) (2*a+1)=u:=⟨_,rfl⟩;have b5:u.length=2*a+1:=by rw[<-H];unfold tJ;rw[η,cw]
 rw[H];walk_at"s"
 refine bL (λk:π=>ep (k:χ)) kF (λk:π=>[(u.drop k).take (a+1)]) (range (a+1)) (by rw[cw];omega) (λQ h=>by
   walk_at"d"
   refine⟨⟨by omega,by omega⟩,?_⟩
   have e:pV 0 ((a:χ)+1).toNat 1=(range<|a+1).map λk:π=>ep (k:χ):=by
    unfold pV
    rw[show((a:χ)+1).toNat=a+1 by omega]
    exact df λk _=>by rw[zv,pb]
   rw[e];exact h) (λq o N S U=>?_) ?_
 ·have b6:=di.mp o;walk_at"d";rw[iK,show(q:χ)+(a:χ)+1=(q:χ)+((a+1:π):χ) by omega,aGs<|by omega];exact U
 rw[aN];walk_at"s"
 have b0:TSz F (5*10^21) 2 (10^7) 13 22 1 7 (a+1) r (c.map (·.1)):=⟨by rw[lh,η],by rw[η];omega,Z.L0,by decide,Z.L1,by decide,by decide,ω _,hL,λx D=>by
  obtain⟨m,d,rfl⟩:=Β.mp D
  exact Z.x7 m d,by omega⟩
 refine⟨c,r,a+1,F,5*10^21,2,10^7,13,22,1,7,by rw[show((a+1:π):χ)=(a:χ)+1 by omega],by omega,b0,?_⟩;walk_at"d";refine⟨bP _,?_⟩;obtain⟨E,I⟩:∃E,tJ r (c.map (·.1)) (a+1)=E:=⟨_,rfl⟩;have b1:E.length=a+1:=by rw[<-I];unfold tJ;rw[η,cw]
 rw[I];have Y:u=(range<|2*(a+1)-1).map λk=>fC c (λ_=>1) k:=by
  rw[<-H,show 2*(a+1)-1=2*a+1 by omega];unfold tJ;exact df λk _=>a8 k
 have a0:E=(range<|a+1).map λk=>fC c (λm=>m.2.1) k:=by
  rw[<-I];unfold tJ;exact df λk _=>a9 k
 have a1:=aHb Y a0;have a2:∀i,i<a+1->rH c (a+1) i∈lU ((range<|a+1).map λk=>(u.drop k).take<|a+1) E:=λi J=>by
  rw[a1];exact Β.mpr ⟨i,di.mpr J,rfl⟩
 have b2:∀y:π->θ,Hom (a+1) (lU ((range<|a+1).map λk=>(u.drop k).take<|a+1) E) y->∀j,j<a+1->y j=0:=λy g=>
  oK a4 Z.nd n1 λi J=>by rw[<-Qe];exact g _<|a2 i J
 have L:∀m∈c,m.2.2.natAbs<=5:=λm d=>by have:=Z.w m d;omega
 have b4:RowsDg (a+1) 14 46 62 (lU ((range<|a+1).map λk=>(u.drop k).take<|a+1) E):=by
  refine⟨F*2^3,10^46,10^62,fq G<|by decide,?_,ω _,ω _,λx D=>?_⟩
  ·exact Α (Ψ _ Z.L1) (by decide +kernel)
  ·rw[a1]at D;obtain⟨i,J,rfl⟩:=Β.mp D;have b7:=di.mp J;refine⟨Xk _ _ _,64,by decide,by decide,λj hj=>?_,?_⟩
   ·rw[Pc hj];have h1:Cm 1 1 (1:θ):=Cm.int (i:=1) (by decide)
    have h2:=(tY (i:=i+j) M L Z.x7 λ_ _=>h1).mono (L':=64) (B':=14*(5*1*(10^7)^6)) (by
     rw[jc]
     exact k8 2 (show i+j<=6 by omega)) (Χ _ (Χ _ (Ρ (by decide) (by omega))))
    obtain⟨v,e,hv⟩:=aCf h2 (by decide);exact⟨v,e,Α hv<|by decide +kernel⟩
   ·rw[Gn];have h2:=(tY (i:=i) M L Z.x7 Z.h).mono (L':=F*2^3) (B':=14*(5*10^21*(10^7)^3)) (qu F<|k8 2<|show i<=3 by omega) (Χ _<|Χ _<|Ρ (by decide)<|by omega);obtain⟨v,e,hv⟩:=aCf h2 (fq G<|by decide);refine⟨64*v,?_,?_⟩
    ·rw[ae,ae,<-e];grind
    ·rw[dj];exact Α (Χ _<|Α hv<|Χ _<|Ψ _ Z.L1) (by decide +kernel)
 have g1:=Dy 46 (show a+1<=4 by omega);have g2:=Dx 46 62 (show a+1<=4 by omega);have g3:Jg 46 4<=800:=by decide
 have g4:Mt 46 62 4<=800:=by decide
 refine⟨(range<|a+1).map λk=>(u.drop k).take<|a+1,E,a+1,14,46,62,rfl,by rw[η,cw],b1,by omega,λx D=>?_,b4,by omega,by omega,?_,?_⟩
 ·obtain⟨q,o,rfl⟩:=Β.mp D;have:=di.mp o;rw[ao,az];omega
 ·intro qQ0;refine qq0 λqq2=>?_;obtain⟨y,⟨j,hj,hy⟩,g⟩:=qQ0;refine qq2 ?_;exact ψ (b2 y g j hj) hy
 ·intro x C _ g _;have a3:∀i,i<a+1->fC c (λm=>bY x m.1) i=fC c (λm=>m.2.1) i:=λi J=>by
   have:=g _<|a2 i J;rw[aFn C]at this;grind
  refine qq0 λqq2=>?_;obtain⟨V,V0,V1,hV⟩:=Bs Z (by omega) n1 C a3;refine qq2 ?_;walk_at"d";refine⟨bP _,?_⟩;have dn:∀q∈x,Dg 520 q:=λq o=>(hV q o).dg V0 (l:=211) V1 (b:=308)<|ω _;have dx:∀m∈c,Dg 9 m.1:=λm d=>(Z.x7 m d).dg (by decide) (l:=1) (by decide) (b:=7)<|ω _;refine⟨x,c,520,9,rfl,by omega,by omega,dn,dx,Α (Ψ _<|show x.length<=4 by omega)<|by decide,?_⟩;walk_at"d";refine⟨bP _,?_⟩
  have mz:MSz (F*(V*2^4)) (10^340) 5 226 340 1 c (c.map λm=>bY x m.1):=⟨by omega,fq G (fq V0 (by decide)),Α (Τ Z.L1 (Ψ _ V1)) (by decide +kernel),ω _,by decide,λm d=>(Z.h m d).mono (fx _ _) (by decide +kernel),λq o=>by
   obtain⟨m,d,rfl⟩:=Β.mp o
   have h1:=Mr (Z.x7 m d) (by decide +kernel) hV
   rw[C]at h1
   refine h1.mono (oa (qu _<|k8 2<|show a+1<=4 by omega)<|iv _ _) ?_
   exact Α (Χ _ (Ρ (by decide) (show a+1<=4 by omega))) (by decide +kernel),L,by decide⟩
  refine⟨c,_,_,_,_,_,_,_,rfl,mz,?_⟩;walk_at"d";exact⟨bP _,k x ⟨C,a3⟩⟩
def aQd:DW:=λf Q _=>∃(a:ε Mk)(d b c:π),f=[.list<|a.map cP,.int (d:χ)]/\1<=a.length/\a.length<=d+1/\d<=3/\(a.map (·.1)).Nodup/\(∀m∈a,Dg b m.1)/\(∀m∈a,Dg c m.2.1)/\Jg (3*b) 4+4*c+6<=2400/\Mt (3*b) (5*c+3*b) 4+6<=2400/\
 ∀e:ε θ,e.length=a.length->(∀m∈a,bY e m.1=m.2.1)->(∀q∈e,Dg (Jg (3*b) a.length+4*c+Mt (3*b) (5*c+3*b) a.length+2) q)->Q (.two ((e++bp (d+1-a.length) 0).map fr)<|(bp a.length (0:θ)).map fr)
theorem vS:Q 8 36 (λ_=>aQd):=by
 refine fH 36 ["marks","bend","numbers","behind"] λA T R Z=>⟨_,by walk_at"t",_,(aH (aZ 2 (bH (vN 0 aB)))
   (aH (aZ 3 (Lp (fB (dG (aI (qT T.k_NOUGHT) aQ))) (bO cN (bO cN (aF 1) bI) (aC (bQ cT (vN 2 aB))))))
   (pH (aSm (iN (Yu 2) (Yu 3)) (Lp (fB (dG (aI (qT T.k_NOUGHT) aQ))) (aC (bQ cT (vN 0 aB)))))))),?_⟩
 intro q Q X qQ0;refine qq0 λqq2=>?_;obtain⟨a,b,d,e,rfl,r,s,t,f,g,i,j,l,k⟩:=qQ0;refine qq2 ?_;walk_at"s";refine⟨a,rfl,by lia,λh=>ψ h<|by lia,λ_=>⟨f,d,e,g,i,j,l,λc m n o=>?_⟩⟩;walk_at"d";refine⟨bP _,?_⟩;walk_at"s";have p:((b:χ)+1-(c.length:χ)).toNat=b+1-a.length:=by lia
 rw[p,Lf,ft,Lf];refine⟨⟨by lia,by lia⟩,by lia,by rw[η,eg];lia,⟨‹29›,by omega⟩,by lia,?_⟩;rw[<-bu];exact k c m n o
theorem aDt(Z:FZ b g)(O:b.length<=4)(R:f.length=b.length)(h:∀m∈b,bY f m.1=m.2.1):∀q∈f,Dg 126 q:=by
 obtain⟨xs,c⟩:∃xs:ε θ,b.map (·.1)=xs:=⟨_,rfl⟩;have xl:xs.length=b.length:=by rw[<-c,η]
 have i:∀x∈xs,∃m∈b,m.1=x:=λx a=>by
  rw[<-c]at a;obtain⟨m,d,e⟩:=Β.mp a;exact⟨m,d,e⟩
 have j:xs.Nodup:=by
  rw[<-c,er,iu];exact Z.up.imp λh=>‹142›
 have s:∀t,t<xs.length->Cm g (10^37) (yL b t):=λt k=>by
  unfold yL;rw[aO<|show t<b.length by exact 138];exact Z.y _<|ax _
 have l:f=Ja xs (yL b):=by
  refine Hj (xs:=xs) ‹48› (wM _ _) j λx a=>?_;obtain⟨t,k,rfl⟩:=cn a;have e:=wN j (yL b) k;rw[aO k]at e;rw[e];have d:t<b.length:=‹138›
  have u:=h b[t] (ax d);have v:xs[t]=b[t].1:=by subst c;rw[dr]
  rw[v,u];unfold yL;rw[aO d]
 intro q p;rw[l]at p
 obtain⟨V,y,B,D⟩:=Qg (M:=6) (C:=10^7) (E:=10^3) (by decide) j (λx a=>by
  obtain⟨m,d,rfl⟩:=i x a
  exact Z.x m d) (λx a z F=>by
  obtain⟨m,d,rfl⟩:=i x a
  obtain⟨o,G,rfl⟩:=i z F
  exact(Z.d m d o G).mono (by decide) (ω _)) s
 have r:xs.length<=4:=‹110›
 have n:6^(xs.length-1)<=216:=Α (Ρ (by decide)<|show xs.length-1<=3 by exact 50) (by decide);have H:(10^3)^(xs.length-1)<=10^9:=by rw[<-rq];exact Ρ (by decide) (by lia)
 have I:(10^7+1)^(xs.length-1)<=10^22:=Α (Ρ (by decide)<|show xs.length-1<=3 by exact 50) (by decide +kernel);have J:V<=10^46:=by
  refine Α B ?_;refine Α (gx (Τ H n) _) ?_;exact Α (Ρ (by decide) r) (by decide +kernel)
 have L:g*6^(xs.length-1)*V<=10^62:=Α (Τ (Τ Z.L1 n) J) (by decide +kernel);have N:xs.length*(10^37*6^(xs.length-1)*(10^7+1)^(xs.length-1))<=10^63:=Α (Τ r<|Τ (Χ _ n) I) (by decide +kernel);exact(D q p).dg (fq (fq Z.L0<|jt<|by decide) y) L N
structure BendOk(kd:bf)(ms:ε Mk)(bd:π)(nu pl:ε θ):Prop where
 len:nu.length=bd+1
 dg:∀q∈nu,Dg 520 q
 plen:pl.length=ms.length
 pdg:∀q∈pl,Dg 2170 q
 thru:ms.length<=bd+1->(∀m∈ms,bY nu m.1=m.2.1)/\pl=bp ms.length 0
 tail:ms.length<=bd+1->∃cs:ε θ,cs.length=ms.length/\nu=cs++bp (bd+1-ms.length) 0
 far:bd+1<ms.length->kd="far"->FarB ms bd nu pl
 sq:bd+1<ms.length->kd="square"->SqB ms bd nu/\pl=ms.map λm=>(m.2.2:θ)*(m.2.1-bY nu m.1)
theorem iW(f:Mk->θ):∀a:ε Mk,cI a (a.map f)=a.map λm=>(m.2.2:θ)*(m.2.1-f m)
 |[]=>rfl
 |m::a=>by
  have b:=iW f a;unfold cI bM at b⊢;rw[Μ,Μ,Κ,Κ,b]
theorem Bf(Z:FZ a i)(k:c<=3)(l:a.length<=c+1)(e:d.length=a.length)(f:∀m∈a,bY d m.1=m.2.1):BendOk g a c (d++bp (c+1-a.length) 0) (bp a.length 0) where
 len:=by rw[Λ,eg];lia
 dg:=λq b=>by
  rcases cj.mp b with b|b
  ·exact(aDt Z (by lia) e f q b).mono (by decide)
  ·rw[(l4.mp b).2];exact Dg.zero
 plen:=eg
 pdg:=λq b=>by rw[(l4.mp b).2];exact Dg.zero
 thru:=λ_=>⟨λm j=>by rw[jW];exact f m j,rfl⟩
 tail:=λ_=>⟨d,e,rfl⟩
 far:=λh=>ψ h ‹25›
 sq:=λh=>ψ h ‹25›
theorem aGy(S:SQ d o)(u:g<=3)(v:g+1<d.length)(h:SqB d g a):BendOk "square" d g a (d.map λm=>(m.2.2:θ)*(m.2.1-bY a m.1)) where
 len:=h.1
 dg:=λq f=>by
  obtain⟨V,i,j,k⟩:=Bs S ‹6› ‹0› h.1 h.2;exact(k q f).dg i (l:=211) j (b:=308)<|ω _
 plen:=η _
 pdg:=λq f=>by
  obtain⟨V,i,j,k⟩:=Bs S ‹6› ‹0› h.1 h.2;have p:∀q∈a,Dg 520 q:=λq f=>(k q f).dg i (l:=211) j (b:=308)<|ω _;obtain⟨m,n,rfl⟩:=Β.mp f;have r:Dg 9 m.1:=(S.x7 m n).dg (by decide) (l:=1) (by decide) (b:=7)<|ω _;have d2:Dg 35 m.2.1:=(S.h m n).dg S.L0 (l:=13) S.L1 (b:=21)<|ω _
  have s:Dg 2124 (bY a m.1):=(Dv r p).mono (by
   have e:=h.1
   have:a.length*(520+9+2)<=4*(520+9+2):=Ψ _ ‹48›
   assumption)
  have t:Dg 1 (m.2.2:θ):=Dg.int (by have:=S.w m n;lia);exact(t.mul<|d2.sub s).mono (by decide)
 thru:=λc=>ψ c ‹26›
 tail:=λc=>ψ c ‹26›
 far:=λ_ e=>ψ e (by decide)
 sq:=λ_ _=>⟨h,rfl⟩
theorem tT{p:θ->Prop}(L:θ):∀(r:ε<|π×θ)(b:ε θ),(∀z∈r,p<|uJ L z.2)->(∀q∈b,p q)->∀q∈tU L r b,p q
 |[],b,_,h=>h
 |y::r,b,c,h=>by
  rw[tU];refine tT L r _ (λz d=>c z<|ο _ d) ?_;split
  ·exact h
  ·intro q a;rcases List.mem_or_eq_of_mem_set a with a|a
   ·exact h q a
   ·rw[a];exact c y υ
theorem aHa(Z:FZ g m)(u:i<=3)(v:i+1<g.length)(h:FarB g i k l):BendOk "far" g i k l where
 len:=h.len
 dg:=λq j=>(h.dg q j).mono (by decide)
 plen:=h.plen
 pdg:=λq j=>by
  obtain⟨y,C,_,_,e⟩:=h.ch;rw[e]at j;refine tT (p:=λq=>Dg 2170 q) _ _ _ (λz n=>?_) (λx o=>?_) q j
  ·have f:=(eh (a:=z.1) (b:=z.2) n).2;unfold mH at f;obtain⟨t,r,s⟩:=Β.mp f;have d:=Bu (Z.cz C ‹48›<|‹48›)<|di.mp r;rw[s]at d;show Dg 2170 (uJ _ z.2);unfold uJ;split
   ·exact d.neg.mono (by decide)
   ·exact d.mono (by decide)
  ·rw[(l4.mp o).2];exact Dg.zero
 thru:=λc=>ψ c ‹26›
 tail:=λc=>ψ c ‹26›
 far:=λ_ _=>h
 sq:=λ_ e=>ψ e (by decide)
def Vz:DW:=λf Q _=>∃(b:bf)(a:ε Mk)(c g h:π),f=[.str b,.list<|a.map cP,.int (c:χ)]/\(b="far"\/b="square")/\c<=3/\1<=a.length/\FZ a g/\SQ a h/\∀d e:ε θ,BendOk b a c d e->Q (.two (d.map fr)<|e.map fr)
theorem yE:Q 9 34 (λ_=>Vz):=by
 refine fH 34 ["kind","marks","bend"] λA T R Z=>⟨_,by walk_at"t",_,(aH (bF (gL (jZ (lA (aC (oQ (by decide) (aF 0))))) (tO zH (aF 0) (aC (cH (aI aT (aI aT aQ)))))) kG aP)
   (aH (bF (jZ (lA (aC (aE (vN 2 aB))))) kG aP)
   (aH (bF (tO eW (aC (bQ cT (vN 1 aB))) (bO cN (aF 2) bI)) (iY (vN 1 (vN 2 aB))) aP)
   (aH (bF (tO cR (aF 0) (aC aT)) (iY (vN 1 (vN 2 aB))) aP)
   (iY (vN 1 (vN 2 aB))))))),?_⟩
 intro y Q X qQ0;refine qq0 λqq2=>?_;obtain⟨z,d,i,p,q,rfl,r,a,o,Z,S,k⟩:=qQ0;refine qq2 ?_;have s:=Z.n60;have e:∀m∈d,Dg 9 m.1:=λm f=>(Z.x m f).dg (by decide) (l:=1) (by decide) (b:=7)<|ω _;rcases r with rfl|rfl
 ·walk_at"s";rw[ι<|by decide];refine⟨_,aOa,⟨"far",by decide +kernel⟩,[⟨"far",by decide +kernel⟩,⟨"square",by decide +kernel⟩],rfl,rfl,λb g=>?_⟩;rw[g.mpr<|by simp];clear g b;walk_at"s";refine⟨_,rfl,‹29›,‹19›,?_⟩;walk_at"d";walk_at"s";refine bW (λc=>?_) (λc=>?_)
  ·exact⟨d,i,9,51,rfl,o,‹20›,a,S.nd,e,λm f=>Z.ydg f,by decide,by decide,λt j n _=>k _ _<|Bf Z a ‹20› j n⟩
  walk_at"s";exact⟨d,i,p,rfl,a,by lia,Z,λu v h=>k u v<|aHa Z a (by lia) h⟩
 ·walk_at"s";rw[ι<|by decide];refine⟨_,aOa,⟨"square",by decide +kernel⟩,[⟨"far",by decide +kernel⟩,⟨"square",by decide +kernel⟩],rfl,rfl,λb g=>?_⟩;rw[g.mpr<|by simp];clear g b;walk_at"s";refine⟨_,rfl,‹29›,‹19›,?_⟩;walk_at"d";walk_at"s";refine bW (λc=>?_) (λc=>?_)
  ·exact⟨d,i,9,51,rfl,o,‹20›,a,S.nd,e,λm f=>Z.ydg f,by decide,by decide,λt j n _=>k _ _<|Bf Z a ‹20› j n⟩
  walk_at"s";rw[ι<|by decide];refine⟨d,i,q,rfl,a,by lia,S,λx h=>?_⟩;rw[iW];exact k x _<|aGy S a (by lia) h
abbrev Pr:=θ×θ
def Pl(z:Pr):μ:=.tuple [fr z.1,fr z.2]
theorem Gq:∀a:ε Pr,eC (a.map Pl)=true
 |[]=>rfl
 |z::a=>by
  have:=Gq a;simp only[Μ,eC,Pl,nR,fr,this,ly]
def UpP(c:ε Pr):Prop:=c.Pairwise λa b=>a.1<=b.1
def gS(a:ε Pr)(p:θ):π:=(a.flatMap λz=>if z.1<p then[z]else[]).length
theorem xB(a b:ε Pr)(p:θ):gS (a++b) p=gS a p+gS b p:=by
 unfold gS;rw[uf,Λ]
theorem aCd(h:∀z∈a,z.1<p):gS a p=a.length:=by
 induction a with
 |nil=>rfl
 |cons m a b=>
  have e:gS (m::a) p=gS [m] p+gS a p:=xB [m] a p;have c:gS [m] p=1:=by unfold gS;simp[h m υ]
  rw[e,c,b λx d=>h x<|ο _ d,Ε];exact 48
theorem Ut(h:∀z∈a,¬z.1<p):gS a p=0:=by
 induction a with
 |nil=>rfl
 |cons m a b=>
  have e:gS (m::a) p=gS [m] p+gS a p:=xB [m] a p;have c:gS [m] p=0:=by unfold gS;simp[h m υ]
  rw[e,c,b λx d=>h x<|ο _ d]
theorem yX(p:θ):∀{f:ε Pr},UpP f->∃a b,f=a++b/\(∀z∈a,z.1<p)/\(∀z∈b,¬z.1<p)
 |[],_=>⟨[],[],rfl,(λ_ h=>nomatch h),λ_ h=>nomatch h⟩
 |m::i,h=>by
  have g:=fv.mp h;by_cases c:m.1<p
  ·refine qq0 λqq2=>?_;obtain⟨a,b,e,j,k⟩:=yX p g.2;refine qq2 ?_;refine⟨m::a,b,by rw[e];rfl,λx d=>?_,k⟩;rcases Υ.mp d with rfl|d
   ·exact c
   ·exact j x d
  ·refine⟨[],m::i,rfl,(λ_ h=>nomatch h),λx d=>?_⟩;rcases Υ.mp d with rfl|d
   ·exact c
   ·have:=g.1 x d;grind
theorem Og(h:UpP c)(z:Pr):gS c z.1<=c.length/\UpP (c.take (gS c z.1)++z::c.drop (gS c z.1))/\(c.take (gS c z.1)++z::c.drop (gS c z.1)).Perm (c++[z]):=by
 refine qq0 λqq2=>?_;obtain⟨a,b,e,g,i⟩:=yX z.1 h;refine qq2 ?_;have k:gS c z.1=a.length:=by rw[e,xB,aCd g,Ut i];rfl
 have l:c.take a.length=a:=by rw[e];simp
 have m:c.drop a.length=b:=by rw[e];simp
 rw[k,l,m];refine⟨by rw[e,Λ];exact 48,?_,?_⟩
 ·rw[e]at h;have f:=kq.mp h;refine kq.mpr ⟨f.1,fv.mpr ⟨λy d=>jk.mp<|i y d,f.2.1⟩,λx j y d=>?_⟩;rcases Υ.mp d with rfl|d
  ·have:=g x j;exact 40
  ·exact f.2.2 x j y d
 ·rw[e,bx];exact AC a<|qv (l₁:=[z]) (l₂:=b)
theorem lY(h:a.Perm b):tot a=tot b:=by
 induction h with
 |nil=>rfl
 |cons x _ c=>simp only[tot,c]
 |swap x y l=>simp only[tot];grind
 |trans _ _ d e=>rw[d,e]
def eI(p:Pr->Bool)(a:ε Pr):θ:=tot<|(a.filter p).map (·.2)
theorem qQ(p:Pr->Bool)(a b:ε Pr):eI p (a++b)=eI p a+eI p b:=by
 unfold eI;rw[List.filter_append,bu,tM]
theorem aAe(h:∀z∈a,p z=true):eI p a=tot (a.map (·.2)):=by
 unfold eI;rw[List.filter_eq_self.mpr h]
theorem Um(h:∀z∈a,¬p z=true):eI p a=0:=by
 unfold eI;rw[List.filter_eq_nil_iff.mpr h];rfl
theorem Bm:∀{a:ε θ},(∀q∈a,0<=q)->0<=tot a
 |[],_=>au
 |x::a,h=>by
  have c:=h x υ;have d:=Bm (a:=a) λq b=>h q<|ο _ b;simp only[tot];exact 44
theorem aGc(h:∀z∈a,0<=z.2):0<=eI p a:=Bm λq b=>by
 obtain⟨z,c,rfl⟩:=Β.mp b;exact h z (ku.mp c).1
theorem Qo:∀{a:ε Pr},(∀z∈a,0<=z.2)->eI p a<=tot (a.map (·.2))
 |[],_=>au
 |x::a,h=>by
  have b:=h x υ;have f:=Qo (p:=p) (a:=a) λq d=>h q<|ο _ d;have e:eI p (x::a)=eI p [x]+eI p a:=qQ p [x] a;have g:eI p [x]<=x.2:=by
   unfold eI;by_cases c:p x=true
   ·simp[c,tot];grind
   ·simp[c,tot];exact b
  rw[e];simp only[Μ,tot];grind
theorem Ae(h:a.Perm b):eI p a=eI p b:=lY<|(h.filter p).map _
structure Mid(zs:ε Pr)(x:θ):Prop where
 mem:∃z∈zs,z.1=x
 lo:eI (λz=>decide (z.1<x)) zs+eI (λz=>decide (z.1<x)) zs<tot (zs.map (·.2))
 hi:tot (zs.map (·.2))<=eI (λz=>decide (z.1<=x)) zs+eI (λz=>decide (z.1<=x)) zs
theorem Za(j:UpP b)(g:b.Perm f)(m:∀z∈f,0<=z.2)(h:s<b.length)(r:tot ((b.take s).map (·.2))+tot ((b.take s).map (·.2))<tot (f.map (·.2)))
  (t:tot (f.map (·.2))<=tot ((b.take<|s+1).map (·.2))+tot ((b.take<|s+1).map (·.2))):Mid f b[s].1:=by
 have k:∀z∈b,0<=z.2:=λz d=>m z<|g.mem_iff.mp d;refine⟨⟨b[s],g.mem_iff.mp<|ax h,rfl⟩,?_,?_⟩
 ·rw[<-Ae g];have e:=qQ (λz=>decide (z.1<b[s].1)) (b.take s)<|b.drop s;rw[jq]at e;have n:eI (λz=>decide (z.1<b[s].1)) (b.drop s)=0:=Um λz d=>by
   rw[gm h]at d;have l:UpP (b.drop s):=Pairwise.drop j;rw[gm h]at l;rcases Υ.mp d with rfl|d
   ·simp
   ·have:=(fv.mp l).1 z d;simpa using jk.mpr this
  have o:=Qo (p:=λz=>decide (z.1<b[s].1)) (a:=b.take s) λz d=>k z<|cv d;grind
 ·rw[<-Ae g];have e:=qQ (λz=>decide (z.1<=b[s].1)) (b.take<|s+1)<|b.drop<|s+1;rw[jq]at e;have n:=aGc (p:=λz=>decide (z.1<=b[s].1)) (a:=b.drop<|s+1) λz d=>k z<|ny d;have o:eI (λz=>decide (z.1<=b[s].1)) (b.take<|s+1)=tot ((b.take<|s+1).map (·.2)):=aAe λz d=>by
   obtain⟨i,q,rfl⟩:=cn d;rw[rx];rw[ao]at q;by_cases c:i=s
   ·subst c;simp
   ·have:=fj.mp j i s ‹18› h (by lia);simpa using this
  grind
theorem Nq{a:ε Pr}{j:π}(e:k=(j:χ))(h:j<a.length):oX (a.map Pl) k=γ (Pl a[j]):=by
 rw[Es (xs:=a) Pl (by lia)<|by lia,e,ft];simp[h]
def aKh:DW:=λd Q _=>∃a b:ε θ,d=[.list<|a.map fr,.list<|b.map fr]/\a.length=b.length/\a.length<=60/\(∀q∈a,Ok q)/\∀c:ε Pr,UpP c->c.Perm (a.zip b)->Q (.own<|c.map Pl)
theorem Hy:Q 2 27 (λ_=>aKh):=by
 refine fH 27 ["some","weights","pairs","one","weight","spot"] λA T R Z=>⟨_,by walk_at"t",_,(aH (aZ 2 (dG aQ))
   (aH (eA (Mp (bE 0) (bE 1)) (eB (aW (aG 3) (aW (aG 4) dO)))
    (sA 5 (bQ cT (vE (cL (bS [ν,γ 3] ["pair","one"] (cE (aL 2)) (aG 0) (lA (aC (aE (vE (eX 0 0) (vN 1 aB))))) (bE 0))) aB)) (Wp 2 (aF 5) (cH (aI (bE 3) (aI (bE 4) aQ))))))
   (dU 2))),?_⟩
 intro H Q X qQ0;refine qq0 λqq2=>?_;obtain⟨e,f,rfl,I,u,v,k⟩:=qQ0;refine qq2 ?_;have J:(e.zip f).length<=60:=by rw[dR];exact 50
 have r:∀z∈e.zip f,Ok z.1:=λz h=>v _ (eh (a:=z.1) (b:=z.2) h).1;walk_at"s"
 refine cW (eJ (λz:Pr=>ay [fr z.1,fr z.2]) (e.zip f) (λQ h=>by
   walk_at"d"
   rw[cK];exact h)
  (λi l=>∃(d:ε Pr)(m n o:Θ Sl),l=[γ<|.dat<|.list<|e.map fr,γ<|.dat<|.list<|f.map fr,γ<|.own<|d.map Pl,m,n,o]/\UpP d/\d.Perm ((e.zip f).take i))
  ⟨[],_,_,_,rfl,Pairwise.nil,.nil⟩ ?_ ?_)
 ·intro i z l s qQ0;refine qq0 λqq2=>?_;obtain⟨d,m,n,o,rfl,p,g⟩:=qQ0;refine qq2 ?_;have M:d.length<=60:=by have:=g.length_eq;rw[ao]at this;lia
  have y:∀x∈d,Ok x.1:=λx B=>r x<|cv<|g.mem_iff.mp B;have C:=r z<|Ω s;refine qq0 λqq2=>?_;obtain⟨O,D,E⟩:=Og p z;refine qq2 ?_;have q:(d.take (gS d z.1)++z::d.drop (gS d z.1)).Perm ((e.zip f).take<|i+1):=by
   rw[fO s];exact E.trans<|g.append_right [z]
  walk_at"s";refine bL Pl Pl (λx:Pr=>if x.1<z.1 then[x]else[]) d ‹101› (λQ h=>h) (λx h N F j=>?_) ?_
  ·walk_at"d";refine⟨x.1,z.1,rfl,y x h,C,?_⟩;walk_at"d";by_cases c:x.1<z.1
   ·rw[ρ c];rw[ρ c]at j;exact j
   ·rw[ι c];rw[ι c]at j;simpa using j
  have t:((d.flatMap λx:Pr=>if x.1<z.1 then[x]else[]).map Pl).length=gS d z.1:=by rw[η];rfl
  generalize (d.flatMap λx:Pr=>if x.1<z.1 then[x]else[])=L at *
  walk_at"d";rw[η]at t;rw[t];have G:take (gS d z.1) (d.map Pl)++ay [fr z.1,fr z.2]::drop (gS d z.1) (d.map Pl)=(d.take (gS d z.1)++z::d.drop (gS d z.1)).map Pl:=by
   rw[bu,Μ,ou,tf];rfl
  rw[ft,G];exact⟨‹129›,‹119›,‹106›,_,_,_,_,rfl,D,q⟩
 ·intro l qQ0;refine qq0 λqq2=>?_;obtain⟨d,m,n,o,rfl,p,g⟩:=qQ0;refine qq2 ?_;walk_at"d";rw[bA<|ω _]at g;exact k d p g
theorem Oj:∀{a:ε θ},a≠[]->(∀q∈a,0<q)->0<tot a
 |[],h,_=>ψ rfl h
 |x::a,_,h=>by
  have c:=h x υ;have d:=Bm (a:=a) λq b=>by have:=h q<|ο _ b;exact 40
  simp only[tot];grind
def aDk:DW:=λc Q _=>∃(a b:ε θ)(L:π),c=[.list<|a.map fr,.list<|b.map fr]/\0<L/\L<=10^120/\a.length=b.length/\1<=a.length/\a.length<=60/\(∀q∈a,Ok q)/\(∀v∈b,0<v/\Cm L (10^220) v)/\∀x:θ,Mid (a.zip b) x->Q (.dat<|fr x)
theorem Cr:Q 4 26 (λ_=>aDk):=by
 refine fH 26 ["some","weights","pairs","whole","spot","reached"] λA T R Z=>⟨_,by walk_at"t",_,(aH (aZ 2 (bH (vN 0 (vN 1 aB))))
   (sA 3 (aE (vN 1 aB)) (sA 4 aU (sA 5 (kD 1 (bR (aL 2) bI)) (aH (pG (lA (aC (aE (vE (aE (vN 5 (vN 5 aB))) (vN 3 aB))))) (sA 4 (bZ cN (aF 4) bI) (eL (aE (vN 5 (vE (kD 1 (bR (aL 2) (aF 4))) aB))) (aG 5))))
   (bB (aC (kD 0 (bR (aL 2) (aF 4)))))))))),?_⟩
 intro U Q X qQ0;refine qq0 λqq2=>?_;obtain⟨qs,f,L,rfl,L0,L1,D,W,t,H,q,k⟩:=qQ0;refine qq2 ?_;have n:∀{l:ε θ},l.length<=60->(∀v∈l,Cm L (10^220) v)->Dg 343 (tot l):=λ{l} I J=>by
  have h:=Cm.tot (qs:=l) (L:=L) (B:=10^220) J;refine h.dg L0 (l:=120) L1 (b:=222) ?_;exact Α (Ψ _ I) (by decide +kernel)
 walk_at"s";refine⟨qs,f,rfl,D,t,H,λd M u=>?_⟩;have Y:d.length=qs.length:=by rw[u.length_eq,dR];exact 50
 have o:(qs.zip f).map (·.2)=f:=List.map_snd_zip ‹48›;have E:(d.map (·.2)).Perm f:=by rw[<-o];exact u.map _
 have pv:∀v∈d.map (·.2),0<v/\Cm L (10^220) v:=λv h=>q v<|E.mem_iff.mp h;have p:∀s,Dg 343 (tot<|(d.take s).map (·.2)):=λs=>n (by rw[η,ao];exact 50) λv h=>by
  rw[ou]at h;exact(pv v<|cv h).2
 have x:Dg 343 (tot f):=n (by lia) λv h=>(q v h).2;have r:0<tot f:=Oj (λe=>by rw[e,u2]at D;lia) λv h=>(q v h).1;walk_at"d";refine⟨Gq _,?_⟩;walk_at"s";refine⟨f,rfl,λv h=>cA<|(q v h).2.dg L0 (l:=120) L1 (b:=220)<|ω _,λi=>cA<|n (by rw[ao];exact 50) λv h=>(q v<|cv h).2,?_⟩;walk_at"s";walk_at"s";refine⟨_,Nq (j:=0) rfl<|by lia,?_⟩;walk_at"s";have N:tot ((d.take 1).map (·.2))=d[0].2:=by
  rw[fO<|ah<|show 0<d.length by lia];simp[tot,ji]
 refine⟨λm F=>∃s:π,s<d.length/\m=d.length-s/\F=[γ<|.dat<|.list<|qs.map fr,γ<|.dat<|.list<|f.map fr,γ<|.own<|d.map Pl,γ<|.dat<|fr<|tot f,γ<|.dat<|.int (s:χ),γ<|.dat<|fr<|tot<|(d.take<|s+1).map (·.2)]/\tot ((d.take s).map (·.2))+tot ((d.take s).map (·.2))<tot f,⟨_,0,by lia,rfl,by rw[N];rfl,by simpa[tot,ji]using r⟩,?_⟩;intro m F qQ0;refine qq0 λqq2=>?_;obtain⟨s,G,rfl,rfl,y⟩:=qQ0;refine qq2 ?_;have C:=cA<|p<|s+1;have d2:Dg 687 (tot ((d.take<|s+1).map (·.2))+tot ((d.take<|s+1).map (·.2))):=(p<|s+1).add<|p<|s+1;walk_at"d";refine⟨_,_,rfl,C,C,?_⟩;walk_at"d";refine⟨_,_,rfl,cA d2,cA x,?_⟩;walk_at"d";refine bW (λc=>?_) λc=>?_
 ·have g:s+1<d.length:=h8.mp λz=>by
   rw[bA<|‹24›,lY E]at c;grind
  walk_at"s";refine⟨_,Nq (j:=s+1) (by lia) g,?_⟩;have O:Ok d[s+1].2:=cA<|(pv _<|Β.mpr ⟨_,ax g,rfl⟩).2.dg L0 (l:=120) L1 (b:=220)<|ω _;refine⟨_,_,rfl,C,O,?_⟩;walk_at"d";refine⟨d.length-(s+1),‹50›,s+1,g,rfl,?_,c⟩;rw[fO<|ah g,bu,tM];simp[tot,ji]
 ·walk_at"d";refine⟨_,Nq (j:=s) rfl G,?_⟩;refine k _ (Za M u (λz S=>?_) G ?_ ?_)
  ·have:=(q z.2 (eh (a:=z.1) (b:=z.2) S).2).1;exact 40
  ·rw[o];exact y
  ·rw[o];exact jk.mp c
def Ex(a:ε Pr)(b:θ):θ:=tot<|a.map λz=>z.2*aM (z.1-b)
theorem nH(p:Pr->Bool)(z:Pr)(a:ε Pr):eI p (z::a)=(if p z=true then z.2 else 0)+eI p a:=by
 have e:eI p (z::a)=eI p [z]+eI p a:=qQ p [z] a;rw[e];by_cases c:p z=true
 ·rw[ρ c];simp[eI,c,tot,ji]
 ·rw[ι c];simp[eI,c,tot]
theorem aBy(a:x<=b):∀{zs:ε Pr},(∀z∈zs,0<=z.2)->Ex zs x+(b-x)*(eI (λz=>decide (z.1<=x)) zs+eI (λz=>decide (z.1<=x)) zs-tot (zs.map (·.2)))<=Ex zs b
 |[],_=>by simp[Ex,eI,tot];grind
 |z::zs,h=>by
  have i:=aBy a (zs:=zs) λy f=>h y<|ο _ f;have g:=h z υ;have d:∀t,Ex (z::zs) t=z.2*aM (z.1-t)+Ex zs t:=λt=>rfl;rw[d,d,nH,Μ,tot];generalize eI (λz=>decide (z.1<=x)) zs=F at *
  generalize tot (zs.map (·.2))=W at *
  by_cases c:z.1<=x
  ·rw[ρ<|by simpa using c,cV<|show z.1-x<=0 by grind,cV<|show z.1-b<=0 by grind];grind
  ·rw[ι<|by simpa using c,bU<|show 0<=z.1-x by grind];have j:z.1-b<=aM (z.1-b):=by rcases bC (z.1-b)with⟨_,e⟩|⟨_,e⟩ <;>rw[e] <;>grind
   have k:=Ν g (show 0<=aM (z.1-b)-(z.1-b) by grind);grind
theorem Kg(a:b<=x):∀{zs:ε Pr},(∀z∈zs,0<=z.2)->Ex zs x+(x-b)*(tot (zs.map (·.2))-(eI (λz=>decide (z.1<x)) zs+eI (λz=>decide (z.1<x)) zs))<=Ex zs b
 |[],_=>by simp[Ex,eI,tot];grind
 |z::zs,h=>by
  have i:=Kg a (zs:=zs) λy f=>h y<|ο _ f;have g:=h z υ;have d:∀t,Ex (z::zs) t=z.2*aM (z.1-t)+Ex zs t:=λt=>rfl;rw[d,d,nH,Μ,tot];generalize eI (λz=>decide (z.1<x)) zs=F at *
  generalize tot (zs.map (·.2))=W at *
  by_cases c:z.1<x
  ·rw[ρ<|by simpa using c,cV<|show z.1-x<=0 by grind];have j:-(z.1-b)<=aM (z.1-b):=by rcases bC (z.1-b)with⟨_,e⟩|⟨_,e⟩ <;>rw[e] <;>grind
   have k:=Ν g (show 0<=aM (z.1-b)+(z.1-b) by grind);grind
  ·rw[ι<|by simpa using c,bU<|show 0<=z.1-x by grind,bU<|show 0<=z.1-b by grind];grind
theorem rO(d:∀z∈c,0<=z.2)(M:Mid c x)(b:θ):Ex c x<=Ex c b:=by
 rcases qi (a:=x) (b:=b)with h|h
 ·have e:=aBy h d;have f:=Ν (show 0<=b-x by grind) (show 0<=eI (λz=>decide (z.1<=x)) c+eI (λz=>decide (z.1<=x)) c-tot (c.map (·.2)) by have:=M.hi;grind);grind
 ·have e:=Kg h d;have f:=Ν (show 0<=x-b by grind) (show 0<=tot (c.map (·.2))-(eI (λz=>decide (z.1<x)) c+eI (λz=>decide (z.1<x)) c) by have:=M.lo;grind);grind
theorem xM(a b:θ):aM (a*b)=aM a*aM b:=by
 rcases bC a with⟨c,e⟩|⟨c,e⟩ <;>rcases bC b with⟨d,f⟩|⟨d,f⟩ <;>rw[e,f]
 ·exact bU<|Ν c d
 ·rw[cV (by have:=Ν c (show 0<=-b by grind);grind)];grind
 ·rw[cV (by have:=Ν (show 0<=-a by grind) d;grind)];grind
 ·rw[bU (by have:=Ν (show 0<=-a by grind) (show 0<=-b by grind);grind)];grind
theorem zG:∀a:ε Pr,∃b:ε Pr,UpP b/\b.Perm a
 |[]=>⟨[],Pairwise.nil,.nil⟩
 |z::a=>by
  obtain⟨b,c,d⟩:=zG a;obtain⟨_,e,f⟩:=Og c z;exact⟨_,e,f.trans<|(d.append_right [z]).trans<|qv (l₁:=a) (l₂:=[z])⟩
theorem Ab{f:π->θ}:∀{n:π},f 0<t->t<=f n->∃s,s<n/\f s<t/\t<=f (s+1)
 |0,a,h=>by grind
 |n+1,a,h=>by
  by_cases c:t<=f n
  ·obtain⟨s,e,b,d⟩:=Ab a c;exact⟨s,‹3›,b,d⟩
  ·exact⟨n,‹48›,oD.mp c,h⟩
theorem Zc(c:a≠[])(d:∀z∈a,0<z.2):∃x,Mid a x:=by
 obtain⟨b,g,e⟩:=zG a;have i:∀z∈a,0<=z.2:=λz h=>by have:=d z h;exact 40
 have r:0<tot (a.map (·.2)):=Oj (by simpa using c) λq j=>by
  obtain⟨z,k,rfl⟩:=Β.mp j;exact d z k
 have l:tot (b.map (·.2))=tot (a.map (·.2)):=lY<|e.map _;obtain⟨s,m,o,p⟩:=Ab (f:=λs=>tot ((b.take s).map (·.2))+tot ((b.take s).map (·.2))) (t:=tot<|a.map (·.2)) (n:=b.length) (by simp[tot];grind) (by rw[kh,l];grind);exact⟨_,Za g e i m o p⟩
theorem Af(h:∀z,p z=true->q z=true):∀{zs:ε Pr},(∀z∈zs,0<=z.2)->eI p zs<=eI q zs
 |[],_=>au
 |z::zs,a=>by
  have d:=Af h (zs:=zs) λy b=>a y<|ο _ b;have e:=a z υ;rw[nH,nH];by_cases c:p z=true
  ·rw[ρ c,ρ<|h z c];grind
  ·rw[ι c];split <;>grind
theorem Zb(e:∀z∈d,0<=z.2)(a:Mid d x)(b:Mid d y):¬x<y:=λc=>by
 have g:=a.hi;have h:=b.lo
 have i:=Af (p:=λz:Pr=>decide (z.1<=x)) (q:=λz=>decide (z.1<y)) (λz f=>by
  have:=fb f
  exact cD (by grind)) e
 grind
theorem Zd(d:∀z∈c,0<=z.2)(a:Mid c x)(b:Mid c y):x=y:=by
 have e:=Zb d a b;have f:=Zb d b a;grind
def Tp(a:ε Pr):θ:=Classical.epsilon<|Mid a
theorem mQ(b:a≠[])(c:∀z∈a,0<z.2):Mid a (Tp a):=ry<|Zc b c
theorem Py(b:∀z∈a,0<=z.2)(h:Mid a x):Tp a=x:=Zd b (ry ⟨x,h⟩) h
abbrev Ln:=θ×θ
def rr(l:Ln)(m:Mk):θ:=m.2.1-(l.1+l.2*m.1)
def FS(a:ε Mk)(l:Ln):θ:=tot<|a.map λm=>(m.2.2:θ)*aM (rr l m)
theorem aHl(m:Mk)(a:ε Mk)(l:Ln):FS (m::a) l=(m.2.2:θ)*aM (rr l m)+FS a l:=rfl
theorem Zj(f:c≠[])(hw:∀m∈c,1<=m.2.2)(a b:θ):∃m∈c,FS c (m.2.1-b*m.1,b)<=FS c (a,b):=by
 have e:∀t,Ex (c.map λm=>(m.2.1-b*m.1,(m.2.2:θ))) t=FS c (t,b):=λt=>by
  unfold Ex FS rr;rw[ia]
  congr 1
  refine df λm _=>?_;show(m.2.2:θ)*aM (m.2.1-b*m.1-t)=_
  congr 2
  grind
 have i:∀z∈c.map λm=>(m.2.1-b*m.1,(m.2.2:θ)),0<z.2:=λz d=>by
  obtain⟨m,g,rfl⟩:=Β.mp d;exact gb.mpr (by have:=hw m g;assumption)
 refine qq0 λqq2=>?_;obtain⟨x,j⟩:=Zc (by simpa using f) i;obtain⟨z,d,k⟩:=j.mem;obtain⟨m,g,rfl⟩:=Β.mp d;refine qq2 ?_;refine⟨m,g,?_⟩;have h:m.2.1-b*m.1=x:=k;rw[<-e,<-e,h];exact rO (λz d=>by have:=i z d;exact 40) j a
def qF(a:ε Mk)(m:Mk):ε Mk:=a.filter λo=>decide (o.1≠m.1)
def slp(m o:Mk):Pr:=((o.2.1-m.2.1)/(o.1-m.1),(o.2.2:θ)*aM (o.1-m.1))
theorem kH(m:Mk)(s:θ):∀a:ε Mk,(∀o∈a,o.1=m.1->o=m)->FS a (m.2.1-s*m.1,s)=Ex ((qF a m).map<|slp m) s
 |[],_=>rfl
 |o::a,h=>by
  have b:=kH m s a λx d=>h x<|ο _ d;rw[aHl,b];unfold qF rr;by_cases c:o.1=m.1
  ·rw[ip<|by simpa using c];have:=h o υ c;subst this;have e:o.2.1-(o.2.1-s*o.1+s*o.1)=0:=by grind
   rw[e,bU au];grind
  ·rw[gv<|by simpa using c,Μ];show _=(slp m o).2*aM ((slp m o).1-s)+Ex _ s
   congr 1
   unfold slp;dsimp only;have f:o.1-m.1≠0:=λz=>c (by grind);have g:(o.2.1-m.2.1)/(o.1-m.1)*(o.1-m.1)=o.2.1-m.2.1:=gj f;rw[j9,<-xM]
   congr 2
   generalize (o.2.1-m.2.1)/(o.1-m.1)=t at g⊢;grind
def cJ(a:ε Mk)(m:Mk):Ln:=if qF a m=[]then(m.2.1,0)else(m.2.1-Tp ((qF a m).map<|slp m)*m.1,Tp<|(qF a m).map<|slp m)
theorem pO(hw:∀o∈a,1<=o.2.2):∀z∈(qF a m).map (slp m),0<z.2:=λz b=>by
 obtain⟨o,c,rfl⟩:=Β.mp b;obtain⟨d,f⟩:=ku.mp c;have j:o.1≠m.1:=fb f;have g:(0:θ)<(o.2.2:θ):=gb.mpr (by have:=hw o d;assumption);have i:0<aM (o.1-m.1):=by
  rcases bC (o.1-m.1)with⟨h,e⟩|⟨h,e⟩ <;>rw[e] <;>grind
 exact gu g i
theorem Iv(hw:∀o∈a,1<=o.2.2)(h:∀o∈a,o.1=m.1->o=m)(b:θ):FS a (cJ a m)<=FS a (m.2.1-b*m.1,b):=by
 unfold cJ;by_cases c:qF a m=[]
 ·rw[ρ c,kH m b a h,c];have e:=kH m 0 a h;rw[c,show m.2.1-0*m.1=m.2.1 by grind]at e;rw[e];exact au
 ·rw[ι c,kH m _ a h,kH m b a h];have d:=pO (m:=m) hw;exact rO (λz f=>by have:=d z f;exact 40) (mQ (by simpa using c) d) b
def lS(a:ε Mk):Ln->ε Mk->Ln
 |b,[]=>b
 |b,m::A=>lS a (if FS a (cJ a m)<FS a b then cJ a m else b) A
theorem xK(a:ε Mk):∀(b:Ln)(A:ε Mk),FS a (lS a b A)<=FS a b/\∀m∈A,FS a (lS a b A)<=FS a (cJ a m)
 |b,[]=>⟨au,λ_ h=>nomatch h⟩
 |b,m::A=>by
  rw[lS];by_cases c:FS a (cJ a m)<FS a b
  ·rw[ρ c];obtain⟨e,f⟩:=xK a (cJ a m) A;refine⟨by grind,λx d=>?_⟩;rcases Υ.mp d with rfl|d
   ·exact e
   ·exact f x d
  ·rw[ι c];obtain⟨e,f⟩:=xK a b A;refine⟨e,λx d=>?_⟩;rcases Υ.mp d with rfl|d
   ·grind
   ·exact f x d
theorem rZ(a:ε Mk):∀(b:Ln)(A:ε Mk),lS a b A=b\/∃m∈A,lS a b A=cJ a m
 |b,[]=>.inl rfl
 |b,m::A=>by
  rw[lS];by_cases c:FS a (cJ a m)<FS a b
  ·rw[ρ c];rcases rZ a (cJ a m) A with h|⟨x,d,h⟩
   ·exact .inr ⟨m,υ,h⟩
   ·exact .inr ⟨x,ο _ d,h⟩
  ·rw[ι c];rcases rZ a b A with h|⟨x,d,h⟩
   ·exact .inl h
   ·exact .inr ⟨x,ο _ d,h⟩
def fU:ε Mk->Ln
 |[]=>(0,0)
 |m::A=>lS (m::A) (cJ (m::A) m) A
theorem Be(b:a≠[]):∃m∈a,fU a=cJ a m:=by
 cases a with
 |nil=>exact ψ rfl b
 |cons m A=>
  rcases rZ (m::A) (cJ (m::A) m) A with h|⟨x,c,h⟩
  ·exact⟨m,υ,h⟩
  ·exact⟨x,ο _ c,h⟩
theorem Md{a:ε Mk}(d:(a.map (·.1)).Nodup):∀m∈a,∀o∈a,o.1=m.1->o=m:=by
 induction a with
 |nil=>intro m h;exact nomatch h
 |cons x a f=>
  rw[Μ,ky]at d;intro m g o i e;rcases Υ.mp g with b|b <;>rcases Υ.mp i with c|c
  ·rw[b,c]
  ·exact ψ (Β.mpr ⟨o,c,by rw[<-b];exact e⟩) d.1
  ·exact ψ (Β.mpr ⟨m,b,by rw[<-c];exact e.symm⟩) d.1
  ·exact f d.2 m b o c e
theorem Nk(e:c≠[])(hw:∀o∈c,1<=o.2.2)(f:(c.map (·.1)).Nodup)(a b:θ):FS c (fU c)<=FS c (a,b):=by
 obtain⟨m,d,i⟩:=Zj e hw a b;have j:=Iv (m:=m) hw (Md f m d) b;have k:FS c (fU c)<=FS c (cJ c m):=by
  cases c with
  |nil=>exact nomatch d
  |cons x A=>
   obtain⟨g,h⟩:=xK (x::A) (cJ (x::A) x) A;rcases Υ.mp d with rfl|d
   ·exact g
   ·exact h m d
 grind
def dv(r g:Mk->θ)(m:Mk):θ:=if 0<r m then -((m.2.2:θ)*g m)else if r m<0 then(m.2.2:θ)*g m else(m.2.2:θ)*aM (g m)
theorem oC(r g:Mk->θ):∀b:ε Mk,∃t:θ,0<t/\∀m∈b,r m≠0->t*aM (g m)<=aM (r m)
 |[]=>⟨1,by decide,λ_ h=>nomatch h⟩
 |m::b=>by
  obtain⟨t,i,d⟩:=oC r g b;by_cases c:r m=0\/t*aM (g m)<=aM (r m)
  ·refine⟨t,i,λx a h=>?_⟩;rcases Υ.mp a with rfl|a
   ·rcases c with c|c
    ·exact ψ c h
    ·exact c
   ·exact d x a h
  ·have o:r m≠0:=λz=>c<|.inl z;have j:aM (r m)<t*aM (g m):=oD.mp λz=>c<|.inr z;have p:0<aM (r m):=by rcases bC (r m)with⟨h,e⟩|⟨h,e⟩ <;>rw[e] <;>grind
   have k:aM (g m)≠0:=λz=>by rw[z,fo]at j;grind
   have f:0<aM (g m):=by have:=gI<|g m;grind
   have l:aM (r m)/aM (g m)*aM (g m)=aM (r m):=gj k;have n:0<aM (r m)/aM (g m):=by
    refine oD.mp λh=>?_;have:=Ν (show 0<=-(aM (r m)/aM (g m)) by grind)<|cq f;grind
   have q:aM (r m)/aM (g m)<=t:=by
    refine jk.mp λz=>?_;have:=gu (show 0<aM (r m)/aM (g m)-t by grind) f;grind
   refine⟨aM (r m)/aM (g m),n,λx a h=>?_⟩;rcases Υ.mp a with rfl|a
   ·rw[l];exact au
   ·have s:=d x a h;have u:=Ν (show 0<=t-aM (r m)/aM (g m) by grind)<|gI<|g x;grind
theorem uU(a:0<t):∀{ms:ε Mk},(∀m∈ms,r m≠0->t*aM (g m)<=aM (r m))->tot (ms.map λm=>(m.2.2:θ)*aM (r m-t*g m))=tot (ms.map λm=>(m.2.2:θ)*aM (r m))+t*tot (ms.map<|dv r g)
 |[],_=>by simp[tot,fo,ji]
 |m::ms,h=>by
  have j:=uU a (ms:=ms) λx k=>h x<|ο _ k;have i:=h m υ;rw[Μ,Μ,Μ,tot,tot,tot,j];have b:(m.2.2:θ)*aM (r m-t*g m)=(m.2.2:θ)*aM (r m)+t*dv r g m:=by
   unfold dv;have l:∀y:θ,t*y<=t*aM y/\-(t*y)<=t*aM y:=λy=>by
    rcases bC y with⟨h,e⟩|⟨h,e⟩ <;>rw[e]
    ·have:=Ν (cq a) h;exact⟨au,by grind⟩
    ·have:=Ν (cq a) (show 0<=-y by grind);exact⟨by grind,by grind⟩
   obtain⟨n,o⟩:=l<|g m;by_cases c:0<r m
   ·have d:=i ‹41›;rw[bU<|cq c]at d⊢;rw[ρ c,bU<|by grind];grind
   ·by_cases f:r m<0
    ·have d:=i ‹42›;rw[cV<|cq f]at d⊢;rw[ι c,ρ f,cV<|by grind];grind
    ·have z:r m=0:=by grind
     rw[ι c,ι f,z,bU (q:=0) au];have e:(0:θ)-t*g m=(-t)*g m:=by grind
     rw[e,xM,cV (q:=-t)<|by grind];grind
  rw[b];grind
theorem aOh(h:∀a b,FS d l<=FS d (a,b))(f g:θ):0<=tot (d.map<|dv (rr l) λm=>f+g*m.1):=by
 obtain⟨t,i,j⟩:=oC (rr l) (λm=>f+g*m.1) d;have e:=uU i j;have k:=h (l.1+t*f)<|l.2+t*g;have n:FS d (l.1+t*f,l.2+t*g)=tot (d.map λm=>(m.2.2:θ)*aM (rr l m-t*(f+g*m.1))):=by
  unfold FS rr
  congr 1
  refine df λm _=>?_
  congr 2
  grind
 have o:FS d l=tot (d.map λm=>(m.2.2:θ)*aM (rr l m)):=rfl;rw[n,e,o]at k;refine jk.mp λc=>?_;have:=gu i (show 0< -tot (d.map<|dv (rr l) λm=>f+g*m.1) by grind);grind
def kS(r:Mk->θ)(m:Mk):χ:=if 0<r m then m.2.2 else -m.2.2
def cU(r:Mk->θ):ε Mk->χ
 |[]=>0
 |m::A=>kS r m+cU r A
def lT(r:Mk->θ):ε Mk->χ
 |[]=>0
 |m::A=>(if r m=0 then m.2.2 else 0)+lT r A
def rC(r:Mk->θ)(left:χ)(m:Mk):χ:=if r m=0 then(if 2*m.2.2<left then 2*m.2.2 else left)else 0
def oW(r:Mk->θ):χ->ε Mk->ε χ
 |_,[]=>[]
 |left,m::A=>(kS r m+rC r left m)::oW r (left-rC r left m) A
def tR(a:ε χ):ε θ:=a.map λn:χ=>(n:θ)
theorem Ai(r:Mk->θ):∀A:ε Mk,(A.map<|kS r).sum=cU r A
 |[]=>rfl
 |m::A=>by rw[Μ,y4,Ai r A,cU]
theorem Eb(r:Mk->θ):∀(left:χ)(A:ε Mk),(oW r left A).length=A.length
 |_,[]=>rfl
 |left,m::A=>by rw[oW,Ε,Eb r,Ε]
theorem Ku(h:0<=left)(hw:1<=m.2.2):0<=rC r left m/\rC r left m<=left:=by
 unfold rC;split
 ·split <;>lia
 ·lia
theorem Oa:∀{A:ε Mk},(∀m∈A,1<=m.2.2)->0<=lT r A
 |[],_=>Int.le_refl _
 |m::A,h=>by
  have b:=Oa (r:=r) (A:=A) λx a=>h x<|ο _ a;have:=h m υ;rw[lT];split <;>lia
theorem Ea(r:Mk->θ):∀(left:χ)(A:ε Mk),0<=left->(∀m∈A,1<=m.2.2)->(oW r left A).sum=cU r A+(if 2*lT r A<left then 2*lT r A else left)
 |left,[],h,_=>by
  have d:(oW r left []).sum=0:=rfl;have e:cU r []=0:=rfl;have g:lT r []=0:=rfl;rw[d,e,g];split <;>exact 50
 |left,m::A,h,hw=>by
  have i:=hw m υ;have b:∀x∈A,1<=x.2.2:=λx j=>hw x<|ο _ j;obtain⟨l,n⟩:=Ku (r:=r) h i;have k:=Ea r (left-rC r left m) A ‹33› b;have o:=Oa (r:=r) b;rw[oW,y4,k,cU,lT];have a:rC r left m=if r m=0 then(if 2*m.2.2<left then 2*m.2.2 else left)else 0:=rfl
  generalize kS r m=f at *
  generalize cU r A=F at *
  generalize lT r A=Z at *
  generalize rC r left m=u at *
  by_cases c:r m=0
  ·rw[ρ c]at a⊢;split at a <;>split <;>split <;>exact 50
  ·rw[ι c]at a⊢;subst a;split <;>split <;>exact 50
def aJw(r:Mk->θ)(m:Mk)(p:θ):Prop:=(0<r m->p=(m.2.2:θ))/\(r m<0->p=-(m.2.2:θ))/\-(m.2.2:θ)<=p/\p<=(m.2.2:θ)
def FairL(r:Mk->θ):ε Mk->ε θ->Prop
 |[],[]=>wj
 |m::A,p::a=>aJw r m p/\FairL r A a
 |_,_=>ag
theorem FairL.len:∀{A:ε Mk}{a:ε θ},FairL r A a->a.length=A.length
 |[],[],_=>rfl
 |m::A,p::a,h=>by rw[Ε,Ε,FairL.len h.2]
theorem FairL.app(b:FairL r B qs):∀{A:ε Mk}{a:ε θ},FairL r A a->FairL r (A++B) (a++qs)
 |[],[],_=>b
 |m::A,p::a,h=>⟨h.1,FairL.app b h.2⟩
theorem FairL.rev:∀{A:ε Mk}{a:ε θ},FairL r A a->FairL r A.reverse a.reverse
 |[],[],_=>trivial
 |m::A,p::a,h=>by
  rw[iq,iq];exact FairL.app (B:=[m]) (qs:=[p]) ⟨h.1,trivial⟩<|FairL.rev h.2
theorem FairL.at:∀{A:ε Mk}{c:ε θ},FairL r A c->∀{i:π}{m:Mk}{p:θ},A[i]? =γ m->c[i]? =γ p->aJw r m p
 |[],[],_,i,m,p,a,_=>by simp at a
 |m::A,p::c,h,0,d,e,a,b=>by
  simp at a b;subst a;subst b;exact h.1
 |m::A,p::c,h,i+1,d,e,a,b=>by
  simp at a b;exact FairL.at h.2 a b
theorem FairL.mix(e:0<=t)(i:t<=1):∀{A:ε Mk}{f g:ε θ},FairL r A f->FairL r A g->FairL r A (af (λa b=>a+t*(b-a)) f g)
 |[],[],[],_,_=>trivial
 |m::A,p::f,q::g,h,d=>by
  rw[Κ];refine⟨⟨λc=>?_,λc=>?_,?_,?_⟩,FairL.mix e i h.2 d.2⟩
  ·rw[h.1.1 c,d.1.1 c];grind
  ·rw[h.1.2.1 c,d.1.2.1 c];grind
  ·have j:=h.1.2.2.1;have k:=d.1.2.2.1;have:=Ν (show 0<=1-t by grind) (show 0<=p+(m.2.2:θ) by grind);have:=Ν e (show 0<=q+(m.2.2:θ) by grind);grind
  ·have j:=h.1.2.2.2;have k:=d.1.2.2.2;have:=Ν (show 0<=1-t by grind) (show 0<=(m.2.2:θ)-p by grind);have:=Ν e (show 0<=(m.2.2:θ)-q by grind);grind
theorem qU(r:Mk->θ):∀(left:χ)(A:ε Mk),0<=left->(∀m∈A,1<=m.2.2)->FairL r A (tR<|oW r left A)
 |_,[],_,_=>trivial
 |left,m::A,h,hw=>by
  have d:=hw m υ;obtain⟨f,g⟩:=Ku (r:=r) h d;refine⟨?_,qU r _ A ‹33› λx e=>hw x<|ο _ e⟩;have i:(1:θ)<=(m.2.2:θ):=bh.mpr d;unfold rC kS;by_cases c:0<r m
  ·have a:r m≠0:=‹41›
   rw[ρ c,ι a,rz];exact⟨λ_=>rfl,λz=>by grind,by grind,au⟩
  ·rw[ι c];by_cases a:r m=0
   ·rw[ρ a];have b:-m.2.2<=-m.2.2+(if 2*m.2.2<left then 2*m.2.2 else left)/\-m.2.2+(if 2*m.2.2<left then 2*m.2.2 else left)<=m.2.2:=by split <;>lia
    refine⟨λz=>ψ z c,λz=>by grind,?_,?_⟩
    ·rw[<-ee];exact bh.mpr b.1
    ·exact bh.mpr b.2
   ·rw[ι a,rz];refine⟨λz=>ψ z c,λ_=>ee _,?_,?_⟩
    ·show -(m.2.2:θ)<=((-m.2.2:χ):θ);rw[ee];exact au
    ·show((-m.2.2:χ):θ)<=(m.2.2:θ);rw[ee];grind
def iQ(f:Mk->θ)(A:ε Mk)(a:ε θ):θ:=tot<|af (λm p=>f m*p) A a
theorem dZ(f:Mk->θ)(m:Mk)(A:ε Mk)(p:θ)(a:ε θ):iQ f (m::A) (p::a)=f m*p+iQ f A a:=rfl
theorem Qu(c:r m≠0):dv r g m=-(g m*(kS r m:θ)):=by
 unfold dv kS;by_cases a:0<r m
 ·rw[ρ a,ρ a];grind
 ·rw[ι a,ι a,ρ<|by grind,ee];grind
theorem aAs(c:r m=0):dv r g m=(m.2.2:θ)*aM (g m):=by
 unfold dv;rw[ι<|by grind,ι<|by grind]
theorem Mx(c:r m=0):kS r m=-m.2.2:=by
 unfold kS;rw[ι<|by grind]
theorem Ak{r pl:Mk->θ}:∀{A:ε Mk},(∀m∈A,1<=m.2.2)->(∀m∈A,x<=pl m)->iQ (λm=>pl m-x) A (tR<|oW r 0 A)=-tot (A.map<|dv r λm=>pl m-x)
 |[],_,_=>by show(0:θ)=-0;grind
 |m::A,hw,h=>by
  have b:=Ak (r:=r) (pl:=pl) (x:=x) (A:=A) (λy a=>hw y<|ο _ a) λy a=>h y<|ο _ a;have d:=h m υ;have f:=hw m υ;have u:rC r 0 m=0:=by
   unfold rC;split
   ·rw[ι<|by lia]
   ·rfl
  have e:tR (oW r 0<|m::A)=(kS r m:θ)::tR (oW r 0 A):=by
   rw[oW,u,rz,zx];rfl
  rw[e,dZ,b,Μ,tot];by_cases c:r m=0
  ·rw[aAs c,Mx c,bU<|show 0<=pl m-x by grind,ee];grind
  ·rw[Qu c];grind
theorem wS{r pl:Mk->θ}:∀{A:ε Mk}{left:χ}{c:θ},0<=left->(∀m∈A,1<=m.2.2)->A.Pairwise (λa b=>pl a<pl b)->(∀m∈A,c<=pl m)->∃x,c<=x/\iQ (λm=>pl m-x) A (tR<|oW r left A)=-tot (A.map<|dv r λm=>pl m-x)
 |[],left,c,_,_,_,_=>⟨c,au,by show(0:θ)=-0;grind⟩
 |m::A,left,c,h,hw,n,k=>by
  have i:∀y∈A,1<=y.2.2:=λy g=>hw y<|ο _ g;have p:=hw m υ;have o:=k m υ;have f:=fv.mp n;have e:tR (oW r left (m::A))=((kS r m+rC r left m:χ):θ)::tR (oW r (left-rC r left m) A):=rfl;rw[e];by_cases z:r m=0
  ·by_cases d:2*m.2.2<left
   ·have u:rC r left m=2*m.2.2:=by unfold rC;rw[ρ z,ρ d]
    rw[u];obtain⟨x,l,j⟩:=wS (r:=r) (pl:=pl) (A:=A) (left:=left-2*m.2.2) (c:=pl m) (by lia) i f.2 λy g=>cq<|f.1 y g;refine⟨x,‹43›,?_⟩;rw[dZ,j,Μ,tot,aAs z,Mx z,cV<|show pl m-x<=0 by grind,show -m.2.2+2*m.2.2=m.2.2 by exact 48];grind
   ·have u:rC r left m=left:=by unfold rC;rw[ρ z,ι d]
    rw[u,Int.sub_self];refine⟨pl m,o,?_⟩;rw[dZ,Ak i λy g=>cq<|f.1 y g,Μ,tot,aAs z,show pl m-pl m=0 by grind,bU (q:=0) au];grind
  ·have u:rC r left m=0:=by unfold rC;rw[ι z]
   rw[u,rz,zx];obtain⟨x,l,j⟩:=wS (r:=r) (pl:=pl) (A:=A) (left:=left) (c:=c) h i f.2 λy g=>k y<|ο _ g;refine⟨x,l,?_⟩;rw[dZ,j,Μ,tot,Qu z];grind
theorem Jv(f:Mk->θ)(x:θ):∀{A:ε Mk}{a:ε θ},a.length=A.length->iQ (λm=>f m-x) A a=iQ f A a-x*tot a
 |[],[],_=>by show(0:θ)=0-x*0;grind
 |m::A,p::a,h=>by
  rw[dZ,dZ,Jv f x<|by simpa using h,tot];grind
theorem Kx:∀a:ε χ,tot (tR a)=(a.sum:θ)
 |[]=>rfl
 |n::a=>by
  have e:tR (n::a)=(n:θ)::tR a:=rfl;rw[e,tot,Kx a,y4,j0]
theorem Nc(r:Mk->θ):∀A:ε Mk,tot (A.map<|dv r λ_=>1)=-(cU r A:θ)/\tot (A.map<|dv r λ_=>-1)=(cU r A:θ)+2*(lT r A:θ)
 |[]=>⟨by show(0:θ)=-((0:χ):θ);grind,by show(0:θ)=((0:χ):θ)+2*((0:χ):θ);grind⟩
 |m::A=>by
  obtain⟨a,b⟩:=Nc r A;rw[Μ,Μ,tot,tot,a,b,cU,lT,j0,j0];by_cases c:r m=0
  ·rw[aAs c,aAs c,Mx c,ρ c,bU (q:=1)<|by decide,cV (q:=-1)<|by decide,ee];exact⟨by grind,by grind⟩
  ·rw[Qu c,Qu c,ι c];exact⟨by grind,by grind⟩
theorem Jr{A:ε Mk}(hw:∀m∈A,1<=m.2.2)(l:A.Pairwise λa b=>pl a<pl b)(h:∀p q,0<=tot (A.map<|dv r λm=>p+q*pl m)):
  0<=-cU r A/\tot (tR<|oW r (-cU r A) A)=0/\iQ pl A (tR<|oW r (-cU r A) A)<=0:=by
 obtain⟨n,o⟩:=Nc r A;have s:(λm:Mk=>(1:θ)+0*pl m)=λ_=>1:=by funext m;grind
 have t:(λm:Mk=>(-1:θ)+0*pl m)=λ_=>-1:=by funext m;grind
 have i:=h 1 0;have f:=h (-1) 0;rw[s,n,<-ee]at i;rw[t,o]at f;have g:0<=-cU r A:=hF.mp i;have u:-cU r A<=2*lT r A:=by
  have e:(cU r A:θ)+2*(lT r A:θ)=((cU r A+2*lT r A:χ):θ):=by rw[j0,ae];rfl
  rw[e]at f;have:=hF.mp f;lia
 have j:tot (tR<|oW r (-cU r A) A)=0:=by
  rw[Kx,Ea r _ _ g hw];have:cU r A+(if 2*lT r A< -cU r A then 2*lT r A else -cU r A)=0:=by
   rw[ι<|by lia];exact 48
  rw[this];rfl
 refine⟨g,j,?_⟩;obtain⟨c,v⟩:∃c:θ,∀m∈A,c<=pl m:=by
  clear h i f n o g u j hw
  induction A with
  |nil=>exact⟨0,λ_ h=>nomatch h⟩
  |cons m A B=>
   have k:=fv.mp l;refine⟨pl m,λx d=>?_⟩;rcases Υ.mp d with rfl|d
   ·exact au
   ·exact cq<|k.1 x d
 obtain⟨x,_,d⟩:=wS (r:=r) g hw l v;have y:=h (-x) 1;have z:(λm:Mk=>-x+1*pl m)=λm=>pl m-x:=by funext m;grind
 rw[z]at y;rw[Jv pl x (by unfold tR;rw[η,Eb]),j]at d;grind
def gK(l:Ln)(a:ε Mk):ε θ:=tR<|oW (rr l) (-cU (rr l) a) a
def jL(l:Ln)(a:ε Mk):ε θ:=(tR<|oW (rr l) (-cU (rr l) a.reverse) a.reverse).reverse
def lV(a:ε Mk)(b:ε θ):θ:=iQ (·.1) a b
def Cd(l:Ln)(c:ε Mk):ε θ:=if lV c (gK l c)=lV c (jL l c)then gK l c else af (λa b=>a+(lV c (gK l c)/(lV c (gK l c)-lV c (jL l c)))*(b-a)) (gK l c) (jL l c)
theorem Jy(f:Mk->θ):∀{A:ε Mk}{a:ε θ},a.length=A.length->iQ f (A++B) (a++b)=iQ f A a+iQ f B b
 |[],[],_=>by show _=(0:θ)+_;rw[vR];rfl
 |m::A,p::a,h=>by
  rw[fi,fi,dZ,dZ,Jy f<|by simpa using h,ze]
theorem Jw(f:Mk->θ):∀{A:ε Mk}{ps:ε θ},ps.length=A.length->iQ f A.reverse ps.reverse=iQ f A ps
 |[],[],_=>rfl
 |m::A,p::ps,h=>by
  have a:ps.length=A.length:=by simpa using h
  rw[iq,iq,Jy f (by rw[kb,kb];exact a),Jw f a];show iQ f A ps+(f m*p+0)=f m*p+iQ f A ps;grind
theorem Jx(f:Mk->θ):∀(A:ε Mk)(a:ε θ),iQ (λm=>-f m) A a=-iQ f A a
 |[],_=>by show(0:θ)=-0;grind
 |m::A,[]=>by show(0:θ)=-0;grind
 |m::A,p::a=>by rw[dZ,dZ,Jx f A a];grind
theorem wY(f:Mk->θ)(t:θ):∀{A:ε Mk}{c d:ε θ},c.length=A.length->d.length=A.length->iQ f A (af (λa b=>a+t*(b-a)) c d)=iQ f A c+t*(iQ f A d-iQ f A c)
 |[],[],[],_,_=>by show(0:θ)=0+t*(0-0);grind
 |m::A,p::c,q::d,h,e=>by
  rw[Κ,dZ,dZ,dZ,wY f t (by simpa using h)<|by simpa using e];grind
theorem tL:∀{A:ε Mk}{a:ε θ},a.length=A.length->tot a=iQ (λ_=>1) A a
 |[],[],_=>rfl
 |m::A,p::a,h=>by
  rw[dZ,tot,tL (A:=A)<|by simpa using h];grind
structure LnOk(ms:ε Mk)(l:Ln)(ps:ε θ):Prop where
 fair:FairL (rr l) ms ps
 tot0:tot ps=0
 trn0:lV ms ps=0
theorem Xx(hw:∀m∈d,1<=m.2.2)(p:d.Pairwise λa b=>a.1<b.1)(h:∀a b,FS d l<=FS d (a,b)):
  FairL (rr l) d (gK l d)/\FairL (rr l) d (jL l d)/\LnOk d l (Cd l d)/\0<=-cU (rr l) d/\0<=-cU (rr l) d.reverse:=by
 have q:=aOh h;obtain⟨s,B,C⟩:=Jr (r:=rr l) (pl:=λm=>m.1) hw p q;have f:∀m∈d.reverse,1<=m.2.2:=λm D=>hw m<|ng.mp D
 obtain⟨u,E,F⟩:=Jr (r:=rr l) (pl:=λm=>-m.1) (A:=d.reverse) f (by
   rw[List.pairwise_reverse]
   exact p.imp λh=>by grind) (λi j=>by
   have G:=q i<|-j
   have e:(λm:Mk=>i+j*-m.1)=λm=>i+-j*m.1:=by funext m;grind
   rw[e,lY<|(wb d).map _]
   exact G)
 have g:FairL (rr l) d (gK l d):=qU _ _ _ s hw;have k:FairL (rr l) d (jL l d):=by
  have:=(qU (rr l) _ _ u f).rev
  rwa [t9]at this
 have n:=g.len;have o:=k.len;have O:lV d (gK l d)<=0:=C;have v:tot (gK l d)=0:=B;have H:tot (jL l d)=0:=by
  unfold jL;rw[lY<|wb _];exact E
 have R:0<=lV d (jL l d):=by
  have e:=Jw (λm=>-m.1) (A:=d.reverse) (ps:=tR<|oW (rr l) (-cU (rr l) d.reverse) d.reverse) (by unfold tR;rw[η,Eb]);rw[t9]at e;have I:iQ (λm:Mk=>-m.1) d (jL l d)<=0:=by
   unfold jL;rw[e];exact F
  rw[Jx λm=>m.1]at I;show 0<=iQ (λm=>m.1) d (jL l d);grind
 refine⟨g,k,?_,s,u⟩;unfold Cd;by_cases c:lV d (gK l d)=lV d (jL l d)
 ·rw[ρ c];exact⟨g,v,by grind⟩
 ·rw[ι c];have J:lV d (gK l d)-lV d (jL l d)≠0:=λz=>c (by grind);obtain⟨t,x⟩:∃t,lV d (gK l d)/(lV d (gK l d)-lV d (jL l d))=t:=⟨_,rfl⟩;have L:t*(lV d (gK l d)-lV d (jL l d))=lV d (gK l d):=by rw[<-x];exact gj J
  rw[x];have M:0<=t:=jk.mp λz=>by
   have:=gu (show 0< -t by grind) (show 0<lV d (jL l d)-lV d (gK l d) by grind);grind
  have N:t<=1:=jk.mp λz=>by
   have:=gu (show 0<t-1 by grind) (show 0<lV d (jL l d)-lV d (gK l d) by grind);grind
  have y:=FairL.mix M N g k;refine⟨y,?_,?_⟩
  ·rw[tL y.len,wY _ t n o,<-tL n,<-tL o,v,H];grind
  ·unfold lV at L⊢;rw[wY _ t n o];grind
structure LSz(L:π)(ms:ε Mk):Prop where
 n1:1<=ms.length
 n60:ms.length<=60
 L0:0<L
 L1:L<=10^100
 x:∀m∈ms,Cm L (10^100) m.1
 y:∀m∈ms,Cm L (10^100) m.2.1
 w:∀m∈ms,1<=m.2.2/\m.2.2<=10^100
 up:ms.Pairwise λa b=>a.1<b.1
section
variable{L:π}{ms:ε Mk}
theorem LSz.ne(Z:LSz L ms):ms≠[]:=ug.mp Z.n1
theorem LSz.nd(Z:LSz L ms):(ms.map (·.1)).Nodup:=by
 rw[er,iu];exact Z.up.imp λh=>‹42›
theorem LSz.w1(Z:LSz L ms):∀m∈ms,1<=m.2.2:=λm h=>(Z.w m h).1
theorem LSz.xd(Z:LSz L ms)(h:m∈ms):Dg 201 m.1:=(Z.x m h).dg Z.L0 Z.L1 (b:=100)<|ω _
theorem LSz.yd(Z:LSz L ms)(h:m∈ms):Dg 201 m.2.1:=(Z.y m h).dg Z.L0 Z.L1 (b:=100)<|ω _
theorem LSz.dx(Z:LSz L ms)(h:m∈ms)(g:o∈ms):Cm L (2*10^100) (o.1-m.1):=((Z.x o g).sub<|Z.x m h).mono (dA _) ‹48›
theorem LSz.dxd(Z:LSz L ms)(h:m∈ms)(g:o∈ms):Dg 202 (o.1-m.1):=(Z.dx h g).dg Z.L0 Z.L1 (b:=101) (by decide +kernel)
theorem LSz.dyd(Z:LSz L ms)(h:m∈ms)(g:o∈ms):Dg 202 (o.2.1-m.2.1):=(((Z.y o g).sub<|Z.y m h).mono (dA _)<|show 10^100+10^100<=2*10^100 by exact 48).dg Z.L0 Z.L1 (b:=101) (by decide +kernel)
theorem LSz.slp(Z:LSz L ms)(h:m∈ms)(g:o∈qF ms m):Dg 405 (slp m o).1:=by
 obtain⟨a,b⟩:=ku.mp g;have c:o.1≠m.1:=fb b;exact(Z.dyd h a).div (Z.dxd h a) (λz=>c<|by grind)
theorem nG(Z:LSz L ms)(h:m∈ms):Dg 405 (cJ ms m).2/\(cJ ms m).1=m.2.1-(cJ ms m).2*m.1:=by
 unfold cJ;by_cases c:qF ms m=[]
 ·rw[ρ c];exact⟨Dg.zero,by grind⟩
 ·rw[ι c];refine⟨?_,rfl⟩;refine qq0 λqq2=>?_;obtain⟨z,a,e⟩:=(mQ (by simpa using c)<|pO (m:=m) Z.w1).mem;obtain⟨o,b,rfl⟩:=Β.mp a;refine qq2 ?_;show Dg 405 (Tp _);rw[<-e];exact Z.slp h b
structure LnSz(L:π)(ms:ε Mk)(l:Ln):Prop where
 s:Dg 405 l.2
 a:Dg 809 l.1
 c:∃D:π,0<D/\D<=10^405/\∀o∈ms,Cm (D*L) (10^506)<|l.1+l.2*o.1
theorem tZ(Z:LSz L ms)(h:m∈ms)(s:Dg 405 l.2)(e:l.1=m.2.1-l.2*m.1):LnSz L ms l:=by
 have a:Cm l.2.den (10^405) l.2:=Cm.of (dA _)<|Α s.n<|gg _<|dX l.2.den_nz;refine⟨s,?_,l.2.den,dX l.2.den_nz,s.d,λo b=>?_⟩
 ·rw[e];exact((Z.yd h).sub<|s.mul<|Z.xd h).mono (by decide)
 ·have c:l.1+l.2*o.1=m.2.1+l.2*(o.1-m.1):=by rw[e];grind
  rw[c];exact(((Z.y m h).mono (iv _ _)<|ω _).add<|a.mul<|Z.dx h b).mono (dA _) (by decide +kernel)
theorem Zx(a b x:θ):bY [a,b] x=a+b*x:=by
 rw[bN,bN,eQ];grind
theorem LnSz.msz(Z:LSz L ms)(h:LnSz L ms l):∃M:π,MSz M (10^506) (10^100) 505 506 100 ms (ms.map λm=>bY [l.1,l.2] m.1):=by
 refine qq0 λqq2=>?_;obtain⟨D,b,c,d⟩:=h.c;refine qq2 ?_;refine⟨D*L,Z.n60,fq b Z.L0,?_,ω _,ω _,λm a=>((Z.y m a).mono (iv _ _)<|mB<|by decide),λq e=>?_,λm a=>by have:=Z.w m a;lia,by decide⟩
 ·exact Α (Τ c Z.L1) (by decide +kernel)
 ·obtain⟨m,a,rfl⟩:=Β.mp e;rw[Zx];exact d m a
theorem Fa(f:Mk->θ):∀ms:ε Mk,cI ms (ms.map f)=ms.map λm=>(m.2.2:θ)*(m.2.1-f m)
 |[]=>rfl
 |m::ms=>by
  have a:=Fa f ms;unfold cI bM at a⊢;rw[Μ,Μ,Κ,Κ,a]
theorem wG(f:Mk->θ):∀ms:ε Mk,bM ms (ms.map f)=ms.map λm=>m.2.1-f m
 |[]=>rfl
 |m::ms=>by
  have a:=wG f ms;unfold bM at a⊢;rw[Μ,Μ,Κ,a]
theorem Rx(hw:∀m∈ms,1<=m.2.2)(l:Ln):dS "sum" ms (ms.map λm=>bY [l.1,l.2] m.1)=FS ms l:=by
 unfold dS FS;rw[ι<|by decide,ρ rfl,Fa,ia]
 congr 1
 refine df λm a=>?_;show aM ((m.2.2:θ)*(m.2.1-bY [l.1,l.2] m.1))=_;rw[xM,Zx,bU<|hF.mpr (by have:=hw m a;exact 36)];rfl
theorem Rs(Z:LSz L ms):LnSz L ms (fU ms):=by
 obtain⟨m,a,e⟩:=Be Z.ne;obtain⟨b,c⟩:=nG Z a;rw[e];exact tZ Z a b c
theorem aCn(Z:LSz L ms)(a b:θ):FS ms (fU ms)<=FS ms (a,b):=Nk Z.ne Z.w1 Z.nd a b
theorem xJ(Z:LSz L ms):FairL (rr<|fU ms) ms (gK (fU ms) ms)/\FairL (rr<|fU ms) ms (jL (fU ms) ms)/\LnOk ms (fU ms) (Cd (fU ms) ms)/\0<=-cU (rr<|fU ms) ms/\0<=-cU (rr<|fU ms) ms.reverse:=Xx Z.w1 Z.up<|aCn Z
end
theorem Hf(m:Mk):∀a:ε Mk,(a.flatMap λo:Mk=>if o.1=m.1 then[]else[o])=qF a m
 |[]=>rfl
 |o::a=>by
  unfold qF;rw[v8,Hf m a];by_cases c:o.1=m.1
  ·rw[ρ c,ip<|by simpa using c];rfl
  ·rw[ι c,gv<|by simpa using c];rfl
theorem yN(f:Mk->θ):∀a:ε Mk,a.zip (a.map f)=a.map λm=>(m,f m)
 |[]=>rfl
 |m::a=>by rw[Μ,ka,yN f a];rfl
theorem Ks(f:Mk->θ)(b:ε Mk)(a:ε θ):(b.zip a).map (λz=>f z.1*z.2)=af (λm p=>f m*p) b a:=by
 induction b generalizing a with
 |nil=>rfl
 |cons m b c=>cases a with
  |nil=>rfl
  |cons p a=>rw[ka,Μ,Κ,c]
def aDl:DW:=λb Q _=>∃(a:ε Mk)(m:Mk)(L:π),b=[.list<|a.map cP,cP m]/\LSz L a/\m∈a/\Q (.own [fr (cJ a m).1,fr (cJ a m).2])
theorem Lw:Q 5 30 (λ_=>aDl):=by
 refine fH 30 ["marks","mark","others","ways","slopes","weights","slope"] λA T R Z=>⟨_,by walk_at"t",_,(aH (aZ 2 (bS [ν,γ 1] ["other","mark"] (cE (aL 0)) (aG 0) (tO hX (aC (eX 0 0)) (aC (eX 0 1))) (bE 0)))
   (aH (bF (tO cR (aC (bQ cT (vN 2 aB))) bI) (dW (dG (aI (eX 1 1) (aI (qT T.k_NOUGHT) aQ)))) aP)
   (aH (aZ 3 (bS [ν,γ 1] ["other","mark"] (cE (aL 2)) (aG 0) bV (aE (vE (eX 0 0) (vE (eX 0 1) aB)))))
   (aH (aZ 4 (bS [ν,ν,γ 1] ["other","way","mark"] (fM (aL 2) (aL 3)) (eB (aW (aG 0) (aW (aG 1) dO))) bV (aE (vE (aE (vE (eX 1 0) (vE (eX 1 2) aB))) (vN 1 aB)))))
   (aH (aZ 5 (bS [ν,ν] ["other","way"] (fM (aL 2) (aL 3)) (eB (aW (aG 0) (aW (aG 1) dO))) bV (aE (vE (cH (aI (eX 2 0) (aI aU aQ))) (vE (aE (vN 1 aB)) aB)))))
   (sA 6 (aE (vN 4 (vN 5 aB))) (dW (dG (aI (aE (vE (eX 1 1) (vE (aE (vN 6 (vE (eX 0 1) aB))) aB))) (aI (bE 6) aQ)))))))))),?_⟩
 intro ds Q X qQ0;refine qq0 λqq2=>?_;obtain⟨D,m,L,rfl,Z,f,k⟩:=qQ0;refine qq2 ?_;clear qq2;have E:=Z.n60;walk_at"s";refine bL cP cP (λo:Mk=>if o.1=m.1 then[]else[o]) D ‹1› (λQ h=>h) (λo h N p g=>?_) ?_
 ·walk_at"d";refine⟨θ,eRat,o.1,m.1,rfl,rfl,λv y=>?_⟩;cases v with
  |true=>
   rw[ρ<|y.mp rfl]at g;simpa using g
  |false=>
   rw[ι (λz=>by have:=y.mpr z;cases this)]at g;simpa using g
 rw[Hf];obtain⟨a,b⟩:∃a,qF D m=a:=⟨_,rfl⟩;have H:a.length<=60:=by
  rw[<-b];exact Α (List.length_filter_le _ _) E
 have t:∀o∈a,o∈D/\o.1≠m.1:=λo d=>by
  rw[<-b]at d;obtain⟨j,C⟩:=ku.mp d;exact⟨j,fb C⟩
 rw[b];walk_at"s";refine bW (λc=>?_) λc=>?_
 ·have e:a=[]:=gq.mp (by simpa using c);unfold cJ at k;rw[b,ρ e]at k;walk_at"d";exact k
 have F:a≠[]:=λz=>c (by rw[z];rfl);unfold cJ at k;rw[b,ι F]at k;walk_at"s";refine bL cP fr (λo:Mk=>[o.1-m.1]) a ‹1› (λQ h=>by walk_at"d";exact h) (λo h N p g=>?_) ?_
 ·walk_at"d";refine⟨_,_,rfl,cA<|Z.xd (t o h).1,cA<|Z.xd f,?_⟩;walk_at"d";exact g
 rw[aN];obtain⟨r,s⟩:∃r,(a.map λo=>o.1-m.1)=r:=⟨_,rfl⟩;have u:a.zip r=a.map λo=>(o,o.1-m.1):=by rw[<-s,yN]
 rw[s];walk_at"s";refine bL (λz:Mk×θ=>ay [cP z.1,fr z.2]) fr (λz:Mk×θ=>[(z.1.2.1-m.2.1)/z.2]) (a.zip r) (by rw[dR];exact 50) (λQ h=>by walk_at"d";rw[cK];exact h) (λz l N p g=>?_) ?_
 ·rw[u]at l;refine qq0 λqq2=>?_;obtain⟨o,d,rfl⟩:=Β.mp l;obtain⟨j,C⟩:=t o d;refine qq2 ?_;clear qq2;walk_at"d";refine⟨_,_,rfl,cA<|Z.yd j,cA<|Z.yd f,?_⟩;walk_at"d";refine⟨_,_,rfl,cA<|Z.dyd f j,cA<|Z.dxd f j,λz=>ψ z λz=>C<|by grind,λ_=>?_⟩;walk_at"d";exact g
 have I:(a.zip r).map (λz:Mk×θ=>(z.1.2.1-m.2.1)/z.2)=a.map λo=>(slp m o).1:=by rw[u,ia];rfl
 rw[aN,I];walk_at"s";refine bL (λz:Mk×θ=>ay [cP z.1,fr z.2]) fr (λz:Mk×θ=>[(z.1.2.2:θ)*aM z.2]) (a.zip r) (by rw[dR];exact 50) (λQ h=>by walk_at"d";rw[cK];exact h) (λz l N p g=>?_) ?_
 ·rw[u]at l;refine qq0 λqq2=>?_;obtain⟨o,d,rfl⟩:=Β.mp l;obtain⟨j,C⟩:=t o d;refine qq2 ?_;clear qq2;walk_at"d";refine⟨_,rfl,?_⟩;walk_at"d";refine⟨(o.2.2:θ),_,rfl,cA<|Dg.int (n:=100) (by have:=Z.w o j;lia),cA (Z.dxd f j).abs<|by decide,?_⟩;walk_at"d";exact g
 have J:(a.zip r).map (λz:Mk×θ=>(z.1.2.2:θ)*aM z.2)=a.map λo=>(slp m o).2:=by rw[u,ia];rfl
 rw[aN,J];walk_at"s";have S:(a.map λo=>(slp m o).1).zip (a.map λo=>(slp m o).2)=a.map (slp m):=by
  clear b H t c F k I J s u
  induction a with
  |nil=>rfl
  |cons o a U=>rw[Μ,Μ,Μ,ka,U]
 have M:∀z∈a.map (slp m),0<z.2:=by rw[<-b];exact pO Z.w1
 refine⟨a.map λo=>(slp m o).1,a.map λo=>(slp m o).2,L,rfl,Z.L0,Α Z.L1<|mB<|by decide,by rw[η,η],by rw[η];exact ug.mpr F,by rw[η];exact H,λq W=>?_,λv y=>?_,λx G=>?_⟩
 ·obtain⟨o,d,rfl⟩:=Β.mp W;exact cA<|Z.slp f (by rw[b];exact d)
 ·obtain⟨o,d,rfl⟩:=Β.mp y;refine⟨M _<|Β.mpr ⟨o,d,rfl⟩,?_⟩;have j:=(Cm.int (i:=o.2.2) (B:=10^100) (by have:=Z.w o (t o d).1;lia)).mul (Z.dx f (t o d).1).abs;exact j.mono (by rw[jc];exact dA _) (by decide +kernel)
 rw[S]at G;have Y:=Py (λz l=>by have:=M z l;exact 40) G;rw[Y]at k;have O:Dg 405 x:=by
  obtain⟨z,l,e⟩:=G.mem;obtain⟨o,d,rfl⟩:=Β.mp l;rw[<-e];exact Z.slp f (by rw[b];exact d)
 walk_at"d";refine⟨_,_,rfl,cA O,cA<|Z.xd f,?_⟩;walk_at"d";refine⟨_,_,rfl,cA<|Z.yd f,cA<|O.mul<|Z.xd f,?_⟩;walk_at"d";exact k
theorem zO{b:Type}(f g:b->μ):∀a:ε b,pairD (a.map f) (a.map g)=a.map λx=>ay [f x,g x]
 |[]=>by simp[Dl.pairD]
 |x::a=>by
  have:=zO f g a;simp[Dl.pairD,this]
theorem Fp{b:Type}(f g h:b->μ):∀a:ε b,triD (a.map f) (a.map g) (a.map h)=a.map λx=>ay [f x,g x,h x]
 |[]=>by simp[Dl.triD]
 |x::a=>by
  have:=Fp f g h a;simp[Dl.triD,this]
theorem sL(q:θ):0<q.num↔0<q:=by
 have a:=@ma<|-q;have b:(-q).num=-q.num:=rfl;rw[b]at a;have c:(0<=-q)↔¬0<q:=by rw[jk];constructor <;>intro <;>grind
 rw[c]at a;constructor
 ·intro h;exact h8.mp λz=>by have:=a.mpr z;lia
 ·intro h;exact Int.not_le.mp λz=>ψ h (a.mp<|by lia)
def frI(n:χ):μ:=fr (n:θ)
def aQs:DW:=λb Q _=>∃(a:ε Mk)(r:Mk->θ),b=[.list<|a.map cP,.list<|a.map λm=>fr<|r m]/\a.length<=60/\(∀m∈a,1<=m.2.2/\m.2.2<=10^100)/\Q (.own<|(tR<|oW r (-cU r a) a).map fr)
theorem vX:Q 1 33 (λ_=>aQs):=by
 refine fH 33 ["marks","misses","fixed","left","pulls","mark","miss","pull","raised"] λA T R Z=>⟨_,by walk_at"t",_,(aH (aZ 2 (bS [ν,ν] ["mark","miss"] (fM (aL 0) (aL 1)) (eB (aW (aG 0) (aW (aG 1) dO))) bV (aAp (tO eW (aC (eX 0 1)) bI) (eX 2 0) (iA (aC (eX 2 0))))))
   (sA 3 (iA (aC (bQ aLs (vN 2 aB)))) (aH (aZ 4 (dG aQ))
   (aH (nX 2 (eA (Ds (bE 0) (bE 1) (bE 2)) (eB (aW (aG 5) (aW (aG 6) (aW (aG 7) dO))))
    (nY (eL (aAp (tO mK (aF 6) (aC (qT T.k_NOUGHT))) (bQ Lg (vN 3 (vE (bZ dQ bI (aC (eX 2 5))) aB))) aU) (aG 8))
   (sA 3 (bZ cN (aF 3) (aF 8)) (nZ 4 (cH (aI (bZ cN (aF 7) (aF 8)) (aI aU aQ))))))))
   (dU 4))))),?_⟩
 intro D Q X qQ0;refine qq0 λqq2=>?_;obtain⟨a,r,rfl,y,hw,k⟩:=qQ0;refine qq2 ?_;walk_at"s"
 refine bL (λm:Mk=>ay [cP m,fr (r m)]) ep (λm:Mk=>[kS r m]) a ‹1› (λQ h=>by
   walk_at"d"
   rw[zO];exact h) (λm h N B j=>?_) ?_
 ·walk_at"d";unfold kS at j;refine bW (λc=>?_) (λc=>?_)
  ·rw[ρ<|(sL _).mp c]at j;exact j
  ·rw[ι λz=>c<|(sL _).mpr z]at j;exact j
 rw[aN];walk_at"s";refine⟨a.map<|kS r,rfl,?_⟩;rw[Ai];walk_at"s";generalize E:-cU r a=L0 at *
 refine cW (eJ (λm:Mk=>ay [cP m,fr (r m),.int (kS r m)]) a (λQ h=>by
   walk_at"d"
   rw[ia,Fp];exact h)
  (λi e=>∃(left:χ)(d:ε χ)(l o p q:Θ Sl),e=[γ<|.dat<|.list<|a.map cP,γ<|.dat<|.list<|a.map λm=>fr<|r m,γ<|.dat<|.list<|(a.map<|kS r).map .int,γ<|.dat<|.int left,γ<|.own<|d.map frI,l,o,p,q]/\oW r L0 a=d++oW r left (a.drop i)/\d.length=i)
  ⟨L0,[],_,_,_,_,rfl,rfl,rfl⟩ ?_ ?_)
 ·intro i m e s qQ0;refine qq0 λqq2=>?_;obtain⟨left,d,l,o,p,q,rfl,f,v⟩:=qQ0;refine qq2 ?_;have t:=(Δ.mp s).1;have F:=hw m<|Ω s;have C:a.drop i=m::a.drop (i+1):=by
   rw[gm t]
   congr 1
   exact(Δ.mp s).2
  rw[C,oW]at f;obtain⟨u,g⟩:∃u,rC r left m=u:=⟨_,rfl⟩;rw[g]at f;walk_at"d";refine oU (λe=>e=[γ<|.dat<|.list<|a.map cP,γ<|.dat<|.list<|a.map λm=>fr<|r m,γ<|.dat<|.list<|(a.map<|kS r).map .int,γ<|.dat<|.int left,γ<|.own<|d.map frI,γ<|.dat<|cP m,γ<|.dat<|fr<|r m,γ<|.dat<|.int<|kS r m,γ<|.dat<|.int u]) ?_ ?_
  ·walk_at"d";refine⟨θ,eRat,r m,0,rfl,rfl,λb x=>?_⟩;unfold rC at g;cases b with
   |true=>
    rw[ρ<|x.mp rfl]at g;walk_at"d";refine⟨dJ (Sa)<|fR (n:=10^100)<|by lia,?_⟩;rw[g]
   |false=>
    rw[ι (λz=>by have:=x.mpr z;cases this)]at g;walk_at"d";rw[g]
  rintro e rfl;walk_at"s";refine⟨by lia,left-u,d++[kS r m+u],_,_,_,_,by rw[bu];rfl,by rw[f,bx];rfl,by rw[Λ,v];rfl⟩
 ·intro e qQ0;refine qq0 λqq2=>?_;obtain⟨left,d,l,o,p,q,rfl,f,v⟩:=qQ0;refine qq2 ?_;rw[xp,oW,j2]at f;walk_at"d";rw[<-f];unfold tR at k;rw[ia]at k;exact k
theorem mT{A:ε Mk}(h:0<=left)(hw:∀m∈A,1<=m.2.2/\m.2.2<=10^100):∀p∈tR (oW r left A),Cm 1 (10^100) p:=by
 have g:∀(A:ε Mk)(left:χ),0<=left->(∀m∈A,1<=m.2.2/\m.2.2<=10^100)->∀n∈oW r left A,n.natAbs<=10^100:=λA=>by
  induction A with
  |nil=>intro left _ _ n h;exact nomatch h
  |cons m A b=>
   intro left h hw n a;have e:=hw m υ;obtain⟨j,k⟩:=Ku (r:=r) h e.1;rw[oW]at a;rcases Υ.mp a with rfl|a
   ·unfold kS rC;by_cases c:0<r m
    ·rw[ρ c,ι<|show r m≠0 by exact 41];lia
    ·rw[ι c];by_cases d:r m=0
     ·rw[ρ d];split <;>lia
     ·rw[ι d];lia
   ·exact b _ ‹33› (λx f=>hw x<|ο _ f) n a
 intro p i;obtain⟨n,a,rfl⟩:=Β.mp i;exact Cm.int<|g A left h hw n a
theorem Wh(Z:LSz L d)(f:∀p∈e,Cm 1 (10^100) p)(i:π):Cm L (10^202) (tot<|(af (λ(m:Mk) p=>m.1*p) d e).take i):=by
 have h:=Cm.tot (qs:=(af (λ(m:Mk) p=>m.1*p) d e).take i) (L:=L) (B:=10^200) λq g=>by
  have c:=cv g;rw[<-Ks (λm=>m.1)]at c;obtain⟨z,j,rfl⟩:=Β.mp c;obtain⟨k,n⟩:=eh (a:=z.1) (b:=z.2) j;exact((Z.x _ k).mul<|f _ n).mono (by rw[ju];exact dA _) (by decide +kernel)
 have l:((af (λ(m:Mk) p=>m.1*p) d e).take i).length<=60:=by
  rw[ao,ba];have:=Z.n60;exact 50
 exact h.mono (dA _) (Α (Ψ _ l)<|by decide +kernel)
def aQc:DW:=λc Q _=>∃(a:ε Mk)(b:ε θ)(L:π),c=[.list<|a.map cP,.list<|b.map fr]/\LSz L a/\(∀p∈b,Cm 1 (10^100) p)/\Q (.dat<|fr<|lV a b)
theorem Ls:Q 4 32 (λ_=>aQc):=by
 refine fH 32 ["marks","pulls"] λA T R Z=>⟨_,by walk_at"t",_,(bB<|aC<|aE<|vE (cL<|bS [ν,ν] ["mark","pull"] (fM (aL 0)<|aL 1) (eB<|aW (aG 0)<|aW (aG 1) dO) bV<|aE<|vE (eX 0 0)<|vN 1 aB) aB),?_⟩;intro u Q X qQ0;refine qq0 λqq2=>?_;obtain⟨o,f,L,rfl,Z,g,k⟩:=qQ0;refine qq2 ?_;have r:=Z.n60;have j:∀p∈f,Dg 101 p:=λp h=>(g p h).dg (by decide) (l:=0) (by decide) (b:=100)<|ω _;walk_at"d";refine bL (λz:Mk×θ=>ay [cP z.1,fr z.2]) fr (λz:Mk×θ=>[z.1.1*z.2]) (o.zip f) (by rw[dR];exact 50) (λQ h=>by walk_at"d";rw[cK];exact h) (λz c N s t=>?_) ?_
 ·obtain⟨d,e⟩:=eh (a:=z.1) (b:=z.2) c;walk_at"d";refine⟨_,_,rfl,cA<|Z.xd d,cA<|j _ e,?_⟩;walk_at"d";exact t
 rw[aN,Ks λm=>m.1];refine⟨_,rfl,λq n=>?_,λi=>cA<|(Wh Z g i).dg Z.L0 Z.L1 (b:=202)<|ω _,?_⟩
 ·rw[<-Ks (λm=>m.1)]at n;obtain⟨z,c,rfl⟩:=Β.mp n;obtain⟨d,e⟩:=eh (a:=z.1) (b:=z.2) c;exact cA<|(Z.xd d).mul<|j _ e
 walk_at"d";exact k
def aDp:DW:=λb Q _=>∃(a:ε Mk)(l:Ln)(L:π),b=[.list<|a.map cP,.list [fr l.1,fr l.2]]/\LSz L a/\LnSz L a l/\FairL (rr l) a (gK l a)/\(0<=-cU (rr l) a)/\(0<=-cU (rr l) a.reverse)/\Q (.own<|(Cd l a).map fr)
theorem xU:Q 6 31 (λ_=>aDp):=by
 refine fH 31 ["marks","line","misses","early","late","least","greatest","part"] λA T R Z=>⟨_,by walk_at"t",_,(aH (aZ 2 (bH (vN 0 (vE (cL (bH (vN 1 (vN 0 aB)))) aB))))
   (aH (aZ 3 (bH (vN 0 (vN 2 aB))))
   (aH (aZ 4 (Cl (lP (bH (vE (cL (Cl (aL 0) (cS (aC (Jq (v:=(-1)) (iA bI) (λJ O Q h=>Eq.mpr (ea (λz=>Q (.int z)) (by decide +kernel:((-1):χ)=-1)) h)))))) (vE (cL (Cl (aL 2) (cS (aC (Jq (v:=(-1)) (iA bI) (λJ O Q h=>Eq.mpr (ea (λz=>Q (.int z)) (by decide +kernel:((-1):χ)=-1)) h)))))) aB)))) (cS (aC (Jq (v:=(-1)) (iA bI) (λJ O Q h=>Eq.mpr (ea (λz=>Q (.int z)) (by decide +kernel:((-1):χ)=-1)) h))))))
   (sA 5 (aE (vN 0 (vN 3 aB))) (sA 6 (aE (vN 0 (vN 4 aB))) (aH (bF (tO mK (aF 5) (aF 6)) (dU 3) aP)
   (sA 7 (aE (vN 5 (vE (aE (vN 5 (vN 6 aB))) aB))) (dW (bS [ν,ν,γ 7] ["one","other","part"] (fM (aL 3) (aL 4)) (eB (aW (aG 0) (aW (aG 1) dO))) bV (aE (vN 0 (vE (aE (vN 2 (vE (aE (vN 1 (vN 0 aB))) aB))) aB)))))))))))),?_⟩
 intro ds Q X qQ0;refine qq0 λqq2=>?_;obtain⟨c,l,L,rfl,Z,E,fe,f1,f2,k⟩:=qQ0;have s:=Z.n60;obtain⟨M,S⟩:=E.msz Z;refine qq2 ?_;clear qq2;walk_at"s";refine⟨[l.1,l.2],c,809,201,rfl,(show 2<=60 by decide),‹1›,λn U=>?_,λm h=>Z.xd h,(show 2*(809+201+2)<=2300 by decide),?_⟩
 ·simp only[Υ,dV,gz]at U;rcases U with rfl|rfl
  ·exact E.a
  ·exact E.s.mono (by decide)
 walk_at"d";refine⟨bP _,?_⟩;refine⟨c,_,rfl,‹1›,S.hOk,S.rOk,?_⟩;walk_at"d";refine⟨bP _,?_⟩;have em:bM c (c.map λm=>bY [l.1,l.2] m.1)=c.map (rr l):=by
  rw[wG];exact df λm _=>by rw[Zx];rfl
 rw[em];have F:(c.map<|rr l).map fr=c.map λm=>fr (rr l m):=by rw[ia];rfl
 rw[F];walk_at"s";refine⟨c,rr l,rfl,s,Z.w,?_⟩;walk_at"d";refine⟨bP _,?_⟩;walk_at"s";refine⟨c.reverse,rr l,by rw[px,px],by rw[kb];exact s,λm G=>Z.w m<|ng.mp G,?_⟩;walk_at"d";refine⟨bP _,?_⟩;rw[<-px];refine qq0 λqq2=>?_;obtain⟨e,j⟩:∃e,tR (oW (rr l) (-cU (rr l) c) c)=e:=⟨_,rfl⟩;obtain⟨f,o⟩:∃f,(tR<|oW (rr l) (-cU (rr l) c.reverse) c.reverse).reverse=f:=⟨_,rfl⟩;refine qq2 ?_;clear qq2;have q:gK l c=e:=j;have t:jL l c=f:=o;have y:∀p∈e,Cm 1 (10^100) p:=by rw[<-j];exact mT f1 Z.w
 have B:∀p∈f,Cm 1 (10^100) p:=by
  rw[<-o];intro p H;exact mT f2 (λm G=>Z.w m<|ng.mp G) p<|ng.mp H
 rw[j,o];unfold Cd at k;rw[q,t]at k;walk_at"s";refine⟨c,e,L,rfl,Z,y,?_⟩;walk_at"d";walk_at"s";refine⟨c,f,L,rfl,Z,B,?_⟩;walk_at"d";refine qq0 λqq2=>?_;obtain⟨d,u⟩:∃d,lV c e=d:=⟨_,rfl⟩;obtain⟨g,x⟩:∃g,lV c f=g:=⟨_,rfl⟩;refine qq2 ?_;clear qq2;have W:∀{C:ε θ},(∀p∈C,Cm 1 (10^100) p)->Dg 303 (lV c C):=λ{C} H=>by
  have h:=Wh Z H (af (λ(m:Mk) p=>m.1*p) c C).length;rw[kh]at h;exact h.dg Z.L0 Z.L1 (b:=202)<|ω _
 have i:=W y;have r:=W B;rw[u]at k i⊢;rw[x]at k r⊢;walk_at"s";refine⟨θ,eRat,d,g,rfl,rfl,λv Y=>?_⟩;cases v with
 |true=>
  rw[ρ<|Y.mp rfl]at k;walk_at"d";exact k
 |false=>
  have ne:d≠g:=λz=>by have:=Y.mpr z;cases this
  rw[ι ne]at k;have dm:Dg 607 (d-g):=i.sub r;have n0:d-g≠0:=λz=>ne (by grind);have dp:Dg 911 (d/(d-g)):=i.div dm n0;walk_at"d";walk_at"s";refine⟨d,g,rfl,cA i,cA r,?_⟩;walk_at"d";refine⟨_,_,rfl,cA i,cA dm,λz=>ψ z n0,λ_=>?_⟩;walk_at"d";have I:e.length=c.length:=by rw[<-q];exact fe.len
  refine bL (λz:θ×θ=>ay [fr z.1,fr z.2]) fr (λz:θ×θ=>[z.1+d/(d-g)*(z.2-z.1)]) (e.zip f) (by rw[dR];exact 50) (λQ h=>by walk_at"d";rw[cK];exact h) (λz hz N a0 hN=>?_) ?_
  ·obtain⟨h1,h2⟩:=eh (a:=z.1) (b:=z.2) hz;have D:Dg 101 z.1:=(y _ h1).dg (by decide) (l:=0) (by decide) (b:=100)<|ω _;have d2:Dg 101 z.2:=(B _ h2).dg (by decide) (l:=0) (by decide) (b:=100)<|ω _;walk_at"d";refine⟨_,_,rfl,cA d2,cA D,?_⟩;walk_at"d";refine⟨_,_,rfl,cA dp,cA<|d2.sub D,?_⟩;walk_at"d";refine⟨_,_,rfl,cA D,cA<|dp.mul<|d2.sub D,?_⟩;walk_at"d";exact hN
  have ez:(e.zip f).map (λz:θ×θ=>z.1+d/(d-g)*(z.2-z.1))=af (λa b=>a+d/(d-g)*(b-a)) e f:=by
   clear k j o q t y B u x I
   induction e generalizing f with
   |nil=>rfl
   |cons a e ih=>cases f with
    |nil=>rfl
    |cons b f=>rw[ka,Μ,Κ,ih]
  rw[aN,ez];exact k
def aQo:DW:=λb Q _=>∃(a:ε Mk)(L:π),b=[.list<|a.map cP]/\LSz L a/\Q (.two [fr (fU a).1,fr (fU a).2]<|(Cd (fU a) a).map fr)
theorem Hq:Q 7 29 (λ_=>aQo):=by
 refine fH 29 ["marks","best","least","mark","line","measure"] λA T R Z=>⟨_,by walk_at"t",_,(aH (aZ 1 (bH (vN 0 (vE (bR (aL 0) bI) aB))))
   (sA 2 (aE (vE aT (vN 0 (vE (cL (bH (vN 1 (vN 0 aB)))) aB)))) (aH (eA (iV (cL (gU (aL 0) (cS bI) fZ))) (aG 3)
    (aH (aZ 4 (bH (vN 0 (vN 3 aB))))
   (sA 5 (aE (vE aT (vN 0 (vE (cL (bH (vN 4 (vN 0 aB)))) aB)))) (bF (lA (aC (aE (vN 5 (vN 2 aB))))) (aH (aRg 1 4 (by decide))
   (eL (bE 5) (aG 2))) aP))))
   (pH (Pu 1 (bH (vN 0 (vN 1 aB)))))))),?_⟩
 intro ds Q X qQ0;refine qq0 λqq2=>?_;obtain⟨a,L,rfl,Z,k⟩:=qQ0;refine qq2 ?_;have a0:=Z.n60;have n1:=Z.n1;have p:∀{l:Ln}{m:Mk}{t:Sl->Prop}{S:Ζ->Prop},m∈a->l=cJ a m->t (.own<|(a.map λm=>bY [l.1,l.2] m.1).map fr)->Vq [.list [fr l.1,fr l.2],.list<|a.map cP] t S:=λ{l m t S} b e h=>by
  obtain⟨x,y⟩:=nG Z b;have v:=tZ Z b x y;rw[<-e]at v;refine⟨[l.1,l.2],a,809,201,rfl,(show 2<=60 by decide),‹1›,λn U=>?_,λm h=>Z.xd h,(show 2*(809+201+2)<=2300 by decide),h⟩;simp only[Υ,dV,gz]at U;rcases U with rfl|rfl
  ·exact v.a
  ·exact v.s.mono (by decide)
 have q:∀{l:Ln}{m:Mk}{t:Sl->Prop},m∈a->l=cJ a m->t (.dat<|fr<|FS a l)->aHn A.x_NoKind [.str "sum",.list<|a.map cP,.list<|(a.map λm=>bY [l.1,l.2] m.1).map fr] t λ_=>ag:=λ{l m t} b e h=>by
  obtain⟨x,y⟩:=nG Z b;have v:=tZ Z b x y;rw[<-e]at v;obtain⟨M,C⟩:=v.msz Z;refine⟨.str "sum",a,_,_,_,_,_,_,_,rfl,C,Z.ne,by rw[η],λkd D=>by cases D;decide +kernel,λkd D _=>?_,λhx=>ψ (show("sum":bf)∈eV by simp[eV])<|hx "sum" rfl⟩;cases D;rw[Rx Z.w1];exact h
 have r:∀{m:Mk},m∈a->Ok (FS a<|cJ a m):=λ{m} b=>by
  obtain⟨x,y⟩:=nG Z b;obtain⟨M,C⟩:=(tZ Z b x y).msz Z;rw[<-Rx Z.w1];exact C.measOk
 obtain⟨s,f,z⟩:∃s f,a=s::f:=by
  cases a with
  |nil=>exact ψ rfl Z.ne
  |cons m A=>exact⟨m,A,rfl⟩
 have g:s∈a:=by rw[z];exact υ
 have Am:∀m∈f,m∈a:=λm h=>by rw[z];exact ο _ h
 have W:fU a=lS a (cJ a s) f:=by rw[z];rfl
 walk_at"s";refine⟨cP s,show oX (a.map cP) ((0:π):χ)=_ from fQ (by rw[z];rfl),?_⟩;refine⟨a,s,L,rfl,Z,g,?_⟩;walk_at"d";obtain⟨E,j⟩:∃E,cJ a s=E:=⟨_,rfl⟩;rw[j]at W⊢;walk_at"s";refine p g j.symm ?_;walk_at"d";refine⟨bP _,?_⟩;refine q g j.symm ?_;walk_at"d";walk_at"s";have ec:fI (a.map cP) (γ 1) ν=f.map cP:=by
  have:=iF (a.map cP) 1;rw[show((1:π):χ)=1 from rfl]at this;rw[this,z];rfl
 refine cW (eJ cP f (λQ h=>by
   walk_at"d"
   rw[ec];exact h)
  (λi F=>∃(l:Ln)(G H I:Θ Sl),F=[γ<|.dat<|.list<|a.map cP,γ<|.own [fr l.1,fr l.2],γ<|.dat<|fr<|FS a l,G,H,I]/\(∃m∈a,l=cJ a m)/\lS a l (f.drop i)=fU a)
  ⟨E,_,_,_,rfl,⟨s,g,j.symm⟩,W.symm⟩ ?_ ?_)
 ·intro i m F J qQ0;refine qq0 λqq2=>?_;obtain⟨l,G,H,I,rfl,⟨Y,u,N⟩,o⟩:=qQ0;refine qq2 ?_;have b:=Am m<|Ω J;have O:=(Δ.mp J).1;have ed:f.drop i=m::f.drop (i+1):=by
   rw[gm O]
   congr 1
   exact(Δ.mp J).2
  rw[ed,lS]at o;walk_at"s";refine⟨a,m,L,rfl,Z,b,?_⟩;walk_at"d";obtain⟨B,d⟩:∃B,cJ a m=B:=⟨_,rfl⟩;rw[d]at o⊢;walk_at"s";refine p b d.symm ?_;walk_at"d";refine⟨bP _,?_⟩;refine q b d.symm ?_;walk_at"d";refine⟨FS a B,FS a l,rfl,by rw[<-d];exact r b,by rw[N];exact r u,?_⟩;walk_at"d";refine bW (λc=>?_) λc=>?_
  ·rw[ρ c]at o;walk_at"s";exact⟨B,γ _,ν,γ _,rfl,⟨m,b,d.symm⟩,o⟩
  ·rw[ι c]at o;exact⟨l,γ _,γ _,γ _,rfl,⟨Y,u,N⟩,o⟩
 ·intro F qQ0;refine qq0 λqq2=>?_;obtain⟨l,G,H,I,rfl,⟨Y,u,N⟩,o⟩:=qQ0;refine qq2 ?_;rw[xp,lS]at o;rw[o];refine qq0 λqq2=>?_;obtain⟨fe,_,_,f1,f2⟩:=xJ Z;refine qq2 ?_;walk_at"d";refine⟨a,fU a,L,rfl,Z,Rs Z,fe,f1,f2,?_⟩;walk_at"d";exact⟨bP _,k⟩
def rP(a:ε Mk):θ:=Tp<|a.map λm=>(m.2.1,(m.2.2:θ))
theorem Dk{a:ε Mk}(hw:∀m∈a,1<=m.2.2):∀z∈a.map λm:Mk=>(m.2.1,(m.2.2:θ)),0<z.2:=λz b=>by
 obtain⟨m,c,rfl⟩:=Β.mp b;exact gb.mpr (by have:=hw m c;assumption)
theorem Qa(b:a≠[])(hw:∀m∈a,1<=m.2.2):Mid (a.map λm=>(m.2.1,(m.2.2:θ))) (rP a):=mQ (by simpa using b)<|Dk hw
theorem Qb(b:a≠[])(hw:∀m∈a,1<=m.2.2):∃m∈a,m.2.1=rP a:=by
 refine qq0 λqq2=>?_;obtain⟨z,c,e⟩:=(Qa b hw).mem;obtain⟨m,d,rfl⟩:=Β.mp c;refine qq2 ?_;exact⟨m,d,e⟩
theorem Qc(a:ε Mk)(t:θ):Ex (a.map λm=>(m.2.1,(m.2.2:θ))) t=FS a (t,0):=by
 unfold Ex FS rr;rw[ia]
 congr 1
 refine df λm _=>?_;show(m.2.2:θ)*aM (m.2.1-t)=_
 congr 2
 grind
theorem Tw(c:b≠[])(hw:∀m∈b,1<=m.2.2)(a:θ):FS b (rP b,0)<=FS b (a,0):=by
 rw[<-Qc,<-Qc];exact rO (λz d=>by have:=Dk hw z d;exact 40) (Qa c hw) a
theorem aGl(h:∀a,FS b (x,0)<=FS b (a,0))(d:θ):0<=tot (b.map<|dv (rr (x,0)) λ_=>d):=by
 obtain⟨t,f,g⟩:=oC (rr (x,0)) (λ_=>d) b;have e:=uU f g;have i:=h<|x+t*d;have j:FS b (x+t*d,0)=tot (b.map λm=>(m.2.2:θ)*aM (rr (x,0) m-t*d)):=by
  unfold FS rr
  congr 1
  refine df λm _=>?_
  congr 2
  grind
 have k:FS b (x,0)=tot (b.map λm=>(m.2.2:θ)*aM (rr (x,0) m)):=rfl;rw[j,e,k]at i;refine jk.mp λc=>?_;have:=gu f (show 0< -tot (b.map<|dv (rr (x,0)) λ_=>d) by grind);grind
theorem Tv(b:a≠[])(hw:∀m∈a,1<=m.2.2):0<=-cU (rr (rP a,0)) a/\tot (gK (rP a,0) a)=0/\FairL (rr (rP a,0)) a (gK (rP a,0) a):=by
 have f:=aGl<|Tw b hw;obtain⟨h,i⟩:=Nc (rr (rP a,0)) a;have g:=f 1;have c:=f<|-1;rw[h,<-ee]at g;rw[i]at c;have d:0<=-cU (rr (rP a,0)) a:=hF.mp g;have j:-cU (rr (rP a,0)) a<=2*lT (rr (rP a,0)) a:=by
  have e:(cU (rr (rP a,0)) a:θ)+2*(lT (rr (rP a,0)) a:θ)=((cU (rr (rP a,0)) a+2*lT (rr (rP a,0)) a:χ):θ):=by rw[j0,ae];rfl
  rw[e]at c;have:=hF.mp c;lia
 refine⟨d,?_,qU _ _ _ d hw⟩;unfold gK;rw[Kx,Ea _ _ _ d hw,ι<|by lia,show cU (rr (rP a,0)) a+-cU (rr (rP a,0)) a=0 by exact 48];rfl
def aDm:DW:=λb Q _=>∃(a:ε Mk)(L:π),b=[.str "sum",.list<|a.map cP]/\LSz L a/\Q (.dat<|fr<|rP a)
theorem vT:Q 5 25 (λ_=>aDm):=by
 refine fH 25 ["kind","marks","heights","weights","weighed"] λA T R Z=>⟨_,by walk_at"t",_,(aH (aZ 2 (bS [ν] ["mark"] (cE (aL 1)) (aG 0) bV (eX 1 0)))
   (aH (bF (tO cR (aF 0) (aC aT)) kG aP)
   (aH (aZ 3 (bS [ν] ["mark"] (cE (aL 1)) (aG 0) bV (cH (aI (eX 2 0) (aI aU aQ)))))
   (aH (bF (tO cR (aF 0) (aC aT)) (bB (aC (aE (vN 2 (vN 3 aB))))) aP)
   (aH kG
   kG))))),?_⟩
 intro s Q X qQ0;refine qq0 λqq2=>?_;obtain⟨a,L,rfl,Z,k⟩:=qQ0;refine qq2 ?_;clear qq2;have b:=Z.n60;walk_at"s";refine bL cP fr (λm:Mk=>[m.2.1]) a ‹1› (λQ h=>h) (λm h N c d=>?_) ?_
 ·walk_at"d";exact d
 rw[aN];walk_at"s";rw[ι<|by decide];walk_at"s";refine bL cP fr (λm:Mk=>[(m.2.2:θ)]) a ‹1› (λQ h=>h) (λm h N c d=>?_) ?_
 ·walk_at"d";exact d
 rw[aN];walk_at"s";have g:(a.map λm:Mk=>m.2.1).zip (a.map λm:Mk=>(m.2.2:θ))=a.map λm=>(m.2.1,(m.2.2:θ)):=by
  clear k Z b
  induction a with
  |nil=>rfl
  |cons o t j=>rw[Μ,Μ,Μ,ka,j]
 refine⟨a.map λm=>m.2.1,a.map λm=>(m.2.2:θ),1,rfl,by decide,vd _ _<|by decide,by rw[η,η],by rw[η];exact Z.n1,by rw[η];exact b,λq l=>?_,λv n=>?_,λx f=>?_⟩
 ·obtain⟨m,e,rfl⟩:=Β.mp l;exact cA<|Z.yd e
 ·obtain⟨m,e,rfl⟩:=Β.mp n;have hw:=Z.w m e;exact⟨gb.mpr<|by lia,(Cm.int (i:=m.2.2) (B:=10^100)<|by lia).mono (dA _)<|mB<|by decide⟩
 rw[g]at f;have p:rP a=x:=Py (λz r=>by have:=Dk Z.w1 z r;exact 40) f;rw[p]at k;walk_at"d";exact k
def aQm:DW:=λb Q _=>∃(a:ε Mk)(L:π),b=[.list<|a.map cP]/\LSz L a/\Q (.two [fr<|rP a]<|(gK (rP a,0) a).map fr)
theorem Cs:Q 6 28 (λ_=>aQm):=by
 refine fH 28 ["marks","numbers","misses"] λA T R Z=>⟨_,by walk_at"t",_,(aH (aZ 1 (dG (aI (aE (vE aT (vN 0 aB))) aQ)))
   (aH (aZ 2 (bH (vN 0 (vE (cL (bH (vN 1 (vN 0 aB)))) aB))))
   (pH (Pu 1 (bH (vN 0 (vN 2 aB))))))),?_⟩
 intro o Q X qQ0;refine qq0 λqq2=>?_;obtain⟨a,L,rfl,Z,k⟩:=qQ0;have b:=Z.n60;obtain⟨x,c⟩:∃x,rP a=x:=⟨_,rfl⟩;refine qq2 ?_;have d:Dg 201 x:=by
  obtain⟨m,f,e⟩:=Qb Z.ne Z.w1;rw[<-c,<-e];exact Z.yd f
 walk_at"s";refine⟨a,L,rfl,Z,?_⟩;rw[c]at k⊢;walk_at"d";walk_at"s";refine⟨[x],a,201,201,rfl,(show 1<=60 by decide),‹1›,λn i=>by rw[br.mp i];exact d,λm h=>Z.xd h,(show 1*(201+201+2)<=2300 by decide),?_⟩;walk_at"d";refine⟨bP _,?_⟩;have g:∀m:Mk,bY [x] m.1=x:=λm=>by rw[bN,eQ];grind
 refine⟨a,_,rfl,‹1›,λm h=>cA (Z.yd h),λq j=>by
  obtain⟨m,f,rfl⟩:=Β.mp j
  rw[g];exact cA d,?_⟩
 walk_at"d";refine⟨bP _,?_⟩;have l:(bM a<|a.map λm=>bY [x] m.1).map fr=a.map λm=>fr (rr (x,0) m):=by
  rw[wG,ia];exact df λm _=>by
   show fr (m.2.1-bY [x] m.1)=fr (rr (x,0) m);rw[g];unfold rr;congr 1;grind
 rw[l];walk_at"d";refine⟨a,rr (x,0),rfl,b,Z.w,?_⟩;walk_at"d";exact⟨bP _,k⟩
theorem Je(x:θ):∀(l c:ε θ),l.length=c.length->bY (af (λa b=>a+b) l c) x=bY l x+bY c x
 |[],[],_=>by rw[qr,eQ];grind
 |p::a,q::b,h=>by
  rw[Κ,bN,bN,bN,Je x a b<|by simpa using h];grind
theorem rT(c x:θ):∀a:ε θ,bY (a.map λq=>c*q) x=c*bY a x
 |[]=>by rw[pd,eQ,fo]
 |q::a=>by rw[Μ,bN,bN,rT c x a];grind
theorem qZ(a c:θ):∀d:ε θ,∃q:ε θ,q.length=d.length/\∀x,bY q x=bY d (a*x+c)
 |[]=>⟨[],rfl,λx=>rfl⟩
 |n::d=>by
  obtain⟨q,e,f⟩:=qZ a c d;refine⟨af (λa b=>a+b) (n::q.map λy=>a*y)<|(q.map λy=>c*y)++[0],?_,λx=>?_⟩
  ·rw[ba,Ε,Λ,η,η,Ε,e];simp
  ·rw[Je x _ _<|by simp,bN,rT,kQ,rT,bN,<-f x];grind
theorem Gw:∀(i n:π),i<n->∃a:ε θ,a.length=n/\∀x,bY a x=x^i
 | 0,n + 1,_=>⟨1 :: bp n 0,by rw [Ε,eg],fun x=>by
   have:=jW x [] n
   rw[ij,eQ]at this
   rw[bN,this,js];grind⟩
 |i+1,n+1,h=>by
  obtain⟨a,b,c⟩:=Gw i n ‹107›;exact⟨0::a,by rw[Ε,b],λx=>by rw[bN,c x,eo];grind⟩
def pB:ε (π×Rw)->π
 |[]=>1
 |z::l=>z.1*pB l
theorem Lo:∀a b:ε<|π×Rw,pB (a++b)=pB a*pB b
 |[],b=>by rw[ij,pB,jc]
 |z::a,b=>by rw[fi,pB,pB,Lo a b,gi]
def shB(q:π)(z:π×Rw):π×Rw:=(z.1*q,jC z.2)
theorem aId(q:π):∀l:ε<|π×Rw,pB (l.map<|shB q)=q^l.length*pB l
 |[]=>rfl
 |z::l=>by
  rw[Μ,pB,aId q l,pB,Ε,eT,shB];simp only[fm,uu,gi]
theorem aNa(q:π)(l:ε<|π×Rw):(l.map<|shB q).map (·.2)=(l.map (·.2)).map jC:=by rw[ia,ia];rfl
def RwB(q n:π)(z:π×Rw):Prop:=∀j,j<n->Cm 1 (z.1*q^j) (z.2 j)
theorem RwB.sh(h:RwB q (n+1) z):RwB q n (shB q z):=λj a=>by
 have:=h (j+1) ‹8›;rw[eT,fm<|q^j,<-gi]at this;exact this
theorem aJh(d:∀l:ε<|π×Rw,l.length=n->(∀z∈l,RwB q n z)->Cm 1 (E*pB l) (D<|l.map (·.2))):∀(rest pre:ε<|π×Rw),pre.length+rest.length=n+1->(∀z∈pre,RwB q (n+1) z)->(∀z∈rest,RwB q (n+1) z)->Cm 1 (rest.length*(E*(q^n*pB (pre++rest)))) (dE D (pre.map (·.2))<|rest.map (·.2))
 |[],pre,_,_,_=>by rw[pd,dE];exact Cm.zero
 |r::rest,pre,k,e,c=>by
  rw[Ε]at k;have b:∀z∈pre++rest,RwB q (n+1) z:=λz a=>(cj.mp a).elim (e z) λh=>c z<|ο _ h;have m:=aJh d rest (pre++[r]) (by rw[Λ];simp;lia) (λz a=>(cj.mp a).elim (e z) λh=>by rw[br.mp h];exact c r υ) λz a=>c z<|ο _ a;have f:(pre++rest).length=n:=by rw[Λ];lia
  have g:=d ((pre++rest).map<|shB q) (by rw[η];exact f) λz a=>by
   obtain⟨y,o,rfl⟩:=Β.mp a;exact(b y o).sh
  rw[aNa,aId,f]at g;have i:=c r υ 0 ‹48›;rw[ir,ju]at i;have j:=(i.mul g).sub m;simp only[bu,Μ,pd]at j;rw[Μ,dE,bu];refine j.mono (dA _) ?_;have p:pB (pre++[r]++rest)=pB (pre++r::rest):=by rw[bx];rfl
  have s:r.1*(E*(q^n*pB (pre++rest)))=E*(q^n*pB (pre++r::rest)):=by
   rw[Lo,Lo,pB];simp only[fm,uu,gi]
  rw[p,s,Ε,mm];exact 48
def gB(q:π):π->π
 |0=>1
 |n+1=>(n+1)*(gB q n*q^n)
theorem aBp(q:π):∀(n:π)(l:ε<|π×Rw),l.length=n->(∀z∈l,RwB q n z)->Cm 1 (gB q n*pB l) (dD n<|l.map (·.2))
 |0,l,a,_=>by
  rw[gq.mp a];exact Cm.int (i:=1) (show 1<=1*1 from ω _)
 |n+1,l,a,h=>by
  have:=aJh (D:=dD n) (aBp q n) l [] (by simpa using a) (λ_ h=>nomatch h) h;rw[a,ij]at this;refine this.mono (dA _) ?_;rw[gB];simp only[fm,uu,gi];exact ω _
theorem aJo{x:π->θ}(s:l.length=n)(t:0<L)(y:dD n (l.map (·.2))≠0)(f:∀z∈l,RwB q n z)(M:0<q)(N:∀j,j<n->Cm L B (aS n λi=>x i*(l.map (·.2)).getD i (λ_=>0) j)):
  ∃V:π,0<V/\V<=L*(gB q n*pB l)/\∀k,k<n->(x k).den∣V:=by
 have g:=aBp q n l s f;have O:(l.map (·.2)).length=n:=by rw[η];exact s
 have C:=λk b=>Nd O x (k:=k) b n<|ω _;obtain⟨d,R⟩:∃d,dD n (l.map (·.2))=d:=⟨_,rfl⟩;rw[R]at g y C;obtain⟨w,hw⟩:=iB g;have hw:d=(w:θ):=by rw[<-hw];show d=d*((1:π):θ);grind
 have X:w≠0:=λz=>y (by rw[hw,z];rfl);have S:w.natAbs<=gB q n*pB l:=by
  have h:=g.num;rw[hw]at h;have:((w:θ)).num=w:=rfl;have e:((w:θ)).den=1:=rfl
  rwa [this,e,ju]at h
 refine⟨L*w.natAbs,fq t<|‹15›,Χ _ S,λk b=>?_⟩;have m:=C k b;rw[ρ b]at m;obtain⟨r,D⟩:∃r,cmb (l.map (·.2)) x n=r:=⟨_,rfl⟩;have o:∀j,j<n->Cm L B (r j):=λj p=>by rw[<-D,Ng];exact N j p
 rw[D]at m;have E:(l.take k).length+(l.drop<|k+1).length+1=n:=by rw[ao,az];lia
 have sS:=mV n ((l.take k).map (·.2)) ((l.drop<|k+1).map (·.2)) (λ_=>0) r (L:θ) (by rw[η,η];exact E);rw[aBn (by rw[η,η];exact E),ou,tf,m]at sS;have F:=aBp q n (l.take k++(L*B,Va (λ_=>0) r (L:θ))::l.drop (k+1)) (by rw[Λ,Ε];assumption) λz a=>by
  rcases cj.mp a with a|a
  ·exact f z<|cv a
  ·rcases Υ.mp a with rfl|a
   ·intro j p;have h:=o j p;obtain⟨v,G⟩:=iB h;show Cm 1 (L*B*q^j) (0+(L:θ)*r j);have e:(0:θ)+(L:θ)*r j=(v:θ):=by rw[<-G];grind
    rw[e];refine Cm.int ?_;have H:=((Cm.int (i:=(L:χ)) (B:=L)<|by lia).mul h);have T:((L:χ):θ)*r j=(v:θ):=by rw[Ι,<-G];exact 45
    rw[T]at H;have I:=H.num;have:((v:θ)).num=v:=rfl;have U:((v:θ)).den=1:=rfl;rw[this,U,ju]at I;exact Α I<|gg _<|jt M
   ·exact f z<|ny a
 rw[bu,Μ,ou,tf,sS]at F;obtain⟨u,W⟩:=iB F;have J:x k*(L:θ)*(w:θ)=(u:θ):=by
  rw[<-W,<-hw];show _=(0+(L:θ)*(x k*d))*((1:π):θ);grind
 refine oS (n:=if 0<=w then u else -u) (vn<|fq t<|‹15›) ?_;rw[fy];by_cases c:0<=w
 ·rw[ρ c,<-J];have:((w.natAbs:π):θ)=(w:θ):=by rw[<-Ι];congr 1;lia
  rw[this];exact 47
 ·rw[ι c,ee,<-J];have:((w.natAbs:π):θ)=-(w:θ):=by rw[<-Ι,<-ee];congr 1;lia
  rw[this];grind
theorem Ka{V n:π}(h:x.den∣V):(x*(n:θ)).den∣V:=by
 by_cases v:V=0
 ·rw[v];exact AM _
 ·refine oS (n:=x.num*((V/x.den:π):χ)*(n:χ)) v ?_;rw[ae,<-lZ h,Ι];grind
theorem Kb{x y:θ}{V:π}(a:0<V)(h:x.den∣V)(g:y.den∣V):(x+y).den∣V:=by
 refine oS (n:=x.num*((V/x.den:π):χ)+y.num*((V/y.den:π):χ)) ‹34› ?_;rw[j0,<-lZ h,<-lZ g];grind
theorem Eh{V:π}(a:0<V):∀{n:π},(∀k,k<n->(f k).den∣V)->(aS n f).den∣V
 |0,_=>by show(1:π)∣V;exact BI _
 |n+1,h=>by
  rw[aS];exact Kb a (Eh a λk b=>h k<|‹3›) (h n<|‹48›)
structure Grid(ms:ε Mk)(q:π)(a c:θ)(t:π->π):Prop where
 a0:0<a
 q0:0<q
 le:∀i,i<ms.length->t i<=q
 x:∀i,i<ms.length->xL ms i=a*(t i:θ)+c
theorem jU(n k:π):((n:θ))^k=((n^k:π):θ):=by
 induction k with
 |zero=>rw[js,ir];rfl
 |succ k a=>rw[eo,eT,fy,a]
theorem aCe(h:n<=B):Cm 1 B (n:θ):=by
 rw[<-Ι];exact Cm.int ‹51›
theorem sC{f:π->θ}:∀{n:π},aS n (λj=>f j*f j)=0->∀j,j<n->f j=0
 |0,_,j,e=>‹39›
 |n+1,h,j,e=>by
  have d:∀x:θ,0<=x*x:=λx=>by
   rcases qi (a:=0) (b:=x)with q|q
   ·exact Ν q q
   ·have:=Ν (show 0<=-x by grind) (show 0<=-x by grind);grind
  rw[aS]at h;have k:=Bq (f:=λj=>f j*f j) (n:=n) λt _=>d<|f t;have l:=d<|f n;have g:aS n (λj=>f j*f j)=0:=by grind
  have i:f n*f n=0:=by grind
  by_cases c:j=n
  ·rw[c];rcases gc.mp i with z|z <;>exact z
  ·exact sC g j ‹13›
theorem Bo{y τ:π->θ}(b:a.length=m)(h:∀k,k<m->aS n (λj=>τ j^k*y j)=0):aS n (λj=>y j*bY a (τ j))=0:=by
 have e:(λj=>y j*bY a (τ j))=λj=>aS m λk=>a.getD k 0*(τ j^k*y j):=by
  funext j
  rw[mR b,<-cZ];exact bG λk _=>by grind
 rw[e,rF];refine gZ λk c=>?_;rw[cZ,h k c,fo]
def qR(q b:π)(a:π->π):ε (π×Rw):=(range<|b+1).map (λk=>(q^k,λj=>((a j:π):θ)^k))++[(1,λj=>sg<|b+1-j)]
theorem Qp(q b:π)(a:π->π)(c:i<b+1)(j:π):((qR q b a).map (·.2)).getD i (λ_=>0) j=((a j:π):θ)^i:=by
 unfold qR;rw[aO (by simp;exact 3),dr,qb<|by simpa using c,dr,hE]
theorem Jl(q b:π)(a:π->π)(j:π):((qR q b a).map (·.2)).getD (b+1) (λ_=>0) j=sg (b+1-j):=by
 unfold qR;rw[aO<|by simp,dr,pa<|by simp];simp
theorem aAk(f:Ey (b+2) λj=>((τ j:π):θ)):dD (b+2) ((qR q b τ).map (·.2))≠0:=λz=>by
 have E:((qR q b τ).map (·.2)).length=b+2:=by unfold qR;simp
 obtain⟨y,⟨j,g,F⟩,p⟩:=(uG _ _ E).mp z;have a:∀i,i<b+2->((qR q b τ).map (·.2)).getD i (λ_=>0)∈(qR q b τ).map (·.2):=λi O=>by rw[aO<|‹48›];exact ax _
 have r:∀k,k<b+1->aS (b+2) (λj=>((τ j:π):θ)^k*y j)=0:=λk l=>by
  rw[<-p _ (a k<|‹3›)];exact bG λj _=>by rw[Qp q b τ l]
 have G:aS (b+2) (λj=>sg (b+1-j)*y j)=0:=by
  rw[<-p _ (a (b+1)<|‹48›)];exact bG λj _=>by rw[Jl]
 obtain⟨x,B⟩:∃x:π->θ,(λj=>((τ j:π):θ))=x:=⟨_,rfl⟩;have m:∀j,((τ j:π):θ)=x j:=λj=>congrFun B j;simp only[m]at r;rw[B]at f;have H:((range<|b+1).map x).Nodup:=by
  rw[er,iu]
  exact Pairwise.imp_of_mem (λ{u v} R I h e=>by
   have:=f u v h (by have:=di.mp I;exact 3)
   rw[e]at this;exact ψ this uv) wa
 have d:=wM ((range<|b+1).map x) λt=>y t-sg (b+1-t)*lQ x y (b+2);rw[η,cw]at d;have C:=zV (x:=x) (y:=y) (n:=b+1) f d λt D=>by
  have e:=wN H (λt=>y t-sg (b+1-t)*lQ x y (b+2)) (s:=t) (by simpa using D);rw[aO<|by simpa using D,dr,hE]at e;exact e
 obtain⟨c,o⟩:∃c,Ja ((range<|b+1).map x) (λt=>y t-sg (b+1-t)*lQ x y (b+2))=c:=⟨_,rfl⟩;rw[o]at d C;have J:=Bo (n:=b+2) (y:=y) (τ:=x) d r;have L:aS (b+2) (λj=>y j*y j)=0:=by
  have e:aS (b+2) (λj=>y j*y j)=aS (b+2) λj=>y j*bY c (x j)+lQ x y (b+2)*(sg (b+1-j)*y j):=bG λj g=>by
   have:=C j g;have M:y j=bY c (x j)+sg (b+1-j)*lQ x y (b+2):=by grind
   have N:y j*y j=y j*(bY c (x j)+sg (b+1-j)*lQ x y (b+2)):=by rw[<-M]
   rw[N];grind
  rw[e,jF,J,cZ,G];grind
 exact F<|sC L j g
theorem aGg(q:π)(c:π->π)(e:b<=3)(a:0<q):gB 1 (b+2)*pB (qR q b c)<=120*q^6:=by
 have f:1<=q^6:=jt a;have d:b=0\/b=1\/b=2\/b=3:=by lia
 have g:q^1<=q^6:=Ρ a (by decide);have h:q^3<=q^6:=Ρ a (by decide);rcases d with rfl|rfl|rfl|rfl
 ·show 2*(1*(1*1)*1^1)*(q^0*(1*1))<=_;rw[ir];lia
 ·show 3*(2*(1*(1*1)*1^1)*1^2)*(q^0*(q^1*(1*1)))<=_;rw[ir];lia
 ·show 4*(3*(2*(1*(1*1)*1^1)*1^2)*1^3)*(q^0*(q^1*(q^2*(1*1))))<=_;have:q^1*(q^2*(1*1))=q^3:=by rw[ju,<-jd]
  rw[this,ir];lia
 ·show 5*(4*(3*(2*(1*(1*1)*1^1)*1^2)*1^3)*1^4)*(q^0*(q^1*(q^2*(q^3*(1*1)))))<=_;have:q^1*(q^2*(q^3*(1*1)))=q^6:=by rw[ju,<-jd,<-jd]
  rw[this,ir];exact 48
theorem aGf(Z:FZ g M)(G:Grid g q a c t)(F:FarB g b s N)(O:b<=3)(R:0<L)(S:∀m∈g,Cm L (10^6) m.2.1):
  ∃V:π,0<V/\V<=L*(120*q^6)/\∀m∈g,(bY s m.1).den∣V:=by
 refine qq0 λqq2=>?_;obtain⟨d,C,E,_,_⟩:=F.ch;obtain⟨l,u⟩:∃l,iP g d=l:=⟨_,rfl⟩;refine qq2 ?_;rw[u]at E;obtain⟨v,y,H⟩:=qZ a c s;rw[F.len]at y;have p:∀j,j<b+2->d.getD j 0<g.length:=λj f=>C.at f;have T:Ey (b+2) λj=>((t (d.getD j 0):π):θ):=λi j D f=>by
  have h:=xE Z C i j D f;rw[xD (by rw[C.len];exact 5),xD (by rw[C.len];exact f),G.x _<|p i<|‹5›,G.x _<|p j f]at h;refine oD.mp λz=>?_;have:=Ν (cq G.a0) (show 0<=((t (d.getD i 0):π):θ)-((t (d.getD j 0):π):θ) by grind);grind
 obtain⟨V,I,U,W⟩:=aJo (q:=1) (n:=b+2) (L:=L) (B:=10^6) (l:=qR q b λj=>t (d.getD j 0)) (x:=λi=>if i<b+1 then v.getD i 0 else l) (by unfold qR;simp) R (aAk T) (λz o j f=>by
   rw[Nat.one_pow,ju]
   unfold qR at o
   rcases cj.mp o with o|o
   ·obtain⟨k,J,rfl⟩:=Β.mp o
    show Cm 1 (q^k) (((t (d.getD j 0):π):θ)^k)
    rw[jU]
    exact aCe<|gx (G.le _<|p j f) k
   ·rw[br.mp o]
    show Cm 1 1 (sg<|b+1-j)
    rcases eR (b+1-j)with e|e <;>rw[e]
    ·exact Cm.int (i:=1) (by decide)
    ·exact Cm.int (i:=-1) (by decide)) (by decide) λj f=>by
   rw[aS,ι<|by lia,Jl];have e:(aS (b+1) λi=>(if i<b+1 then v.getD i 0 else l)*((qR q b λj=>t<|d.getD j 0).map (·.2)).getD i (λ_=>0) j)=bY v ((t (d.getD j 0):π):θ):=by
    rw[mR y];exact bG λi r=>by rw[ρ r,Qp _ _ _ r]
   rw[e,H,<-G.x _ (p j f)];have h:=E j f;unfold yG at h;have X:bY s (xL g<|d.getD j 0)+l*sg (b+1-j)=yL g (d.getD j 0):=by grind
   rw[X];unfold yL;rw[aO<|p j f];exact S _<|ax _
 refine⟨V,I,Α U<|Χ _<|aGg q _ O G.q0,λm Y=>?_⟩;obtain⟨i,r,rfl⟩:=cn Y;have ex:g[i].1=a*(t i:θ)+c:=by rw[<-G.x i r];unfold xL;rw[aO r]
 rw[ex,<-H,mR y];have:Cm V (10^0) 0:=Cm.zero;refine Eh I λk J=>?_;have:=W k ‹3›;rw[ρ J]at this;rw[jU];exact Ka this
theorem aLc(hw:∀m∈ms,1<=m.2.2/\m.2.2<=4)(E:4*ms.length<=W)(s:0<q)(F:∀m∈ms,∃t:π,t<=q/\m.1=(t:θ))(G:(ms.map (·.1)).Nodup)(H:0<L)(o:∀m∈ms,Cm L (10^6) m.2.1)(I:n<=ms.length)(J:x.length=n)
  (h:∀i,i<n->fC ms (λm=>bY x m.1) i=fC ms (λm=>m.2.1) i):∃V:π,0<V/\V<=L*(gB q n*pB ((range n).map λi=>(W*q^i,λj=>fC ms (λ_=>1)<|i+j)))/\∀k,k<n->(x.getD k 0).den∣V:=by
 obtain⟨l,b⟩:∃l:ε<|π×Rw,((range n).map λi=>(W*q^i,λj=>fC ms (λ_=>1)<|i+j))=l:=⟨_,rfl⟩;have u:l.length=n:=by rw[<-b,η,cw]
 have c:∀i,i<n->(l.map (·.2)).getD i (λ_=>0)=λj=>fC ms (λ_=>1) (i+j):=λi d=>by
  rw[aO (by rw[η];exact 48),dr];subst b;rw[dr,hE]
 have v:∀m∈ms,∀k,Cm 1 (q^k) (m.1^k):=λm a k=>by
  obtain⟨t,M,e⟩:=F m a;rw[e,jU];exact aCe<|gx M k
 have f:∀m∈ms,Cm 1 4 ((m.2.2:χ):θ):=λm a=>Cm.int (by have:=hw m a;lia);rw[b];refine aJo (B:=ms.length*(4*10^6*q^n)) u H (λz=>?_) (λz C j g=>?_) s λj g=>?_
 ·obtain⟨y,⟨j,g,o⟩,N⟩:=(uG n _ (by rw[η];exact u)).mp z;refine o<|oK (λm a=>(hw m a).1) G I (λi d=>?_) j g;rw[<-nA ms y i n];have:=N _ (show(l.map (·.2)).getD i (λ_=>0)∈l.map (·.2) by rw[aO (by rw[η];exact 48)];exact ax _);rw[c i d]at this;exact this
 ·rw[<-b]at C;obtain⟨i,d,rfl⟩:=Β.mp C;show Cm 1 (W*q^i*q^j) (fC ms (λ_=>1)<|i+j);unfold fC;have:=Cm.tot (qs:=ms.map λm=>(m.2.2:θ)*1*m.1^(i+j)) (L:=1) (B:=4*q^(i+j)) λp r=>by
   obtain⟨m,a,rfl⟩:=Β.mp r;rw[gf];exact(f m a).mul<|v m a<|i+j
  refine this.mono (dA _) ?_;rw[η,gi W,<-jd,<-gi,fm _ 4];exact Ψ _ E
 ·have e:(aS n λi=>x.getD i 0*(l.map (·.2)).getD i (λ_=>0) j)=fC ms (λm=>m.2.1) j:=by
   rw[<-h j g];have D:=nA ms (λi=>x.getD i 0) j n;rw[kK J]at D;rw[<-D];refine bG λi d=>?_;rw[c i d,qg j i];exact 45
  rw[e];unfold fC;have:=Cm.tot (qs:=ms.map λm=>(m.2.2:θ)*m.2.1*m.1^j) (L:=L) (B:=4*10^6*q^j) λp r=>by
   obtain⟨m,a,rfl⟩:=Β.mp r;have:=((f m a).mul<|o m a).mul<|v m a j;rw[jc,ju]at this;exact this
  refine this.mono (dA _) ?_;rw[η];exact Χ _ (Χ _<|Ρ s<|‹0›)
theorem aLe(W q:π)(f:π->Rw)(z:n<=4)(h:n<=3->gB q 3*(W^3*q^3)<=M)(j:n=4->gB q 4*(W^4*q^6)<=M)(k:0<q)(b:0<W):gB q n*pB ((range n).map λi=>(W*q^i,f i))<=M:=by
 have l:n=0\/n=1\/n=2\/n=3\/n=4:=by lia
 have m:W*q^0=W:=by rw[ir,ju]
 have o:W*q^0*(W*q^1)=W^2*q:=by rw[ir,AQ,Nat.pow_two,ju,gi]
 have c:1<=q^3:=jt k;have p:1<=W^3:=jt b;have r:gB q 0=1:=rfl;have d:gB q 1=1:=by show 1*(1*q^0)=1;rw[ir]
 have e:gB q 2=2*q:=by show 2*(gB q 1*q^1)=_;rw[d,jc,AQ]
 have g:gB q 3=6*q^3:=by show 3*(gB q 2*q^2)=_;rw[e];grind
 have s:q<=q^3:=yg (by decide) q;have t:W<=W^3:=yg (by decide) W;have u:W^2<=W^3:=Ρ b (by decide);have a:∀{A B:π},A<=6*q^3->B<=W^3*q^3->n<=3->A*B<=M:=λv x y=>Α (Τ v x) (by rw[<-g];exact h y);rcases l with rfl|rfl|rfl|rfl|rfl
 ·exact a (by rw[r];lia) (show 1<=_ from fq p c) (by decide)
 ·refine a (by rw[d];lia) ?_ (by decide);show W*q^0*1<=_;rw[ju,m];exact Α t<|gg _ c
 ·refine a (by rw[e];lia) ?_ (by decide);show W*q^0*(W*q^1*1)<=_;rw[ju,o];exact Τ u s
 ·refine a (by rw[g];exact 48) ?_ (by decide);show W*q^0*(W*q^1*(W*q^2*1))<=_;have:W*q^0*(W*q^1*(W*q^2*1))=W^3*q^3:=by grind
  rw[this];exact ω _
 ·refine Α (Χ _ ?_)<|j rfl;show W*q^0*(W*q^1*(W*q^2*(W*q^3*1)))<=_;have:W*q^0*(W*q^1*(W*q^2*(W*q^3*1)))=W^4*q^6:=by grind
  rw[this];exact ω _
theorem Wx(G:Grid ms q a c t)(C:(ms.map (·.1)).Nodup)(hw:∀m∈ms,1<=m.2.2/\m.2.2<=4)(F:4*ms.length<=W)(H:0<W)(S:SqB ms b l)(b3:b<=3)(I:b+1<=ms.length)(J:0<L)(N:∀m∈ms,Cm L (10^6) m.2.1)
  (O:b+1<=3->gB q 3*(W^3*q^3)<=M) (R:b+1=4->gB q 4*(W^4*q^6)<=M):∃V:π,0<V/\V<=L*M/\∀m∈ms,(bY l m.1).den∣V:=by
 refine qq0 λqq2=>?_;obtain⟨T,g⟩:=S;obtain⟨s,x,D⟩:=qZ a c l;refine qq2 ?_;rw[T]at x;obtain⟨f,r⟩:∃f:Mk->Mk,(λm:Mk=>((a⁻¹*(m.1-c),m.2.1,m.2.2):Mk))=f:=⟨_,rfl⟩;have ai:a*a⁻¹=1:=i5 _ (by have:=G.a0;exact 41);have back:∀m:Mk,a*(f m).1+c=m.1:=λm=>by rw[<-r];show a*(a⁻¹*(m.1-c))+c=m.1;grind
 have y:∀m:Mk,(f m).2=m.2:=λm=>by rw[<-r]
 have U:∀i (d:i<ms.length),(f ms[i]).1=(t i:θ):=λi d=>by
  have h:=G.x i d;unfold xL at h;rw[aO d]at h;rw[<-r];show a⁻¹*(ms[i].1-c)=_;rw[h];grind
 have B:∀i,i<b+1->fC (ms.map f) (λm=>bY s m.1) i=fC (ms.map f) (λm=>m.2.1) i:=λi d=>by
  refine qq0 λqq2=>?_;obtain⟨X,Y,Z⟩:=Gw i (b+1) d;obtain⟨ds,dl,hd⟩:=qZ a⁻¹ (-(a⁻¹*c)) X;refine qq2 ?_;have z:=Dj ms (λm=>bY l m.1-m.2.1) (λj=>ds.getD j 0) (b+1) λi d=>by
   have:fC ms (λm=>bY l m.1+-m.2.1) i=fC ms (λm=>bY l m.1) i+fC ms (λm=>-m.2.1) i:=nB ms _ _ i;have e2:fC ms (λm=>m.2.1+-m.2.1) i=fC ms (λm=>m.2.1) i+fC ms (λm=>-m.2.1) i:=nB ms _ _ i;have e3:fC ms (λm=>m.2.1+-m.2.1) i=0:=by
    rw[<-wF ms i];congr 1;funext m;grind
   have e4:fC ms (λm=>bY l m.1-m.2.1) i=fC ms (λm=>bY l m.1+-m.2.1) i:=by congr 1;funext m;grind
   rw[e4,this,g i d];grind
  rw[kK<|by rw[dl,Y]]at z;have e:fC (ms.map f) (λm=>bY s m.1) i+fC (ms.map f) (λm=>-m.2.1) i=0:=by
   rw[<-nB,<-z];unfold fC;rw[ia]
   congr 1
   refine df λm _=>?_;show((f m).2.2:θ)*(bY s (f m).1+-(f m).2.1)*(f m).1^i=_;have e5:(f m).1=a⁻¹*m.1+-(a⁻¹*c):=by rw[<-r];show a⁻¹*(m.1-c)=_;grind
   rw[D,back,y,<-Z,e5,<-hd];grind
  have e2:fC (ms.map f) (λm=>m.2.1+-m.2.1) i=fC (ms.map f) (λm=>m.2.1) i+fC (ms.map f) (λm=>-m.2.1) i:=nB _ _ _ i;have e3:fC (ms.map f) (λm=>m.2.1+-m.2.1) i=0:=by
   rw[<-wF (ms.map f) i];congr 1;funext m;grind
  grind
 have n:∀m∈ms.map f,∃o∈ms,f o=m:=λm g=>by
  obtain⟨o,p,e⟩:=Β.mp g;exact⟨o,p,e⟩
 obtain⟨V,E,V1,hV⟩:=aLc (ms:=ms.map f) (q:=q) (W:=W) (L:=L) (λm g=>by
   obtain⟨o,p,rfl⟩:=n m g
   rw[y];exact hw o p) (by rw[η];exact F) G.q0 (λm g=>by
   refine qq0 λqq2=>?_;obtain⟨o,p,rfl⟩:=n m g
   obtain⟨i,d,rfl⟩:=cn p;refine qq2 ?_
   exact⟨t i,G.le i d,U i d⟩) (by
   rw[ia,er,iu]
   rw[er,iu]at C
   exact C.imp λ{u v} h e=>h (by
    have e':(f u).1=(f v).1:=e
    rw[<-back u,<-back v,e'])) J (λm g=>by
   obtain⟨o,p,rfl⟩:=n m g
   rw[y];exact N o p) (by rw[η];exact I) x B
 refine⟨V,E,Α V1<|Χ _<|aLe W q _ ‹6› O R G.q0 H,λm g=>?_⟩;obtain⟨i,d,rfl⟩:=cn g;have ex:ms[i].1=a*(t i:θ)+c:=by rw[<-G.x i d];unfold xL;rw[aO d]
 rw[ex,<-D,mR x];refine Eh E λk hk=>?_;rw[jU];exact Ka<|hV k hk
structure Core(kd:bf)(ms:ε Mk)(bd:π)(nu pl:ε θ):Prop where
 len:nu.length=bd+1
 plen:pl.length=ms.length
 fair:yM kd ms (ms.map λm=>bY nu m.1) pl
 even:∀j,j<=bd->tot (af (λ(m:Mk) p=>m.1^j*p) ms pl)=0
theorem Ef:∀(d:ε θ)(b:ε Mk)(a:ε θ),a.length=b.length->(∀j,j<d.length->tot (af (λ(m:Mk) p=>m.1^j*p) b a)=0)->oR a (b.map λm=>bY d m.1)=0
 |[],b,a,c,_=>by
  have:∀(b:ε Mk)(a:ε θ),oR a (b.map λ_=>(0:θ))=0:=λb=>by
   induction b with
   |nil=>intro a;cases a <;>rfl
   |cons m b f=>
    intro a;cases a with
    |nil=>rfl
    |cons p a=>rw[Μ,oR,f,fo];grind
  exact this b a
 |n::d,b,a,c,h=>by
  have e:∀(b:ε Mk)(a:ε θ),a.length=b.length->oR a (b.map λm=>bY (n::d) m.1)=oR (af (λ(m:Mk) p=>m.1*p) b a) (b.map λm=>bY d m.1)+n*tot (af (λ(m:Mk) p=>m.1^0*p) b a):=λb=>by
   induction b with
   |nil=>intro a c;cases a with
    |nil=>simp[oR,tot];grind
    |cons _ _=>simp at c
   |cons m b f=>
    intro a c;cases a with
    |nil=>simp at c
    |cons p a=>
     have g:=f a (by simpa using c);rw[Μ,Μ,Κ,Κ,oR,oR,tot,g,bN,js];grind
  rw[e b a c,h 0<|by simp,Ef d b (af (λ(m:Mk) p=>m.1*p) b a) (by rw[ba];exact 50) λj k=>?_]
  ·grind
  ·have i:∀(b:ε Mk)(a:ε θ),af (λ(m:Mk) p=>m.1^j*p) b (af (λ(m:Mk) p=>m.1*p) b a)=af (λ(m:Mk) p=>m.1^(j+1)*p) b a:=λb=>by
    induction b with
    |nil=>intro a;rfl
    |cons m b f=>
     intro a;cases a with
     |nil=>rfl
     |cons p a=>rw[Κ,Κ,Κ,f,eo];congr 1;exact 47
   rw[i];exact h (j+1) (by rw[Ε];exact 8)
theorem Core.least(C:Core b a e c d)(f:b∈eV)(hw:∀m∈a,0<m.2.2)(h:nu'.length=e+1):dS b a (a.map λm=>bY c m.1)<=dS b a (a.map λm=>bY nu' m.1):=by
 refine(Na f hw (η _) (η _) C.plen C.fair ?_).1;rw[Ef c a d C.plen λj g=>C.even j (by have:=C.len;lia),Ef nu' a d C.plen λj g=>C.even j<|by lia];exact au
theorem wH(f:Mk->θ):∀a:ε Mk,bM a (a.map f)=a.map λm=>m.2.1-f m
 |[]=>rfl
 |m::a=>by
  have b:=wH f a;unfold bM at b⊢;rw[Μ,Κ,b];rfl
theorem aLb(f:Mk->θ):∀a:ε Mk,xN a (a.map f)=a.map λm=>(m.2.2:θ)*(m.2.1-f m)*(m.2.1-f m)
 |[]=>rfl
 |m::a=>by
  have b:=aLb f a;unfold xN at b⊢;unfold cI bM at b⊢;simp only[Μ,Κ,b]
theorem nV:∀{a:ε θ},(∀x∈a,0<=x)->q∈a->q<=tot a
 |x::a,h,b=>by
  have d:=h x υ;have e:=Bm (a:=a) λy c=>h y<|ο _ c;rw[tot];rcases Υ.mp b with rfl|b
  ·grind
  ·have:=nV (a:=a) (λy c=>h y<|ο _ c) b;grind
theorem Aw(a:qs.length<=N)(h:∀q∈qs,Cm L B q):tot qs<=((N*B:π):θ):=
 ((Cm.tot h).mono (dA _)<|Ψ _ a).hi
theorem Core.miss(C:Core j d p i O)(F:j∈eV)(hw:∀m∈d,1<=m.2.2/\m.2.2<=4)(G:d.length<=8)(R:∀m∈d,Cm L (10^6) m.2.1):∀m∈d,aM (m.2.1-bY i m.1)<=((10^8:π):θ):=λm k=>by
 have l:=C.least F (λm h=>by have:=hw m h;lia) (nu':=bp (p+1) 0) eg;have z:∀x:θ,bY (bp (p+1) 0) x=0:=λx=>by
  have:=jW x []<|p+1;rw[ij,eQ]at this;exact this
 simp only[z]at l;obtain⟨r,s⟩:∃r,m.2.1-bY i m.1=r:=⟨_,rfl⟩;have u:∀m∈d,(1:θ)<=(m.2.2:θ):=λm h=>by
  have:=bh.mpr (hw m h).1;exact this
 have H:∀m∈d,Cm 1 4 ((m.2.2:χ):θ):=λm h=>Cm.int (by have:=hw m h;lia);have v:j="far"\/j="sum"\/j="square":=by simpa[eV]using F
 rw[s];have t:∀m∈d,Cm L (10^6) (m.2.1-0):=λm h=>by rw[mr];show Cm L (10^6) (m.2.1+-0);rw[show m.2.1+-0=m.2.1 by grind];exact R m h
 unfold dS at l;rcases v with rfl|rfl|rfl
 ·rw[ρ rfl,ρ rfl,wH,wH]at l;have D:r∈d.map λm:Mk=>m.2.1-bY i m.1:=Β.mpr ⟨m,k,s⟩;have I:=jV (aM r)<|Β.mpr ⟨r,D,rfl⟩;have J:gC ((d.map λm=>m.2.1-0).map aM)<=((10^6:π):θ):=by
   rcases @gA ((d.map λm:Mk=>m.2.1-0).map aM)with e|e
   ·rw[e];exact jY _
   ·obtain⟨x,g,S⟩:=Β.mp e;obtain⟨o,f,rfl⟩:=Β.mp g;rw[<-S];exact(t o f).abs.hi
  have M:((10^6:π):θ)<=((10^8:π):θ):=lK (by decide);grind
 ·rw[ι<|by decide,ρ rfl,ι<|by decide,ρ rfl,iW,iW]at l
  have I:=nV (q:=aM ((m.2.2:θ)*r)) (a:=(d.map λm:Mk=>(m.2.2:θ)*(m.2.1-bY i m.1)).map aM) (λx g=>by
   obtain⟨y,_,rfl⟩:=Β.mp g
   exact gI y) (Β.mpr ⟨_,Β.mpr ⟨m,k,by rw[s]⟩,rfl⟩)
  have J:=Aw (L:=L) (B:=4*10^6) (N:=8) (qs:=(d.map λm:Mk=>(m.2.2:θ)*(m.2.1-0)).map aM) (by rw[η,η];exact G) λx g=>by
   obtain⟨y,E,rfl⟩:=Β.mp g;obtain⟨o,f,rfl⟩:=Β.mp E;have:=(H o f).mul<|t o f;rw[jc]at this;exact this.abs
  have M:((8*(4*10^6):π):θ)<=((10^8:π):θ):=lK (by decide);have T:=u m k;have h5:aM ((m.2.2:θ)*r)=(m.2.2:θ)*aM r:=sX (by grind);have U:=Ν (show(0:θ)<=(m.2.2:θ)-1 by grind)<|gI r;grind
 ·rw[ι<|by decide,ι<|by decide,ι<|by decide,ι<|by decide,aLb,aLb]at l;have n:∀x:θ,0<=x*x:=λx=>by
   rcases qi (a:=0) (b:=x)with q|q
   ·exact Ν q q
   ·have:=Ν (show 0<=-x by grind) (show 0<=-x by grind);grind
  have I:=nV (q:=(m.2.2:θ)*r*r) (a:=d.map λm:Mk=>(m.2.2:θ)*(m.2.1-bY i m.1)*(m.2.1-bY i m.1)) (λx g=>by
   obtain⟨o,f,rfl⟩:=Β.mp g
   have:=Ν (show(0:θ)<=(o.2.2:θ) by have:=u o f;grind)<|n<|o.2.1-bY i o.1
   grind) (Β.mpr ⟨m,k,by rw[s]⟩)
  have J:=Aw (L:=L*L) (B:=4*10^6*10^6) (N:=8) (qs:=d.map λm:Mk=>(m.2.2:θ)*(m.2.1-0)*(m.2.1-0)) (by rw[η];exact G) λx g=>by
   obtain⟨o,f,rfl⟩:=Β.mp g;have:=((H o f).mul<|t o f).mul<|t o f;rw[jc]at this;exact this
  have M:((8*(4*10^6*10^6):π):θ)<=((10^14:π):θ):=lK (by decide);have T:=u m k;have U:=Ν (show(0:θ)<=(m.2.2:θ)-1 by grind)<|n r;have h7:r*r<=((10^14:π):θ):=by grind
  have e8:aM r*aM r=r*r:=by rcases bC r with⟨_,e⟩|⟨_,e⟩ <;>rw[e] <;>grind
  refine jk.mp λc=>?_;have W:(0:θ)<=((10^8:π):θ):=jY _;have h9:=Ν (show 0<=aM r-((10^8:π):θ) by grind) (show 0<=aM r-((10^8:π):θ) by grind);have X:=gu (show 0<aM r-((10^8:π):θ) by grind) (show(0:θ)<((10^8:π):θ) by decide +kernel);have Y:((10^8:π):θ)*((10^8:π):θ)=((10^16:π):θ):=by rw[<-fy]
  have Z:((10^14:π):θ)<=((10^16:π):θ):=lK (by decide);grind
def LL:π:=2329089562800
theorem aPr(a:1<=b)(c:b<=30):b∣LL:=by
 have:∀b:π,b<31->1<=b->b∣LL:=by decide +kernel
 exact this b ‹6› a
theorem mX:0<LL:=by decide +kernel
theorem sZ:LL<=10^13:=by decide +kernel
structure MkB(ms:ε Mk):Prop where
 n1:1<=ms.length
 n8:ms.length<=8
 hc:∀m∈ms,Cm LL (10^6) m.2.1
 hw:∀m∈ms,1<=m.2.2/\m.2.2<=4
 up:ms.Pairwise λa b=>a.1<b.1
 pl:∀m∈ms,Cm 2 500 m.1
 hd:∀m∈ms,m.2.1.den<=30
 tt:∃(a c:θ)(t:π->π),Grid ms (3*ms.length) a c t
theorem MkB.nd(M:MkB a):(a.map (·.1)).Nodup:=by
 rw[er,iu];exact M.up.imp λh=>‹42›
theorem MkB.fz(M:MkB a):FZ a LL:=⟨by have:=M.n8;exact 1,M.up,λm h=>(M.pl m h).mono (by decide)<|by decide,λm h o g=>((M.pl m h).sub<|M.pl o g).mono (dA _)<|by decide,mX,sZ,λm h=>(M.hc m h).mono (dA _)<|by decide +kernel⟩
theorem MkB.sq(M:MkB a):SQ a LL:=⟨by have:=M.n8;exact 1,λm h=>(M.pl m h).mono (dA _)<|by decide,λm h=>⟨(M.hw m h).1,ri (M.hw m h).2<|by decide⟩,mX,sZ,λm h=>(M.hc m h).mono (dA _)<|by decide +kernel,M.nd⟩
theorem MkB.ls(M:MkB a):LSz (2*LL) a:=⟨M.n1,by have:=M.n8;exact 1,by decide +kernel,by decide +kernel,λm h=>(M.pl m h).mono (fx _ _)<|by decide +kernel,λm h=>(M.hc m h).mono (iv _ _)<|by decide +kernel,λm h=>⟨(M.hw m h).1,ri (M.hw m h).2<|by decide +kernel⟩,M.up⟩
theorem aJp:∀ms:ε Mk,(∀m∈ms,m.2.1.den<=30)->∃L:π,0<L/\L<=30^ms.length/\∀m∈ms,m.2.1.den∣L
 |[],_=>⟨1,by decide,ω _,λm h=>nomatch h⟩
 |m::ms,h=>by
  obtain⟨L,b,c,d⟩:=aJp ms λo a=>h o<|ο _ a;refine⟨L*m.2.1.den,fq b<|dX m.2.1.den_nz,?_,λo a=>?_⟩
  ·rw[Ε,eT];exact Τ c<|h m υ
  ·rcases Υ.mp a with rfl|a
   ·exact iv _ _
   ·exact oa (d o a)<|fx _ _
theorem MkB.L(M:MkB d):∃L:π,0<L/\L<=30^d.length/\∀m∈d,Cm L (10^6) m.2.1:=by
 refine qq0 λqq2=>?_;obtain⟨L,a,b,c⟩:=aJp d M.hd;refine qq2 ?_;exact⟨L,a,b,λm h=>⟨c m h,(M.hc m h).lo,(M.hc m h).hi⟩⟩
theorem MkB.w0(M:MkB a):∀m∈a,0<m.2.2:=λm h=>by have:=M.hw m h;lia
structure Ans(kd:bf)(ms:ε Mk)(bd:π)(nu pl:ε θ):Prop where
 core:Core kd ms bd nu pl
 ndg:∀q∈nu,Dg 520 q
 pdg:∀q∈pl,Dg 520 q
 row:∃V:π,0<V/\V<=9*10^30/\∀m∈ms,(bY nu m.1).den∣V
 pul:∃U:π,0<U/\U<=10^930/\∀p∈pl,Cm U (10^186) p
theorem Nx(f:Mk->θ):∀a:ε Mk,tot (af (λ(m:Mk) p=>f m*p) a<|bp a.length 0)=0
 |[]=>rfl
 |m::a=>by rw[Ε,iy,Κ,tot,Nx f a,fo];grind
theorem Iq{f:Mk->θ}:∀{a:ε Mk},(∀m∈a,f m=0)->a.map f=bp a.length 0
 |[],_=>rfl
 |m::a,h=>by rw[Μ,Ε,iy,h m υ,Iq λo b=>h o<|ο _ b]
theorem aCr{c:bf}(M:MkB b)(o:c="far"\/c="square")(B:BendOk c b f g h)(r:b.length<=f+1):Ans c b f g h:=by
 obtain⟨l,i⟩:=B.thru r;have z:∀m∈b,m.2.1-bY g m.1=0:=λm a=>by rw[l m a];grind
 obtain⟨L,s,t,u⟩:=M.L;have k:∀p∈h,p=0:=λp e=>by rw[i]at e;exact(l4.mp e).2
 refine⟨⟨B.len,B.plen,?_,λj _=>by rw[i];exact Nx _ b⟩,B.dg,λq v=>by rw[k q v];exact Dg.zero,⟨L,s,?_,λm a=>by rw[l m a];exact(u m a).d⟩,1,by decide,vd _ _<|by decide,λp e=>by rw[k p e];exact Cm.zero⟩
 ·unfold yM;rcases o with rfl|rfl
  ·rw[ρ rfl];refine .inl ⟨k,λx n=>?_⟩;rw[wH]at n;obtain⟨m,a,rfl⟩:=Β.mp n;exact z m a
  ·rw[ι<|by decide,ι<|by decide,iW,i];exact(Iq λm a=>by rw[z m a,fo]).symm
 ·exact Α t (Α (Ρ (by decide) M.n8)<|by decide +kernel)
theorem Wi(g:Mk->θ->θ):∀(a:ε Mk)(b:ε θ),b.length=a.length->tot (af g a b)=aS a.length λi=>g (a.getD i (0,0,0)) (b.getD i 0)
 |[],b,h=>by rw[qr];rfl
 |m::a,[],h=>by simp at h
 |m::a,p::b,h=>by
  rw[Κ,tot,Wi g a b<|by simpa using h,Ε,jE];rfl
theorem aHf(M:MkB f)(I:n<=3)(F:FarB f n s o):Ans "far" f n s o:=by
 have Z:=M.fz;refine qq0 λqq2=>?_;obtain⟨ss,l,H⟩:=F.pok;obtain⟨L,J,N,O⟩:=M.L;obtain⟨a,c,t,G⟩:=M.tt;have R:=M.n8;have n1:=M.n1;obtain⟨V,S,T,W⟩:=aGf Z G F I J O;obtain⟨g,v,_,_,B⟩:=F.ch;refine qq2 ?_;have C:∀z∈mH (eG f g),Dg 186 z:=λz h=>by
  unfold mH at h;obtain⟨u,X,e⟩:=Β.mp h;rw[<-e];exact Bu (Z.cz v ‹48›<|‹48›)<|di.mp X
 have D:∀{x y:θ}{p:θ->Prop},(p y)->p (-y)->p (uJ x y):=λ{x y p} Y h2=>by unfold uJ;split;exact h2;exact Y
 obtain⟨U,U0,U1,hU⟩:=aCa 186 (mH<|eG f g) C;have ul:(mH<|eG f g).length<=5:=by rw[pR,fG,v.len];exact 48
 refine⟨⟨F.len,F.plen,?_,λj hj=>?_⟩,λq k=>(F.dg q k).mono<|by decide,λq k=>?_,⟨V,S,?_,W⟩,U,U0,Α U1<|Ρ (by decide)<|by lia,λp E=>?_⟩
 ·unfold yM;rw[ρ rfl,zU];exact H.fair Z
 ·rw[Wi (λm p=>m.1^j*p) f o F.plen];have:=H.even Z hj;unfold tD at this;rw[F.plen]at this;refine Eq.trans (bG λi _=>?_) this;exact n6 _ _
 ·rw[B]at k;refine(tT (p:=λq=>Dg 186 q) _ _ _ (λz h=>?_) (λx r=>?_) q k).mono (by decide)
  ·have d:=C _ (eh (a:=z.1) (b:=z.2) h).2;exact D (p:=λq=>Dg 186 q) d d.neg
  ·rw[(l4.mp r).2];exact Dg.zero
 ·refine Α T (Α (Τ (Α N<|Ρ (by decide) R)<|Χ _<|gx (show 3*f.length<=24 by lia) 6)<|by decide +kernel)
 ·rw[B]at E;refine tT (p:=λq=>Cm U (10^186) q) _ _ _ (λz h=>?_) (λx r=>?_) p E
  ·have d:=hU _ (eh (a:=z.1) (b:=z.2) h).2;exact D (p:=λq=>Cm U (10^186) q) d d.neg
  ·rw[(l4.mp r).2];exact Cm.zero
theorem Core.cm{e V:π}(C:Core d a e c f)(M:MkB a)(g:d∈eV)(i:∀m∈a,(bY c m.1).den∣V):∀m∈a,Cm V (10^8+10^6) (bY c m.1):=λm b=>by
 have h:=aPk<|C.miss g M.hw M.n8 M.hc m b;have j:=(M.hc m b).lo;have k:=(M.hc m b).hi;have l:((10^8:π):θ)+((10^6:π):θ)=((10^8+10^6:π):θ):=(xm _ _).symm;exact⟨i m b,by grind,by grind⟩
theorem aPi(M:MkB d)(y:h<=3)(J:h=3->d.length<=6)(N:h+1<d.length)(B:BendOk "square" d h f o):Ans "square" d h f o:=by
 obtain⟨S,s⟩:=B.sq N rfl;obtain⟨L,C,r,D⟩:=M.L;obtain⟨a,c,t,G⟩:=M.tt;have X:=M.n8;have Y:=M.n1;have core:Core "square" d h f o:=by
  refine⟨B.len,B.plen,?_,λj Z=>?_⟩
  ·unfold yM;rw[ι<|by decide,ι<|by decide,iW,s]
  ·have z:fC d (λm=>m.2.1-bY f m.1) j=0:=by
    have e1:fC d (λm=>m.2.1-bY f m.1+bY f m.1) j=fC d (λm=>m.2.1-bY f m.1) j+fC d (λm=>bY f m.1) j:=nB d _ _ j;have e2:fC d (λm=>m.2.1-bY f m.1+bY f m.1) j=fC d (λm=>m.2.1) j:=by congr 1;funext m;grind
    have e3:=S.2 j ‹48›;grind
   rw[s,<-z];unfold fC;have:∀A:ε Mk,af (λ(m:Mk) p=>m.1^j*p) A (A.map λm=>(m.2.2:θ)*(m.2.1-bY f m.1))=A.map λm=>(m.2.2:θ)*(m.2.1-bY f m.1)*m.1^j:=λA=>by
    induction A with
    |nil=>rfl
    |cons m A O=>rw[Μ,Κ,O,Μ];congr 1;exact 45
   rw[this]
 have u:∃V:π,0<V/\V<=9*10^30/\∀m∈d,(bY f m.1).den∣V:=by
  by_cases R:h=3
  ·have l6:=J R;obtain⟨V,k,l,n⟩:=Wx (q:=3*d.length) (W:=24) (M:=gB (3*d.length) 4*(24^4*(3*d.length)^6)) G M.nd M.hw (by lia) (by decide) S y ‹0› C D (λz=>by lia) λ_=>ω _;refine⟨V,k,Α l ?_,n⟩;have v:d.length=5\/d.length=6:=by lia
   rcases v with e|e <;>rw[e]at r⊢<;>exact Α (Ψ _ r) (by decide +kernel)
  ·obtain⟨V,k,l,n⟩:=Wx (q:=3*d.length) (W:=32) (M:=gB (3*d.length) 3*(32^3*(3*d.length)^3)) G M.nd M.hw (by lia) (by decide) S y ‹0› C D (λz=>ω _) λz=>by lia
   refine⟨V,k,Α l ?_,n⟩;have v:d.length=1\/d.length=2\/d.length=3\/d.length=4\/d.length=5\/d.length=6\/d.length=7\/d.length=8:=by lia
   rcases v with e|e|e|e|e|e|e|e <;>rw[e]at r⊢<;>exact Α (Ψ _ r) (by decide +kernel)
 obtain⟨V,k,l,n⟩:=u;have T:=core.cm M (by simp[eV]) n;have E:∀p∈o,Cm (LL*V) (4*(10^6+(10^8+10^6))) p:=λp g=>by
  rw[s]at g;obtain⟨m,x,rfl⟩:=Β.mp g;have F:=(Cm.int (i:=m.2.2) (B:=4) (by have:=M.hw m x;lia)).mul<|((M.hc m x).mono (fx LL V)<|ω _).sub<|(T m x).mono (iv V LL)<|ω _;rw[jc]at F;exact F
 have H:0<LL*V:=fq mX k;have I:LL*V<=10^44:=Α (Τ sZ l) (by decide +kernel);exact⟨core,B.dg,λq U=>((E q U).dg H I (b:=10)<|by decide).mono<|by decide,⟨V,k,l,n⟩,LL*V,H,Α I<|Ρ (by decide)<|by decide,λp g=>(E p g).mono (dA _)<|by decide +kernel⟩
theorem aEi(Z:LSz L e)(N:e.length<=8)(E:∀m∈e,Cm 2 500 m.1)(F:0<=-cU (rr l) e)(G:0<=-cU (rr l) e.reverse):∃D:π,0<D/\D<=10^320/\∀p∈Cd l e,p.den∣D:=by
 have i:∀p∈gK l e,Cm 1 (10^100) p:=mT F Z.w;have u:∀p∈jL l e,Cm 1 (10^100) p:=λp f=>mT G (λm H=>Z.w m<|ng.mp H) p<|ng.mp f;have n:∀{j:ε θ},(∀p∈j,Cm 1 (10^100) p)->Dg 106 (lV e j):=λ{j} f=>by
  have h:=Cm.tot (qs:=af (λ(m:Mk) p=>m.1*p) e j) (L:=2*1) (B:=500*10^100)<|fJ E f λ_ _ k o=>k.mul o;refine(h.dg (by decide) (l:=1) (by decide) (b:=104) ?_).mono (by decide);refine Α (Ψ _ (show _<=8 by rw[ba];exact 50)) (by decide +kernel)
 unfold Cd;by_cases c:lV e (gK l e)=lV e (jL l e)
 ·rw[ρ c];exact⟨1,by decide,vd _ _<|by decide,λp f=>(i p f).d⟩
 ·rw[ι c];have I:lV e (gK l e)-lV e (jL l e)≠0:=λz=>c (by grind);have v:=(n i).div ((n i).sub<|n u) I;generalize lV e (gK l e)/(lV e (gK l e)-lV e (jL l e))=t at v⊢;refine⟨t.den,dX t.den_nz,v.d,λp f=>?_⟩;have J:Cm t.den (t.num.natAbs) t:=Cm.of (dA _)<|gg _<|dX t.den_nz;have r:∀(g bs:ε θ),(∀p∈g,Cm 1 (10^100) p)->(∀p∈bs,Cm 1 (10^100) p)->∀p∈af (λa b=>a+t*(b-a)) g bs,p.den∣t.den:=λg=>by
   induction g with
   |nil=>intro bs _ _ p f;exact nomatch f
   |cons a g M=>
    intro bs x y p f;cases bs with
    |nil=>exact nomatch f
    |cons b bs=>
     rw[Κ]at f;rcases Υ.mp f with rfl|f
     ·have k:=x a υ;have o:=y b υ;have C:=J.mul<|o.sub k;rw[ju]at C;exact((k.mono (BI _)<|ω _).add C).d
     ·exact M bs (λq s=>x q<|ο _ s) (λq s=>y q<|ο _ s) p f
  exact r _ _ i u p f
theorem FairL.bd{W:π}:∀{A:ε Mk}{a:ε θ},FairL r A a->(∀m∈A,m.2.2<=(W:χ))->∀p∈a,-(W:θ)<=p/\p<=(W:θ)
 |[],[],_,_,p,h=>nomatch h
 |m::A,p::a,h,hw,q,b=>by
  rcases Υ.mp b with rfl|b
  ·have e:=h.1.2.2.1;have f:=h.1.2.2.2;have c:(m.2.2:θ)<=((W:χ):θ):=bh.mpr<|hw m υ;rw[Ι]at c;exact⟨by grind,‹43›⟩
  ·exact FairL.bd h.2 (λx d=>hw x<|ο _ d) q b
theorem Jm(j:∀m:Mk,bY c m.1=l.1+l.2*m.1)(h:FairL (rr l) a b):yM "sum" a (a.map λm=>bY c m.1) b:=by
 unfold yM;rw[ι<|by decide,ρ rfl,wH];intro z k;obtain⟨i,n,rfl⟩:=cn k;simp only[dR,η]at n;rw[mf,mf,dr];have f:=h.at (i:=i) (ah<|‹117›) (ah<|by lia);refine qq0 λqq2=>?_;obtain⟨d,g,o,p⟩:=f;refine qq2 ?_;have e:rr l a[i]=a[i].2.1-bY c a[i].1:=by unfold rr;rw[j]
 rw[e]at d g;refine⟨?_,d,g⟩;show aM b[i]<=_;rcases bC b[i]with⟨_,e⟩|⟨_,e⟩ <;>rw[e] <;>grind
theorem Bj:∀{b:ε Mk}{a:ε θ},a.length=b.length->tot (af (λ(m:Mk) p=>m.1^0*p) b a)=tot a
 |[],[],_=>rfl
 |m::b,p::a,h=>by rw[Κ,tot,tot,Bj<|by simpa using h,js];grind
theorem Pj(M:MkB b)(h:FairL (rr l) b a)(d:∀p∈a,p.den∣U):∀p∈a,Cm U 4 p:=λp c=>by
 have:=h.bd (W:=4) (λm e=>(M.hw m e).2) p c;exact⟨d p c,this.1,this.2⟩
theorem aHe(M:MkB a):Ans "sum" a 0 [rP a] (gK (rP a,0) a):=by
 have Z:=M.ls;refine qq0 λqq2=>?_;obtain⟨o,r,e⟩:=Tv Z.ne Z.w1;obtain⟨L,s,t,u⟩:=M.L;obtain⟨h,c,i⟩:=Qb Z.ne Z.w1;refine qq2 ?_;have k:∀x:θ,bY [rP a] x=rP a:=λx=>by rw[bN,eQ];grind
 have v:∀p∈gK (rP a,0) a,Cm 1 (10^100) p:=mT o Z.w;have n:=Pj M e λp f=>(v p f).d;refine⟨⟨rfl,e.len,Jm (λm=>by rw[k];grind) e,λj y=>?_⟩,λq g=>?_,λq g=>((n q g).dg (by decide) (l:=0) (by decide) (b:=1)<|by decide).mono<|by decide,⟨L,s,?_,λm z=>by rw[k,<-i];exact(u h c).d⟩,1,by decide,vd _ _<|by decide,λp f=>(n p f).mono (dA _)<|by decide +kernel⟩
 ·rw[show j=0 by lia,Bj e.len,r]
 ·rw[br.mp g,<-i];exact((M.hc h c).dg mX sZ<|ω _).mono (by decide)
 ·exact Α t (Α (Ρ (by decide) M.n8)<|by decide +kernel)
theorem Zm(M:MkB g)(G:Grid g q a c t)(r:0<L)(j:∀m∈g,Cm L (10^6) m.2.1)(l:m∈g):∃V:π,0<V/\V<=L*q/\∀o∈g,((cJ g m).1+(cJ g m).2*o.1).den∣V:=by
 unfold cJ;by_cases e:qF g m=[]
 ·rw[ρ e];refine⟨L,r,gg _ G.q0,λo p=>?_⟩;rw[show m.2.1+0*o.1=m.2.1 by grind];exact(j m l).d
 ·rw[ι e];refine qq0 λqq2=>?_;obtain⟨z,I,J⟩:=(mQ (by simpa using e)<|pO (m:=m) M.ls.w1).mem;obtain⟨k,N,rfl⟩:=Β.mp I;obtain⟨D,O⟩:=ku.mp N;refine qq2 ?_;have R:k.1≠m.1:=fb O;rw[<-J];have h:∀o∈g,∃s:π,s<=q/\o.1=a*(s:θ)+c:=λo p=>by
   obtain⟨i,v,rfl⟩:=cn p;exact⟨t i,G.le i v,by rw[<-G.x i v];unfold xL;rw[aO v]⟩
  refine qq0 λqq2=>?_;obtain⟨b,S,y⟩:=h m l;obtain⟨tk,T,E⟩:=h k D;refine qq2 ?_;have ne:tk≠b:=λz=>R (by rw[y,E,z]);have a0:=G.a0;obtain⟨d,U⟩:∃d:χ,(tk:χ)-(b:χ)=d:=⟨_,rfl⟩;have W:d≠0:=by lia
  have X:(d:θ)=(tk:θ)-(b:θ):=by rw[<-U,pw,Ι,Ι]
  have B:(d:θ)≠0:=λz=>W (by
   have:(d:θ)=((0:χ):θ):=z
   exact Rat.intCast_inj.mp this)
  refine⟨L*d.natAbs,fq r<|‹15›,Χ _<|by lia,λo p=>?_⟩;obtain⟨f,Y,Z⟩:=h o p;have e1:m.2.1-(slp m k).1*m.1+(slp m k).1*o.1=m.2.1+(k.2.1-m.2.1)*(((f:χ)-(b:χ):χ):θ)/(d:θ):=by
   have s1:(slp m k).1=(k.2.1-m.2.1)/(k.1-m.1):=rfl;have s2:k.1-m.1=a*(d:θ):=by rw[E,y,X];grind
   have s3:(((f:χ)-(b:χ):χ):θ)=(f:θ)-(b:θ):=by rw[pw,Ι,Ι]
   have s4:(slp m k).1*(a*(d:θ))=k.2.1-m.2.1:=by
    rw[s1,s2];exact gj (λz=>by rcases gc.mp z with z|z;grind;exact B z)
   have s5:o.1-m.1=a*((f:θ)-(b:θ)):=by rw[Z,y];grind
   have s6:((slp m k).1*a)*(d:θ)=k.2.1-m.2.1:=by grind
   have s7:(slp m k).1*a=(k.2.1-m.2.1)/(d:θ):=by
    rw[<-s6,jb,j9,i5 _ B,gf]
   have s8:m.2.1-(slp m k).1*m.1+(slp m k).1*o.1=m.2.1+((slp m k).1*a)*((f:θ)-(b:θ)):=by grind
   rw[s8,s7,s3,jb,jb];grind
  show(m.2.1-(slp m k).1*m.1+(slp m k).1*o.1).den∣_;rw[e1];have C:0<L*d.natAbs:=fq r ‹15›;refine Kb C (oa (j m l).d<|fx _ _) ?_;have cy:=(j k D).sub<|j m l;obtain⟨u,F⟩:=iB cy;refine oS (n:=if 0<=d then u*((f:χ)-(b:χ))else -(u*((f:χ)-(b:χ)))) ‹34› ?_;have e2:(k.2.1-m.2.1)*(((f:χ)-(b:χ):χ):θ)/(d:θ)*(d:θ)=(k.2.1-m.2.1)*(((f:χ)-(b:χ):χ):θ):=gj B;generalize (k.2.1-m.2.1)*(((f:χ)-(b:χ):χ):θ)/(d:θ)=x at e2⊢;rw[fy];by_cases H:0<=d
  ·rw[ρ H,ae,<-F];have:((d.natAbs:π):θ)=(d:θ):=by rw[<-Ι];congr 1;lia
   rw[this];grind
  ·rw[ι H,ee,ae,<-F];have:((d.natAbs:π):θ)=-(d:θ):=by rw[<-Ι,<-ee];congr 1;lia
   rw[this];grind
theorem aFm(M:MkB c)(a:m∈c):Dg 520 (cJ c m).1/\Dg 520 (cJ c m).2:=by
 have d:∀m∈c,Dg 20 m.2.1:=λm a=>(M.hc m a).dg mX sZ<|ω _;unfold cJ;by_cases e:qF c m=[]
 ·rw[ρ e];exact⟨(d m a).mono<|by decide,Dg.zero⟩
 ·rw[ι e];refine qq0 λqq2=>?_;obtain⟨z,h,i⟩:=(mQ (by simpa using e)<|pO (m:=m) M.ls.w1).mem;obtain⟨k,j,rfl⟩:=Β.mp h;obtain⟨f,n⟩:=ku.mp j;refine qq2 ?_;have o:k.1≠m.1:=fb n;rw[<-i];have p:Dg 5 (k.1-m.1):=((M.pl k f).sub<|M.pl m a).dg (by decide) (l:=1) (by decide) (b:=3) (by decide);have xd:Dg 5 m.1:=(M.pl m a).dg (by decide) (l:=1) (by decide) (b:=3) (by decide);have g:=((d k f).sub<|d m a).div p (λz=>o<|by grind);exact⟨((d m a).sub<|g.mul xd).mono<|by decide,g.mono<|by decide⟩
theorem aCs(M:MkB d):Ans "sum" d 1 [(fU d).1,(fU d).2] (Cd (fU d) d):=by
 have Z:=M.ls;refine qq0 λqq2=>?_;obtain⟨L,u,v,x⟩:=M.L;obtain⟨a,c,t,G⟩:=M.tt;have i:=M.n8;obtain⟨_,_,K,y,z⟩:=xJ Z;obtain⟨I,e,k⟩:=Be Z.ne;obtain⟨V,B,C,l⟩:=Zm M G u x e;refine qq2 ?_;rw[<-k]at l;have f:=K.fair;obtain⟨D,n,o,E⟩:=aEi Z i M.pl y z;have r:=Pj M f E;have J:=Rs Z;refine⟨⟨rfl,f.len,Jm (λm=>Zx _ _ _) f,λj N=>?_⟩,λq g=>?_,λq g=>((r q g).dg n o (b:=1)<|by decide).mono<|by decide,⟨V,B,?_,λm F=>by rw[Zx];exact l m F⟩,D,n,Α o<|Ρ (by decide)<|by decide,λp H=>(r p H).mono (dA _)<|by decide +kernel⟩
 ·have:j=0\/j=1:=by lia
  rcases this with rfl|rfl
  ·rw[Bj f.len,K.tot0]
  ·have h:=K.trn0;unfold lV iQ at h;rw[<-h]
   congr 2
   funext m p
   rw[Rat.pow_one]
 ·obtain⟨s,d2⟩:=aFm M e;rw[<-k]at s d2;simp only[Υ,dV,gz]at g;rcases g with rfl|rfl
  ·exact s
  ·exact d2
 ·exact Α C (Α (Τ (Α v<|Ρ (by decide) i)<|show 3*d.length<=24 by lia)<|by decide +kernel)
def aVu:DW:=λf Q _=>∃(b:bf)(c:ε Mk)(a:π),f=[.str b,.list<|c.map cP,.int (a:χ)]/\b∈eV/\MkB c/\a<=3/\(a=3->c.length<=6)/\(b="sum"->a<=1)/\∀d e:ε θ,Ans b c a d e->Q (.two (d.map fr)<|e.map fr)
theorem Ic:Q 10 54 (λ_=>aVu):=by
 refine fH 54 ["kind","marks","bend"] λA T R Z=>⟨_,by walk_at"t",_,(aH (bF (tO pU (aF 0) (aC aT)) (iY (vN 0 (vN 1 (vN 2 aB)))) aP)
   (aH (bF (tO cR (aF 2) bI) (iY (vN 1 aB)) aP)
   (aH (bF (tO cR (aF 2) bI) (iY (vN 1 aB)) aP)
   kG))),?_⟩
 intro q Q X qQ0;refine qq0 λqq2=>?_;obtain⟨a,b,d,rfl,h,M,e,i,j,k⟩:=qQ0;refine qq2 ?_;have f:a="far"\/a="sum"\/a="square":=by simpa[eV]using h
 have l:=M.n1;have two:a="far"\/a="square"->Vz [.str a,.list<|b.map cP,.int (d:χ)] Q X:=λg=>by
  refine⟨a,b,d,LL,LL,rfl,g,e,l,M.fz,M.sq,λm n B=>k m n ?_⟩;by_cases o:b.length<=d+1
  ·exact aCr M g B o
  ·rcases g with rfl|rfl
   ·exact aHf M e<|B.far (by lia) rfl
   ·exact aPi M e i (by lia) B
 walk_at"s";rcases f with rfl|rfl|rfl
 ·refine bW (λ_=>two<|.inl rfl) λc=>ψ (by decide +kernel) c
 ·refine bW (λc=>ψ rfl c) λ_=>?_;have r:=j rfl;walk_at"s";refine bW (λc=>?_) (λc=>?_)
  ·obtain rfl:d=0:=by lia
   exact⟨b,2*LL,rfl,M.ls,k _ _<|aHe M⟩
  ·obtain rfl:d=1:=by lia
   walk_at"s";refine bW (λ_=>⟨b,2*LL,rfl,M.ls,k _ _<|aCs M⟩) λp=>ψ rfl p
 ·refine bW (λ_=>two<|.inr rfl) λc=>ψ (by decide +kernel) c
def gX(a:ε χ)(k:χ):χ:=if k<(a.length:χ)then a.getD k.toNat default else 5*k*k+11*k+2
theorem Kj(h:∀v∈a,bj v<=1048576)(b:0<=k)(c:k<=1000):Bg 1048577 (gX a k):=by
 unfold gX;split
 ·exact Bg.of (aAd (p:=λv=>bj v<=1048576) h<|by decide)
 ·refine Bg.small ?_ (by decide);have d:5*k*k<=5000*1000:=Int.mul_le_mul (by lia) c b ‹29›;have e:0<=5*k*k:=Int.mul_nonneg (by lia) b;omega
def aQu:DW:=λb Q _=>∃(a:ε χ)(k:χ),b=[.list<|a.map .int,.int k]/\0<=k/\k<=1000/\Q (.dat<|.int<|gX a k)
theorem gN:Q 1 59 (λ_=>aQu):=by
 refine fH 59 ["script","k"] λA T R Z=>⟨_,by walk_at"t",_,(aH (bF (tO eW (aF 1) (aC (bQ cT (vN 0 aB)))) (bB (aC (bR (aL 0) (aF 1)))) aP)
   (bB (bO cN (bO cN (bO dQ (bO dQ bI (aF 1)) (aF 1)) (bO dQ bI (aF 1))) bI))),?_⟩
 intro d Q X qQ0;refine qq0 λqq2=>?_;obtain⟨e,k,rfl,b,f,a⟩:=qQ0;refine qq2 ?_;unfold gX at a;walk_at"s";refine bW (λc=>?_) λc=>?_
 ·rw[ρ c]at a;exact⟨_,Es ep b c,a⟩
 ·rw[ι c]at a;walk_at"d";exact⟨dJ (Sa)<|fR (n:=1000)<|by lia,dJ (fR (n:=5000)<|by lia)<|fR (n:=1000)<|by lia,dJ (Sa)<|fR (n:=1000)<|by lia,a⟩
def aVr:DW:=λa Q _=>∃t b:χ,a=[.int t,.int b]/\1<=b/\Wee b/\Q (.dat<|fr<|bz t b)
theorem xW:Q 1 60 (λ_=>aVr):=by
 refine fH 60 ["top","bottom","one","other"] λA T R Z=>⟨_,by walk_at"t",_,(sA 2 (bQ lE (vN 0 aB)) (sA 3 (bE 1) (aH (pG (tO eW (aF 3) bI) (aLa 2 3 (aI (bE 3) (aI (bZ dQ (aF 2) (aF 3)) aQ))))
   (bB (aC (cH (aI (bZ dQ (aF 0) (aF 2)) (aI (bZ dQ (aF 1) (aF 2)) aQ)))))))),?_⟩
 intro p Q X qQ0;refine qq0 λqq2=>?_;obtain⟨t,b,rfl,q,hw,k⟩:=qQ0;refine qq2 ?_;walk_at"s";walk_at"s";refine cW ?_;refine⟨λm e=>∃x y:χ,e=[γ<|.dat<|.int t,γ<|.dat<|.int b,γ<|.dat<|.int x,γ<|.dat<|.int y]/\m=y.toNat/\0<=x/\0<=y/\ck x y=ck t b,⟨_,_,b,rfl,rfl,by split <;>omega,by omega,by rw[Fm.abs_if];simp[ck]⟩,?_⟩;intro m e qQ0;refine qq0 λqq2=>?_;obtain⟨x,y,rfl,rfl,i,j,f⟩:=qQ0;refine qq2 ?_;walk_at"d";refine bW (λc=>?_) λc=>?_
 ·refine⟨c,_,?_,y,x%y,rfl,rfl,j,pq _<|‹21›,?_⟩
  ·have:=tp x c;have:=pq x (show y≠0 by exact 21);lia
  ·rw[Fm.gcd_step x y c,f]
 ·have d:y=0:=by lia
  subst d;have l:x=((ck t b:π):χ):=by rw[<-f,Fm.gcd_zero i]
  have g:(0:χ)<((ck t b:π):χ):=by have:=Fm.gcd_pos_right (a:=t) (b:=b) ‹21›;exact 19
  have h:Wee ((ck t b:π):χ):=Oe (Fm.gcd_le_right (a:=t) (b:=b)<|‹21›) hw;obtain⟨n,o⟩:=Fm.fr_pos (t:=t) (b:=b) ‹51›;rw[l];refine⟨⟨g,h⟩,⟨g,h⟩,?_⟩;rw[n,o];exact k
theorem Ju(h:χ):bz h b=(h:θ)/(b:θ):=ur _ _
def wP(c:bf)(a b:θ):θ:=if c="far" then(if a<b then b else a)else a+b
theorem wC(a:θ):a*(a.den:θ)=(a.num:θ):=(Fm.num_eq a).symm
theorem Dp(h:a∈eV):PyData.strOk a=true:=by
 have:a="far"\/a="sum"\/a="square":=by simpa[eV]using h
 rcases this with rfl|rfl|rfl <;>decide +kernel
theorem oZ{b c d:Type}(f:b->c->d):∀{A:ε b}{r:ε c}{B:ε b}{t:ε c},A.length=r.length->af f (A++B) (r++t)=af f A r++af f B t
 |[],[],_,_,_=>rfl
 |[],_::_,_,_,h=>by cases h
 |_::_,[],_,_,h=>by cases h
 |a::A,x::r,B,t,h=>by
  rw[fi,fi,Κ,Κ,fi,oZ f<|by simpa using h]
theorem Bn:∀(a b:ε θ),tot (a++b)=tot a+tot b
 |[],b=>by show tot b=0+tot b;grind
 |x::a,b=>by
  have:=Bn a b;rw[fi];simp only[tot];rw[this];grind
theorem Zg(a b:ε θ):gC (a++b)=if gC a<gC b then gC b else gC a:=by
 have d:=nE a;have e:=nE b
 symm
 refine nF ?_ ?_ λx c=>?_
 ·split <;>assumption
 ·split
  ·rcases @gA b with h|h
   ·exact .inl h
   ·exact .inr<|cc _ h
  ·rcases @gA a with h|h
   ·exact .inl h
   ·exact .inr<|ib _ h
 ·rcases cj.mp c with h|h
  ·have:=jV x h;split <;>grind
  ·have:=jV x h;split <;>grind
theorem wI{A B:ε Mk}(h:A.length=r.length):bM (A++B) (r++t)=bM A r++bM B t:=oZ _ h
theorem wJ{A:ε Mk}(h:A.length=r.length):(bM A r).length=A.length:=by
 unfold bM;rw[ba];exact 50
theorem yQ{A B:ε Mk}(h:A.length=r.length):cI (A++B) (r++t)=cI A r++cI B t:=by
 unfold cI;rw[wI h];exact oZ _ (wJ h).symm
theorem aLd{A B:ε Mk}(h:A.length=r.length):xN (A++B) (r++t)=xN A r++xN B t:=by
 unfold xN;rw[wI h,yQ h];refine oZ _ ?_;unfold cI;rw[ba,wJ h];exact 50
theorem Ze(b:bf){A B:ε Mk}(h:A.length=r.length):dS b (A++B) (r++t)=wP b (dS b A r) (dS b B t):=by
 unfold dS wP;by_cases a:b="far"
 ·rw[ρ a,ρ a,ρ a,ρ a,wI h,bu,Zg]
 ·rw[ι a,ι a,ι a,ι a];by_cases c:b="sum"
  ·rw[ρ c,ρ c,ρ c,yQ h,bu,Bn]
  ·rw[ι c,ι c,ι c,aLd h,Bn]
def aKn:DW:=λc Q _=>∃a b:θ,c=[fr a,fr b]/\Ok a/\Ok b/\Q (.dat<|.bool<|decide (a<b))
theorem sK:Q 1 61 (λ_=>aKn):=by
 refine fH 61 ["one","other"] λA T R Z=>⟨_,by walk_at"t",_,(bB<|bO eW (bO dQ (aC<|eX 0 0)<|aC<|eX 1 1)<|bO dQ (aC<|eX 0 1)<|aC<|eX 1 0),?_⟩;intro f Q X qQ0;refine qq0 λqq2=>?_;obtain⟨a,b,rfl,c,d,k⟩:=qQ0;refine qq2 ?_;walk_at"d";refine⟨dJ c.n d.d,dJ d.n c.d,?_⟩;have e:decide (a.num*(b.den:χ)<b.num*(a.den:χ))=decide (a<b):=by rw[xf];exact Fm.less_iff a b
 rw[e];exact k
theorem Ws(a b:θ):bz (a.num*(b.den:χ)+b.num*(a.den:χ)) ((a.den:χ)*(b.den:χ))=a+b:=by
 have c:=wC a;have d:=wC b;have e:=kT a;have f:=kT b;refine(Fm.eq_divInt (kg ‹21›<|‹21›) ?_).symm;rw[ae,j0,ae,ae,<-c,<-d];show(a+b)*((a.den:θ)*(b.den:θ))=a*(a.den:θ)*(b.den:θ)+b*(b.den:θ)*(a.den:θ);grind
def aKo:DW:=λf Q _=>∃(c:bf)(a b:θ)(d e:π),f=[.str c,fr a,fr b]/\Dg d a/\Dg e b/\d+e<=2300/\Q (.dat<|fr<|wP c a b)
theorem xY:Q 2 62 (λ_=>aKo):=by
 refine fH 62 ["kind","one","other"] λA T R Z=>⟨_,by walk_at"t",_,(aH (bF (tO cR (aF 0) (aC aT)) (aH (bF (lA (aC (aE (vN 1 (vN 2 aB))))) (dU 2) aP)
   (dU 1)) aP)
   (bB (aC (aE (vE (bZ cN (bO dQ (aC (eX 0 1)) (aC (eX 1 2))) (bO dQ (aC (eX 0 2)) (aC (eX 1 1)))) (vE (bZ dQ (aC (eX 1 1)) (aC (eX 1 2))) aB)))))),?_⟩
 intro p Q X qQ0;refine qq0 λqq2=>?_;obtain⟨g,a,b,j,l,rfl,h,i,q,k⟩:=qQ0;refine qq2 ?_;have d:Ok a:=cA h (by lia);have e:Ok b:=cA i (by lia);unfold wP at k;walk_at"s";refine bW (λc=>?_) λc=>?_
 ·have m:g="far":=c;rw[ρ m]at k;walk_at"s";refine⟨a,b,rfl,d,e,?_⟩;walk_at"d";refine bW (λf=>?_) (λf=>?_)
  ·rw[ρ f]at k;exact k
  ·rw[ι f]at k;walk_at"d";exact k
 ·have n:g≠"far":=c;rw[ι n]at k;walk_at"d";have o:((a.den:χ)*(b.den:χ)).natAbs<=10^(j+l):=by
   rw[dj,jd];exact Τ (by have:=h.d;assumption) (by have:=i.d;assumption)
  refine⟨dJ d.n e.d,dJ e.n d.d,dJ d.d e.d,_,_,rfl,ni (kT a)<|kT b,kA o<|‹1›,?_⟩;rw[Ws];walk_at"d";exact k
theorem Zf(h:0<=x):gC [x]=x:=(nF h (.inr<|by simp) λy a=>by rw[br.mp a];exact au).symm
theorem Ip(a:bf)(m:Mk)(h:θ):dS a [m] [h]=if a="far" then aM (m.2.1-h)else if a="sum" then aM ((m.2.2:θ)*(m.2.1-h))else(m.2.2:θ)*(m.2.1-h)*(m.2.1-h):=by
 unfold dS bM cI xN cI bM;by_cases b:a="far"
 ·rw[ρ b,ρ b];exact Zf<|gI _
 ·rw[ι b,ι b];by_cases c:a="sum"
  ·rw[ρ c,ρ c];show aM _+0=_;grind
  ·rw[ι c,ι c];show _+0=_;grind
theorem aGn(a b:θ):bz (a.num*(b.den:χ)-b.num*(a.den:χ)) ((a.den:χ)*(b.den:χ))=a-b:=by
 have c:=wC a;have d:=wC b;have e:=kT a;have f:=kT b;refine(Fm.eq_divInt (kg ‹21›<|‹21›) ?_).symm;rw[ae,pw,ae,ae,<-c,<-d];show(a-b)*((a.den:θ)*(b.den:θ))=a*(a.den:θ)*(b.den:θ)-b*(b.den:θ)*(a.den:θ);grind
theorem aPl(c:0<y):bz (if x<0 then -x else x) y=aM (bz x y):=by
 have d:(0:θ)<(y:θ):=gb.mpr c;have a:(0:θ)<(y:θ)⁻¹:=zu.mpr d;rw[Ju,Ju,jb,jb];by_cases h:x<0
 ·rw[ρ h];have b:(x:θ)<=0:=by
   have:=bh.mpr (show x<=0 by exact 36);exact this
  have e:0<=(-(x:θ))*(y:θ)⁻¹:=Ν (by grind)<|cq a;rw[cV<|by grind,ee];grind
 ·rw[ι h];have b:(0:θ)<=(x:θ):=hF.mpr ‹27›;rw[bU<|Ν b<|cq a]
theorem Vb{v:χ}(d:1<=v)(y:θ):aM ((v:θ)*y)=(v:θ)*aM y:=by
 have c:(0:θ)<=(v:θ):=hF.mpr ‹36›;rcases qi (a:=0) (b:=y)with h|h
 ·rw[bU h,bU<|Ν c h]
 ·have:=Ν c (show 0<=-y by grind);rw[cV h,cV<|by grind];grind
theorem Fr{b:Type}{a:ε b}{x:b}(h:a[i]? =γ x):a.take (i+1)=a.take i++[x]:=by
 rw[rj,h];rfl
theorem dg0(n:π):Dg n 0:=by
 refine⟨?_,?_⟩
 ·show natAbs 0<=_;simp
 ·show(1:π)<=_;exact jt (by decide:0<10)
theorem aTj{v:χ}(h:v.natAbs<=10^n):Dg n (v:θ):=⟨h,by show(1:π)<=_;exact jt (by decide:0<10)⟩
theorem aAy(h:Dg n q):Dg n (aM q):=by
 rcases bC q with⟨_,e⟩|⟨_,e⟩ <;>rw[e]
 ·exact h
 ·exact h.neg
theorem aMr(e:Dg b m.2.1)(f:m.2.2.natAbs<=10^d)(g:Dg c h):Dg (2*(b+c+1)+d+2) (dS kd [m] [h]):=by
 rw[Ip];have a:=e.sub g;have d2:=(aTj f).mul a;split
 ·exact(aAy a).mono ‹48›
 ·split
  ·exact(aAy d2).mono ‹48›
  ·exact(d2.mul a).mono ‹48›
theorem aFu(e:Dg c a)(f:Dg d b):Dg (c+d+1) (wP g a b):=by
 unfold wP;split
 ·split
  ·exact f.mono ‹48›
  ·exact e.mono ‹48›
 ·exact e.add f
theorem Ts{b:ε Mk}{a:ε θ}(c:b[i]? =γ m)(d:a[i]? =γ h):dS kd (b.take<|i+1) (a.take<|i+1)=wP kd (dS kd (b.take i)<|a.take i) (dS kd [m] [h]):=by
 rw[Fr c,Fr d];refine Ze kd ?_;have:=(Δ.mp c).1;have:=(Δ.mp d).1;rw[ao,ao];lia
theorem aRh{w b a:χ}(c:0<a)(h:bz b a=aM d):bz (w*b*b) (a*a)=(w:θ)*d*d:=by
 have e:(a:θ)≠0:=λz=>by have:=gb.mpr c;grind
 have f:aM d*(a:θ)=(b:θ):=by
  rw[<-h,Ju];exact gj e
 have g:aM d*aM d=d*d:=by
  rcases bC d with⟨_,z⟩|⟨_,z⟩ <;>rw[z];grind
 refine(Fm.eq_divInt (kg ‹21›<|‹21›) ?_).symm;rw[ae,ae,ae,<-f];have i:(w:θ)*(aM d*(a:θ))*(aM d*(a:θ))=(w:θ)*(aM d*aM d)*((a:θ)*(a:θ)):=by grind
 rw[i,g];grind
def aDj:DW:=λg Q _=>∃(c:bf)(b:ε Mk)(a:ε θ)(d e f:π),g=[.str c,.list<|b.map cP,.list<|a.map fr]/\c∈eV/\a.length=b.length/\b.length<=60/\(∀m∈b,Dg d m.2.1/\1<=m.2.2/\m.2.2.natAbs<=10^f)/\(∀q∈a,Dg e q)/\
 (b.length+1)*(2*(d+e+1)+f+3)<=2300/\Q (.dat<|fr<|dS c b a)
theorem nP:Q 3 63 (λ_=>aDj):=by
 refine fH 63 ["kind","some","row","total","mark","height","top","bottom"] λA T R Z=>⟨_,by walk_at"t",_,(sA 3 (cH (aI aU (aI aU aQ))) (aH (eA (Mp (bE 1) (bE 2)) (eB (aW (aG 4) (aW (aG 5) dO)))
    (sA 6 (bQ lE (vE (bZ cN (bO dQ (aC (kD 0 (eX 1 4))) (aC (eX 1 5))) (bO dQ (aC (eX 0 5)) (aC (kD 1 (eX 1 4))))) aB)) (sA 7 (bZ dQ (aC (kD 1 (eX 1 4))) (aC (eX 1 5))) (aH (bF (tO cR (aF 0) (aC aT)) (eL (aE (vN 0 (vN 3 (vE (aE (vN 6 (vN 7 aB))) aB)))) (aG 3)) aP)
   (aH (bF (tO cR (aF 0) (aC aT)) (eL (aE (vN 0 (vN 3 (vE (aE (vE (bZ dQ (aC (eX 2 4)) (aF 6)) (vN 7 aB))) aB)))) (aG 3)) aP)
   (bF (tO cR (aF 0) (aC aT)) (eL (aE (vN 0 (vN 3 (vE (aE (vE (bZ dQ (bO dQ (aC (eX 2 4)) (aF 6)) (aF 6)) (vE (bZ dQ (aF 7) (aF 7)) aB))) aB)))) (aG 3)) aP))))))
   (dU 3))),?_⟩
 intro ds Q X qQ0;refine qq0 λqq2=>?_;obtain⟨kd,j,b,q,r,B,rfl,hk,hl,a3,hm,H,I,k⟩:=qQ0;refine qq2 ?_;walk_at"s"
 refine cW (eJ (λp:Mk×θ=>ay [cP p.1,fr p.2]) (j.zip b) (λQ h=>by
   walk_at"d"
   rw[cK];exact h)
  (λi J=>∃L M N O:Θ Sl,J=[γ (.dat (.str kd)),γ (.dat (.list (j.map cP))),γ (.dat (.list (b.map fr))),γ (.dat (fr (dS kd (j.take i) (b.take i)))),L,M,N,O]/\Dg (i*(2*(q+r+1)+B+3)) (dS kd (j.take i) (b.take i))) ⟨ν,ν,ν,ν,?_,?_⟩ ?_ ?_)
 ·have e:dS kd (j.take 0) (b.take 0)=0:=by
   unfold dS;split
   ·rfl
   ·split <;>rfl
  rw[e];rfl
 ·have e:dS kd (j.take 0) (b.take 0)=0:=by
   unfold dS;split
   ·rfl
   ·split <;>rfl
  rw[e];exact dg0 _
 ·intro i qQ0 J hi qQ1;refine qq0 λqq2=>?_;obtain⟨m,h⟩:=qQ0;obtain⟨L,M,N,O,rfl,s⟩:=qQ1;obtain⟨t,C⟩:=i9.mp hi;refine qq2 ?_;have d:=hm m<|Ω t;have l:=H h<|Ω C;have il:i<j.length:=(Δ.mp t).1;have e:=Ts (kd:=kd) t C;obtain⟨u,D⟩:∃u,2*(q+r+1)+B+2=u:=⟨_,rfl⟩;have n:(i+1)*(u+1)+(u+1)<=2300:=by
   refine Α ?_ I;rw[<-mm,<-D];exact Ψ _ ‹8›
  have a:=aMr (kd:=kd) d.1 d.2.2 l;rw[D]at a;rw[show 2*(q+r+1)+B+3=u+1 by lia]at s;have v:Dg ((i+1)*(u+1)) (dS kd (j.take<|i+1)<|b.take<|i+1):=by
   rw[e,mm];exact(aFu s a).mono ‹48›
  have S:Ok m.2.1:=cA d.1 (by lia);have U:Ok h:=cA l (by lia);have hf:2*(q+r+1)+B+3=u+1:=by lia
  obtain⟨T0,W⟩:∃T0,dS kd (j.take i) (b.take i)=T0:=⟨_,rfl⟩;rw[W]at e s⊢;walk_at"s";refine⟨dJ S.n U.d,dJ U.n S.d,?_⟩;walk_at"s";refine⟨dJ S.d U.d,?_⟩;have g:=aPl (x:=m.2.1.num*(h.den:χ)-h.num*(m.2.1.den:χ)) (y:=(m.2.1.den:χ)*(h.den:χ))<|ni (kT _)<|kT _;rw[aGn]at g;have pr:∀{x y:χ},x.natAbs<=10^q->y.natAbs<=10^r->(x*y).natAbs<=10^(q+r):=λ{x y} hx hy=>by
   rw[dj,jd];exact Τ hx hy
  have p1:=pr d.1.n (y:=(h.den:χ)) (by have:=l.d;assumption);have p2:=pr (x:=(m.2.1.den:χ)) (by have:=d.1.d;assumption) l.n;rw[zy]at p2;have F:=pr (x:=(m.2.1.den:χ)) (y:=(h.den:χ)) (by have:=d.1.d;assumption) (by have:=l.d;assumption);have Y:(if m.2.1.num*(h.den:χ)-h.num*(m.2.1.den:χ)<0 then -(m.2.1.num*(h.den:χ)-h.num*(m.2.1.den:χ))else m.2.1.num*(h.den:χ)-h.num*(m.2.1.den:χ)).natAbs<=10^(q+r+1):=by
   have hz:=Int.natAbs_sub_le (m.2.1.num*(h.den:χ))<|h.num*(m.2.1.den:χ);rw[eT];split
   ·rw[sj];lia
   ·lia
  have E:(0:χ)<(m.2.1.den:χ)*(h.den:χ):=ni (kT _)<|kT _;refine qq0 λqq2=>?_;obtain⟨o,a0⟩:∃o:χ,(if m.2.1.num*(h.den:χ)-h.num*(m.2.1.den:χ)<0 then -(m.2.1.num*(h.den:χ)-h.num*(m.2.1.den:χ))else m.2.1.num*(h.den:χ)-h.num*(m.2.1.den:χ))=o:=⟨_,rfl⟩;obtain⟨f,a1⟩:∃f:χ,(m.2.1.den:χ)*(h.den:χ)=f:=⟨_,rfl⟩;refine qq2 ?_;rw[a0]at g Y⊢;rw[a1]at g F E⊢;have wt:Wee o:=kA Y (by lia);have G:Wee f:=kA F (by lia);have ww:Wee m.2.2:=kA d.2.2 (by lia);have bq:(f:θ)≠0:=λz=>by have:=gb.mpr E;grind
  rw[Ip]at e a;have a2:kd="far"\/kd="sum"\/kd="square":=by simpa[eV]using hk
  rw[hf]at *
  rcases a2 with rfl|rfl|rfl
  ·rw[ρ rfl]at e a;walk_at"s";refine⟨o,f,rfl,‹51›,G,?_⟩;rw[g];walk_at"d";refine⟨_,_,_,_,_,rfl,s,a,by rw[mm]at n;lia,?_⟩;rw[<-e];walk_at"s";refine bW (λc=>ψ c<|by decide) λ_=>?_;walk_at"d";refine bW (λc=>ψ c<|by decide) λ_=>?_;exact⟨_,_,_,_,rfl,v⟩
  ·rw[ι<|by decide,ρ rfl]at e a;walk_at"s";refine bW (λc=>ψ c<|by decide) λ_=>?_;walk_at"s";refine⟨dJ ww wt,m.2.2*o,f,rfl,‹51›,G,?_⟩;have e5:bz (m.2.2*o) f=aM ((m.2.2:θ)*(m.2.1-h)):=by
    rw[Vb d.2.1,<-g,Ju,Ju,ae];exact 46
   rw[e5];walk_at"d";refine⟨_,_,_,_,_,rfl,s,a,by rw[mm]at n;lia,?_⟩;rw[<-e];walk_at"d";refine bW (λc=>ψ c<|by decide) λ_=>?_;exact⟨_,_,_,_,rfl,v⟩
  ·rw[ι<|by decide,ι<|by decide]at e a;walk_at"s";refine bW (λc=>ψ c<|by decide) λ_=>?_;walk_at"s";refine bW (λc=>ψ c<|by decide) λ_=>?_;walk_at"d";have q1:(m.2.2*o).natAbs<=10^(B+(q+r+1)):=by
    rw[dj,jd];exact Τ d.2.2 Y
   have q2:(f*f).natAbs<=10^((q+r)+(q+r)):=by
    rw[dj,jd];exact Τ F F
   have bb:0<f*f:=ni E E;refine⟨dJ ww wt,dJ (kA q1<|by lia) wt,dJ G G,m.2.2*o*o,f*f,rfl,bb,kA q2<|by lia,?_⟩;have e5:bz (m.2.2*o*o) (f*f)=(m.2.2:θ)*(m.2.1-h)*(m.2.1-h):=aRh E g;rw[e5];walk_at"d";refine⟨_,_,_,_,_,rfl,s,a,by rw[mm]at n;lia,?_⟩;rw[<-e];walk_at"d";exact⟨_,_,_,_,rfl,v⟩
 ·intro J qQ0;refine qq0 λqq2=>?_;obtain⟨L,M,N,O,rfl,s⟩:=qQ0;refine qq2 ?_;have e:(j.zip b).length=j.length:=by rw[dR];exact 50
  have e2:b.take j.length=b:=bA ‹48›;rw[e,kh,e2];walk_at"d";exact k
def eT2(a:Enc c)(b:Enc f)(h:a.dep<=50)(g:b.dep<=50):Enc (c×f) where
 d:=λp=>.tuple [a.d p.1,b.d p.2]
 dep:=max a.dep b.dep+1
 small:=Α (qo<|y6.2 ⟨h,g⟩) (by decide)
 lay:=λp=>by
  show((a.d p.1).canLay0 && ((b.d p.2).canLay0 && true))=true;rw[a.lay,b.lay];rfl
 depth:=λp=>by
  simp only[PyData.depth,PyData.depthAll];exact qo<|y6.2 ⟨Α (a.depth p.1)<|Nat.le_max_left _ _,y6.2 ⟨Α (b.depth p.2)<|Nat.le_max_right _ _,iw _⟩⟩
 eqv:=λp q=>by
  show PyData.eqvAll [a.d p.1,b.d p.2] [a.d q.1,b.d q.2]=true↔p=q;have i:=a.eqv p.1 q.1;have j:=b.eqv p.2 q.2;simp only[PyData.eqvAll,jz,i,j,AL];exact⟨λ⟨x,y⟩=>BP x y,λe=>by rw[e];exact⟨rfl,rfl⟩⟩
open PySem.NumText (AllDigits digitsVal)
theorem gG{x y:bf}(h:x.cps.toList=y.cps.toList):x=y:=by
 cases x;cases y;simp only at h;rw[Array.toList_inj.mp h]
theorem dY(x:bf):x.cps.toList.length=x.length:=by simp[Str.length]
theorem aLh(x:bf):(et x ν<|some 1).cps.toList=x.cps.toList.take 1:=by
 have c:=dY x;by_cases h:1<=x.length
 ·have e:=slice_closes_to (x:=x) (j:=1) ⟨by decide,‹19›⟩;rw[eq_of_beq e];simp
 ·have e:=ik x ν<|some 1;have a:(et x ν<|some 1).cps.toList=[]:=gq.mp (by rw[dY];lia);have b:x.cps.toList=[]:=gq.mp (by lia);rw[a,b];rfl
theorem Ow(x:bf):(et x (γ 1) ν).cps.toList=x.cps.toList.drop 1:=by
 have c:=dY x;by_cases h:1<=x.length
 ·have e:=wc (x:=x) (i:=1) ⟨by decide,‹19›⟩;rw[eq_of_beq e];have a:((x.cps.toList.length:χ)-1).toNat=(x.cps.toList.drop 1).length:=by rw[az];lia
  rw[a];show take _ (x.cps.toList.drop<|toNat 1)=_;exact kh
 ·have e:=ik x (γ 1) ν;have b:(et x (γ 1) ν).cps.toList=[]:=gq.mp (by rw[dY];lia);have a:x.cps.toList=[]:=gq.mp (by lia);rw[b,a];rfl
theorem yJ(x y:bf):bo x y=decide (0<=PySem.Txt.find x y):=by
 unfold bo PySem.Txt.find;cases cf x y 0 x.length 1 with
 |nil=>rfl
 |cons i r=>simp
theorem vM(h:bo x y=false):Η x y=(x,Str.empty,Str.empty):=by
 unfold bo at h;unfold Η;cases e:cf x y 0 x.length 1 with
 |nil=>rfl
 |cons i r=>rw[e]at h;cases h
theorem aEr(h:bo x y=true):(Η x y).2.1=y:=by
 unfold bo at h;unfold Η;cases e:cf x y 0 x.length 1 with
 |nil=>rw[e]at h;cases h
 |cons i r=>rfl
def qP(c:π):Bool:=decide (48<=c) && decide (c<=57)
theorem isDig_iff:qP c=true↔48<=c/\c<=57:=by simp[qP]
theorem aNx:("0123456789":bf).cps.toList=[48,49,50,51,52,53,54,55,56,57]:=by decide +kernel
theorem aAg(c:π):PySem.Txt.find "0123456789" ⟨#[c]⟩=if qP c=true then(c:χ)-48 else -1:=by
 have a:∀i:π,StrLaws.At "0123456789" ⟨#[c]⟩ ("0123456789":bf).length i↔i<10/\c=48+i:=by
  intro i;unfold StrLaws.At;have k:("0123456789":bf).length=10:=by decide +kernel
  have e:(⟨#[c]⟩:bf).length=1:=rfl;rw[xi,aNx,k,e];constructor
  ·rintro⟨l,m⟩;have b:i<10:=‹51›
   refine⟨b,?_⟩;have f:=eq_of_beq m;have d:∀i:π,i<10->([48,49,50,51,52,53,54,55,56,57].drop i).take 1=[48+i]:=by decide
   rw[d i b]at f;have g:[48+i]=[c]:=f;injection g with g
   exact 48
  ·rintro⟨b,rfl⟩;refine⟨‹51›,?_⟩;have d:∀i:π,i<10->([48,49,50,51,52,53,54,55,56,57].drop i).take 1=[48+i]:=by decide
   rw[d i b];exact fu _
 rcases BD "0123456789" ⟨#[c]⟩with⟨h,n⟩|⟨i,h,o,_⟩
 ·rw[h,ι];intro j;have j:=isDig_iff.mp j;exact n (c-48)<|(a _).mpr ⟨by lia,by lia⟩
 ·obtain⟨e,l⟩:=(a i).mp o;rw[h,ρ<|isDig_iff.mpr ⟨‹48›,by lia⟩];lia
theorem Zv(c:π):bo "0123456789" ⟨#[c]⟩=qP c:=by
 rw[yJ,aAg];cases h:qP c with
 |true=>
  have:=isDig_iff.mp h;rw[ρ rfl];exact cD (by lia)
 |false=>
  rw[ι bg];rfl
def rX(a:ε π):ε π:=if a.head? =γ 45 then a.drop 1 else a
def oP(a:ε π):Bool:=decide (1<=a.length) && decide (a.length<=40) && !(decide (a.head? =γ 48) && decide (1<a.length)) && a.all qP
def kB(a:ε π):Θ χ:=if (!decide (a=[45,48]) && oP (rX a))=true then γ (if a.head? =γ 45 then -((digitsVal (rX a):π):χ)else((digitsVal (rX a):π):χ))else ν
def Jj(x:bf):bf:=if x.cps.toList.head? =γ 45 then et x (γ 1) ν else x
theorem Uo(x:bf):(Jj x).cps.toList=rX x.cps.toList:=by
 unfold Jj rX;split
 ·exact Ow x
 ·rfl
theorem aAh(x:bf):(Jj x).length<=x.length:=by
 unfold Jj;split
 ·exact ik x _ _
 ·exact ω _
theorem oM:("-":bf).cps.toList=[45]:=by decide +kernel
theorem sO:("-0":bf).cps.toList=[45,48]:=by decide +kernel
theorem mS(x:bf):et x ν (γ 1)="-"↔x.cps.toList.head? =γ 45:=by
 have e:=aLh x;constructor
 ·intro h;rw[h,oM]at e;cases a:x.cps.toList with
  |nil=>rw[a]at e;cases e
  |cons c r=>rw[a]at e;injection e with b;rw[yh,<-b]
 ·intro h;apply gG;rw[e,oM];cases a:x.cps.toList with
  |nil=>rw[a]at h;cases h
  |cons c r=>rw[a]at h;injection h with d;rw[d];rfl
theorem Al(x:bf):x="-0"↔x.cps.toList=[45,48]:=⟨λh=>by rw[h,sO],λh=>gG<|by rw[h,sO]⟩
theorem Jk(h:oP a=true):1<=a.length/\a.length<=40/\AllDigits a/\(a.head? =γ 48->a.length=1):=by
 simp only[oP,jz,kr,rh,qw,me,pe]at h;obtain⟨⟨⟨d,f⟩,b⟩,g⟩:=h;exact⟨d,f,λc i=>isDig_iff.mp<|g c i,λe=>by rcases b with b|b;exact ψ e b;lia⟩
theorem zS(h:kB a=γ n):oP (rX a)=true/\a≠[45,48]/\n=if a.head? =γ 45 then -((digitsVal (rX a):π):χ)else((digitsVal (rX a):π):χ):=by
 unfold kB at h;split at h
 ·rename_i b
  simp only[jz,rh,me]at b;cases h;exact⟨b.2,b.1,rfl⟩
 ·cases h
theorem aFb(h:kB x.cps.toList=γ n):x.length<=41/\PySem.intText? x=γ n:=by
 obtain⟨j,l,d⟩:=zS h;obtain⟨b,g,f,_⟩:=Jk j;have k:=dY x;unfold rX at b g f d;split at b
 ·rename_i a
  rw[ρ a]at g f d;cases i:x.cps.toList with
  |nil=>rw[i]at a;cases a
  |cons c r=>
   rw[i]at a b g f d k;injection a with a
   subst a;have hlen:x.length<=41:=by
    rw[az]at g;lia
   refine⟨hlen,?_⟩;rw[we i (show AllDigits r from f) (λe=>by rw[e]at b;exact ψ b<|by decide)<|‹101›,d];rfl
 ·rename_i a
  rw[ι a]at g f d;refine⟨‹101›,?_⟩;rw[ua f (λe=>by rw[e]at b;exact ψ b<|by decide)<|‹101›,d,ι a]
theorem Cz(a b:String):(ζ<|a++b).cps.toList=(ζ a).cps.toList++(ζ b).cps.toList:=by
 rw[ub,ub,ub];simp
theorem aTf(h:AllDigits b):digitsVal b<10^b.length:=by
 have f:∀(b:ε π)(a:π),AllDigits b->b.foldl (λg c=>g*10+(c-48)) a<(a+1)*10^b.length:=by
  intro b
  induction b with
  |nil=>intro a _;simp
  |cons c r i=>
   intro a h;have l:=h c (by simp);have j:=i (a*10+(c-48)) λd k=>h d (by simp[k]);rw[xu,Ε,eT];refine av j ?_;have e:(a+1)*(10^r.length*10)=(a*10+10)*10^r.length:=by
    rw[fm (10^r.length) 10,<-gi,l5 a 1 10,jc]
   rw[e];exact Ψ _ (by lia)
 have:=f b 0 h;simpa[digitsVal]using this
theorem Tg(h:kB a=γ n):n.natAbs<10^40:=by
 obtain⟨b,f,c⟩:=zS h;obtain⟨g,d,e,i⟩:=Jk b;have j:=aTf e;have k:(10:π)^(rX a).length<=10^40:=Ρ (by decide) d;have l:n.natAbs=digitsVal (rX a):=by
  rw[c];split <;>lia
 lia
theorem Ir{i:χ}(h:i.natAbs<10^50):i.natAbs.log2<1920:=by
 by_cases a:i.natAbs=0
 ·rw[a];decide
 ·exact(yi a).mpr (av h<|by decide +kernel)
theorem iT{n:χ}(h:n.natAbs<10^50):(ζ<|toString n).length<=51:=by
 by_cases a:0<=n
 ·have:=ve (k:=50) a (by decide) (by omega);exact 1
 ·rw[len_text_neg<|by omega];have:=ve (k:=50) (v:=0-n) (by omega) (by decide) (by omega);lia
def lX(x:bf):Θ (χ×χ):=
 match kB (Η x "/").1.cps.toList with
 |none=>ν
 |some t=>if (Η x "/").2.1=Str.empty then γ (t,1)else
  match kB (Η x "/").2.2.cps.toList with
  |none=>ν
  |some b=>if b<2\/ck t b≠1 then ν else γ (t,b)
theorem hG:(ζ "/").length=1:=by decide +kernel
theorem Xd:(ζ "/")≠Str.empty:=by decide +kernel
theorem vP(x:bf):(Η x "/").2.1=Str.empty↔bo x "/"=false:=by
 constructor
 ·intro h;cases a:bo x "/" with
  |false=>rfl
  |true=>exact ψ ((aEr a).symm.trans h) Xd
 ·intro h;rw[vM h]
theorem vO(x y:bf):(Η x y).1.length<=x.length/\(Η x y).2.1.length<=x.length/\(Η x y).2.2.length<=x.length:=fact_partition x y
theorem uN(a:bo x "/"=false):lX x=(kB x.cps.toList).map (λt=>(t,1)):=by
 unfold lX;rw[vM a];cases kB x.cps.toList with
 |none=>rfl
 |some t=>simp
theorem yW(a:bo x "/"=true)(c:kB (Η x "/").1.cps.toList=γ t)(d:kB (Η x "/").2.2.cps.toList=γ b):
  lX x=if b<2\/ck t b≠1 then ν else γ (t,b):=by
 unfold lX;rw[c,d];simp only;rw[ι λz=>by rw[(vP x).mp z]at a;cases a]
theorem Wb(a:kB (Η x "/").1.cps.toList=ν):lX x=ν:=by
 unfold lX;rw[a]
theorem Wa(a:bo x "/"=true)(b:kB (Η x "/").2.2.cps.toList=ν):lX x=ν:=by
 unfold lX;split
 ·rfl
 ·rw[b];simp only;rw[ι λz=>by rw[(vP x).mp z]at a;cases a]
theorem aFk(g:2<=b):((bz t b).num=t/\((bz t b).den:χ)=b)↔ck t b=1:=by
 obtain⟨c,d⟩:=Fm.fr_pos (t:=t) (b:=b) ‹36›;rw[<-c,<-d];constructor
 ·rintro⟨_,h⟩;have e:((ck t b:π):χ)∣b:=vu ..;have a:=Int.mul_ediv_cancel' e;rw[h]at a;have f:((ck t b:π):χ)*b=1*b:=by rw[a,sv]
  have i:=Int.eq_of_mul_eq_mul_right (by lia) f;lia
 ·intro h;rw[h];simp
open PySem.StrLaws (At ChainG partsFrom occ_tight partsBetween_eq)
open PySem.Builtin.Str (occurrences partsBetween strSub subAt)
theorem pJ(x:bf)(i j:π):(strSub x i j).cps.toList=(x.cps.toList.drop i).take (j-i):=AD x i j
theorem Nn(x y:bf)(i:π):At x y x.length i↔i+y.length<=x.length/\(x.cps.toList.drop i).take y.length=y.cps.toList:=by
 unfold StrLaws.At;rw[xi];exact⟨λh=>⟨h.1,eq_of_beq h.2⟩,λh=>⟨h.1,kx.mpr h.2⟩⟩
structure Sp1(y:bf)(c:π)(pre post:ε π):Prop where
 is:y.cps.toList=pre++c::post
 no:c∉pre
theorem Sp1.len(s:Sp1 y c pre post):y.length=pre.length+1+post.length:=by
 rw[<-dY,s.is,Λ,Ε];exact 48
theorem Ji(s:Sp1 y c pre post)(d:x.cps.toList.drop a=u++y.cps.toList++v)(l:a<=x.length)(f:c∉u):
  At x y x.length (a+u.length)/\∀k,a<=k->k<a+u.length->¬At x y x.length k:=by
 have m:=dY x;have g:=dY y;have hlen:x.length-a=u.length+y.length+v.length:=by
  have:=ea length d;simp only[az,Λ]at this;assumption
 refine⟨(Nn x y _).mpr ⟨by lia,?_⟩,λk n o h=>?_⟩
 ·rw[<-qx,d,bx,ue,List.take_append_of_le_length<|‹48›,bA<|‹48›]
 ·obtain⟨p,e⟩:=(Nn x y k).mp h;obtain⟨j,rfl⟩:∃j,k=a+j:=⟨k-a,‹23›⟩;rw[<-qx,d]at e;have b:(take y.length<|drop j<|u++y.cps.toList++v)[pre.length]? =γ c:=by
   rw[e,s.is,cx<|ω _,oy];rfl
  rw[lj (by rw[s.len];exact 48),qa,bx]at b;by_cases i:j+pre.length<u.length
  ·rw[ek i]at b;exact f<|Ω b
  ·rw[cx<|‹24›,s.is,bx,ek<|by lia]at b;exact s.no<|Ω b
theorem aFd(s:Sp1 y c pre post)(e:c∉x.cps.toList.drop a):∀k,a<=k->¬At x y x.length k:=λk g f=>by
 obtain⟨h,b⟩:=(Nn x y k).mp f;obtain⟨j,rfl⟩:∃j,k=a+j:=⟨k-a,‹23›⟩;rw[<-qx]at b;have d:(take y.length<|drop j<|x.cps.toList.drop a)[pre.length]? =γ c:=by
  rw[b,s.is,cx<|ω _,oy];rfl
 rw[lj (by rw[s.len];exact 48),qa]at d;exact e<|Ω d
def sV(y:ε π):ε (ε π)->ε π
 |[]=>[]
 |[w]=>w
 |w::r=>w++y++sV y r
theorem iJ(y w z:ε π)(r:ε<|ε π):sV y (w::z::r)=w++y++sV y (z::r):=rfl
theorem gO(y:bf):∀a:ε bf,(Txt.join y a).cps.toList=sV y.cps.toList (a.map λw=>w.cps.toList):=by
 intro a;show(Builtin.Str.glued y a).cps.toList=_;rw[AE]
 induction a with
 |nil=>rfl
 |cons w r b=>
  cases r with
  |nil=>rfl
  |cons z r=>
   show(w++y++Str.join y (z::r)).cps.toList=_;rw[Μ,Μ,iJ,<-Μ (f:=λw:bf=>w.cps.toList),<-b];simp only[uc,uw]
theorem Ge(s:Sp1 y c pre post):∀(l:ε<|ε π)(a f:π)(b:ε π),l≠[]->a<=x.length->x.cps.toList.drop a=sV y.cps.toList l->(∀w∈l,c∉w) ->
  ChainG x y x.length a b f->(∀k,f<=k->¬At x y x.length k)->(partsFrom x y.length a b).map (λp=>p.cps.toList)=l
 |[],_,_,_,h,_,_,_,_,_=>ψ rfl h
 |[w],a,f,b,_,o,g,hw,i,m=>by
  have v:=aFd s (a:=a) (by rw[g];exact hw w<|by simp);cases b with
  |nil=>
   show[(strSub x a x.length).cps.toList]=[w];have B:=dY x;rw[pJ,bA (by rw[az];exact 50),g];rfl
  |cons d r=>exact ψ i.2.1<|v d i.1
 |w::z::r,a,f,b,_,o,g,hw,i,m=>by
  rw[iJ]at g;obtain⟨t,C⟩:=Ji s g o (hw w<|by simp);have B:=dY x;have n:=dY y;have hlen:x.length-a=w.length+y.length+(sV y.cps.toList<|z::r).length:=by
   have:=ea length g;simp only[az,Λ]at this;assumption
  cases b with
  |nil=>
   have e:f=a:=i;exact ψ t (m _<|‹48›)
  |cons d q=>
   obtain⟨D,E,F,G⟩:=i;have e:d=a+w.length:=by
    rcases wg d (a+w.length)with j|j|j
    ·exact ψ E<|C d D j
    ·exact j
    ·exact ψ t<|F _ ‹48› j
   subst e;show(strSub x a<|a+w.length).cps.toList::(partsFrom x y.length (a+w.length+y.length) q).map (λp=>p.cps.toList)=_;rw[pJ,g,show a+w.length-a=w.length by lia,bx,y8]
   congr 1
   refine Ge s (z::r) _ f q (by simp) (by lia) ?_ (λu H=>hw u<|ο _ H) G m;have I:x.cps.toList.drop (a+w.length+y.length)=drop (w.length+y.length) (x.cps.toList.drop a):=by
    rw[qx];congr 1;exact 48
   rw[I,g,bx,<-qx,ue,<-n,ue]
theorem Xa(b:1<=y.length)(g:Builtin.Str.strKind y<=Builtin.Str.strKind x):Txt.split x y=partsFrom x y.length 0 (occurrences x y 0 x.length<|x.length+1):=by
 unfold PySem.Txt.split;by_cases d:x.length<y.length
 ·rw[ρ<|by simp[d]];obtain⟨f,a,_⟩:=BN x y b;cases e:occurrences x y 0 x.length (x.length+1)with
  |nil=>
   show[x]=[strSub x 0 x.length];rw[wh]
  |cons c r=>
   rw[e]at a;have:=a.2.1.1;lia
 ·rw[ι (by simp;lia)];split
  ·rename_i a
   rw[List.isEmpty_iff.mp a];show[x]=[strSub x 0 x.length];rw[wh]
  ·exact uh x _ _
theorem Zq(h:∀c∈y.cps.toList,c<128)(x:bf):Builtin.Str.strKind y<=Builtin.Str.strKind x:=by
 have a:Builtin.Str.strKind y=1:=by
  unfold Builtin.Str.strKind;rw[ρ];rw[<-Array.all_toList];exact pe.mpr λc b=>cD (m9 (h c b)<|by decide)
 rw[a];unfold Builtin.Str.strKind;split
 ·exact ω _
 ·split <;>decide
theorem oB(s:Sp1 y c pre post)(l:∀d∈y.cps.toList,d<128)(j:e≠[])(hw:∀w∈e,c∉w.cps.toList):Txt.split (Txt.join y e) y=e:=by
 have i:1<=y.length:=by rw[s.len];exact 48
 rw[Xa i<|Zq l _];obtain⟨f,m,n⟩:=BN (Txt.join y e) y i;have h:=Ge s (e.map λw=>w.cps.toList) 0 f _ (by simpa using j) (iw _) (by rw[mx,gO]) (by simpa using hw) m n;have k:∀(a b:ε bf),a.map (λw=>w.cps.toList)=b.map (λw=>w.cps.toList)->a=b:=by
  intro a
  induction a with
  |nil=>intro b g;cases b with |nil=>rfl|cons _ _=>simp at g
  |cons w r o=>
   intro b g;cases b with
   |nil=>simp at g
   |cons z q=>
    simp only[Μ,xy]at g;rw[gG g.1,o q g.2]
 exact k _ _ h
theorem tX(s:Sp1 y c pre post)(n:c∉a.cps.toList):Η (a++y++b) y=(a,y,b):=by
 obtain⟨x,l⟩:∃x,a++y++b=x:=⟨_,rfl⟩;have d:x.cps.toList=a.cps.toList++y.cps.toList++b.cps.toList:=by
  rw[<-l];simp only[uc,uw]
 have D:=dY x;have E:=dY a;have o:=dY y;obtain⟨h,m⟩:=Ji (a:=0) s (by rw[mx];exact d) (iw _) n;rw[Nat.zero_add]at h m;have hw:=BD x y;unfold PySem.Txt.find at hw;rw[l];unfold Η;cases e:occurrences x y 0 x.length 1 with
 |nil=>
  rw[e]at hw;rcases hw with⟨_,p⟩|⟨i,g,_⟩
  ·exact ψ h<|p _
  ·simp at g
 |cons i r=>
  rw[e]at hw;have g:At x y x.length i/\∀k,k<i->¬At x y x.length k:=by
   rcases hw with⟨z,_⟩|⟨j,q,t,u⟩
   ·simp at z
   ·have:i=j:=by have:(i:χ)=(j:χ):=q;lia
    subst this;exact⟨t,u⟩
  have v:i=a.cps.toList.length:=by
   rcases wg i a.cps.toList.length with f|f|f
   ·exact ψ g.1<|m i (iw _) f
   ·exact f
   ·exact ψ h<|g.2 _ f
  subst v;show(strSub x 0 a.cps.toList.length,y,strSub x (a.cps.toList.length+y.length) x.length)=(a,y,b);have B:strSub x 0 a.cps.toList.length=a:=by
   apply gG;rw[pJ,d,mx,yy,bx,y8]
  have C:strSub x (a.cps.toList.length+y.length) x.length=b:=by
   apply gG;rw[pJ,bA (by rw[az];exact 50),d,bx,<-qx,ue,<-o,ue]
  rw[B,C]
abbrev Mk7:=(χ×χ)×(χ×χ)×χ
def mD(m:Mk7):μ:=.tuple [.tuple [.int m.1.1,.int m.1.2],.tuple [.int m.2.1.1,.int m.2.1.2],.int m.2.2]
def tS(t b:χ):bf:=if b=1 then ζ (toString t)else ζ (toString t)++ζ "/"++ζ (toString b)
def Sm(m:Mk7):bf:=tS m.1.1 m.1.2++ζ ":"++tS m.2.1.1 m.2.1.2++ζ "*"++ζ (toString m.2.2)
def Sm7(m:Mk7):Prop:=m.1.1.natAbs<10^50/\m.1.2.natAbs<10^50/\m.2.1.1.natAbs<10^50/\m.2.1.2.natAbs<10^50/\m.2.2.natAbs<10^50
theorem tQ(a:t.natAbs<10^50)(c:b.natAbs<10^50):(tS t b).length<=103:=by
 have d:=iT a;have e:=iT c;have f:=hG;unfold tS;split
 ·exact 1
 ·rw[Φ,Φ];lia
theorem rY:(ζ ":").length=1:=by decide +kernel
theorem uV:(ζ "*").length=1:=by decide +kernel
theorem fD:(ζ " ").length=1:=by decide +kernel
theorem Bv(h:Sm7 m):1<=(Sm m).length/\(Sm m).length<=259:=by
 have a:=tQ h.1 h.2.1;have b:=tQ h.2.2.1 h.2.2.2.1;have c:=iT h.2.2.2.2;have:=rY;have:=uV;unfold Sm;rw[Φ,Φ,Φ,Φ];lia
def pN(x:bf):Θ Mk7:=
 match lX (Η x ":").1 with
 |none=>ν
 |some a=>match lX (Η (Η x ":").2.2 "*").1 with
  |none=>ν
  |some b=>match kB (Η (Η x ":").2.2 "*").2.2.cps.toList with
   |none=>ν
   |some n=>if n<1 then ν else γ (a,b,n)
structure Digs(k n:π)(cs:ε π):Prop where
 al:AllDigits cs
 l1:1<=cs.length
 l2:cs.length<=k
 hd:cs.head? =γ 48->cs.length=1
 vl:digitsVal cs=n
theorem Qt(a:ε π)(c:π):digitsVal (a++[c])=digitsVal a*10+(c-48):=by
 unfold NumText.digitsVal;rw[ro];rfl
theorem Eg:∀(k n:π),n<10^(k+1)->∃b,Digs (k+1) n b
 |0,n,h=>⟨[48+n],λc f=>by rw[br.mp f];lia,by simp,by simp,λ_=>rfl,by have:=Qt []<|48+n;rw[ij]at this;rw[this];show 0*10+_=n;lia⟩
 |k+1,n,h=>by
  by_cases o:n<10
  ·obtain⟨b,d⟩:=Eg k n (by rw[eT];have:=jt (n:=k) (show 0<10 by decide);lia);exact⟨b,d.al,d.l1,by have:=d.l2;exact 3,d.hd,d.vl⟩
  ·obtain⟨b,d⟩:=Eg k (n/10) (by rw[eT]at h;lia);have j:=d.l1;have p:=d.l2;refine⟨b++[48+n%10],λc f=>?_,by simp,by simp;assumption,λe=>?_,?_⟩
   ·rcases cj.mp f with z|z
    ·exact d.al c z
    ·rw[br.mp z];lia
   ·have g:b.head? =γ 48:=by
     cases b with
     |nil=>simp at j
     |cons a r=>simpa using e
    have l:=d.hd g;obtain⟨a,i⟩:∃a,b=[a]:=List.length_eq_one_iff.mp l;rw[i]at g;have m:a=48:=by simpa using g
    have v:=d.vl;rw[i,m]at v;have:digitsVal [48]=0:=rfl;lia
   ·rw[Qt,d.vl];lia
theorem aGm(d:Digs k n a):(ζ<|toString ((n:π):χ)).cps.toList=a:=by
 have b:∀c:π,c<58->(Char.ofNat c).toNat=c:=by decide
 have f:=d.l1;rw[<-d.vl,W.KIN.signs_num,y9 (a.length-1) a ‹50› d.al ?_,ia]
 ·refine(df (g:=id) λc e=>?_).trans<|AR _;have:=d.al c e;exact b c ‹48›
 ·cases a with
  |nil=>exact ψ f (by decide)
  |cons c r=>
   by_cases e:c=48
   ·left;have:=d.hd (by rw[e];rfl);lia
   ·right;have:=d.al c (by simp);exact⟨c,r,rfl,by lia⟩
theorem kN{n:χ}(h:n.natAbs<10^(k+1)):∃a,Digs (k+1) n.natAbs a/\(ζ<|toString n).cps.toList=if n<0 then 45::a else a:=by
 obtain⟨a,d⟩:=Eg k n.natAbs h;refine⟨a,d,?_⟩;have e:=aGm d;by_cases b:n<0
 ·rw[ρ b,toString_neg b,Cz];have c:(0:χ)-n=((n.natAbs:π):χ):=by lia
  rw[c,e];show("-":bf).cps.toList++a=45::a;rw[oM];rfl
 ·rw[ι b];have c:n=((n.natAbs:π):χ):=by lia
  rw[c];exact e
theorem wB(h:n.natAbs<10^40):kB (ζ<|toString n).cps.toList=γ n:=by
 obtain⟨b,d,e⟩:=kN (k:=39) h;have p:=d.l1;have t:=d.l2;have l:oP b=true:=by
  unfold oP;rw[cD p,cD<|show b.length<=40 by assumption];have q:(decide (b.head? =γ 48) && decide (1<b.length))=false:=by
   rw[qw];by_cases m:b.head? =γ 48
   ·right;exact aA (by have:=d.hd m;lia)
   ·left;exact aA m
  rw[q];simp only[ow,p9,uq,pe];exact λc s=>isDig_iff.mpr<|d.al c s
 have g:=d.vl;have f:b.head?≠γ 45:=λz=>by
  cases b with
  |nil=>simp at z
  |cons a r=>
   have:=d.al a (by simp);have:a=45:=by simpa using z
   lia
 rw[e];unfold kB;by_cases o:n<0
 ·rw[ρ o];have i:rX (45::b)=b:=rfl;rw[i,l];have j:(45::b)≠[45,48]:=λz=>by
   have:b=[48]:=by simpa using z
   rw[this]at g;have:digitsVal [48]=0:=rfl;lia
  rw[aA j];simp only[ow,p9,mi,yh,g]
  congr 1;lia
 ·rw[ι o];have i:rX b=b:=ι f;rw[i,l];have j:b≠[45,48]:=λz=>by rw[z]at f;exact f rfl
  rw[aA j,ι f];simp only[ow,p9,mi,g]
  congr 1;lia
def Pv(c:π):Prop:=c=45\/(48<=c/\c<=57)
theorem oJ{n:χ}(h:n.natAbs<10^(k+1)):∀c∈(ζ<|toString n).cps.toList,Pv c:=by
 obtain⟨b,d,e⟩:=kN h;rw[e];intro c a;split at a
 ·rcases Υ.mp a with z|z
  ·exact .inl z
  ·exact .inr<|d.al c z
 ·exact .inr<|d.al c a
theorem oE:(ζ "/").cps.toList=[47]:=by decide +kernel
theorem xA:(ζ ":").cps.toList=[58]:=by decide +kernel
theorem zE:(ζ "*").cps.toList=[42]:=by decide +kernel
theorem iD:(ζ " ").cps.toList=[32]:=by decide +kernel
theorem Kl:(ζ " | ").cps.toList=[32,124,32]:=by decide +kernel
theorem Gg:Sp1 (ζ "/") 47 [] []:=⟨oE,by simp⟩
theorem Xb:Sp1 (ζ ":") 58 [] []:=⟨xA,by simp⟩
theorem aEa:Sp1 (ζ "*") 42 [] []:=⟨zE,by simp⟩
theorem Gh:Sp1 (ζ " ") 32 [] []:=⟨iD,by simp⟩
theorem aLf:Sp1 (ζ " | ") 124 [32] [32]:=⟨Kl,by decide⟩
theorem eK(a b:bf):(a++b).cps.toList=a.cps.toList++b.cps.toList:=by simp only[uc,uw]
theorem uX(d:t.natAbs<10^(k+1))(e:b.natAbs<10^(k+1)):∀c∈(tS t b).cps.toList,Pv c\/c=47:=by
 intro c a;unfold tS at a;split at a
 ·exact .inl<|oJ d c a
 ·rw[eK,eK,oE]at a;simp only[cj,br]at a;rcases a with(z|z)|z
  ·exact .inl<|oJ d c z
  ·exact .inr z
  ·exact .inl<|oJ e c z
theorem aLj(h:Sm7 m):∀c∈(Sm m).cps.toList,Pv c\/c=47\/c=58\/c=42:=by
 intro c a;unfold Sm at a;rw[eK,eK,eK,eK,xA,zE]at a;simp only[cj,br]at a;rcases a with(((z|z)|z)|z)|z
 ·rcases uX (k:=49) h.1 h.2.1 c z with y|y
  ·exact .inl y
  ·exact .inr<|.inl y
 ·exact .inr<|.inr<|.inl z
 ·rcases uX (k:=49) h.2.2.1 h.2.2.2.1 c z with y|y
  ·exact .inl y
  ·exact .inr<|.inl y
 ·exact .inr<|.inr<|.inr z
 ·exact .inl<|oJ (k:=49) h.2.2.2.2 c z
theorem iG(a:y=⟨#[c]⟩):bo x y=decide (c∈x.cps.toList):=by
 rw[a];exact BJ x c
theorem uW:(ζ "/")=⟨#[47]⟩:=by decide +kernel
theorem Kt(a:t.natAbs<10^40)(f:b.natAbs<10^40)(i:1<=b)(g:ck t b=1):lX (tS t b)=γ (t,b):=by
 have sg:=oJ (k:=39) a;have c:47∉(ζ<|toString t).cps.toList:=λz=>by
  rcases sg 47 z with y|y
  ·exact ψ y (by decide)
  ·lia
 unfold tS;by_cases e:b=1
 ·rw[ρ e,uN (by rw[iG uW];exact aA c),wB a,e];rfl
 ·rw[ι e];have d:=tX Gg (b:=ζ<|toString b) c;have h:bo (ζ (toString t)++ζ "/"++ζ (toString b)) "/"=true:=by
   refine(iG (x:=ζ (toString t)++ζ "/"++ζ (toString b)) uW).trans<|cD ?_;rw[eK,eK,oE];simp
  rw[yW h (t:=t) (b:=b) (by rw[d];exact wB a) (by rw[d];exact wB f),ι];rintro(z|z)
  ·lia
  ·exact z g
structure Lw7(m:Mk7):Prop where
 a:m.1.1.natAbs<10^40
 b:m.1.2.natAbs<10^40
 c:m.2.1.1.natAbs<10^40
 d:m.2.1.2.natAbs<10^40
 e:m.2.2.natAbs<10^40
 b1:1<=m.1.2
 d1:1<=m.2.1.2
 e1:1<=m.2.2
 g1:ck m.1.1 m.1.2=1
 g2:ck m.2.1.1 m.2.1.2=1
theorem Lw7.sm(h:Lw7 m):Sm7 m:=⟨m9 h.a<|by decide,m9 h.b<|by decide,m9 h.c<|by decide,m9 h.d<|by decide,m9 h.e<|by decide⟩
theorem aDz(h:Lw7 m):pN (Sm m)=γ m:=by
 have d:58∉(tS m.1.1 m.1.2).cps.toList:=λz=>by
  rcases uX (k:=39) h.a h.b 58 z with(y|y)|y
  ·exact ψ y (by decide)
  ·lia
  ·exact ψ y (by decide)
 have e:42∉(tS m.2.1.1 m.2.1.2).cps.toList:=λz=>by
  rcases uX (k:=39) h.c h.d 42 z with(y|y)|y
  ·exact ψ y (by decide)
  ·lia
  ·exact ψ y (by decide)
 have f:Sm m=tS m.1.1 m.1.2++ζ ":"++(tS m.2.1.1 m.2.1.2++ζ "*"++ζ (toString m.2.2)):=by
  apply gG;unfold Sm;simp only[eK,bx]
 have g:=tX Xb (b:=tS m.2.1.1 m.2.1.2++ζ "*"++ζ (toString m.2.2)) d;have i:=tX aEa (b:=ζ<|toString m.2.2) e;have a:Η (Sm m) ":"=(tS m.1.1 m.1.2,(":":bf),tS m.2.1.1 m.2.1.2++ζ "*"++ζ (toString m.2.2)):=by rw[f];exact g
 have c:Η (tS m.2.1.1 m.2.1.2++ζ "*"++ζ (toString m.2.2)) "*"=(tS m.2.1.1 m.2.1.2,("*":bf),ζ<|toString m.2.2):=i;unfold pN;rw[a,c];dsimp only;rw[Kt h.a h.b h.b1 h.g1,Kt h.c h.d h.d1 h.g2,wB h.e];dsimp only;rw[ι (by have:=h.e1;lia)]
def aQt(C:Ζ):DW:=λa Q X=>∃d,a=[d]/\((∃x,d= .str x)->Q (.dat .none))/\((∀x,d≠ .str x)->X C)
theorem yB:Q 1 45 (λA=>(aQt A.x_NoText)):=by
 refine fH 45 ["text"] λA T R Z=>⟨_,by walk_at"t",_,(bF (jZ<|lA<|aC<|oQ (by decide)<|aF 0) (cY<|aI aT aQ) aP),?_⟩;intro c Q X qQ0;refine qq0 λqq2=>?_;obtain⟨d,rfl,a,b⟩:=qQ0;refine qq2 ?_;cases d with
 |str x=>
  walk_at"d";exact a ⟨x,rfl⟩
 |_=>
  walk_at"d";exact b λx e=>nomatch e
def aQq:DW:=λa Q _=>∃x:bf,a=[.str x]/\x.length<=100000/\Q (.dat<|.bool<|oP x.cps.toList)
theorem yA:Q 1 46 (λ_=>aQq):=by
 refine fH 46 ["text"] λA T R Z=>⟨_,by walk_at"t",_,(aH (bF (gL (tO cR (aC (bQ mZ (vN 0 aB))) bI) (tO eW (aC (bQ mZ (vN 0 aB))) bI)) (bB (aC jM)) aP)
   (aH (bF (uO (tO cR (bO aLq (aF 0) bI) (aC aT)) (tO eW (aC (bQ mZ (vN 0 aB))) bI)) (bB (aC jM)) aP)
   (bB (aC (bQ Xo (vE (cL (bS [ν] ["sign"] (IvS.e (Mq (bE 0))) (aG 0) bV (bZ Xl (aF 0) (aC aT)))) aB)))))),?_⟩
 intro l Q X qQ0;refine qq0 λqq2=>?_;obtain⟨x,rfl,f,k⟩:=qQ0;refine qq2 ?_;have g:=dY x;walk_at"s";refine⟨f,bW (λc=>?_) λc=>?_⟩
 ·have e:oP x.cps.toList=false:=by
   unfold oP;rw[aA<|show ¬1<=x.cps.toList.length by lia];rfl
  rw[e]at k;exact k
 refine⟨f,bW (λq=>?_) λq=>?_⟩
 ·have e:oP x.cps.toList=false:=by
   unfold oP;rw[aA<|show ¬x.cps.toList.length<=40 by lia];simp
  rw[e]at k;exact k
 obtain⟨a,r,b⟩:∃a r,x.cps.toList=a::r:=by
  cases h:x.cps.toList with
  |nil=>rw[h]at g;simp at g;lia
  |cons a r=>exact⟨a,r,rfl⟩
 walk_at"s";refine⟨f,a,?_,?_⟩
 ·rw[b];exact fQ (j:=0) rfl
 have m:((⟨#[a]⟩:bf)="0")↔a=48:=by
  constructor
  ·intro h;have n:=ea (λz:bf=>z.cps.toList) h;have s:("0":bf).cps.toList=[48]:=by decide +kernel
   rw[s]at n;injection n
  ·rintro rfl;apply gG;decide +kernel
 rw[b]at g k;have d:¬(a=48/\1<x.length)->dLC (aOt<|aBb 0) [ν] (Dw 0) aOj (dOp aFa (Ke 0)<|dC<|dB<|ζ "0123456789") X
     [γ<|Sl.dat<|dB x] (λl=>∃o,l=List.map PyData.bool o/\Q (Sl.dat<|PyData.bool<|o.all id)):=by
  intro t
  refine bL sgD PyData.bool (λc=>[qP c]) x.cps.toList (by rw[b];lia) (λQ h=>by
   walk_at"d"
   exact h) (λc B N u v=>?_) ?_
  ·unfold sgD;walk_at"d";rw[Zv];exact v
  refine⟨x.cps.toList.flatMap λc=>[qP c],rfl,?_⟩;have e:oP (a::r)=(x.cps.toList.flatMap λc=>[qP c]).all id:=by
   rw[b,aN,zz];unfold oP;rw[cD<|show 1<=(a::r).length by simp,cD<|show(a::r).length<=40 by lia];have y:(decide ((a::r).head? =γ 48) && decide (1<(a::r).length))=false:=by
    rw[qw];by_cases h:a=48
    ·right;exact aA λz=>t ⟨h,‹138›⟩
    ·left;exact aA λz=>h (by injection z)
   rw[y];rfl
  rw[e]at k;exact k
 refine bW (λi=>?_) λi=>d λz=>i<|m.mpr z.1;refine⟨f,bW (λp=>?_) λp=>d λz=>p<|by lia⟩;have e:oP (a::r)=false:=by
  unfold oP;rw[cD (show(a::r).head? =γ 48 by rw[m.mp i];rfl),cD<|show 1<(a::r).length by lia];simp
 rw[e]at k;exact k
def aJz(C:Ζ):DW:=λa Q X=>∃x:bf,a=[.str x]/\x.length<=100000/\(∀n,kB x.cps.toList=γ n->Q (.dat<|.int n))/\(kB x.cps.toList=ν->X C)
theorem xS:Q 2 47 (λA=>(aJz A.x_NoText)):=by
 refine fH 47 ["text","figures"] λA T R Z=>⟨_,by walk_at"t",_,(nY (eL (aAp (tO cR (aC (Dz (aF 0) fZ (cS bI))) (aC aT)) (Dz (aF 0) (cS bI) fZ) (bE 0)) (aG 1))
   (aH (bF (gL (tO cR (aF 0) (aC aT)) (jZ (lA (aC (aE (vN 1 aB)))))) (cY (aI aT aQ)) aP)
   (bB (aC (bQ Cb (vN 0 aB)))))),?_⟩
 intro k Q X qQ0;refine qq0 λqq2=>?_;obtain⟨x,rfl,b,g,d⟩:=qQ0;refine qq2 ?_;refine oU (λe=>e=[γ<|.dat<|.str x,γ<|.dat<|.str<|Jj x]) ?_ ?_
 ·walk_at"d";refine⟨b,bW (λc=>⟨b,?_⟩) λc=>?_⟩
  ·unfold Jj;rw[ρ<|(mS x).mp c]
  ·unfold Jj;rw[ι λz=>c<|(mS x).mpr z]
 rintro e rfl;refine cW ?_;walk_at"d";have h:=aAh x;refine bW (λc=>?_) λc=>?_
 ·refine d ?_;unfold kB;rw[cD<|(Al x).mp c];rfl
 refine⟨Jj x,rfl,‹102›,?_⟩;walk_at"d";rw[Uo];refine bW (λa=>?_) λa=>?_
 ·refine d ?_;unfold kB;rw[a];simp
 have i:∃n,kB x.cps.toList=γ n:=by
  unfold kB;rw[ρ]
  ·exact⟨_,rfl⟩
  ·rw[aA λz=>c<|(Al x).mpr z];simpa using a
 obtain⟨n,f⟩:=i;obtain⟨l,j⟩:=aFb f;walk_at"d";exact⟨‹101›,n,j,g n f⟩
def aQh(C:Ζ):DW:=λa Q X=>(∃x:bf,a=[.str x]/\x.length<=100000/\(∀t b,lX x=γ (t,b)->Q (.dat<|.tuple [.int t,.int b]))/\(lX x=ν->X C))\/(∃d,a=[d]/\(∀x,d≠ .str x)/\X C)
theorem rL:Q 3 48 (λA=>(aQh A.x_NoText)):=by
 intro A P w K mg base T;refine okW (T.G 48).F kJ (λp Q E h=>?_) λq C outer s H E R=>?_
 ·rcases h with⟨_,rfl,_⟩|⟨_,rfl,_⟩ <;>rfl
 have Z:=kJ
 refine⟨_,by walk_at"t",_,(aH (pI (aC (iE (vN 0 aB))))
   (aH (bF (tO zI (aC aT) (aF 0)) (bB (aC (cH (aI (iE (vN 0 aB)) (aI aU aQ))))) aP)
   (sA 1 (qS (aF 0) (aC aT)) (sA 2 (iE (vE (eX 0 1) aB)) (sA 3 (iE (vE (eX 2 1) aB)) (aH (bF (gL (tO eW (aF 3) bI) (tO hX (aC (aE (vN 2 (vN 3 aB)))) (aC (cH (aI (bE 2) (aI (bE 3) aQ)))))) (cY (aI aT aQ)) aP)
   (bB (aC (cH (aI (bE 2) (aI (bE 3) aQ))))))))))),?_⟩
 rintro p Q X (⟨x,rfl,i,j,f⟩|⟨d,rfl,r,k⟩)
 ·walk_at"s";refine⟨.str x,rfl,λ_=>?_,λz=>ψ rfl<|z x⟩;walk_at"s";refine bW (λc=>?_) (λc=>?_)
  ·have e:=uN c;refine⟨x,rfl,i,λn a=>?_,λa=>f (by rw[e,a];rfl)⟩;walk_at"d";exact j n 1 (by rw[e,a];rfl)
  have l:bo x "/"=true:=by simpa using c
  refine qq0 λqq2=>?_;obtain⟨D,_,G⟩:=vO x "/";refine qq2 ?_;walk_at"s";refine⟨i,by rw[hG];rfl,?_⟩;walk_at"s";refine⟨_,rfl,‹102›,λt u=>?_,λa=>f<|Wb a⟩;walk_at"s";refine⟨_,rfl,‹102›,λb m=>?_,λa=>f<|Wa l a⟩;have e:=yW l u m;have y:=Tg m;walk_at"s";refine bW (λo=>f<|by rw[e,ρ<|.inl o]) λo=>?_;walk_at"d";refine⟨t,b,rfl,fR (n:=10^40)<|‹100›,λz=>ψ z<|by lia,λ_=>?_⟩;walk_at"d";refine⟨χ×χ,eT2 aTe aTe (by decide)<|by decide,((bz t b).num,((bz t b).den:χ)),(t,b),rfl,rfl,λv B=>?_⟩;have g:v=true↔ck t b=1:=by
   rw[B,BQ,aFk<|by omega]
  walk_at"d";cases v with
  |true=>
   rw[ι<|by simp];walk_at"d";exact j t b (by rw[e,ι (by rintro(z|z);lia;exact z<|g.mp rfl)])
  |false=>
   rw[ρ rfl];exact f (by rw[e,ρ<|.inr λz=>nomatch g.mpr z])
 ·walk_at"s";exact⟨d,rfl,λ⟨x,e⟩=>ψ e<|r x,λ_=>k⟩
def gW(a:ε Mk)(p:θ):π:=(a.flatMap λm=>if m.1<p then[m]else[]).length
def aKs:DW:=λb Q _=>∃(a:ε Mk)(p:θ),b=[.list<|a.map cP,fr p]/\(∀m∈a,Ok m.1)/\Ok p/\a.length<=1000/\Q (.dat<|.int (gW a p:χ))
theorem vY:Q 2 19 (λ_=>aKs):=by
 refine fH 19 ["marks","place"] λA T R Z=>⟨_,by walk_at"t",_,(bB<|aC<|bQ cT<|vE (cL<|bS [ν,γ 1] ["mark","place"] (cE<|aL 0) (aG 0) (lA<|aC<|aE<|vE (eX 0 0)<|vN 1 aB)<|bE 0) aB),?_⟩;intro i Q X qQ0;refine qq0 λqq2=>?_;obtain⟨b,p,rfl,d,e,f,k⟩:=qQ0;refine qq2 ?_;walk_at"d";refine bL cP cP (λm:Mk=>if m.1<p then[m]else[]) b f (λQ h=>h) (λm h N g a=>?_) ?_
 ·walk_at"d";refine⟨m.1,p,rfl,d m h,e,?_⟩;walk_at"d";by_cases c:m.1<p
  ·rw[ρ c];rw[ρ c]at a;exact a
  ·rw[ι c];rw[ι c]at a;simpa using a
 ·walk_at"d";exact k
def Up(c:ε Mk):Prop:=c.Pairwise λa b=>a.1<b.1
theorem El(a b:ε Mk)(p:θ):gW (a++b) p=gW a p+gW b p:=by
 unfold gW;rw[uf,Λ]
theorem aGt(h:∀m∈a,m.1<p):gW a p=a.length:=by
 induction a with
 |nil=>rfl
 |cons m a b=>
  have e:gW (m::a) p=gW [m] p+gW a p:=El [m] a p;have c:gW [m] p=1:=by unfold gW;simp[h m υ]
  rw[e,c,b λx d=>h x<|ο _ d,Ε];exact 48
theorem aCb(h:∀m∈a,¬m.1<p):gW a p=0:=by
 induction a with
 |nil=>rfl
 |cons m a b=>
  have e:gW (m::a) p=gW [m] p+gW a p:=El [m] a p;have c:gW [m] p=0:=by unfold gW;simp[h m υ]
  rw[e,c,b λx d=>h x<|ο _ d]
theorem Ff(p:θ):∀{f:ε Mk},Up f->∃a b,f=a++b/\(∀m∈a,m.1<p)/\(∀m∈b,¬m.1<p)
 |[],_=>⟨[],[],rfl,(λ_ h=>nomatch h),λ_ h=>nomatch h⟩
 |m::f,h=>by
  have g:=fv.mp h;by_cases c:m.1<p
  ·refine qq0 λqq2=>?_;obtain⟨a,b,e,i,j⟩:=Ff p g.2;refine qq2 ?_;refine⟨m::a,b,by rw[e];rfl,λx d=>?_,j⟩;rcases Υ.mp d with rfl|d
   ·exact c
   ·exact i x d
  ·refine⟨[],m::f,rfl,(λ_ h=>nomatch h),λx d=>?_⟩;rcases Υ.mp d with rfl|d
   ·exact c
   ·have:=g.1 x d;grind
theorem aHp:∀{a b:ε Mk},Up a->Up b->a.Perm b->a=b
 |[],b,_,_,h=>by rw[List.nil_perm.mp h]
 |x::a,[],_,_,h=>ψ h.length_eq (by simp)
 |x::a,y::b,g,i,h=>by
  have d:=fv.mp g;have f:=fv.mp i;have e:x=y:=by
   have j:x∈y::b:=h.mem_iff.mp υ;have k:y∈x::a:=h.mem_iff.mpr υ;rcases Υ.mp j with z|z
   ·exact z
   ·rcases Υ.mp k with c|c
    ·exact c.symm
    ·have l:=f.1 x z;have m:=d.1 y c;grind
  subst e;rw[aHp d.2 f.2 (List.perm_cons x|>.mp h)]
theorem Fh(h:Up c):(c.map (·.1)).Nodup:=by
 unfold Up at h;rw[er,iu];exact h.imp λ{a b} l e=>by rw[e]at l;exact ψ l uv
def Vt(C:Ζ):DW:=λc Q X=>∃a:ε Mk,c=[.list<|a.map cP]/\(∀m∈a,Ok m.1)/\(a=[]->X C)/\(60<a.length->X C)/\(¬(a.map (·.1)).Nodup->X C)/\
 (a≠[]->a.length<=60->(a.map (·.1)).Nodup->∀b:ε Mk,b.Perm a->Up b->Q (.own<|b.map cP))
theorem Ho:Q 3 20 (λA=>(Vt A.x_NoMarks)):=by
 refine fH 20 ["some","marks","mark","spot"] λA T R Z=>⟨_,by walk_at"t",_,(aH (bF (tO cR (aC (bQ cT (vN 0 aB))) bI) (cY (aI aT aQ)) aP)
   (aH (bF (tO eW (aC (bQ cT (vN 0 aB))) bI) (cY (aI aT aQ)) aP)
   (aH (aZ 1 (dG aQ))
   (aH (eA (iV (bE 0)) (aG 2)
    (sA 3 (aE (vN 1 (vE (eX 0 2) aB))) (aH (bF (uO (tO eW (aF 3) (aC (bQ cT (vN 1 aB)))) (tO mK (aC (kD 0 (bR (aL 1) (aF 3)))) (aC (eX 0 2)))) (cY (aI aT aQ)) aP)
   (Wp 1 (aF 3) (bE 2)))))
   (dU 1))))),?_⟩
 intro Y Q X qQ0;refine qq0 λqq2=>?_;obtain⟨f,rfl,D,H,I,J,k⟩:=qQ0;refine qq2 ?_;walk_at"s";refine bW (λc=>H<|List.eq_nil_of_length_eq_zero<|by lia) λc=>?_;walk_at"s";refine bW (λL=>I<|‹20›) λL=>?_;walk_at"s";refine cW<|eJ cP f (λQ h=>h) (λi v=>∃(d:ε Mk)(l n:Θ Sl),v=[γ<|.dat<|.list<|f.map cP,γ<|.own<|d.map cP,l,n]/\Up d/\d.Perm (f.take i)) ⟨[],_,_,rfl,Pairwise.nil,by simp⟩ ?_ ?_
 ·intro i m v B qQ0;refine qq0 λqq2=>?_;obtain⟨d,l,n,rfl,p,j⟩:=qQ0;refine qq2 ?_;have M:i<f.length:=(Δ.mp B).1;have N:d.length=i:=by rw[j.length_eq,ao];exact 50
  have q:∀x∈d,x∈f:=λx g=>cv<|j.mem_iff.mp g;refine qq0 λqq2=>?_;obtain⟨a,b,rfl,E,F⟩:=Ff m.1 p;refine qq2 ?_;have O:gW (a++b) m.1=a.length:=by rw[El,aGt E,aCb F];rfl
  walk_at"s";refine⟨_,m.1,rfl,λx g=>D x<|q x g,D m<|Ω B,by lia,?_⟩;rw[O];have tk:f.take (i+1)=f.take i++[m]:=by rw[rj,B];rfl
  have ins:(∀x∈b,m.1<x.1)->∃(d:ε Mk)(l n:Θ Sl),[γ<|Sl.dat<|.list<|f.map cP,γ<|.own<|((a++b).map cP).take a.length++cP m::((a++b).map cP).drop a.length,γ<|.dat<|cP m,γ<|.dat<|.int (a.length:χ)]=[γ<|.dat<|.list<|f.map cP,γ<|.own<|d.map cP,l,n]/\Up d/\d.Perm (f.take<|i+1):=λo=>by
   refine⟨a++m::b,γ<|.dat<|cP m,γ<|.dat<|.int (a.length:χ),?_,?_,?_⟩
   ·rw[bu,bu,List.take_left'<|η _,List.drop_left'<|η _];rfl
   ·have r:=kq.mp p;refine kq.mpr ⟨r.1,fv.mpr ⟨o,r.2.1⟩,λx g y s=>?_⟩;rcases Υ.mp s with rfl|s
    ·exact E x g
    ·exact r.2.2 x g y s
   ·rw[tk];refine List.perm_middle.trans ?_;exact(j.cons m).trans (List.perm_append_singleton m _).symm
  walk_at"d";have t:(∀x∈b,m.1<x.1)->(0<=(a.length:χ)/\(a.length:χ)<=((a++b).length:χ)/\(a++b).length<1000/\∃(d:ε Mk)(l n:Θ Sl),[γ<|Sl.dat<|.list<|f.map cP,γ<|.own<|((a++b).map cP).take (a.length:χ).toNat++cP m::((a++b).map cP).drop (a.length:χ).toNat,γ<|.dat<|cP m,γ<|.dat<|.int (a.length:χ)]=[γ<|.dat<|.list<|f.map cP,γ<|.own<|d.map cP,l,n]/\Up d/\d.Perm (f.take<|i+1)):=λo=>
   ⟨‹29›,by rw[Λ];lia,by lia,by rw[ft];exact ins o⟩
  refine cW ?_;walk_at"d";rcases b with _|⟨y,b⟩
  ·rw[ι<|by simp];walk_at"d";exact t λ_ h=>nomatch h
  rw[ρ (by rw[Λ,Ε];lia)];have s:oX ((a++y::b).map cP) (a.length:χ)=γ (cP y):=by
   refine fQ ?_;rw[bu,Μ,cx (by rw[η];exact ω _),η,oy];rfl
  refine⟨_,s,?_⟩;walk_at"d";refine⟨θ,eRat,y.1,m.1,rfl,rfl,λe G=>?_⟩;cases e with
  |true=>
   walk_at"d";have S:=G.mp rfl;refine J λU=>?_;have C:y∈f.take i:=j.mem_iff.mp<|cc _ υ;have u:((f.take<|i+1).map (·.1)).Nodup:=U.sublist<|(n3 _ _).map _;rw[tk,bu,List.nodup_append]at u;exact u.2.2 y.1 (Β.mpr ⟨y,C,rfl⟩) m.1 (by simp) S
  |false=>
   have ne:y.1≠m.1:=λz=>by have:=G.mpr z;cases this
   walk_at"d";refine t λx g=>?_;have r:=(kq.mp p).2.1;have W:=fv.mp r;have h3:=F y υ;rcases Υ.mp g with rfl|g
   ·grind
   ·have:=W.1 x g;grind
 ·intro v qQ0;refine qq0 λqq2=>?_;obtain⟨d,l,n,rfl,p,j⟩:=qQ0;refine qq2 ?_;walk_at"d";rw[bA<|ω _]at j;refine k (λz=>c (by rw[z];rfl)) (by lia) ?_ d j p;exact(j.map (·.1)).nodup_iff.mp<|Fh p
def aKf:DW:=λa Q _=>∃t b:χ,a=[.tuple [.int t,.int b]]/\t.natAbs<10^50/\b.natAbs<10^50/\Q (.dat<|.str<|tS t b)
theorem mP:Q 1 67 (λ_=>aKf):=by
 refine fH 67 ["x"] λA T R Z=>⟨_,by walk_at"t",_,(aH (bF (tO cR (aC (eX 1 0)) bI) (bB (aC (bQ lD (vE (eX 0 0) aB)))) aP)
   (bB (bO eY (bO eY (aC (bQ lD (vE (eX 0 0) aB))) (aC aT)) (aC (bQ lD (vE (eX 1 0) aB)))))),?_⟩
 intro e Q X qQ0;refine qq0 λqq2=>?_;obtain⟨t,b,rfl,a,d,k⟩:=qQ0;refine qq2 ?_;have f:=iT a;have g:=iT d;have h:=hG;unfold tS at k;walk_at"s";refine bW (λc=>⟨Ir a,?_⟩) λc=>⟨Ir a,‹6›,Ir d,by rw[Φ];lia,?_⟩
 ·rw[ρ c]at k;exact k
 ·rw[ι c]at k;exact k
def aKc:DW:=λa Q _=>∃m:Mk7,a=[mD m]/\Sm7 m/\Q (.dat<|.str<|Sm m)
theorem Hr:Q 2 68 (λ_=>aKc):=by
 refine fH 68 ["mark"] λA T R Z=>⟨_,by walk_at"t",_,(bB<|bO eY (bO eY (bO eY (bO eY (aC<|aE<|vE (eX 0 0) aB)<|aC aT)<|aC<|aE<|vE (eX 1 0) aB)<|aC aT)<|aC<|bQ lD<|vE (eX 2 0) aB),?_⟩;intro o Q X qQ0;refine qq0 λqq2=>?_;obtain⟨⟨⟨a,b⟩,⟨c,d⟩,e⟩,rfl,⟨f,g,h,i,j⟩,k⟩:=qQ0;refine qq2 ?_;have l:=tQ f g;have m:=tQ h i;have n:=iT j;have p:=rY;have q:=uV;unfold mD;unfold Sm at k;dsimp only at f g h i j l m n k⊢;walk_at"d";refine⟨a,b,rfl,f,g,?_⟩;walk_at"d";refine⟨‹6›,c,d,rfl,h,i,?_⟩;walk_at"d";exact⟨by rw[Φ];lia,by rw[Φ,Φ];lia,Ir j,by rw[Φ,Φ,Φ];lia,k⟩
theorem Ky{b:Type}(f:b->π)(n:π):∀a:ε b,(∀x∈a,f x<=n)->(a.map f).sum<=a.length*n
 |[],_=>by simp
 |x::a,h=>by
  have d:=h x (by simp);have e:=Ky f n a λy c=>h y (by simp[c]);rw[Μ,y4,Ε,l5];lia
def aQl(C:Ζ):DW:=λa Q X=>(∃x:bf,a=[.str x]/\x.length<=100000/\(∀m,pN x=γ m->Q (.dat<|mD m))/\(pN x=ν->X C))\/(∃d,a=[d]/\(∀x,d≠ .str x)/\X C)
theorem Co:Q 4 49 (λA=>(aQl A.x_NoText)):=by
 intro A P w K mg base T;refine okW (T.G 49).F pT (λm Q E h=>?_) λo t outer s H E R=>?_
 ·rcases h with⟨_,rfl,_⟩|⟨_,rfl,_⟩ <;>rfl
 have Z:=pT
 refine⟨_,by walk_at"t",_,(aH (pI (aC (iE (vN 0 aB))))
   (sA 1 (qS (aF 0) (aC aT)) (sA 2 (qS (aC (eX 2 1)) (aC aT)) (sA 3 (iE (vE (eX 0 1) aB)) (sA 4 (iE (vE (eX 0 2) aB)) (sA 5 (iE (vE (eX 2 2) aB)) (aH (bF (tO eW (aF 5) bI) (cY (aI aT aQ)) aP)
   (bB (aC (cH (aI (bE 3) (aI (bE 4) (aI (bE 5) aQ))))))))))))),?_⟩
 rintro m Q X (⟨x,rfl,p,g,f⟩|⟨d,rfl,q,k⟩)
 ·walk_at"s";refine⟨.str x,rfl,λ_=>?_,λz=>ψ rfl<|z x⟩;refine qq0 λqq2=>?_;obtain⟨u,_,v⟩:=vO x ":";obtain⟨y,_,B⟩:=vO (Η x ":").2.2 "*";refine qq2 ?_;unfold pN at g f;walk_at"s";refine⟨p,by rw[rY];rfl,?_⟩;walk_at"s";refine⟨‹102›,by rw[uV];rfl,?_⟩;walk_at"s";refine .inl ⟨_,rfl,‹102›,λa b r=>?_,λi=>f ?_⟩
  ·rw[r]at g f;dsimp only at g f;walk_at"s";refine .inl ⟨_,rfl,by lia,λc d j=>?_,λi=>f ?_⟩
   ·rw[j]at g f;dsimp only at g f;walk_at"s";refine⟨_,rfl,by lia,λn i=>?_,λi=>f ?_⟩
    ·rw[i]at g f;dsimp only at g f;walk_at"s";refine bW (λl=>?_) (λl=>?_)
     ·exact f<|ρ l
     ·walk_at"d";exact g ((a,b),(c,d),n)<|ι l
    ·rw[i]
   ·rw[i]
  ·rw[i]
 ·walk_at"s";exact⟨d,rfl,λ⟨x,e⟩=>ψ e<|q x,λ_=>k⟩
def cntL:ε (bf×χ×χ):=[("marks",3,62),("drop",2,2),("names",1,1),("show",2,2),("bend",4,4),("rise",3,3),("steps",4,4),("judge",4,63)]
def Ac(a:ε bf):Prop:=∃b r c d,a=b::r/\cntL.lookup b=γ (c,d)/\c<=(a.length:χ)/\(a.length:χ)<=d
theorem Ft(x:bf):∀{tb:Tab}{a:ε<|bf×χ×χ},Paired (λ(p:bf×V×μ)(q:bf×χ×χ)=>p.1=q.1/\p.2.2= .tuple [.int q.2.1,.int q.2.2]) tb a->(a.lookup x=ν->tb.lookup x=ν)/\∀b c,a.lookup x=γ (b,c)->∃v,tb.lookup x=γ (v,.tuple [.int b,.int c])
 |_,_,.nil=>⟨λ_=>rfl,λ_ _ z=>by simp at z⟩
 |(g,pv,i)::_,(j,k,l)::_,.cons ⟨d,e⟩ t=>by
  have h:=Ft x t;dsimp only at d e;subst d e;by_cases f:x=g
  ·subst f;simp only[gp,fu];refine⟨(λz=>by cases z),λb c z=>?_⟩;cases z;exact⟨pv,rfl⟩
  ·simp only[gp,ei.mpr f];exact h
theorem aDu(A:Adr)(x:bf):(cntL.lookup x=ν->(gJ A).lookup x=ν)/\∀a b,cntL.lookup x=γ (a,b)->∃v,(gJ A).lookup x=γ (v,.tuple [.int a,.int b]):=
 Ft x (.cons ⟨rfl,rfl⟩<|.cons ⟨rfl,rfl⟩<|.cons ⟨rfl,rfl⟩<|.cons ⟨rfl,rfl⟩<|.cons ⟨rfl,rfl⟩<|.cons ⟨rfl,rfl⟩<|.cons ⟨rfl,rfl⟩<|.cons ⟨rfl,rfl⟩ .nil)
theorem Wz(x y:bf):Txt.split x y≠[]:=by
 unfold PySem.Txt.split;split
 ·simp
 ·split
  ·simp
  ·rw[uh];obtain⟨p,r,e⟩:=AS x y.length 0<|cf x y 0 x.length<|x.length+1;rw[e];simp
def aJy(C:Ζ):DW:=λb Q X=>(∃(x:bf)(a:ε bf),b=[.str x]/\x.length<=90000/\Txt.split x (ζ " ")=a/\(Ac a->Q (.own<|a.map .str))/\(¬Ac a->X C))\/(∃d,b=[d]/\(∀x,d≠ .str x)/\X C)
theorem sI(T:Txt K mg A)(a:sY w K A.g_COUNTS<|gJ A):FnOk P w K mg base (oV P w) 1 (A.a 52) (A.d 52) (pr 52) (Ko K<|aJy A.x_NoRow):=by
 refine okW (T.G 52).F mI (λL Q E h=>?_) λM Y outer s H E m=>?_
 ·rcases h with⟨_,_,rfl,_⟩|⟨_,rfl,_⟩ <;>rfl
 refine⟨_,(aY (fX (Ce (vH (cO (aIh (K:=K) rfl) rfl T.n_isinstance nS (aJ (pv 0) (aJ (tW rfl T.n_str aCk (show RelV (.ty "str") (.type "str")from rfl)) aX))))) (cB (eS T.x_NoRow m.hd kM rfl (aJ dN aX))) dL)
   (aY (Cf 1 mI (qE ke la xc Ik (pv 0) (aJ dN aX)))
   (aY (fX (dF (Hh (K:=K) rfl rfl a) (sF (K:=K) rfl (pv 1)) (gR rfl T.c_COUNTS (show RelV (.ref _) (.ref _)from rfl)) rfl) (cB (eS T.x_NoRow m.hd kM rfl (aJ dN aX))) dL)
   (aY (Cf 2 mI (Gz (aNm (K:=K) rfl rfl a) (gR rfl T.c_COUNTS (show RelV (.ref _) (.ref _)from rfl)) (sF (K:=K) rfl (pv 1)) (λ_ _=>rfl)))
   (aY (fX (PW.pt (sG (dF Yl (cO (yH (K:=K) rfl) rfl T.n_len l0 (aJ (pv 1) aX)) (pxT (K:=K) rfl (pv 2)) (eM _)) (rJ (dF aIe (cO (yH (K:=K) rfl) rfl T.n_len l0 (aJ (pv 1) aX)) (pxT (K:=K) rfl (pv 2)) (eM _))))) (cB (eS T.x_NoRow m.hd kM rfl (aJ dN aX))) dL)
   (cB (fV (pv 1)))))))),_,(aH (bF (jZ (lA (aC (oQ (by decide) (aF 0))))) (cY (aI aT aQ)) aP)
   (aH (aZ 1 (vQ (aF 0) (aC aT)))
   (aH (bF (Oi (aC (Jo (aC (bR (aL 1) bI))))) (cY (aI aT aQ)) aP)
   (sA 2 (aAn a (aC (bR (aL 1) bI))) (aH (bF (gL (tO eW (aC (bQ cT (vN 1 aB))) (aC (eX 0 2))) (tO eW (aC (bQ cT (vN 1 aB))) (aC (eX 1 2)))) (cY (aI aT aQ)) aP)
   (dU 1)))))),?_⟩
 rintro L Q X (⟨x,y,rfl,N,i,O,n⟩|⟨d,rfl,R,k⟩)
 ·walk_at"s";refine bW (λc=>ψ c<|by decide) λ_=>?_;walk_at"s";refine⟨N,by rw[fD];rfl,?_⟩;rw[i];obtain⟨b,r,rfl⟩:∃b r,y=b::r:=by
   cases y with
   |nil=>exact ψ i<|Wz x _
   |cons b r=>exact⟨b,r,rfl⟩
  have z:oX ((b::r).map dB) 0=γ (.str b):=fQ (j:=0) rfl;obtain⟨S,U⟩:=aDu A b;walk_at"s";refine⟨_,z,?_⟩;walk_at"d";cases g:cntL.lookup b with
  |none=>
   rw[S g];refine bW (λ_=>?_) λc=>ψ rfl c;exact n λ⟨B,C,o,q,e,f,_⟩=>by
    injection e with l D
    rw[<-l,g]at f;cases f
  |some p=>
   refine qq0 λqq2=>?_;obtain⟨o,q⟩:=p;obtain⟨v,G⟩:=U o q g;refine qq2 ?_;rw[G];refine bW (λc=>ψ c<|by simp) λ_=>?_;walk_at"s";refine⟨_,z,?_⟩;walk_at"d";refine⟨_,G,?_⟩;walk_at"s";refine bW (λc=>?_) λc=>bW (λW=>?_) λW=>?_
   ·exact n λ⟨B,C,t,u,e,f,I,J⟩=>by
     injection e with l D
     rw[<-l,g]at f;cases f;rw[Ε]at I;lia
   ·exact n λ⟨B,C,t,u,e,f,I,J⟩=>by
     injection e with l D
     rw[<-l,g]at f;cases f;rw[Ε]at J;lia
   ·walk_at"d";exact O ⟨b,r,o,q,rfl,g,by rw[Ε];exact 27,by rw[Ε];exact 27⟩
 ·cases d with
  |str x=>exact ψ rfl<|R x
  |_=>
   walk_at"s";exact k
def sN(x:bf):Bool:=decide (1<=x.length) && decide (x.length<=8) && x.cps.toList.all λc=>decide (97<=c) && decide (c<=122)
theorem Tz:("abcdefghijklmnopqrstuvwxyz":bf).cps.toList=(range 26).map (·+97):=by decide +kernel
theorem aNu(c:π):bo "abcdefghijklmnopqrstuvwxyz" ⟨#[c]⟩=(decide (97<=c) && decide (c<=122)):=by
 rw[iG rfl,Tz];rw[ko];simp only[kr,jz,Β,di];constructor
 ·rintro⟨a,b,rfl⟩;lia
 ·rintro⟨b,d⟩;exact⟨c-97,by lia,‹50›⟩
def aQk(C:Ζ):DW:=λa Q X=>∃x:bf,a=[.str x]/\x.length<=100000/\(sN x=true->Q (.dat .none))/\(sN x=false->X C)
theorem yC:Q 1 53 (λA=>(aQk A.x_NoName)):=by
 refine fH 53 ["word"] λA T R Z=>⟨_,by walk_at"t",_,(bF (gL (tO cR (aC<|bQ mZ<|vN 0 aB) bI)<|gL (tO eW (aC<|bQ mZ<|vN 0 aB) bI)<|jZ<|lA<|aC<|bQ Xo<|vE (cL<|bS [ν] ["sign"] (IvS.e<|Mq<|bE 0) (aG 0) bV<|bZ Xl (aF 0)<|aC aT) aB) (cY<|aI aT aQ) aP),?_⟩;intro k Q X qQ0;refine qq0 λqq2=>?_;obtain⟨x,rfl,b,f,a⟩:=qQ0;refine qq2 ?_;have l:=dY x;walk_at"d";refine⟨b,bW (λc=>?_) λc=>⟨b,bW (λg=>?_) λg=>?_⟩⟩
 ·refine a ?_;unfold sN;rw[aA<|show ¬1<=x.length by lia];rfl
 ·refine a ?_;unfold sN;rw[aA<|show ¬x.length<=8 by lia];simp
 refine bL sgD PyData.bool (λc=>[decide (97<=c) && decide (c<=122)]) x.cps.toList (by lia) (λQ h=>by
  walk_at"d"
  exact h) (λc m N i j=>?_) ?_
 ·unfold sgD;walk_at"d";rw[aNu];exact j
 refine⟨x.cps.toList.flatMap λc=>[decide (97<=c) && decide (c<=122)],rfl,?_⟩;have e:sN x=(x.cps.toList.flatMap λc=>[decide (97<=c) && decide (c<=122)]).all id:=by
  rw[aN,zz];unfold sN;rw[cD<|show 1<=x.length by lia,cD<|show x.length<=8 by lia];rfl
 rw[<-e];walk_at"d";cases d:sN x with
 |true=>exact bW (λc=>ψ c<|by decide) λ_=>f d
 |false=>exact bW (λ_=>a d) λc=>ψ rfl c
def kI(q:θ):bf:=tS q.num (q.den:χ)
theorem aFl{i:χ}(h:i.natAbs<10^521):i.natAbs.log2<1920:=by
 by_cases a:i.natAbs=0
 ·rw[a];decide
 ·exact(yi a).mpr (av h<|by decide +kernel)
theorem Sg{n:χ}(h:n.natAbs<10^521):(ζ<|toString n).length<=522:=by
 obtain⟨a,d,e⟩:=kN (k:=520) h;have b:=d.l2;rw[<-dY,e];split
 ·rw[Ε];exact 106
 ·exact 101
theorem dg9(h:Dg 520 q):q.num.natAbs<10^521/\((q.den:π):χ).natAbs<10^521:=by
 have a:=h.n;have b:=h.d;exact⟨eH a<|by decide +kernel,by rw[en];exact eH b<|by decide +kernel⟩
theorem pQ(h:Dg 520 q):(kI q).length<=1045:=by
 obtain⟨a,b⟩:=dg9 h;have c:=Sg a;have d:=Sg b;have e:=hG;unfold kI tS;split
 ·exact 1
 ·rw[Φ,Φ];lia
theorem aLi(h:Dg 520 q):∀c∈(kI q).cps.toList,Pv c\/c=47:=uX (k:=520) (dg9 h).1 (dg9 h).2
theorem Lc(h:Dg 520 q)(a:c=32\/c=124):c∉(kI q).cps.toList:=λz=>by
 rcases aLi h c z with(y|y)|y <;>lia
def oG(a:ε θ):bf:=Txt.join (ζ " ")<|a.map kI
theorem zY:∀{a:ε<|ε π},c∈sV y a->c∈y\/∃w∈a,c∈w
 |[],h=>by simp[sV]at h
 |[w],h=>.inr ⟨w,by simp,h⟩
 |w::z::r,h=>by
  rw[iJ]at h;rcases cj.mp h with h|h
  ·rcases cj.mp h with h|h
   ·exact .inr ⟨w,by simp,h⟩
   ·exact .inl h
  ·rcases zY h with h|⟨u,b,h⟩
   ·exact .inl h
   ·exact .inr ⟨u,ο _ b,h⟩
theorem Xe(h:∀q∈a,Dg 520 q):124∉(oG a).cps.toList:=λz=>by
 unfold oG at z;rw[gO,iD]at z;rcases zY z with y|⟨u,b,y⟩
 ·exact ψ y (by decide)
 ·obtain⟨v,c,rfl⟩:=Β.mp b;obtain⟨q,d,rfl⟩:=Β.mp c;exact Lc (h q d) (.inr rfl) y
theorem Dq(y:bf)(h:∀w∈ws,w.length<=n):(Txt.join y ws).length<=ws.length*(n+y.length):=by
 unfold Txt.join;rw[size_glued];have:=Ky (λz:bf=>z.length) n ws h;have a:(ws.length-1)*y.length<=ws.length*y.length:=Ψ _ ‹50›;rw[v7];lia
theorem pS(h:∀q∈a,Dg 520 q):(oG a).length<=a.length*1046:=by
 have:=Dq (ζ " ") (ws:=a.map kI) (n:=1045) λw hw=>by
  obtain⟨q,b,rfl⟩:=Β.mp hw;exact pQ<|h q b
 rw[fD,η]at this;exact this
theorem aGe{a:ε bf}{y:bf}(h:∀w∈a,w.length<=n)(b:a.length*(n+y.length)<=100000):(a.map (·.length)).sum+a.length*y.length<=100000:=by
 have:=Ky (λz:bf=>z.length) n a h;rw[v7]at b;lia
def shP(rows:ε<|ε θ):bf:=Txt.join (ζ " | ")<|rows.map oG
theorem Er:(ζ " | ").length=3:=by decide +kernel
def aKe:DW:=λa Q _=>∃q:θ,a=[fr q]/\Dg 520 q/\Q (.dat<|.str<|kI q)
theorem qJ:Q 1 50 (λ_=>aKe):=by
 refine fH 50 ["x"] λA T R Z=>⟨_,by walk_at"t",_,(aH (bF (tO cR (aC (eX 1 0)) bI) (bB (aC (bQ lD (vE (eX 0 0) aB)))) aP)
   (bB (bO eY (bO eY (aC (bQ lD (vE (eX 0 0) aB))) (aC aT)) (aC (bQ lD (vE (eX 1 0) aB)))))),?_⟩
 intro e Q X qQ0;refine qq0 λqq2=>?_;obtain⟨q,rfl,d,k⟩:=qQ0;obtain⟨a,b⟩:=dg9 d;refine qq2 ?_;have f:=Sg a;have g:=Sg b;have h:=hG;unfold kI tS at k;walk_at"s";refine bW (λc=>⟨aFl a,?_⟩) λc=>⟨aFl a,‹6›,aFl b,by rw[Φ];lia,?_⟩
 ·rw[ρ c]at k;exact k
 ·rw[ι c]at k;exact k
def aKd:DW:=λb Q _=>∃a:ε θ,b=[.list<|a.map fr]/\a.length<=10/\(∀q∈a,Dg 520 q)/\Q (.dat<|.str<|oG a)
theorem qI:Q 2 51 (λ_=>aKd):=by
 refine fH 51 ["some"] λA T R Z=>⟨_,by walk_at"t",_,(bB<|aC<|uE (aC aT)<|lP<|bS [ν] ["x"] (cE<|aL 0) (aG 0) bV<|aE<|vN 0 aB),?_⟩;intro g Q X qQ0;refine qq0 λqq2=>?_;obtain⟨b,rfl,i,c,k⟩:=qQ0;refine qq2 ?_;walk_at"d"
 refine bL fr dB (λq=>[kI q]) b ‹1› (λQ h=>by
   walk_at"d"
   exact h) (λq d N e f=>?_) ?_
 ·walk_at"d";refine⟨q,rfl,c q d,?_⟩;walk_at"d";exact f
 ·rw[aN];refine⟨b.map kI,rfl,aGe (n:=1045) (λw hw=>?_) (by rw[η,fD];lia),k⟩;obtain⟨q,a,rfl⟩:=Β.mp hw;exact pQ<|c q a
def lsD(rows:ε<|ε θ):ε μ:=rows.map λr=>gk<|r.map fr
def aDh:DW:=λa Q _=>∃rows:ε<|ε θ,a=[.list<|lsD rows]/\rows.length<=4/\(∀r∈rows,r.length<=10/\∀q∈r,Dg 520 q)/\Q (.dat<|.str<|shP rows)
theorem Te:Q 3 55 (λ_=>aDh):=by
 refine fH 55 ["parts"] λA T R Z=>⟨_,by walk_at"t",_,(bB<|aC<|uE (aC aT)<|lP<|bS [ν] ["some"] (cE<|aL 0) (aG 0) bV<|aE<|vN 0 aB),?_⟩;intro f Q X qQ0;refine qq0 λqq2=>?_;obtain⟨rows,rfl,g,b,k⟩:=qQ0;refine qq2 ?_;walk_at"d"
 refine bL (λr:ε θ=>gk (r.map fr)) dB (λr=>[oG r]) rows ‹1› (λQ h=>by
   walk_at"d"
   exact h) (λr c N d e=>?_) ?_
 ·walk_at"d";refine⟨r,rfl,(b r c).1,(b r c).2,?_⟩;walk_at"d";exact e
 ·rw[aN];refine⟨rows.map oG,rfl,aGe (n:=18400) (λw hw=>?_) (by rw[η,Er];lia),k⟩;obtain⟨r,a,rfl⟩:=Β.mp hw;have:=pS (b r a).2;have:=(b r a).1;lia
theorem MSz.measDg(z:MSz L B W l b f ms row)(g:bf):Dg (2*l+2*b+f+6) (dS g ms row):=by
 unfold dS;split
 ·rcases @gA ((bM ms row).map aM)with h|h
  ·rw[h];exact dg0 _
  ·obtain⟨x,a,e⟩:=Β.mp h;rw[<-e];exact(aAy<|(z.miss x a).dg z.pos z.pL<|gQ z.pB).mono ‹48›
 ·split
  ·have h:=Cm.tot (qs:=(cI ms row).map aM) (L:=L) (B:=W*(B+B)) λq c=>by
    obtain⟨x,a,rfl⟩:=Β.mp c;exact(z.wmiss x a).abs
   have d:((cI ms row).map aM).length<=60:=by
    rw[η];have:=kY (ms:=ms) (row:=row);have:=z.len;exact 102
   exact(h.dg z.pos z.pL<|iZ d<|gH z.pW<|gQ z.pB).mono ‹48›
  ·have h:=Cm.tot (qs:=xN ms row) (L:=L*L) (B:=W*(B+B)*(B+B)) λq c=>z.sq q c;have d:(xN ms row).length<=60:=by
    have:=Ou (ms:=ms) (row:=row);have:=z.len;exact 102
   exact(h.dg (fq z.pos z.pos) (gH z.pL z.pL)<|iZ d<|gH (gH z.pW<|gQ z.pB)<|gQ z.pB).mono ‹48›
structure RowB(V:π)(row:ε θ):Prop where
 v0:0<V
 v1:V<=10^44
 vl:LL∣V
 c:∀q∈row,Cm V (10^18) q
 d:∀q∈row,Dg 39 q
theorem MkB.ms{ms:ε Mk}{V:π}(M:MkB ms)(R:RowB V a):MSz V (10^18) 4 44 18 1 ms a:=
 ⟨by have:=M.n8;exact 1,R.v0,R.v1,ω _,by decide,λm h=>(M.hc m h).mono R.vl<|by decide,R.c,λm h=>by have:=M.hw m h;lia,by decide⟩
theorem MkB.dg{ms:ε Mk}{V:π}(M:MkB ms)(R:RowB V a)(b:bf):Dg 131 (dS b ms a):=((M.ms R).measDg b).mono (by decide)
theorem Ans.rowB(X:Ans g b j h k)(M:MkB b)(l:g∈eV):∃V:π,RowB V (b.map λm=>bY h m.1):=by
 obtain⟨V,i,c,o⟩:=X.row;have e:=X.core.cm M l o;refine⟨LL*V,fq mX i,Α (Τ sZ c)<|by decide +kernel,fx _ _,λq f=>?_,λq f=>?_⟩
 ·obtain⟨m,a,rfl⟩:=Β.mp f;exact(e m a).mono (iv _ _) (by decide)
 ·obtain⟨m,a,rfl⟩:=Β.mp f;have d:=(e m a).den i;have n:=(e m a).num;exact⟨Α n<|Α (Χ _<|Α d c)<|by decide +kernel,Α d<|Α c<|by decide +kernel⟩
theorem aHo(d:Dg 39 q):lX (kI q)=γ (q.num,(q.den:χ)):=by
 have a:=d.n;have b:=d.d;refine Kt (eH a<|by decide +kernel) (by rw[en];exact eH b<|by decide +kernel) (kT q) ?_;exact q.reduced
def aKr:DW:=λd Q _=>∃(c:bf)(b:ε Mk)(a:ε θ)(V:π),d=[.str c,.list<|b.map cP,.list<|(a.map kI).map .str]/\c∈eV/\MkB b/\a.length=b.length/\RowB V a/\Q (.dat<|.str<|kI<|dS c b a)
theorem tH:Q 7 57 (λ_=>aKr):=by
 refine fH 57 ["kind","marks","words"] λA T R Z=>⟨_,by walk_at"t",_,(aH (bF (tO pU (aC (bQ cT (vN 2 aB))) (aC (bQ cT (vN 1 aB)))) (cY (aI aT aQ)) aP)
   (bB (aC (aE (vE (aE (vN 0 (vN 1 (vE (cL (bS [ν] ["word"] (cE (aL 2)) (aG 0) bV (aE (vN 0 aB)))) aB)))) aB))))),?_⟩
 intro D Q X qQ0;refine qq0 λqq2=>?_;obtain⟨j,r,a,V,rfl,l,M,s,R,k⟩:=qQ0;refine qq2 ?_;have u:=M.n8;have m:=M.n1;walk_at"s";refine bW (λc=>ψ ‹48› c) λ_=>?_
 refine bL dB fr (λx:bf=>[((lX x).map λp=>bz p.1 p.2).getD 0]) (a.map kI) (by rw[η];exact 110) (λQ h=>by
   walk_at"d"
   exact h) (λx v N y i=>?_) ?_
 ·refine qq0 λqq2=>?_;obtain⟨q,f,rfl⟩:=Β.mp v;refine qq2 ?_;have n:=aHo<|R.d q f;have hlen:=pQ ((R.d q f).mono<|by decide);walk_at"d";refine .inl ⟨_,rfl,‹101›,λt b d=>?_,λo=>by rw[n]at o;cases o⟩;rw[n]at d i;cases d;walk_at"d";have e:bz q.num (q.den:χ)=q:=mq q;simp only[x8,zh,e,Μ,pd]at i;exact i
 ·rw[aN];have e:(a.map kI).map (λx:bf=>((lX x).map λp=>bz p.1 p.2).getD 0)=a:=by
   rw[ia];refine(df (g:=id) λq f=>?_).trans<|AR _;show((lX<|kI q).map λp=>bz p.1 p.2).getD 0=q;rw[aHo<|R.d q f];exact mq q
  rw[e];refine⟨_,r,a,V,10^18,4,44,18,1,rfl,M.ms R,(λe=>by rw[e]at m;simp at m),s,(λB e=>by cases e;exact Dp l),(λB e C=>?_),λz=>ψ l<|z j rfl⟩;cases e;walk_at"d";refine⟨_,rfl,(M.dg R j).mono<|by decide,?_⟩;walk_at"d";exact k
def aKu:DW:=λf Q _=>∃(b:bf)(a:ε Mk)(c:π),f=[.str b,.list<|a.map cP,.int (c:χ)]/\b∈eV/\MkB a/\c<=3/\(c=3->a.length<=6)/\(b="sum"->c<=1)/\∀d e:ε θ,Ans b a c d e->Q (.dat<|.str<|shP [[dS b a<|a.map λm=>bY d m.1],d,e])
theorem wA:Q 11 56 (λ_=>aKu):=by
 intro A P w K mg base T;have a:=aWo<|Ic (P:=P) (w:=w) (base:=base) _ T;refine okW (T.G 56).F jJ (by walk_at"l") λk D outer s H E c=>?_
 refine⟨_,(aY (Cf 3 jJ (nN a c (T.G 54) cG (aJ (pv 0) (aJ (pv 1) (aJ (pv 2) aX)))))
   (aY (Cf 4 jJ (nN (sJ _ T) c (T.G 24) cG (aJ (pv 0) (aJ (pv 1) (aJ (nN (zR _ T) c (T.G 15) cG (aJ (pxT (K:=K) rfl (pv 3)) (aJ (pv 1) aX))) aX)))))
   (cB (fV (nN (Te _ T) c (T.G 55) cG (aJ (lG (aJ (lG (aJ (pv 4) aX)) (aJ (pxT (K:=K) rfl (pv 3)) (aJ (pxT (K:=K) rfl (pv 3)) aX)))) aX)))))),_,(aH (Fz (vN 0 (vN 1 (vN 2 aB))) (aG 3))
   (sA 4 (aE (vN 0 (vN 1 (vE (cL (bH (vE (eX 0 3) (vN 1 aB)))) aB)))) (bB (aC (aE (vE (cL (dG (aI (cL (dG (aI (bE 4) aQ))) (aI (eX 0 3) (aI (eX 1 3) aQ))))) aB)))))),?_⟩
 intro G Q X qQ0;refine qq0 λqq2=>?_;obtain⟨g,d,n,rfl,h,M,o,p,t,u⟩:=qQ0;refine qq2 ?_;have I:=M.n8;have i:=M.n1;walk_at"s";refine⟨g,d,n,rfl,h,M,o,p,t,λf j F=>?_⟩;have v:=u f j F;obtain⟨V,R⟩:=F.rowB M h;have J:=F.core.len;have L:=F.core.plen;dsimp only;walk_at"s";refine⟨f,d,520,5,rfl,by lia,‹101›,F.ndg,λm x=>(M.pl m x).dg (by decide) (l:=1) (by decide) (b:=3)<|by decide,Α (Ψ _<|show f.length<=4 by exact 48)<|by decide,?_⟩;walk_at"d";refine⟨bP _,?_⟩;refine⟨_,d,_,V,10^18,4,44,18,1,rfl,M.ms R,(λe=>by rw[e]at i;simp at i),η _,(λy e=>by cases e;exact Dp h),(λy e B=>?_),λz=>ψ h<|z g rfl⟩;cases e;walk_at"d";refine⟨[[dS g d<|d.map λm=>bY f m.1],f,j],rfl,by simp,λr c=>?_,?_⟩
 ·simp only[Υ,dV,gz]at c;rcases c with rfl|rfl|rfl
  ·exact⟨by simp,λq C=>by rw[br.mp C];exact(M.dg R g).mono<|by decide⟩
  ·exact⟨by lia,F.ndg⟩
  ·exact⟨‹110›,F.pdg⟩
 ·walk_at"d";exact v
theorem lL{ws:ε bf}{j:π}(h:ws[j]? =γ x):oX (ws.map dB) (j:χ)=γ (.str x):=fQ (by rw[el,h];rfl)
structure BdOk(kd:bf)(ms:ε Mk)(bd:π):Prop where
 b3:bd<=3
 h6:bd=3->ms.length<=6
 h1:kd="sum"->bd<=1
def aQw:DW:=λh Q _=>∃(nm c:bf)(b:ε Mk)(d:ε bf),h=[.list<|d.map .str,.list<|b.map cP]/\c∈eV/\MkB b/\
 ((∃e:π,d=[ζ "bend",nm,c,ζ (toString (e:χ))]/\ BdOk c b e/\ ∀f g:ε θ,Ans c b e f g ->Q (.dat (.str (shP [[dS c b (b.map λm=>bY f m.1)],f,g])))) \/
  (∃(a:ε θ)(V:π),d=ζ "judge"::nm::c::a.map kI/\a.length=b.length/\RowB V a/\Q (.dat (.str (kI (dS c b a))))))
theorem Yp:Q 12 58 (λ_=>aQw):=by
 refine fH 58 ["words","marks","kind"] λA T R Z=>⟨_,by walk_at"t",_,(sA 2 (bR (aL 0) bI) (aH (pI (aC (aE (vN 2 aB))))
   (aH (bF (tO cR (aC (bR (aL 0) bI)) (aC aT)) (bB (aC (aE (vN 2 (vN 1 (vE (aE (vE (bR (aL 0) bI) aB)) aB)))))) aP)
   (aH (bF (tO cR (aC (bR (aL 0) bI)) (aC aT)) kG aP)
   (aH (bF (tO cR (aC (bR (aL 0) bI)) (aC aT)) kG aP)
   (bB (aC (aE (vN 2 (vN 1 (vE (cL (gU (aL 0) (cS bI) fZ)) aB))))))))))),?_⟩
 intro D Q X qQ0;refine qq0 λqq2=>?_;obtain⟨nm,b,p,ws,rfl,f,M,s⟩:=qQ0;refine qq2 ?_;rcases s with⟨g,rfl,B,l⟩|⟨d,V,rfl,q,m,l⟩
 ·obtain⟨ws,a⟩:∃ws,[ζ "bend",nm,b,ζ<|toString (g:χ)]=ws:=⟨_,rfl⟩;have h:=lL (ws:=ws) (j:=0) (x:=ζ "bend") (by rw[<-a];rfl);have o:=lL (ws:=ws) (j:=2) (x:=b) (by rw[<-a];rfl);have t:=lL (ws:=ws) (j:=3) (x:=ζ<|toString (g:χ)) (by rw[<-a];rfl);rw[a];clear a;walk_at"s";refine⟨_,o,?_⟩;walk_at"s";refine⟨_,rfl,(λu e=>by cases e;exact Dp f),λ_=>?_,λz=>ψ f<|z b rfl⟩;walk_at"s";refine⟨_,h,?_⟩;walk_at"d";have i:((g:π):χ).natAbs<10^40:=by rw[en];exact eH B.b3 (by decide +kernel)
  have r:=wB i;have q:=iT (n:=(g:χ)) (m9 i<|by decide +kernel);refine⟨_,t,_,rfl,‹1›,λn k=>?_,λz=>by rw[r]at z;cases z⟩;rw[r]at k;cases k;walk_at"d";refine⟨b,p,g,rfl,f,M,B.b3,B.h6,B.h1,λv y F=>?_⟩;walk_at"d";exact l v y F
 ·obtain⟨ws,a⟩:∃ws,ζ "judge"::nm::b::d.map kI=ws:=⟨_,rfl⟩;have h:=lL (ws:=ws) (j:=0) (x:=ζ "judge") (by rw[<-a];rfl);have o:=lL (ws:=ws) (j:=2) (x:=b) (by rw[<-a];rfl);have C:fI (ws.map dB) (γ 3) ν=(d.map kI).map .str:=by
   rw[show(3:χ)=((3:π):χ)from rfl,iF,<-a];rfl
  rw[a];clear a;walk_at"s";refine⟨_,o,?_⟩;walk_at"s";refine⟨_,rfl,(λu e=>by cases e;exact Dp f),λ_=>?_,λz=>ψ f<|z b rfl⟩;walk_at"s";refine⟨_,h,?_⟩;walk_at"d";refine bW (λc=>ψ c<|by decide +kernel) λ_=>?_;walk_at"s";refine⟨_,h,?_⟩;walk_at"d";refine bW (λc=>ψ c<|by decide +kernel) λ_=>?_;walk_at"s";refine⟨_,h,?_⟩;walk_at"d";refine bW (λc=>ψ c<|by decide +kernel) λ_=>?_;rw[C];refine⟨b,p,d,V,rfl,f,M,q,m,?_⟩;walk_at"d";exact l
theorem aSh(T:Txt K mg A):FnOk P w K mg base (oV P w) 1 A.a_qa A.d_qa ["self"] (La A.c_Desk "kept"):=
 aMt T.F_qa aRm rfl T.cl_Desk T.nA_Desk λa b outer s H E c=>cB<|aMa (pv 0) Yj rfl
def Vu(C:Ζ):DWK:=λa b Q X=>∃x:bf,b=[.str x]/\(∀d,a.lookup x=γ d->Q (.dat d))/\(a.lookup x=ν->X C)
theorem aSf(T:Txt K mg A):FnOk P w K mg base (oV P w) 1 A.a_qd A.d_qd ["self","name"] (Lb K A.c_Desk "kept"<|Vu A.x_NoName):=by
 refine okR T.F_qd aRk (λa f Q E h=>?_) λg k outer s H E b=>?_
 ·obtain⟨_,rfl,_⟩:=h;rfl
 refine⟨_,(aY (fX (aLy (Tb (hu1 b.units) (pv 1) (Lm (pv 0) rfl))) (cB (eS T.x_NoName b.hd kM rfl (aJ dN aX))) dL)
   (cB (fV (aEn (hu1 b.units) (Lm (pv 0) rfl) (pv 1) (λ_ _=>rfl))))),_,(aH (bF (Sh 0 T.cl_Desk T.nA_Desk (aF 1)) (cY (aI aT aQ)) aP)
   (bB (aC (aGv 0 T.cl_Desk T.nA_Desk (aF 1))))),?_⟩
 intro a f Q X qQ0;refine qq0 λqq2=>?_;obtain⟨x,rfl,i,j⟩:=qQ0;refine qq2 ?_;walk_at"s";refine⟨a,rfl,?_⟩;cases e:a.lookup x with
 |none=>exact bW (λ_=>j e) λc=>ψ rfl c
 |some d=>
  refine bW (λc=>ψ c<|by simp) λ_=>?_;walk_at"d";exact⟨a,rfl,d,e,i d e⟩
def m7(m:Mk):Mk7:=((m.1.num,(m.1.den:χ)),(m.2.1.num,(m.2.1.den:χ)),m.2.2)
def mG(m:Mk):bf:=Sm<|m7 m
def aSt:DM:=λc R=>∃(nm:bf)(b:ε Mk),c=[.str nm,.list<|(b.map mG).map .str]/\nm.length<=100000/\sN nm=true/\b≠[]/\b.length<=60/\(∀m∈b,Lw7<|m7 m)/\(b.map (·.1)).Nodup/\∀a:ε Mk,a.Perm b->Up a->R nm (a.map cP)
theorem Yz:∀a:ε Mk,Ii (a.map cP)=true
 |[]=>rfl
 |m::r=>by rw[Μ];show(ndD (cP m) && Ii (r.map cP))=true;rw[Yz r];rfl
theorem aSg(T:Txt K mg A):FnOk P w K mg base (oV P w) 5 A.a_qc A.d_qc ["self","name","words"] (Gi K A.c_Desk "kept" aSt):=by
 refine okM T.F_qc aRl (λB R h=>?_) λC L outer s H E f=>?_
 ·obtain⟨_,_,rfl,_⟩:=h;rfl
 refine⟨_,(aY (Pk (nN (yC _ T) f (T.G 53) cG (aJ (pv 1) aX)))
   (aY (aEk (hu1 f.units) (Lm (pv 0) rfl) (pv 1) (nN (Ho _ T) f (T.G 20) cG (aJ (Po (cap:=[ν]) (NC:=["word"]) rfl (lcO rfl) (Ye (K:=K) rfl (pv 2)) (λ_ _ _ _=>(pgN 0 ["word"])) (λ_ _ _ _=>pZ) (λ_ _ _ _=>(nN (Co _ T) f (T.G 49) cG (aJ (pv 0) aX)))) aX)) rfl)
   (cB (fV dN)))),_,λM D O=>(Yv (pI (aC (aE (vN 1 aB))))
   (aFf 1 T.cl_Desk T.nA_Desk (bH (vE (cL (He (cE (aL 2)) (aG 0) bV (aE (vN 0 aB)) (by decide) (by decide))) aB)))),?_⟩
 intro p B R qQ0;refine qq0 λqq2=>?_;obtain⟨nm,c,rfl,g,i,j,o,b,q,k⟩:=qQ0;refine qq2 ?_;walk_at"d";refine⟨nm,rfl,g,λ_=>?_,λz=>by rw[i]at z;cases z⟩;walk_at"d";refine⟨nm,rfl,?_⟩;have t:∀m∈c,pN (mG m)=γ (m7 m):=λm a=>aDz<|b m a
 refine bL dB mD (λx:bf=>[(pN x).getD ((0,1),(0,1),1)]) (c.map mG) (by rw[η];exact 1) (λQ h=>by
   walk_at"d"
   exact h) (λx F N G u=>?_) ?_
 ·refine qq0 λqq2=>?_;obtain⟨m,a,rfl⟩:=Β.mp F;refine qq2 ?_;have v:=t m a;have hlen:=(Bv (b m a).sm).2;walk_at"d";refine .inl ⟨_,rfl,(show(Sm<|m7 m).length<=100000 by exact 1),λS d=>?_,λy=>by rw[v]at y;cases y⟩;rw[v]at d u;cases d;walk_at"d";exact⟨rfl,u⟩
 ·rw[aN];have e:((c.map mG).map λx:bf=>(pN x).getD ((0,1),(0,1),1)).map mD=c.map cP:=by
   rw[ia,ia];refine df λm a=>?_;show mD ((pN<|mG m).getD ((0,1),(0,1),1))=cP m;rw[t m a];rfl
  rw[e];refine⟨c,rfl,λm a=>?_,λz=>ψ z j,λz=>ψ o<|‹26›,λz=>ψ q z,λ_ _ _ r I J=>?_⟩
  ·have l:=b m a;exact⟨fR (n:=10^40)<|cg l.a,fR (n:=10^40)<|cg l.b⟩
  ·walk_at"d";exact⟨qM _,qM _,Yz _,k r I J⟩
theorem zC(a:ε bf):eC (a.map dB)=true:=by
 induction a with
 |nil=>rfl
 |cons m r b=>rw[Μ];show(nR (dB m) && eC (r.map dB))=true;rw[b];rfl
def aWi:DM:=λb R=>∃(x nm:bf)(a:ε Mk),b=[.str x]/\x.length<=90000/\Txt.split x (ζ " ")=ζ "marks"::nm::a.map mG/\aSt [.str nm,.list<|(a.map mG).map .str] R/\1<=a.length/\a.length<=60
theorem Cy(T:Txt K mg A)(d:sY w K A.g_COUNTS<|gJ A):FnOk P w K mg base (oV P w) 13 A.a_qb A.d_qb ["self","row"] (Gi K A.c_Desk "kept" aWi):=by
 have a:=sI (P:=P) (w:=w) (base:=base) T d;have e:=aSg (P:=P) (w:=w) (base:=base) T;refine okM T.F_qb Gm (λl R h=>?_) λm v outer s H E i=>?_
 ·obtain⟨_,_,_,rfl,_⟩:=h;rfl
 refine⟨_,(aY (Cf 2 Gm (nN a i (T.G 52) cG (aJ (pv 1) aX)))
   (aY (fX (dF nO (sF (K:=K) rfl (pv 2)) dN (eM _)) (cB mL) dL)
   (aY (fX (dF nO (sF (K:=K) rfl (pv 2)) dN (eM _)) (cB (fV (qD (pv 0) T.cl_Desk T.M_qc e (i.mono (by decide)) T.b_qc .nil cG (aJ (sF (K:=K) rfl (pv 2)) (aJ (mO (Xc (K:=K) rfl) (pv 2) (qB dH) qC) aX))))) dL)
   (aY mL
   (aY mL
   (aY mL
   (cB mL))))))),_,λy n B=>(Yv (aZ 2 (bH (vN 1 aB)))
   (aMy (tO cR (aC (bR (aL 2) bI)) (aC aT))
   (aMx (tO cR (aC (bR (aL 2) bI)) (aC aT)) (aFg (by decide) (vE (bR (aL 2) bI) (vE (cL (gU (aL 2) (cS bI) fZ)) aB)))))),?_⟩
 intro p l R qQ0;refine qq0 λqq2=>?_;obtain⟨x,nm,g,rfl,o,f,hlay,C,q⟩:=qQ0;obtain⟨ws,b⟩:∃ws,ζ "marks"::nm::g.map mG=ws:=⟨_,rfl⟩;refine qq2 ?_;have k:=lL (ws:=ws) (j:=0) (x:=ζ "marks") (by rw[<-b];rfl);have r:=lL (ws:=ws) (j:=1) (x:=nm) (by rw[<-b];rfl);have t:fI (ws.map dB) (γ 2) ν=(g.map mG).map .str:=by
  rw[show(2:χ)=((2:π):χ)from rfl,iF,<-b];rfl
 have u:Ac ws:=⟨ζ "marks",nm::g.map mG,3,62,b.symm,by decide +kernel,by rw[<-b];simp;lia,by rw[<-b];simp;lia⟩;rw[b]at f;clear b;walk_at"d";refine .inl ⟨x,ws,rfl,o,f,λ_=>?_,λz=>ψ u z⟩;walk_at"d";refine⟨zC ws,?_⟩;refine⟨_,k,?_⟩;walk_at"d";refine bW (λc=>ψ c<|by decide +kernel) λ_=>?_;refine⟨_,k,?_⟩;walk_at"d";refine⟨_,r,?_⟩;rw[t];exact hlay
def aKg:DWK:=λc e Q _=>∃(x a nm:bf)(b:ε bf)(d:μ),e=[.str x]/\x.length<=90000/\Txt.split x (ζ " ")=b/\Ac b/\b[0]? =γ a/\b[1]? =γ nm/\a≠"names"/\a≠"marks"/\a≠"drop"/\a≠"show"/\c.lookup nm=γ d/\aQw [.list<|b.map .str,d] (Ah λv=>Q<|.dat v) λ_=>ag
theorem qL(T:Txt K mg A)(b:sY w K A.g_COUNTS<|gJ A):FnOk P w K mg base (oV P w) 13 A.a_qb A.d_qb ["self","row"] (Lb K A.c_Desk "kept" aKg):=by
 have a:=sI (P:=P) (w:=w) (base:=base) T b;have e:=aSf (P:=P) (w:=w) (base:=base) T;refine okR T.F_qb Gm (λl o Q E h=>?_) λp G outer s H E i=>?_
 ·obtain⟨_,_,_,_,_,rfl,_⟩:=h;rfl
 refine⟨_,(aY (Cf 2 Gm (nN a i (T.G 52) cG (aJ (pv 1) aX)))
   (aY (fX (dF nO (sF (K:=K) rfl (pv 2)) dN (eM _)) (cB mL) dL)
   (aY (fX (dF nO (sF (K:=K) rfl (pv 2)) dN (eM _)) (cB mL) dL)
   (aY (Cf 3 Gm (qD (pv 0) T.cl_Desk T.M_qd e (i.mono (by decide)) T.b_qd .nil cG (aJ (sF (K:=K) rfl (pv 2)) aX)))
   (aY (fX (dF nO (sF (K:=K) rfl (pv 2)) dN (eM _)) (aY mL
   (cB mL)) dL)
   (aY (fX (dF nO (sF (K:=K) rfl (pv 2)) dN (eM _)) (cB mL) dL)
   (cB (fV (nN (Yp _ T) i (T.G 58) cG (aJ (pv 2) (aJ (pv 3) aX))))))))))),_,(aH (aZ 2 (bH (vN 1 aB)))
   (aH (bF (tO cR (aC (bR (aL 2) bI)) (aC aT)) kG aP)
   (aH (bF (tO cR (aC (bR (aL 2) bI)) (aC aT)) kG aP)
   (aH (nX 2 (Wr 0 (by decide) (vE (bR (aL 2) bI) aB) (aG 3)))
   (aH (bF (tO cR (aC (bR (aL 2) bI)) (aC aT)) (aH kG
   kG) aP)
   (aH (bF (tO cR (aC (bR (aL 2) bI)) (aC aT)) kG aP)
   (bB (aC (aE (vN 2 (vN 3 aB))))))))))),?_⟩
 intro l o Q X qQ0;refine qq0 λqq2=>?_;obtain⟨x,I,nm,m,d,rfl,q,k,r,t,u,v,y,B,C,n,D⟩:=qQ0;refine qq2 ?_;have g:=lL (j:=0) t;have F:=lL (j:=1) u;walk_at"s";refine .inl ⟨x,m,rfl,q,k,λ_=>?_,λz=>ψ r z⟩;walk_at"d";refine⟨zC m,?_⟩;walk_at"s";refine⟨_,g,?_⟩;walk_at"d";refine bW (λc=>ψ c v) λ_=>?_;walk_at"s";refine⟨_,g,?_⟩;walk_at"d";refine bW (λc=>ψ c y) λ_=>?_;walk_at"s";refine⟨l,rfl,_,F,nm,rfl,λd2 f=>?_,λz=>by rw[n]at z;cases z⟩;rw[n]at f;cases f;walk_at"d";walk_at"s";refine⟨_,g,?_⟩;walk_at"d";refine bW (λc=>ψ c B) λ_=>?_;walk_at"s";refine⟨_,g,?_⟩;walk_at"d";refine bW (λc=>ψ c C) λ_=>?_;exact D
open PySem.NumText (AllDigits digitsVal)
theorem aEb(x:bf):et x (γ 0) ν=x:=by
 apply gG;have b:=dY x;have e:=wc (x:=x) (i:=0) ⟨by decide,‹29›⟩;rw[eq_of_beq e];have a:((x.cps.toList.length:χ)-0).toNat=(x.cps.toList.drop 0).length:=by rw[az];assumption
 rw[a];show take _ (x.cps.toList.drop<|toNat 0)=_;exact kh
theorem aNs(h:n.natAbs<10^521):PySem.intText? (ζ<|toString n)=γ n:=by
 obtain⟨g,d,e⟩:=kN (k:=520) h;have a:=d.l1;have j:=d.l2;have b:g≠[]:=λz=>by rw[z]at a;simp at a
 have c:=d.vl;by_cases f:n<0
 ·rw[ρ f]at e;have i:=Sg h;rw[we e d.al b<|‹101›,c]
  congr 1;lia
 ·rw[ι f]at e;have:=ua (x:=ζ<|toString n) (by rw[e];exact d.al) (by rw[e];exact b) (by rw[<-dY,e];exact 101);rw[this,e,c]
  congr 1;lia
def aQp:DW:=λa Q _=>∃n:χ,a=[.str<|ζ<|toString n]/\n.natAbs<10^521/\Q (.dat<|.int n)
theorem vU:Q 1 64 (λ_=>aQp):=by
 refine fH 64 ["word","figures","sign"] λA T R Z=>⟨_,by walk_at"t",_,(sA 1 (Dz (aF 0) (cS (aC (bQ aLt (vE (bZ cR (aC (Dz (aF 0) fZ (cS bI))) (aC aT)) aB)))) fZ) (aH (bF (gL (tO cR (aF 1) (aC aT)) (tO eW (aC (bQ mZ (vN 1 aB))) bI)) (bB (aC kC)) aP)
   (aH (eA (Mq (bE 1)) (aG 2)
    (bF (tO zI (aF 2) (aC aT)) (bB (aC kC)) aP))
   (aH (bF (tO pU (aC (bQ lD (vE (bQ Cb (vN 0 aB)) aB))) (aF 0)) (bB (aC kC)) aP)
   (bB (aC (bQ Cb (vN 0 aB)))))))),?_⟩
 intro E Q X qQ0;refine qq0 λqq2=>?_;obtain⟨n,rfl,g,k⟩:=qQ0;obtain⟨j,d,e⟩:=kN (k:=520) g;refine qq2 ?_;have l:=aNs g;have u:=Sg g;have v:=aFl g;have F:=d.l1;have G:=d.l2;have m:=mS<|ζ<|toString n;obtain⟨x,s⟩:∃x,ζ (toString n)=x:=⟨_,rfl⟩;rw[s]at e l u m⊢;have o:j.head?≠γ 45:=λz=>by
  cases j with
  |nil=>simp at z
  |cons a r=>
   have:=d.al a (by simp);have:a=45:=by simpa using z
   lia
 have b:(et x (γ<|if decide (et x ν (γ 1)=ζ "-")=true then 1 else 0) ν).cps.toList=j:=by
  by_cases t:n<0
  ·rw[ρ t]at e;rw[ρ<|cD<|m.mpr (by rw[e];rfl),Ow,e];rfl
  ·rw[ι t]at e;rw[ι λz=>o (by have:=m.mp<|fb z;rwa [e]at this),aEb,e]
 have H:(x.length:χ)<=100000:=by lia
 walk_at"s";refine⟨‹101›,‹101›,?_⟩;simp only[kr]at b;obtain⟨y,B⟩:∃y,et x (γ<|if et x ν (γ 1)=ζ "-" then 1 else 0) ν=y:=⟨_,rfl⟩;rw[B]at b⊢;have f:=dY y;rw[b]at f;walk_at"s";refine bW (λc=>?_) λ_=>⟨by lia,bW (λc=>ψ c<|by lia) λ_=>?_⟩
 ·rw[c]at f;have:(ζ "").length=0:=by decide +kernel
  lia
 walk_at"s"
 refine cW (eJ sgD y.cps.toList (λQ h=>by
   walk_at"d"
   exact h) (λi p=>∃q:Θ Sl,p=[γ (.dat (.str x)),γ (.dat (.str y)),q]) ⟨ν,rfl⟩ ?_ ?_)
 ·intro i c p C qQ0;refine qq0 λqq2=>?_;obtain⟨q,rfl⟩:=qQ0;refine qq2 ?_;unfold sgD;have D:=d.al c (by rw[<-b];exact Ω C);walk_at"d";rw[Zv,isDig_iff.mpr D];refine bW (λz=>ψ z<|by decide) λ_=>?_;exact⟨_,rfl⟩
 ·rintro p ⟨q,rfl⟩;walk_at"s";refine⟨‹101›,n,l,v,?_⟩;rw[s];refine bW (λz=>ψ rfl z) λ_=>?_;walk_at"d";exact⟨‹101›,n,l,k⟩
theorem aWg{n:χ}(h:n.natAbs<10^521):47∉(ζ<|toString n).cps.toList:=λz=>by
 rcases oJ (k:=520) h 47 z with y|y
 ·exact ψ y (by decide)
 ·lia
theorem aAr:ζ ""=Str.empty:=by decide +kernel
def aKk:DW:=λa Q _=>∃q:θ,a=[.str<|kI q]/\Dg 520 q/\Q (.dat<|fr q)
theorem Ht:Q 2 65 (λ_=>aKk):=by
 refine fH 65 ["word","first","stroke","second","top","bottom"] λA T R Z=>⟨_,by walk_at"t",_,(aH (eL (qS (aF 0) (aC aT)) (eB (aW (aG 1) (aW (aG 2) (aW (aG 3) dO)))))
   (sA 4 (aE (vN 1 aB)) (aH (bF (gL (tO cR (aF 2) (aC aT)) (tO Le (aF 4) (aC kC))) (aH (bF (tO Le (aF 4) (aC kC)) (bB (aC kC)) aP)
   (bB (aC (cH (aI (bE 4) (aI aU aQ)))))) aP)
   (sA 5 (aE (vN 3 aB)) (aH (bF (gL (tO Le (aF 5) (aC kC)) (gL (tO eW (aF 5) bI) (tO hX (aC (aE (vN 4 (vN 5 aB)))) (aC (cH (aI (bE 4) (aI (bE 5) aQ))))))) (bB (aC kC)) aP)
   (bB (aC (cH (aI (bE 4) (aI (bE 5) aQ)))))))))),?_⟩
 intro m Q X qQ0;refine qq0 λqq2=>?_;obtain⟨q,rfl,g,k⟩:=qQ0;obtain⟨a,i⟩:=dg9 g;refine qq2 ?_;have h:=aWg a;have hlen:=pQ g;have j:=kT q;have b:fr q= .tuple [.int q.num,.int (q.den:χ)]:=rfl;rw[b]at k;by_cases d:(q.den:χ)=1
 ·have e:kI q=ζ (toString q.num):=by unfold kI tS;rw[ρ d]
  have f:Η (kI q) "/"=(ζ<|toString q.num,Str.empty,Str.empty):=by
   rw[e];exact vM (by rw[iG uW];exact aA h)
  walk_at"s";refine⟨‹1›,by rw[hG];rfl,?_⟩;rw[f];walk_at"s";refine⟨_,rfl,a,?_⟩;walk_at"s";rw[aAr];refine bW (λ_=>?_) λc=>ψ rfl c;walk_at"d";walk_at"s";rw[d]at k;exact k
 ·have e:kI q=ζ (toString q.num)++ζ "/"++ζ (toString (q.den:χ)):=by unfold kI tS;rw[ι d]
  have f:Η (kI q) "/"=(ζ<|toString q.num,ζ "/",ζ<|toString (q.den:χ)):=by
   rw[e];exact tX Gg h
  walk_at"s";refine⟨‹1›,by rw[hG];rfl,?_⟩;rw[f];walk_at"s";refine⟨_,rfl,a,?_⟩;walk_at"s";refine bW (λc=>ψ c<|by decide +kernel) λ_=>?_;walk_at"s";refine⟨_,rfl,i,?_⟩;walk_at"s";refine bW (λc=>ψ c<|by lia) λ_=>?_;refine⟨_,_,rfl,j,kA (n:=521) ‹0›<|by decide,?_⟩;rw[show bz q.num (q.den:χ)=q from mq q];walk_at"d";refine⟨θ,eRat,q,q,rfl,rfl,λv l=>?_⟩;rw[l.mpr rfl];walk_at"d";exact k
def aKj:DW:=λa Q _=>∃rows:ε<|ε θ,a=[.str<|shP rows]/\rows≠[]/\rows.length<=4/\(∀r∈rows,r≠[]/\r.length<=10/\∀q∈r,Dg 520 q)/\Q (.own<|lsD rows)
theorem qK:Q 3 66 (λ_=>aKj):=by
 refine fH 66 ["answer"] λA T R Z=>⟨_,by walk_at"t",_,(aH (bF (jZ (lA (aC (oQ (by decide) (aF 0))))) (dW (dG (aI (cL (dG (aI kC aQ))) aQ))) aP)
   (dW (bS [ν] ["part"] (cE (lP (vQ (aF 0) (aC aT)))) (aG 0) bV (cL (bS [ν] ["word"] (cE (lP (vQ (aF 0) (aC aT)))) (aG 0) bV (aE (vN 0 aB))))))),?_⟩
 intro o Q X qQ0;refine qq0 λqq2=>?_;obtain⟨rows,rfl,d,p,a,k⟩:=qQ0;refine qq2 ?_;have b:∀r∈rows,(oG r).length<=18400:=λr R=>by
  have:=pS (a r R).2.2;have:=(a r R).2.1;lia
 have hlen:(shP rows).length<=90000:=by
  have:=Dq (ζ " | ") (ws:=rows.map oG) (n:=18400) λw hw=>by
   obtain⟨r,R,rfl⟩:=Β.mp hw;exact b r R
  rw[Er,η]at this;unfold shP;lia
 have e:Txt.split (shP rows) (ζ " | ")=rows.map oG:=oB aLf (by rw[Kl];decide) (by simpa using d) λw hw=>by
  obtain⟨r,R,rfl⟩:=Β.mp hw;exact Xe (a r R).2.2
 have f:∀r∈rows,Txt.split (oG r) (ζ " ")=r.map kI:=λr R=>oB Gh (by rw[iD];decide) (by simpa using(a r R).1) λw hw=>by
  obtain⟨q,g,rfl⟩:=Β.mp hw;exact Lc ((a r R).2.2 q g)<|.inl rfl
 walk_at"s";refine bW (λc=>ψ c<|by decide) λ_=>?_
 refine bL (λr:ε θ=>dB (oG r)) (λr:ε θ=>gk (r.map fr)) (λr=>[r]) rows ‹101› (λQ h=>by
   walk_at"d"
   refine⟨hlen,by rw[Er];rfl,?_⟩
   rw[e,ia]
   exact h) (λr R N l m=>?_) ?_
 ·walk_at"d"
  refine bL (λq:θ=>dB (kI q)) fr (λq=>[q]) r (by have:=(a r R).2.1;exact 101) (λQ h=>by
    walk_at"d"
    refine⟨by have:=b r R;exact 101,by rw[fD];rfl,?_⟩
    rw[f r R,ia]
    exact h) (λq g s j i=>?_) ?_
  ·walk_at"d";refine⟨q,rfl,(a r R).2.2 q g,?_⟩;walk_at"d";exact i
  ·rw[aN,zA];exact m
 ·rw[aN,zA];exact k
structure MkR(most:π)(ms:ε Mk):Prop where
 n1:1<=ms.length
 nm:ms.length<=most
 hc:∀m∈ms,Cm LL (10^6) m.2.1
 hw:∀m∈ms,1<=m.2.2/\m.2.2<=4
 up:Up ms
 pl:∀m∈ms,Cm 2 500 m.1
 hd:∀m∈ms,m.2.1.den<=30
 tt:∃(a c:θ)(t:π->π),0<a/\∀i,i<ms.length->t i<=3*(i+1)/\xL ms i=a*(t i:θ)+c
theorem MkR.b(M:MkR most e)(h:most<=8):MkB e:=by
 obtain⟨a,c,t,g,f⟩:=M.tt;exact⟨M.n1,Α M.nm h,M.hc,M.hw,M.up,M.pl,M.hd,a,c,t,g,by have:=M.n1;lia,λi d=>by have:=(f i d).1;lia,λi d=>(f i d).2⟩
theorem MkR.tk(M:MkR most f)(q:1<=k):MkR most (f.take k):=by
 have d:∀m∈f.take k,m∈f:=λm j=>cv j;have r:=M.n1;have nm:=M.nm;have s:=ao (l:=f) (i:=k);refine⟨by lia,by lia,λm h=>M.hc m<|d m h,λm h=>M.hw m<|d m h,Pairwise.sublist (n3 _ _) M.up,λm h=>M.pl m<|d m h,λm h=>M.hd m<|d m h,?_⟩;refine qq0 λqq2=>?_;obtain⟨a,c,t,n,o⟩:=M.tt;refine qq2 ?_;refine⟨a,c,t,n,λi p=>?_⟩;have g:i<f.length:=by lia
 have e:xL (f.take k) i=xL f i:=by unfold xL;rw[aO p,aO g,rx]
 rw[e];exact o i g
theorem MkR.lw(M:MkR most d):∀m∈d,Lw7 (m7 m):=λm c=>by
 have e:=(M.hc m c).dg mX sZ<|ω<|10^6;have i:=M.hw m c;have f:=(M.pl m c).dg (by decide) (l:=1) (by decide) (b:=3) (by decide);have a:∀{n k:π},n<=10^k->k<40->n<10^40:=λh g=>eH h<|Nat.pow_lt_pow_right (by decide) g;refine⟨a f.n<|by decide,?_,a e.n<|by decide,?_,a (k:=1) (by show m.2.2.natAbs<=_;lia)<|by decide,kT _,kT _,i.1,m.1.reduced,m.2.1.reduced⟩
 ·show((m.1.den:π):χ).natAbs<10^40;rw[en];exact a f.d (by decide)
 ·show((m.2.1.den:π):χ).natAbs<10^40;rw[en];exact a e.d (by decide)
theorem aOg(a:0<b)(h:s<t):bz s b<bz t b:=by
 rw[Ju,Ju,jb,jb];exact md (Rat.intCast_lt_intCast.mpr h)<|zu.mpr<|gb.mpr a
theorem Uq(f:1<=b)(a:b<=2)(d:t.natAbs<=500):Cm 2 500 (bz t b):=by
 have d2:b.toNat∣2:=by
  have:b.toNat=1\/b.toNat=2:=by lia
  rcases this with e|e <;>rw[e] <;>decide
 have c:=Cm.div (t:=t) (b:=b.toNat) (L:=2) (B:=500) (by lia) d2 (Α d<|gg _<|by lia)
 rwa [show((b.toNat:π):χ)=b by lia]at c
theorem aIr(c:1<=b)(a:b<=30):(bz t b).den<=30:=Α (Fm.den_le t (b:=b)<|‹21›) (by lia)
theorem aUh(e:1<=b)(a:b<=30)(d:t.natAbs<=10^6):Cm LL (10^6) (bz t b):=by
 have c:=Cm.div (t:=t) (b:=b.toNat) (L:=LL) (B:=10^6) (by lia) (aPr (by lia)<|by lia) (Α d<|gg _<|by lia);rw[show((b.toNat:π):χ)=b by lia]at c;exact c
def aQf:DW:=λc Q _=>∃(a:ε χ)(st most:π),c=[.list<|a.map .int,.int (st:χ),.int (most:χ)]/\(∀v∈a,bj v<=1048576)/\a.length<=100/\3<=st/\st<=10/\1<=most/\most<=10/\∀b:ε Mk,MkR most b->Q (.own<|b.map cP)
theorem Hs:Q 2 74 (λ_=>aQf):=by
 refine fH 74 ["script","start","most","some","place","k","cell","other","height"] λA T R Z=>⟨_,by walk_at"t",_,(aH (aZ 3 (dG aQ))
   (sA 4 (bZ cN (aC (fE (k:=21) (by decide) (aC (aE (vN 0 (vE aU aB)))) aU)) bI) (aH (eA (aFx (vN 1 (vE (bQ Li (vE (bZ cN (aF 1) bI) (vE (bQ Lg (vE (bQ cT (vN 0 aB)) (vE (bZ cN (aF 1) (bO dQ bI (aF 2))) aB))) aB))) (vE aU aB)))) (aG 5)
    (sA 6 (aE (vN 0 (vN 5 aB))) (sA 7 (aE (vN 0 (vE (bZ cN (aF 5) bI) aB))) (sA 4 (bZ cN (bO cN (aF 4) bI) (aC (fE (k:=3) (by decide) (aF 7) aU))) (sA 8 (aE (vE (bZ cN (aC (fE (k:=13) (by decide) (aF 6) aU)) bI) (vE (bZ cN bI (aC (fE (k:=3) (by decide) (aC (kE (k:=13) (yK) (aF 6) aU)) aU))) aB))) (nY (bF (tO cR (aC (fE (k:=3) (by decide) (aC (aE (vN 0 (vE aU aB)))) aU)) bI) (eL (aE (vE (bZ cN (aC (fE (k:=2000001) (by decide) (bO dQ (aF 6) bI) (Jq (v:=2000001) (bZ cN (bO dQ bI (bO dQ bI bI)) bI) (λex u Q h=>⟨aUf (by decide +kernel),dJ (Sa) (Sa),Eq.mpr (ea (λz=>Q (.int z)) (by decide +kernel:(((2*(10^toNat 6))+1):χ)=2000001)) h⟩)))) (aC (Jq (v:=1000000) (bZ dQ bI bI) (λex u Q h=>⟨aUf (by decide +kernel),Eq.mpr (ea (λz=>Q (.int z)) (by decide +kernel:((10^toNat 6):χ)=1000000)) h⟩)))) (vE (bZ cN bI (aC (fE (k:=30) (by decide) (aC (kE (k:=12) (yK) (aF 7) aU)) aU))) aB))) (aG 8)) aP)
   (nZ 3 (cH (aI (aE (vN 4 (vE (bZ cN bI (aC (fE (k:=2) (by decide) (aC (kE (k:=21) (yK) (aC (aE (vN 0 (vE aU aB)))) aU)) aU))) aB))) (aI (bE 8) (aI (bZ cN bI (aC (fE (k:=4) (by decide) (aC (kE (k:=3) (yK) (aF 7) aU)) aU))) aQ)))))))))))
   (dU 3)))),?_⟩
 intro ds Q X qQ0;refine qq0 λqq2=>?_;obtain⟨f,st,most,rfl,hbits,hlen,a8,st10,a9,mo10,k⟩:=qQ0;obtain⟨E,G⟩:∃E:χ,gX f 1=E:=⟨_,rfl⟩;obtain⟨c2,N⟩:∃c2:χ,gX f 2=c2:=⟨_,rfl⟩;refine qq2 ?_;have b0:(2:χ)*(most:χ)=((2*most:π):χ):=by lia
 obtain⟨r,O⟩:∃r:χ,(2:χ)*(most:χ)=r:=⟨_,rfl⟩;have b1:2<=r:=by lia
 have b2:r=2*(most:χ):=by lia
 walk_at"s";walk_at"s";refine⟨f,1,rfl,by decide,by decide,?_⟩;walk_at"d";rw[G];refine qq0 λqq2=>?_;obtain⟨l,S,b3⟩:∃l:χ,E%21-10=l/\l.natAbs<=10:=⟨_,rfl,by lia⟩;refine qq2 ?_;rw[S];obtain⟨F,U,b4,b5⟩:∃F:χ,(if (if (st:χ)+r<(f.length:χ)then(st:χ)+r else(f.length:χ))>(st:χ)+2 then(if (st:χ)+r<(f.length:χ)then(st:χ)+r else(f.length:χ))else(st:χ)+2)=F/\(st:χ)+2<=F/\F<=(st:χ)+r:=⟨_,rfl,by (repeat' split) <;>exact 50,by (repeat' split) <;>exact 50⟩;obtain⟨n,hn,n1,n2⟩:∃n:π,eu (st:χ) F 2=(n:χ)/\1<=n/\n<=most:=by
  unfold eu;refine⟨((F-(st:χ)-1)/2+1).toNat,?_,by lia,by lia⟩;rw[ρ<|by decide,ρ<|‹136›];lia
 refine cW (lJ (lo:=(st:χ)) (st:=2) (n:=n) (λQ h=>by
   walk_at"d"
   refine⟨dJ (Sa)<|fR (n:=100)<|‹101›,?_⟩
   rw[O,U]
   exact⟨n,⟨by decide,by decide,Sr ⟨‹129›,by omega⟩ ⟨by lia,by lia⟩ (by decide)⟩,hn,h⟩)
  (λi u=>∃(c:ε Mk)(p:χ)(W Y s7 s8:Θ Sl),u=[γ<|.dat<|.list<|f.map .int,γ<|.dat<|.int (st:χ),γ<|.dat<|.int (most:χ),γ<|.own<|c.map cP,γ<|.dat<|.int p,W,Y,s7,s8]/\c.length=i/\p.natAbs<=10+3*i/\(∀m∈c,Cm LL (10^6) m.2.1)/\(∀m∈c,1<=m.2.2/\m.2.2<=4)/\Up c/\(∀m∈c,Cm 2 500 m.1)/\(∀m∈c,m.2.1.den<=30)/\l<=p/\p<=l+3*(i:χ)/\∃t:π->π,∀j,j<c.length->t j<=3*(j+1)/\l+(t j:χ)<=p/\xL c j=bz (l+(t j:χ)) (1+E/21%2))
  ⟨[],l,ν,ν,ν,ν,rfl,rfl,‹51›,(λm h=>nomatch h),(λm h=>nomatch h),.nil,(λm h=>nomatch h),(λm h=>nomatch h),‹48›,by lia,λ_=>0,λj h=>ψ h (by simp)⟩ ?_ ?_)
 ·intro i u b6 qQ0;refine qq0 λqq2=>?_;obtain⟨c,p,W,Y,s7,s8,rfl,x,hp,i1,i2,i3,i4,i6,i7,i8,t,y⟩:=qQ0;obtain⟨o,H,b7,b8⟩:∃o:χ,(st:χ)+(i:χ)*2=o/\0<=o/\o<=100:=⟨_,rfl,‹129›,by lia⟩;refine qq2 ?_;rw[H];clear H;walk_at"s";refine⟨f,o,rfl,‹51›,by lia,?_⟩;have bc:=Kj hbits (k:=o) ‹51› (by lia);obtain⟨L,a0⟩:∃L:χ,gX f o=L:=⟨_,rfl⟩;rw[a0]at bc⊢;walk_at"s";refine⟨f,o+1,rfl,by omega,by omega,?_⟩;obtain⟨I,a1⟩:∃I:χ,gX f (o+1)=I:=⟨_,rfl⟩;rw[a1];walk_at"s";refine qq0 λqq2=>?_;obtain⟨g,a2,b9,c0,a3⟩:∃g:χ,p+1+I%3=g/\p<g/\g<=p+3/\g.natAbs<=10+3*(i+1):=⟨_,rfl,by omega,by omega,by omega⟩;refine qq2 ?_;rw[a2];walk_at"s";refine⟨_,_,rfl,by omega,fR (n:=30)<|by omega,?_⟩;walk_at"d";refine oU (λu=>∃h:θ,u=[γ<|.dat<|.list<|f.map .int,γ<|.dat<|.int (st:χ),γ<|.dat<|.int (most:χ),γ<|.own<|c.map cP,γ<|.dat<|.int g,γ<|.dat<|.int o,γ<|.dat<|.int L,γ<|.dat<|.int I,γ<|.dat<|fr h]/\Cm LL (10^6) h/\h.den<=30) ?_ ?_
  ·walk_at"d";refine⟨f,2,rfl,by decide,by decide,?_⟩;walk_at"d";rw[N];refine bW (λ_=>?_) (λ_=>?_)
   ·refine⟨Ij (Α bc.bits<|by decide)<|Sa,_,_,rfl,by omega,fR (n:=30)<|by omega,?_⟩;walk_at"d";refine⟨_,rfl,aUh (by omega) (by omega) ?_,aIr (by omega)<|by omega⟩;generalize L*48271=z;omega
   ·exact⟨_,rfl,aUh (by omega) (by omega)<|by omega,aIr (by omega)<|by omega⟩
  ·intro u qQ0;refine qq0 λqq2=>?_;obtain⟨h,rfl,hh,a4⟩:=qQ0;obtain⟨d,s,B,J⟩:∃d:χ,1+E/21%2=d/\1<=d/\d<=2:=⟨_,rfl,by omega,by omega⟩;obtain⟨C,a5,a6,a7⟩:∃C:χ,1+I/3%4=C/\1<=C/\C<=4:=⟨_,rfl,by omega,by omega⟩;refine qq2 ?_;rw[s]at y⊢;walk_at"d";refine⟨f,1,rfl,by decide,by decide,?_⟩;rw[G];walk_at"d";rw[s];refine⟨_,_,rfl,B,fR (n:=30)<|by omega,?_⟩;walk_at"d";rw[a5];have xo:∀j,j<c.length->xL (c++[(bz g d,h,C)]) j=xL c j:=λj q=>by
    unfold xL;rw[aO (by rw[Λ];exact 103),qb q,aO q]
   have xn:xL (c++[(bz g d,h,C)]) c.length=bz g d:=by
    unfold xL;rw[aO<|by simp,pa<|by omega];simp
   refine⟨by rw[x];omega,c++[(bz g d,h,C)],g,_,_,_,_,by rw[bu];rfl,by rw[Λ,x];rfl,a3,λm D=>?_,λm D=>?_,?_,λm D=>?_,λm D=>?_,by omega,by omega,λj=>if j<c.length then t j else(g-l).toNat,λj q=>?_⟩
   ·rcases cj.mp D with z|z
    ·exact i1 m z
    ·rw[br.mp z];exact hh
   ·rcases cj.mp D with z|z
    ·exact i2 m z
    ·rw[br.mp z];exact⟨a6,a7⟩
   ·refine kq.mpr ⟨i3,List.pairwise_singleton _ _,λa ha b hb=>?_⟩;obtain⟨j,q,rfl⟩:=cn ha;have e:=(y j q).2.2;have e2:=(y j q).2.1;unfold xL at e;rw[aO q]at e;rw[br.mp hb];show c[j].1<bz g d;rw[e];exact aOg ‹51› (by omega)
   ·rcases cj.mp D with z|z
    ·exact i4 m z
    ·rw[br.mp z];exact Uq B J (by omega)
   ·rcases cj.mp D with z|z
    ·exact i6 m z
    ·rw[br.mp z];exact a4
   ·rw[Λ,k9]at q;dsimp only;by_cases M:j<c.length
    ·rw[ρ M,xo j M];obtain⟨q1,q2,q3⟩:=y j M;exact⟨q1,by omega,q3⟩
    ·have ej:j=c.length:=by omega
     rw[ι M,ej,xn];have e3:l+(((g-l).toNat:π):χ)=g:=by omega
     rw[e3];exact⟨by omega,by omega,rfl⟩
 ·intro u qQ0;refine qq0 λqq2=>?_;obtain⟨c,p,W,Y,s7,s8,rfl,x,hp,i1,i2,i3,i4,i6,i7,i8,t,y⟩:=qQ0;obtain⟨d,s,B,J⟩:∃d:χ,1+E/21%2=d/\1<=d/\d<=2:=⟨_,rfl,by lia,by lia⟩;refine qq2 ?_;rw[s]at y;walk_at"d";refine k c ⟨‹48›,‹48›,i1,i2,i3,i4,i6,1/(d:θ),(l:θ)/(d:θ),t,?_,λj q=>?_⟩
  ·rw[jb,fh];exact zu.mpr (gb.mpr<|‹51›)
  ·obtain⟨q1,q2,q3⟩:=y j q;refine⟨q1,?_⟩;rw[q3,Ju,j0,Ι,jb,jb,jb];grind
def aKl:DW:=λe Q _=>∃(a b:θ)(c d:π),e=[fr a,fr b]/\Dg c a/\Dg d b/\c+d<=2300/\Q (.dat<|fr<|a+b)
theorem Hu:Q 2 69 (λ_=>aKl):=by
 refine fH 69 ["one","other"] λA T R Z=>⟨_,by walk_at"t",_,(bB<|aC<|aE<|vE (bZ cN (bO dQ (aC<|eX 0 0)<|aC<|eX 1 1)<|bO dQ (aC<|eX 0 1)<|aC<|eX 1 0)<|vE (bZ dQ (aC<|eX 1 0)<|aC<|eX 1 1) aB),?_⟩;intro j Q X qQ0;refine qq0 λqq2=>?_;obtain⟨a,b,g,h,rfl,e,f,l,k⟩:=qQ0;refine qq2 ?_;have c:Ok a:=cA e (by lia);have d:Ok b:=cA f (by lia);walk_at"d";have i:((a.den:χ)*(b.den:χ)).natAbs<=10^(g+h):=by
  rw[dj,jd];exact Τ (by have:=e.d;assumption) (by have:=f.d;assumption)
 refine⟨dJ c.n d.d,dJ d.n c.d,dJ c.d d.d,_,_,rfl,ni (kT a)<|kT b,kA i<|‹1›,?_⟩;rw[Ws];walk_at"d";exact k
def aDo:DW:=λe Q _=>∃(a b:θ)(c d:π),e=[fr a,fr b]/\Dg c a/\Dg d b/\c+d<=2300/\Q (.dat<|fr<|a*b)
theorem Cu:Q 2 70 (λ_=>aDo):=by
 refine fH 70 ["one","other"] λA T R Z=>⟨_,by walk_at"t",_,(bB<|aC<|aE<|vE (bZ dQ (aC<|eX 0 0)<|aC<|eX 0 1)<|vE (bZ dQ (aC<|eX 1 0)<|aC<|eX 1 1) aB),?_⟩;intro g Q X qQ0;refine qq0 λqq2=>?_;obtain⟨a,b,h,i,rfl,c,d,j,k⟩:=qQ0;refine qq2 ?_;have e:Ok a:=cA c (by lia);have f:Ok b:=cA d (by lia);walk_at"d";refine⟨dJ e.n f.n,dJ e.d f.d,_,_,rfl,ni (kT a)<|kT b,aAz c d<|‹1›,?_⟩;rw[Mf];walk_at"d";exact k
def aDn:DW:=λc Q _=>∃(a:ε θ)(U l b:π),c=[.list<|a.map fr]/\a.length<=60/\0<U/\U<=10^l/\(∀q∈a,Cm U (10^b) q)/\2*(l+b)+5<=2300/\Q (.dat<|fr<|tot a)
theorem Ct:Q 3 71 (λ_=>aDn):=by
 refine fH 71 ["some","total","x"] λA T R Z=>⟨_,by walk_at"t",_,(sA 1 (cH (aI aU (aI aU aQ))) (aH (eA (iV (bE 0)) (aG 2)
    (eL (aE (vN 1 (vN 2 aB))) (aG 1)))
   (dU 1))),?_⟩
 intro g Q X qQ0;refine qq0 λqq2=>?_;obtain⟨qs,U,l,b,rfl,f,U0,U1,d,j,k⟩:=qQ0;refine qq2 ?_;have a:∀i,Dg (b+2+l+1) (tot<|qs.take i):=λi=>by
  have h:=Cm.tot (qs:=qs.take i) (L:=U) (B:=10^b) λq h=>d q<|cv h;exact h.dg (l:=l) (b:=b+2) U0 U1<|iZ (by rw[ao];exact 50)<|ω _
 walk_at"s"
 refine cW (eJ fr qs (λQ h=>by
   walk_at"d"
   exact h) (λi c=>∃o:Θ Sl,c=[γ (.dat (.list (qs.map fr))),γ (.dat (fr (tot (qs.take i)))),o]) ⟨ν,rfl⟩ ?_ ?_)
 ·intro i q c e qQ0;refine qq0 λqq2=>?_;obtain⟨o,rfl⟩:=qQ0;refine qq2 ?_;walk_at"d";refine⟨_,q,_,b+l+1,rfl,a i,(d q<|Ω e).dg (l:=l) (b:=b) U0 U1<|ω _,by lia,?_⟩;rw[<-uQ,<-fO e];walk_at"d";exact⟨_,rfl⟩
 ·rintro c ⟨o,rfl⟩;rw[kh];walk_at"d";exact k
def Vv:DW:=λe Q _=>∃(b:ε Mk)(a:ε θ)(c d:π),e=[.list<|b.map cP,.list<|a.map fr]/\b.length<=60/\(∀m∈b,Dg c m.2.1)/\(∀q∈a,Dg d q)/\c+d<=2300/\Q (.own<|(bM b a).map fr)
theorem xV:Q 3 72 (λ_=>Vv):=by
 refine fH 72 ["some","row"] λA T R Z=>⟨_,by walk_at"t",_,(dW<|bS [ν,ν] ["mark","x"] (fM (aL 0)<|aL 1) (eB<|aW (aG 0)<|aW (aG 1) dO) bV<|aE<|vE (eX 1 0)<|vE (cH<|aI (iA<|aC<|eX 0 1)<|aI (eX 1 1) aQ) aB),?_⟩;intro s Q X qQ0;refine qq0 λqq2=>?_;obtain⟨b,a,d,f,rfl,g,i,c,j,k⟩:=qQ0;refine qq2 ?_;walk_at"d"
 refine bL (λp:Mk×θ=>ay [cP p.1,fr p.2]) fr (λp=>[p.1.2.1-p.2]) (b.zip a) (by rw[dR];exact 50) (λQ h=>by
   walk_at"d"
   rw[cK];exact h) (λp l N n o=>?_) ?_
 ·refine qq0 λqq2=>?_;obtain⟨m,x⟩:=p;obtain⟨q,r⟩:=eh l;refine qq2 ?_;unfold cP;walk_at"d";refine⟨m.2.1,-x,d,f,rfl,i m q,(c x r).neg,j,?_⟩;rw[<-mr];walk_at"d";exact o
 ·rw[aN];have e:(b.zip a).map (λp:Mk×θ=>p.1.2.1-p.2)=bM b a:=by
   unfold bM;rw[ud,t8]
  rw[e];exact k
def Vx:DW:=λd Q _=>∃(c:ε θ)(x:θ)(a b:π),d=[.list<|c.map fr,fr x]/\c.length<=4/\(∀n∈c,Dg a n)/\Dg b x/\4*(a+b+2)<=2300/\Q (.dat<|fr<|bY c x)
theorem xZ:Q 3 75 (λ_=>Vx):=by
 refine fH 75 ["numbers","x","total","number"] λA T R Z=>⟨_,by walk_at"t",_,(sA 2 (cH (aI aU (aI aU aQ))) (aH (eA (iV (cL (Lq (aL 0)))) (aG 3)
    (eL (aE (vE (aE (vN 2 (vN 1 aB))) (vN 3 aB))) (aG 2)))
   (dU 2))),?_⟩
 intro t Q X qQ0;refine qq0 λqq2=>?_;obtain⟨d,x,a,b,rfl,u,o,l,v,k⟩:=qQ0;refine qq2 ?_;walk_at"s"
 refine cW (eJ fr d.reverse (λQ h=>by
   walk_at"d"
   rw[<-px];exact h)
  (λi f=>∃(q:θ)(r:Θ Sl),f=[γ<|.dat<|.list<|d.map fr,γ<|.dat<|fr x,γ<|.dat<|fr q,r]/\q=(d.reverse.take i).foldl (λh n=>h*x+n) 0/\Dg (i*(a+b+2)) q)
  ⟨0,_,rfl,rfl,Dg.zero⟩ ?_ ?_)
 ·intro i n f g qQ0;refine qq0 λqq2=>?_;obtain⟨q,r,rfl,e,j⟩:=qQ0;refine qq2 ?_;have y:i<d.length:=by have:=(Δ.mp g).1;simpa using this
  have c:=o n (by have:=Ω g;simpa using this);have p:i*(a+b+2)+(a+b+2)<=4*(a+b+2):=by
   have:=Ψ (a+b+2) (show i+1<=4 by exact 2);rw[l5,jc]at this;assumption
  have m:=j.mul l;have s:=m.add c;walk_at"d";refine⟨q,x,_,b,rfl,j,l,by lia,?_⟩;walk_at"d";refine⟨_,n,_,a,rfl,m,c,by lia,?_⟩;walk_at"d";refine⟨_,_,rfl,?_,s.mono (by rw[l5];exact 48)⟩;rw[fO g,ro,e];rfl
 ·intro f qQ0;refine qq0 λqq2=>?_;obtain⟨q,r,rfl,e,j⟩:=qQ0;refine qq2 ?_;walk_at"d";rw[bA<|ω _]at e;rw[e];exact k
def aKq:DW:=λd Q _=>∃(a:ε Mk)(b:ε θ)(c U:π),d=[.list<|a.map cP,.list<|b.map fr,.int (c:χ)]/\c<=3/\MkB a/\b.length=a.length/\0<U/\U<=10^930/\(∀p∈b,Cm U (10^186) p)/\(∀j,j<=c->tot (af (λ(m:Mk) p=>m.1^j*p) a b)=0)/\Q (.dat<|.bool true)
theorem Vh(j:π):∀(a:ε Mk)(b:ε θ),af (λ(m:Mk) p=>m.1*p) a (af (λ(m:Mk) p=>m.1^j*p) a b)=af (λ(m:Mk) p=>m.1^(j+1)*p) a b
 |[],_=>rfl
 |_::_,[]=>rfl
 |m::a,p::b=>by rw[Κ,Κ,Κ,Vh j a b,eo];congr 1;grind
theorem Vi:∀(b:ε Mk)(a:ε θ),a.length=b.length->af (λ(m:Mk) p=>m.1^0*p) b a=a
 |[],[],_=>rfl
 |m::b,p::a,h=>by rw[Κ,Vi b a<|by simpa using h,js,fh]
theorem Hx:Q 4 76 (λ_=>aKq):=by
 refine fH 76 ["some","pulls","bend","powers","k"] λA T R Z=>⟨_,by walk_at"t",_,(aH (aZ 3 (Pp (aL 1)))
   (aH (eA (lI (vE (bZ cN (aF 2) bI) aB)) (aG 4)
    (aH (bF (tO hX (aC (aE (vN 3 aB))) (aC (cH (aI aU (aI aU aQ))))) (bB (aC jM)) aP)
   (aZ 3 (bS [ν,ν] ["mark","x"] (fM (aL 0) (aL 3)) (eB (aW (aG 0) (aW (aG 1) dO))) bV (aE (vE (eX 0 0) (vN 1 aB)))))))
   (bB (aC jM)))),?_⟩
 intro ds Q X qQ0;refine qq0 λqq2=>?_;obtain⟨a,c,f,U,rfl,b3,M,E,U0,U1,g,F,k⟩:=qQ0;refine qq2 ?_;clear qq2;have n8:=M.n8;have G:∀j,j<=4->∀q∈af (λ(m:Mk) p=>m.1^j*p) a c,Cm (2^4*U) (10^198) q:=λj v=>by
  have H:∀m∈a,Cm (2^4) (10^12) (m.1^j):=λm I=>by
   have h:∀k,Cm (2^k) (500^k) (m.1^k):=λk=>by
    induction k with
    |zero=>rw[js];exact Cm.int (i:=1) (by decide)
    |succ k J=>rw[eo,eT,eT];exact J.mul<|M.pl m I
   exact(h j).mono (k8 2 v) (Α (Ρ (by decide) v)<|by decide)
  exact fJ H g λ_ _ o r=>(o.mul r).mono (dA _) (by decide +kernel)
 have y:0<2^4*U:=fq (by decide) U0;have z:2^4*U<=10^932:=Α (Χ _ U1) (by decide +kernel);have L:∀j:π,(af (λ(m:Mk) p=>m.1^j*p) a c).length=a.length:=λj=>by rw[ba];omega
 walk_at"s"
 refine cW (lJ (lo:=0) (st:=1) (n:=f+1) (λQ h=>by
   walk_at"d"
   refine⟨⟨by omega,by omega⟩,?_⟩
   rw[show((f:χ)+1).toNat=f+1 by omega];exact h)
  (λi s=>∃t:Θ μ,s=[γ<|.dat<|.list<|a.map cP,γ<|.dat<|.list<|c.map fr,γ<|.dat<|.int (f:χ),γ<|.own<|(af (λ(m:Mk) p=>m.1^i*p) a c).map fr,t.map Sl.dat])
  ⟨ν,by rw[Vi a c E];rfl⟩ ?_ ?_)
 ·intro i s hi qQ0;refine qq0 λqq2=>?_;obtain⟨t,rfl⟩:=qQ0;obtain⟨B,O⟩:∃B:χ,(0:χ)+(i:χ)*1=B:=⟨_,rfl⟩;refine qq2 ?_;clear qq2;rw[O];obtain⟨d,C⟩:∃d,af (λ(m:Mk) p=>m.1^i*p) a c=d:=⟨_,rfl⟩;have u:=G i (by omega);have D:=F i (by omega);have S:=L i;have W:af (λ(m:Mk) p=>m.1*p) a d=af (λ(m:Mk) p=>m.1^(i+1)*p) a c:=by rw[<-C];exact Vh i a c
  rw[C]at u D S⊢;walk_at"s";refine⟨d,_,932,198,rfl,by omega,y,z,u,by decide,?_⟩;rw[D];walk_at"d";refine⟨θ,eRat,0,0,rfl,rfl,λb Y=>?_⟩;rw[Y.mpr rfl];walk_at"d"
  refine bL (λp:Mk×θ=>ay [cP p.1,fr p.2]) fr (λp=>[p.1.1*p.2]) (a.zip d) (by rw[dR];omega) (λQ h=>by
    walk_at"d"
    rw[cK];exact h) (λp g N a0 hN=>?_) ?_
  ·refine qq0 λqq2=>?_;obtain⟨m,x⟩:=p;obtain⟨o,r⟩:=eh g;refine qq2 ?_;clear qq2;unfold cP;walk_at"d";refine⟨m.1,x,5,1131,rfl,(M.pl m o).dg (by decide) (l:=1) (by decide) (b:=3)<|by decide,(u x r).dg y z<|ω _,by decide,?_⟩;walk_at"d";exact hN
  ·rw[aN];have e:(a.zip d).map (λp:Mk×θ=>p.1.1*p.2)=af (λ(m:Mk) p=>m.1^(i+1)*p) a c:=by
    rw[<-W,ud,t8]
   rw[e];exact⟨γ _,rfl⟩
 ·intro s qQ0;refine qq0 λqq2=>?_;obtain⟨t,rfl⟩:=qQ0;refine qq2 ?_;clear qq2;walk_at"d";exact k
theorem uP{d e i:Type}(f:d->μ)(g:e->μ)(h:i->μ):∀(a:ε d)(b:ε e)(c:ε i),triD (a.map f) (b.map g) (c.map h)=(a.zip<|b.zip c).map λp=>ay [f p.1,g p.2.1,h p.2.2]
 |[],_,_=>by simp[Dl.triD]
 |x::a,[],_=>by simp[Dl.triD]
 |x::a,y::b,[]=>by simp[Dl.triD]
 |x::a,y::b,z::c=>by
  have:=uP f g h a b c;simp[Dl.triD,this]
theorem Ax{n:π}(h:0<n):(0:θ)<(n:θ):=by exact_mod_cast h
theorem Ig(x p:θ):0<x.num*p.num↔0<x*p:=by
 have a:=Ax<|dX x.den_nz;have d2:=Ax<|dX p.den_nz;have d:=gu a d2;have e:((x.num*p.num:χ):θ)=x*p*((x.den:θ)*(p.den:θ)):=by
  rw[ae,Fm.num_eq x,Fm.num_eq p];grind
 rw[<-gb,e];constructor
 ·intro h;refine oD.mp λz=>?_;have:=Ν (show 0<=-(x*p) by grind) (show 0<=(x.den:θ)*(p.den:θ) by exact 40);grind
 ·intro h;exact gu h d
theorem Nv(q:θ):ay [.int<|if q.num<0 then -q.num else q.num,.int (q.den:χ)]=fr (aM q):=by
 have e:(if q.num<0 then -q.num else q.num)=((q.num.natAbs:π):χ):=by split <;>exact 50
 rw[e];rfl
theorem aFz(w:χ)(p:θ):w*(p.den:χ)<(if p.num<0 then -p.num else p.num)↔(w:θ)<aM p:=by
 have e:(if p.num<0 then -p.num else p.num)=(aM p).num:=by
  show _=((p.num.natAbs:π):χ);split <;>exact 50
 rw[e,A8];show w*(p.den:χ)<(aM p).num↔w*(p.den:χ)<(aM p).num*((1:π):χ);rw[show((1:π):χ)=1 from rfl,pb]
theorem Tt(b:0<=x):gC (a++[x])=if gC a<x then x else gC a:=by
 have c:=nE a;refine(nF (by split;exact b;exact c) ?_ λq d=>?_).symm
 ·split
  ·exact .inr (by simp)
  ·rcases @gA a with h|h
   ·exact .inl h
   ·exact .inr<|ib _ h
 ·rcases cj.mp d with h|h
  ·have:=jV q h;split
   ·grind
   ·exact this
  ·rw[br.mp h];split
   ·exact au
   ·exact jk.mp ‹_›
theorem Vc{a:ε θ}(h:∀x∈a,x=0):gC (a.map aM)=0:=by
 rcases @gA (a.map aM)with e|e
 ·exact e
 ·obtain⟨x,b,c⟩:=Β.mp e;rw[<-c,h x b,bU au]
theorem Bh:∀{a:ε θ},(∀p∈a,p=0)->tot (a.map aM)=0
 |[],_=>rfl
 |q::a,h=>by
  rw[Μ,tot,Bh λp b=>h p<|ο _ b,h q υ,bU au,ji]
theorem aQb(v:χ)(x:θ):bz (v*x.num) (x.den:χ)=(v:θ)*x:=by
 have b:=kT x;have a:=wC x;refine(Fm.eq_divInt ‹21› ?_).symm;rw[ae,<-a];show(v:θ)*x*(x.den:θ)=(v:θ)*(x*(x.den:θ));exact 46
def aKp:DW:=λe Q _=>∃(d:bf)(b:ε Mk)(a c:ε θ)(V U:π),e=[.str d,.list<|b.map cP,.list<|(bM b a).map fr,.list<|c.map fr]/\d∈eV/\MkB b/\a.length=b.length/\c.length=b.length/\RowB V a/\0<U/\U<=10^930/\(∀q∈c,Cm U (10^186) q)/\yM d b a c/\Q (.dat<|.bool true)
theorem Hw:Q 4 73 (λ_=>aKp):=by
 refine fH 73 ["kind","some","misses","pulls","sizes","mark","miss","pull","most","x","size","weight"] λA T R Z=>⟨_,by walk_at"t",_,(aH (bF (tO cR (aF 0) (aC aT)) (bB (bO mK (aF 3) (aC (cL (bS [ν,ν] ["mark","x"] (fM (aL 1) (aL 2)) (eB (aW (aG 0) (aW (aG 1) dO))) bV (aE (vE (bZ dQ (aC (eX 2 0)) (aC (eX 0 1))) (vE (eX 1 1) aB)))))))) aP)
   (aH (aZ 4 (bS [ν] ["x"] (cE (aL 2)) (aG 0) bV (cH (aI (bQ lE (vE (eX 0 0) aB)) (aI (eX 1 0) aQ)))))
   (aH (bF (tO cR (aF 0) (aC aT)) (aH (eA (Ds (bE 1) (bE 2) (bE 3)) (eB (aW (aG 5) (aW (aG 6) (aW (aG 7) dO))))
    (aH (bF (tO eW (aC (bQ lE (vE (eX 0 7) aB))) (bO dQ (aC (eX 2 5)) (aC (eX 1 7)))) (bB (aC jM)) aP)
   (bF (gL (uO (tO eW (aC (eX 0 6)) bI) (tO hX (aF 7) (aC (cH (aI (eX 2 5) (aI aU aQ)))))) (uO (tO eW (aC (eX 0 6)) bI) (tO hX (aF 7) (aC (cH (aI (iA (aC (eX 2 5))) (aI aU aQ))))))) (bB (aC jM)) aP)))
   (bB (aC jM))) aP)
   (sA 8 (bR (aL 4) bI) (aH (nX 4 (eA (iV (bE 4)) (aG 9)
    (bF (lA (aC (aE (vN 8 (vN 9 aB))))) (eL (bE 9) (aG 8)) aP)))
   (aH (eA (Ds (bE 2) (bE 4) (bE 3)) (eB (aW (aG 6) (aW (aG 10) (aW (aG 7) dO))))
    (bF (uO (tO pU (aC (eX 0 7)) bI) (gL (tO hX (aF 10) (aF 8)) (tO eW (bO dQ (aC (eX 0 7)) (aC (eX 0 6))) bI))) (bB (aC jM)) aP))
   (sA 11 (aE (vE (cL (bS [ν] ["x"] (cE (aL 3)) (aG 0) bV (cH (aI (bQ lE (vE (eX 0 0) aB)) (aI (eX 1 0) aQ))))) aB)) (bB (aC (aTd (bO mK (aF 11) (aC (cH (aI aU (aI aU aQ))))) (Nb (bO mK (aF 11) (aC (cH (aI aU (aI aU aQ))))) (bZ mK (aF 8) (aC (cH (aI aU (aI aU aQ)))))))))))))))),?_⟩
 intro ds Q X qQ0;refine qq0 λqq2=>?_;obtain⟨kd,g,B,u,V,U,rfl,hk,M,hl,b6,D,U0,U1,a4,G,k⟩:=qQ0;refine qq2 ?_;have b7:=M.n8;have n1:=M.n1;have ml:(bM g B).length=g.length:=by unfold bM;rw[ba];exact 50
 have Y:∀x∈bM g B,Cm V (10^18+10^18) x:=(M.ms D).miss;have J:∀x∈bM g B,Ok x:=λx hx=>cA ((Y x hx).dg (l:=44) (b:=19) D.v0 D.v1<|by decide);have a5:∀p∈u,Ok p:=λp hp=>cA<|(a4 p hp).dg U0 U1<|ω _;have a9:kd="far"\/kd="sum"\/kd="square":=by simpa[eV]using hk
 unfold yM at G;have wm:cI g B=af (λ(m:Mk) x=>(m.2.2:θ)*x) g (bM g B):=rfl;obtain⟨d,a0⟩:∃d,bM g B=d:=⟨_,rfl⟩;rw[a0]at ml Y J wm⊢;walk_at"s";rcases a9 with rfl|rfl|rfl
 ·rw[a0,ρ rfl]at G;refine bW (λc=>ψ c<|by decide +kernel) (λ_=>?_)
  refine cW (bL fr fr (λx=>[aM x]) d ‹110› (λQ h=>by
    walk_at"d"
    exact h) (λx hx N a1 hN=>?_) ?_)
  ·walk_at"d";rw[Nv];exact hN
  rw[aN];obtain⟨H,xr,b0⟩:∃H xr,d=H::xr:=by
   cases d with
   |nil=>simp at ml;lia
   |cons a r=>exact⟨a,r,rfl⟩
  have nn:∀s∈d.map aM,0<=s:=λs I=>by
   obtain⟨x,_,rfl⟩:=Β.mp I;exact ma.mp (show(0:χ)<=((x.num.natAbs:π):χ) by exact 129)
  obtain⟨v,t⟩:∃v,d.map aM=v:=⟨_,rfl⟩;have sl:v.length=g.length:=by rw[<-t,η,ml]
  have a6:∀s∈v,Ok s:=λs I=>by
   rw[<-t]at I;obtain⟨x,hx,rfl⟩:=Β.mp I;exact cA (((Y x hx).abs).dg (l:=44) (b:=19) D.v0 D.v1<|by decide)
  have s0:v=aM H::xr.map aM:=by rw[<-t,b0];rfl
  rw[t]at nn⊢;walk_at"s";refine bW (λc=>ψ c<|by decide +kernel) λ_=>?_;walk_at"s";refine⟨_,(show oX (v.map fr) 0=γ (fr<|aM H) by rw[s0];exact fQ (j:=0) rfl),?_⟩;have m1:gC [aM H]=aM H:=(nF (nn _ (by rw[s0];simp)) (.inr<|by simp) λy hy=>by rw[br.mp hy];exact au).symm
  refine cW (eJ fr v (λQ h=>by
    walk_at"d"
    exact h) (λi E=>∃(o:Θ Sl)(C:θ),E=[γ (.dat (.str "far")),γ (.dat (.list (g.map cP))),γ (.dat (.list (d.map fr))),γ (.dat (.list (u.map fr))),γ (.dat (.list (v.map fr))),ν,ν,ν,γ (.dat (fr C)),o,ν,ν]/\C∈v/\C=if i=0 then aM H else gC (v.take i)) ⟨ν,aM H,rfl,by rw[s0];simp,rfl⟩ ?_ ?_)
  ·intro i s E L qQ0;refine qq0 λqq2=>?_;obtain⟨o,C,rfl,a2,f⟩:=qQ0;refine qq2 ?_;have I:=Ω L;have e:gC (v.take<|i+1)=if C<s then s else C:=by
    rw[fO L,Tt<|nn s I];by_cases i0:i=0
    ·subst i0;rw[ρ rfl]at f;have:s=aM H:=by rw[s0]at L;simpa using L.symm
     rw[this,f];have:gC (v.take 0)=0:=rfl;rw[this,ι uv];have:=nn (aM H) (by rw[s0];simp);split <;>grind
    ·rw[ι i0]at f;rw[f]
   walk_at"d";refine⟨_,_,rfl,a6 C a2,a6 s I,?_⟩;walk_at"d";refine bW (λc=>?_) λc=>?_
   ·rw[ρ c]at e;exact⟨_,s,rfl,I,e.symm⟩
   ·rw[ι c]at e;exact⟨_,C,rfl,a2,e.symm⟩
  intro E qQ0;refine qq0 λqq2=>?_;obtain⟨o,C,rfl,a2,f⟩:=qQ0;refine qq2 ?_;rw[ι<|by lia,kh]at f;unfold Ew at G;rw[t]at G;dsimp only
  refine cW (eJ (λz:θ×θ×θ=>ay [fr z.1,fr z.2.1,fr z.2.2]) (d.zip (v.zip u)) (λQ h=>by
    walk_at"d"
    rw[uP];exact h) (λi E=>∃o1 o2 o3 o4:Θ Sl,E=[γ (.dat (.str "far")),γ (.dat (.list (g.map cP))),γ (.dat (.list (d.map fr))),γ (.dat (.list (u.map fr))),γ (.dat (.list (v.map fr))),ν,o1,o2,γ (.dat (fr C)),o3,o4,ν]) ⟨_,_,_,_,rfl⟩ ?_ ?_)
  ·intro i qQ0 E L qQ1;refine qq0 λqq2=>?_;obtain⟨x,s,p⟩:=qQ0;obtain⟨o1,o2,o3,o4,rfl⟩:=qQ1;obtain⟨F,a3⟩:=i9.mp L;obtain⟨O,S⟩:=i9.mp a3;refine qq2 ?_;have I:s=aM x:=by
    rw[<-t,el,F]at O;exact(bw O).symm
   have b1:=Ω F;have a7:=Ω S;have ox:=J x b1;have op:=a5 p a7;walk_at"d";refine bW (λc=>?_) λ_=>⟨_,_,_,_,rfl⟩;have a8:p≠0:=λz=>c (by rw[z];rfl);rcases G with⟨h1,_⟩|⟨_,h2,_⟩
   ·exact ψ (h1 p a7) a8
   have hz:(x,p)∈d.zip u:=Ω (i:=i)<|i9.mpr ⟨F,S⟩;obtain⟨f1,f2⟩:=h2 _ hz a8;refine⟨θ,eRat,s,C,rfl,rfl,λb W=>?_⟩;rw[W.mpr (by rw[I,f];exact f1)];walk_at"d";refine⟨dJ op.n ox.n,?_⟩;have f3:=(Ig x p).mpr f2;rw[zy]at f3;refine bW (λc2=>ψ c2 (by generalize p.num*x.num=z at *;lia)) λ_=>?_;exact⟨_,_,_,_,rfl⟩
  ·intro E qQ0;refine qq0 λqq2=>?_;obtain⟨o1,o2,o3,o4,rfl⟩:=qQ0;refine qq2 ?_;dsimp only;walk_at"s"
   refine bL fr fr (λx=>[aM x]) u ‹110› (λQ h=>by
     walk_at"d"
     exact h) (λx hx N a1 hN=>?_) ?_
   ·walk_at"d";rw[Nv];exact hN
   rw[aN];refine⟨u.map aM,U,930,186,rfl,by rw[η];exact 110,U0,U1,λq hq=>?_,by decide,?_⟩
   ·obtain⟨p,hp,rfl⟩:=Β.mp hq;exact(a4 p hp).abs
   walk_at"d";refine⟨θ,eRat,tot<|u.map aM,1,rfl,rfl,λb W=>?_⟩;cases b with
   |true=>exact aNp k
   |false=>
    refine Zt ?_;rcases G with⟨h1,h2⟩|⟨_,_,h3⟩
    ·refine⟨θ,eRat,tot<|u.map aM,0,rfl,rfl,λb2 b4=>?_⟩;rw[b4.mpr<|Bh h1];refine aNp ⟨θ,eRat,C,0,rfl,rfl,λb3 b5=>?_⟩;rw[b5.mpr (by rw[f,<-t];exact Vc h2)];exact k
    ·exact ψ (W.mpr h3) (by decide)
 ·rw[a0,ι<|by decide,ρ rfl]at G;refine bW (λc=>ψ c<|by decide +kernel) (λ_=>?_)
  refine cW (bL fr fr (λx=>[aM x]) d ‹110› (λQ h=>by
    walk_at"d"
    exact h) (λx hx N a1 hN=>?_) ?_)
  ·walk_at"d";rw[Nv];exact hN
  rw[aN];walk_at"s"
  refine cW (eJ (λz:Mk×θ×θ=>ay [ay [fr z.1.1,fr z.1.2.1,.int z.1.2.2],fr z.2.1,fr z.2.2]) (g.zip (d.zip u)) (λQ h=>by
    walk_at"d"
    rw[uP];exact h) (λi E=>∃o1 o2 o3:Θ Sl,E=[γ (.dat (.str "sum")),γ (.dat (.list (g.map cP))),γ (.dat (.list (d.map fr))),γ (.dat (.list (u.map fr))),γ (.own ((d.map aM).map fr)),o1,o2,o3,ν,ν,ν,ν]) ⟨_,_,_,rfl⟩ ?_ ?_)
  ·intro i qQ0 E L qQ1;refine qq0 λqq2=>?_;obtain⟨m,x,p⟩:=qQ0;obtain⟨o1,o2,o3,rfl⟩:=qQ1;obtain⟨F,a3⟩:=i9.mp L;obtain⟨O,S⟩:=i9.mp a3;refine qq2 ?_;have hm:=M.hw m<|Ω F;have ox:=J x<|Ω O;have op:=a5 p<|Ω S;obtain⟨f1,f2,f3⟩:=G _<|Ω L;dsimp only at f1 f2 f3;walk_at"s";refine⟨dJ (fR (n:=4)<|by lia) op.d,?_⟩;refine bW (λc=>ψ ((aFz m.2.2 p).mp c)<|jk.mpr f1) λ_=>?_;walk_at"d"
   have last:∀{R:Prop},R->(if x.num<0 then aSi (fr p) (ay [ep (-m.2.2),ep 1]) (λy=>match y with
      |PyData.bool b=>if b=true then Q (Sl.dat<|PyData.bool false)else R
      |_=>ag)else R):=λ{R} hR=>bW (λc=>by
     have e:=f3 (oD.mp λz=>by have:=ma.mpr z;lia)
     refine⟨θ,eRat,p,((-m.2.2:χ):θ),rfl,rfl,λb W=>?_⟩
     rw[W.mpr<|by rw[e,ee]]
     exact Zt hR) (λ_=>hR)
   refine bW (λc=>?_) λ_=>last ⟨_,_,_,rfl⟩
   have e:=f2 (oD.mp λz=>by
    have h9:0<=(-x).num:=ma.mpr (by grind)
    have:(-x).num=-x.num:=rfl
    lia)
   refine⟨θ,eRat,p,((m.2.2:χ):θ),rfl,rfl,λb W=>?_⟩;rw[W.mpr e];refine Zt<|last ⟨_,_,_,rfl⟩
  ·intro E qQ0;refine qq0 λqq2=>?_;obtain⟨o1,o2,o3,rfl⟩:=qQ0;refine qq2 ?_;walk_at"d";exact k
 ·rw[ι<|by decide,ι<|by decide,wm]at G;walk_at"d"
  refine bL (λp:Mk×θ=>ay [cP p.1,fr p.2]) fr (λp=>[(p.1.2.2:θ)*p.2]) (g.zip d) (by rw[dR];exact 50) (λQ h=>by
    walk_at"d"
    rw[cK];exact h) (λp hp N a1 hN=>?_) ?_
  ·refine qq0 λqq2=>?_;obtain⟨m,x⟩:=p;obtain⟨h1,h2⟩:=eh hp;refine qq2 ?_;have ox:=J x h2;have hw:=M.hw m h1;unfold cP;walk_at"d";refine⟨dJ (fR (n:=4)<|by lia) ox.n,_,_,rfl,kT x,ox.d,?_⟩;rw[aQb];walk_at"d";exact hN
  ·rw[aN];have e:(g.zip d).map (λp:Mk×θ=>(p.1.2.2:θ)*p.2)=u:=by
    rw[G,ud,t8]
   rw[e];refine⟨ε θ,An eRat<|by decide,u,u,rfl,rfl,λb W=>?_⟩;rw[W.mpr rfl];exact k
def aKm:DW:=λd Q _=>∃(c:χ)(a:π),d=[.int c,.int (a:χ)]/\Bg 1048577 c/\a<=3/\∀b:ε θ,b.length=a+1->(∀q∈b,Cm 6 (10^6) q)->Q (.own<|b.map fr)
theorem Hv:Q 2 77 (λ_=>aKm):=by
 refine fH 77 ["cell","bend","numbers","k"] λA T R Z=>⟨_,by walk_at"t",_,(aH (aZ 2 (dG aQ))
   (aH (eA (lI (vE (bZ cN (aF 1) bI) aB)) (aG 3)
    (sA 0 (fE (k:=2147483647) (by decide) (bO cN (bO cN (bO dQ (aF 0) bI) (aF 3)) bI) aU) (bF (tO cR (aC (fE (k:=3) (by decide) (aF 0) aU)) bI) (nZ 2 (aE (vE (bZ cN (aC (fE (k:=2000001) (by decide) (aC (kE (k:=3) (yK) (aF 0) aU)) aU)) bI) (vE aU aB)))) (nZ 2 (aE (vE (bZ cN (aC (fE (k:=13) (by decide) (aC (kE (k:=3) (yK) (aF 0) aU)) aU)) bI) (vE (bZ cN bI (aC (fE (k:=2) (by decide) (aC (kE (k:=39) (yK) (aF 0) aU)) aU))) aB)))))))
   (dU 2))),?_⟩
 intro I Q X qQ0;refine qq0 λqq2=>?_;obtain⟨c,m,rfl,C,J,D⟩:=qQ0;refine qq2 ?_;walk_at"s"
 refine cW (lJ (lo:=0) (st:=1) (n:=m+1) (λQ h=>by
   walk_at"d"
   refine⟨⟨by omega,by omega⟩,?_⟩
   rw[show((m:χ)+1).toNat=m+1 by omega];exact h)
  (λi r=>∃(n:χ)(d:ε θ)(o:Θ μ),r=[γ<|.dat<|.int n,γ<|.dat<|.int (m:χ),γ<|.own<|d.map fr,o.map Sl.dat]/\bj n<=1048577/\d.length=i/\∀q∈d,Cm 6 (10^6) q)
  ⟨c,[],ν,rfl,C.bits,rfl,λq h=>nomatch h⟩ ?_ ?_)
 ·intro i r M qQ0;refine qq0 λqq2=>?_;obtain⟨n,d,o,rfl,v,p,s⟩:=qQ0;obtain⟨g,E,N,O⟩:∃g:χ,(0:χ)+(i:χ)*1=g/\0<=g/\g<=3:=⟨_,rfl,by omega,by omega⟩;refine qq2 ?_;rw[E];walk_at"s";refine⟨Ij (Α v<|by decide)<|Sa,?_⟩;refine qq0 λqq2=>?_;obtain⟨a,j,S,U⟩:∃a:χ,(n*16807+g+1)%2147483647=a/\0<=a/\a<2147483647:=⟨_,rfl,by generalize n*16807=z;omega,by generalize n*16807=z;omega⟩;refine qq2 ?_;rw[j];clear j;have y:bj a<=1048577:=(Bg.small (n:=1048577) (by omega)<|by decide).bits;have l:∀{q:θ},Cm 6 (10^6) q->∀x∈d++[q],Cm 6 (10^6) x:=λ{q} h x F=>(cj.mp F).elim (s x) λz=>by rw[br.mp z];exact h
  refine bW (λ_=>?_) λ_=>?_
  ·refine⟨_,_,rfl,by decide,Sa,?_⟩;walk_at"d";refine⟨by omega,a,d++[_],γ _,by rw[bu];rfl,y,by rw[Λ,p];rfl,l ?_⟩;exact Cm.div (t:=a/3%2000001-1000000) (b:=3) (L:=6) (B:=10^6) (by decide) (by decide) (by omega)
  ·refine qq0 λqq2=>?_;obtain⟨f,u,G,H⟩:∃f:π,1+a/39%2=(f:χ)/\1<=f/\f<=2:=⟨(1+a/39%2).toNat,by omega,by omega,by omega⟩;refine qq2 ?_;rw[u];refine⟨_,_,rfl,by omega,fR (n:=30)<|‹101›,?_⟩;walk_at"d";refine⟨by omega,a,d++[_],γ _,by rw[bu];rfl,y,by rw[Λ,p];rfl,l ?_⟩;refine Cm.div (t:=a/3%13-6) (b:=f) (L:=6) (B:=10^6) ‹51› ?_ (by omega);have:f=1\/f=2:=by omega
   rcases this with e|e <;>rw[e] <;>decide
 ·intro r qQ0;refine qq0 λqq2=>?_;obtain⟨n,d,o,rfl,v,p,s⟩:=qQ0;refine qq2 ?_;walk_at"d";exact D d p s
def aWa:Θ θ->μ
 |none=>.none
 |some q=>fr q
def eOR:Enc (Θ θ) where
 d:=aWa
 dep:=eRat.dep
 small:=eRat.small
 lay:=λp=>by
  cases p with
  |none=>rfl
  |some m=>exact eRat.lay m
 depth:=λp=>by
  cases p with
  |none=>exact iw _
  |some m=>exact eRat.depth m
 eqv:=λp q=>by
  cases p with
  |none=>
   cases q with
   |none=>exact⟨λ_=>rfl,λ_=>rfl⟩
   |some m=>exact⟨λh=>(by cases h),λh=>(by cases h)⟩
  |some m=>
   cases q with
   |none=>exact⟨λh=>(by cases h),λh=>(by cases h)⟩
   |some a=>exact(eRat.eqv m a).trans ⟨λh=>ea γ h,λh=>by injection h⟩
theorem aMw{qs:ε θ}{Q:μ->Prop}(h:Q (.bool false)):aSl .none (.list (qs.map fr)) Q:=⟨Θ θ,eOR,ν,qs.map γ,rfl,by rw[ia];rfl,λb a=>by
 cases b with
 |false=>exact h
 |true=>
  obtain⟨q,_,e⟩:=Β.mp<|a.mp rfl
  cases e⟩
theorem Wd(e:d.cps.toList=a.cps.toList++[32]++(b.cps.toList++[32]))(h:c≠[]):d++Txt.join (ζ " ") c=Txt.join (ζ " ") (a::b::c):=by
 apply gG;cases c with
 |nil=>exact ψ rfl h
 |cons w r=>
  rw[eK,gO,gO,iD,e];simp only[Μ,iJ,bx]
theorem Fj(e:d.cps.toList=a.cps.toList++[32]++(b.cps.toList++[32]))(h:ws≠[]):d++c++ζ " "++Txt.join (ζ " ") ws=Txt.join (ζ " ") (a::b::c::ws):=by
 rw[<-Wd e (by simp)];apply gG;cases ws with
 |nil=>exact ψ rfl h
 |cons w r=>
  rw[eK,eK,eK,eK,gO,gO,iD];simp only[Μ,iJ,bx]
theorem We(x:bf):Txt.join (ζ " ") [x]=x:=by
 apply gG;rw[gO];rfl
theorem aEd(q:θ):shP [[q]]=kI q:=by
 apply gG;unfold shP oG;rw[gO];show(Txt.join (ζ " ") [kI q]).cps.toList=_;rw[We]
theorem zX(h:a∈eV):32∉a.cps.toList/\a.length<=6:=by
 have b:a="far"\/a="sum"\/a="square":=by simpa[eV]using h
 rcases b with rfl|rfl|rfl <;>exact⟨by decide +kernel,by decide +kernel⟩
theorem aEe(h:Lw7<|m7 m):32∉(mG m).cps.toList:=λz=>by
 rcases aLj h.sm 32 z with(y|y)|y|y|y <;>lia
theorem aMv{n:χ}(h:n.natAbs<10^40):32∉(ζ<|toString n).cps.toList:=λz=>by
 rcases oJ (k:=39) h 32 z with y|y <;>lia
theorem aFi:(ζ "marks a ").cps.toList=(ζ "marks").cps.toList++[32]++((ζ "a").cps.toList++[32]):=by decide +kernel
theorem aFt:(ζ "judge a ").cps.toList=(ζ "judge").cps.toList++[32]++((ζ "a").cps.toList++[32]):=by decide +kernel
theorem uL(b:a≠[])(h:∀w∈a,32∉w.cps.toList):Txt.split (Txt.join (ζ " ") a) (ζ " ")=a:=oB Gh (by rw[iD];decide) b h
theorem Zh(b:a≠[])(h:∀m∈a,Lw7<|m7 m):Txt.split (ζ "marks a "++Txt.join (ζ " ") (a.map mG)) (ζ " ")=ζ "marks"::ζ "a"::a.map mG:=by
 rw[Wd aFi<|by simpa using b];refine uL (by simp) λw hw=>?_;simp only[Υ]at hw;rcases hw with rfl|rfl|hw
 ·decide +kernel
 ·decide +kernel
 ·obtain⟨m,c,rfl⟩:=Β.mp hw;exact aEe<|h m c
theorem Zr(d:b∈eV)(c:a≠[])(h:∀q∈a,Dg 520 q):Txt.split (ζ "judge a "++b++ζ " "++Txt.join (ζ " ") (a.map kI)) (ζ " ")=ζ "judge"::ζ "a"::b::a.map kI:=by
 rw[Fj aFt<|by simpa using c];refine uL (by simp) λw hw=>?_;simp only[Υ]at hw;rcases hw with rfl|rfl|rfl|hw
 ·decide +kernel
 ·decide +kernel
 ·exact(zX d).1
 ·obtain⟨q,e,rfl⟩:=Β.mp hw;exact Lc (h q e)<|.inl rfl
theorem Ud{a:ε θ}(c:b∈eV)(e:a.length<=10)(h:∀q∈a,Dg 520 q):(ζ "judge a "++b++ζ " "++Txt.join (ζ " ") (a.map kI)).length<=90000:=by
 have d:=pS h;have f:=(zX c).2;have g:(ζ "judge a ").length=8:=by decide +kernel
 have i:=fD;unfold oG at d;rw[Φ,Φ,Φ];lia
theorem Tu{a:ε Mk}(c:a.length<=60)(h:∀m∈a,Lw7<|m7 m):(Txt.join (ζ " ")<|a.map mG).length<=60000:=by
 have:=Dq (ζ " ") (ws:=a.map mG) (n:=259) λw hw=>by
  obtain⟨m,b,rfl⟩:=Β.mp hw;exact(Bv (h m b).sm).2
 rw[fD,η]at this;lia
theorem Mo{a:ε θ}(c:1<=a.length)(h:a.length<=60):Ac (ζ "judge"::ζ "a"::b::a.map kI):=
 ⟨_,_,4,63,rfl,by decide +kernel,by simp;lia,by simp;lia⟩
theorem aOz:(ζ "bend a ").cps.toList=(ζ "bend").cps.toList++[32]++((ζ "a").cps.toList++[32]):=by decide +kernel
theorem aGz{k:π}(f:d∈eV)(h:k<=3):Txt.split (ζ "bend a "++d++ζ " "++ζ (toString (k:χ))) (ζ " ")=[ζ "bend",ζ "a",d,ζ<|toString (k:χ)]:=by
 have e:=Fj (a:=ζ "bend") (b:=ζ "a") (c:=d) (ws:=[ζ<|toString (k:χ)]) aOz (by simp);rw[We]at e;rw[e];refine uL (by simp) λw hw=>?_;simp only[Υ,dV,gz]at hw;rcases hw with rfl|rfl|rfl|rfl
 ·decide +kernel
 ·decide +kernel
 ·exact(zX f).1
 ·exact aMv (by rw[en];exact eH h<|by decide +kernel)
theorem aCo{k:π}(b:a∈eV)(h:k<=3):(ζ "bend a "++a++ζ " "++ζ (toString (k:χ))).length<=1000:=by
 have c:=(zX b).2;have d:(ζ "bend a ").length=7:=by decide +kernel
 have e:=fD;have f:=iT (n:=(k:χ)) (by rw[en];exact eH h<|by decide +kernel);rw[Φ,Φ,Φ];lia
theorem Uy:Ac [ζ "bend",ζ "a",a,n]:=⟨_,_,4,4,rfl,by decide +kernel,by simp,by simp⟩
theorem Xh{Q:Sl->Prop}(e:b∈eV)(M:MkB a)(B:BdOk b a k)
  (f:∀c d:ε θ,Ans b a k c d->Q (.dat<|.str<|shP [[dS b a<|a.map λm=>bY c m.1],c,d])):
  aKg [(ζ "a",.list<|a.map cP)] [.str<|ζ "bend a "++b++ζ " "++ζ (toString (k:χ))] Q X:=
 ⟨_,ζ "bend",ζ "a",_,.list<|a.map cP,rfl,Α (aCo e B.b3)<|by decide,aGz e B.b3,Uy,rfl,rfl,by decide +kernel,by decide +kernel,by decide +kernel,by decide +kernel,by rw[gp,fu],ζ "a",b,a,_,rfl,e,M,.inl ⟨k,rfl,B,λc d F=>⟨rfl,f c d F⟩⟩⟩
theorem Sq{Q:Sl->Prop}(d:c∈eV){V:π}(M:MkB b)(f:a.length=b.length)(g:RowB V a)(i:Q<|.dat<|.str<|kI<|dS c b a):
  aKg [(ζ "a",.list<|b.map cP)] [.str<|ζ "judge a "++c++ζ " "++Txt.join (ζ " ") (a.map kI)] Q X:=by
 have j:=M.n8;have l:=M.n1;have h:∀q∈a,Dg 520 q:=λq k=>(g.d q k).mono (by decide);exact⟨_,ζ "judge",ζ "a",_,.list<|b.map cP,rfl,Ud d ‹10› h,Zr d (λe=>by rw[e]at f;simp at f;lia) h,Mo ‹48›<|‹10›,rfl,rfl,by decide +kernel,by decide +kernel,by decide +kernel,by decide +kernel,by rw[gp,fu],ζ "a",c,b,_,rfl,d,M,.inr ⟨a,V,rfl,f,g,rfl,i⟩⟩
def Vw:DWK:=λd e Q _=>∃(c:bf)(b:ε θ)(a:ε Mk)(V:π),d=[(ζ "a",.list<|a.map cP)]/\e=[.str c,.list<|b.map fr,.list<|a.map cP]/\c∈eV/\MkB a/\b.length<=4/\(∀q∈b,Dg 520 q)/\RowB V (a.map λm=>bY b m.1)/\Q (.dat<|.list [.list<|(a.map λm=>bY b m.1).map fr,.list [.list [fr<|dS c a<|a.map λm=>bY b m.1]]])
theorem xX(T:Txt K mg A)(c:sY w K A.g_COUNTS<|gJ A):FnOk P w K mg base (oV P w) 14 (A.a 78) (A.d 78) (pr 78) (Lb K A.c_Desk "kept" Vw):=by
 have j:=qL (P:=P) (w:=w) (base:=base) T c;refine okR (T.G 78).F sc_law_judged (λC D Q E h=>?_) λG Ar outer s H E g=>?_
 ·obtain⟨_,_,_,_,_,rfl,_⟩:=h;rfl
 refine⟨_,(aY (Gp (i:=4) (cap:=[ν,γ 2]) (NC:=["mark","numbers"]) sc_law_judged.nd rfl rfl rfl ⟨rfl,rfl,by decide +kernel,by decide +kernel,⟨⟨_,rfl,rfl,rfl,rfl,rfl⟩,trivial⟩,(gw.2 ⟨rfl,(λ_ h=>nomatch h)⟩),rfl⟩ (Ye (K:=K) rfl (pv 3)) (λ_ _ _ _=>(pgN 0 ["mark","numbers"])) (λ_ _ _ _=>pZ) (λ_ _ _ _=>(nN (xZ _ T) g (T.G 75) cG (aJ (pv 1) (aJ (pxT (K:=K) rfl (pv 0)) aX)))))
   (cB (fV (lG (aJ (pv 4) (aJ (nN (qK _ T) g (T.G 66) cG (aJ (qD (pv 0) T.cl_Desk T.M_qb j (g.mono (by decide)) T.b_qb .nil cG (aJ (fS fK (fS fK (fS fK dN (pv 1)) dN) (qE ke nv r0 (wE (K:=K) rfl) dN (aJ (Po (cap:=[ν]) (NC:=["x"]) rfl (lcO rfl) (Ye (K:=K) rfl (pv 4)) (λ_ _ _ _=>(pgN 0 ["x"])) (λ_ _ _ _=>pZ) (λ_ _ _ _=>(nN (mP _ T) g (T.G 67) cG (aJ (pv 0) aX)))) aX))) aX)) aX)) aX)))))),_,(aH (aZ 4 (He (cE (aL 3)) (aG 0) bV (aE (vN 1 (vE (eX 0 0) aB))) (by decide) (by decide)))
   (nX 4 (bB (aOw (Rv (aF 4) (Rv (aCj (vE (Jp 0 (by decide) (vE (bZ eY (bO eY (bO eY (aC aT) (aF 1)) (aC aT)) (aC (uE (aC aT) (lP (He (cE (aL 4)) (aG 0) bV (aE (vN 0 aB)) (by decide) (by decide)))))) aB)) aB)) aPj)) (by decide))))),?_⟩
 intro C D Q X qQ0;refine qq0 λqq2=>?_;obtain⟨z,t,p,V,rfl,rfl,B,M,I,J,R,k⟩:=qQ0;refine qq2 ?_;have n8:=M.n8;have n1:=M.n1;have L:=(zX B).2;have O:(ζ "judge a ").length=8:=by decide +kernel
 have u:=fD;walk_at"s"
 refine bL cP fr (λm:Mk=>[bY t m.1]) p ‹1› (λQ h=>by
   walk_at"d"
   exact h) (λm S N v x=>?_) ?_
 ·unfold cP;walk_at"d";refine⟨t,m.1,520,5,rfl,I,J,(M.pl m S).dg (by decide) (l:=1) (by decide) (b:=3)<|by decide,by decide,?_⟩;walk_at"d";exact x
 rw[aN];obtain⟨a,e⟩:∃a,p.map (λm:Mk=>bY t m.1)=a:=⟨_,rfl⟩;have U:a.length=p.length:=by rw[<-e,η]
 rw[e]at R k⊢;have f:∀q∈a,Dg 520 q:=λq o=>(R.d q o).mono (by decide);have W:=M.dg R z;refine⟨_,rfl,by lia,by rw[Φ];lia,?_⟩
 refine bL fr dB (λq=>[kI q]) a ‹10› (λQ h=>by
   walk_at"d"
   exact h) (λq o N v x=>?_) ?_
 ·have d:=R.d q o;walk_at"d";refine⟨q.num,(q.den:χ),rfl,eH d.n<|by decide +kernel,by rw[en];exact eH d.d<|by decide +kernel,?_⟩;walk_at"d";exact x
 rw[aN]
 have Y:((a.map kI).map (·.length)).sum+(a.map kI).length*(ζ " ").length<=100000:=aGe (n:=1045) (λw hw=>by
  obtain⟨q,y,rfl⟩:=Β.mp hw
  exact pQ (f q y)) (by rw[η,u];lia)
 have Z:=pS f;unfold oG at Z;refine⟨a.map kI,rfl,Y,by rw[Φ,Φ];lia,Sq B M U R ?_⟩;rw[<-aEd];walk_at"d";refine⟨[[dS z p a]],rfl,by simp,by simp,λr g=>?_,?_⟩
 ·rw[br.mp g];exact⟨by simp,by simp,λq o=>by rw[br.mp o];exact W.mono<|by decide⟩
 walk_at"d";exact k
theorem aBx(a:ε b){n:π}(h:i=(n:χ)):fI a (γ i) ν=a.drop n:=by rw[h];exact iF a n
theorem aBw(a:ε b){n:π}(h:i=(n:χ)):fI a ν (γ i)=a.take n:=by rw[h];exact nJ a n
theorem Cm.d20(h:Cm LL (10^6) a):Dg 20 a:=Fm.Cm.dg h mX sZ<|ω<|10^6
theorem aEv(M:MkB c)(e:b.length<=4)(h:∀q∈b,Cm 6 (10^6) q):RowB (LL*96) (c.map λm=>bY b m.1):=by
 have f:∀m∈c,Cm 96 (10^17) (bY b m.1):=λm a=>by
  refine(Mr (M.pl m a) (by decide) h).mono ?_ ?_
  ·exact qu 6<|k8 2 e
  ·exact Α (Χ _<|Ρ (by decide) e) (by decide)
 refine⟨by decide +kernel,by decide +kernel,fx _ _,λq d=>?_,λq d=>?_⟩
 ·obtain⟨m,a,rfl⟩:=Β.mp d;exact(f m a).mono (iv _ _) (by decide)
 ·obtain⟨m,a,rfl⟩:=Β.mp d;exact((f m a).dg (by decide) (l:=2) (by decide)<|ω _).mono (by decide)
theorem aSe(T:Txt K mg A)(g:sY w K A.g_COUNTS<|gJ A):FnOk P w K mg base (oV P w) 15 A.a_qe A.d_qe ["script"] (Ov K):=by
 have f:=xX (P:=P) (w:=w) (base:=base) T g;have a5:=aSh (P:=P) (w:=w) (base:=base) T;have t:=Cy (P:=P) (w:=w) (base:=base) T g;have a6:=qL (P:=P) (w:=w) (base:=base) T g;refine aNd<|okW T.F_qe.F jI (λds Q E h=>?_) λc5 Ar outer s H E j=>?_
 ·obtain⟨a,rfl,_⟩:=h;rfl
 refine⟨_,(aY (Cf 1 jI (Gz (aNk (K:=K) rfl) (lG (aJ dN (aJ dN (aJ dN aX)))) (fS rK (nN (gN _ T) j (T.G 59) cG (aJ (pv 0) (aJ dH aX))) dH) (λ_ _=>rfl)))
   (aY (Cf 2 jI (fS rK (fS qG (nN (gN _ T) j (T.G 59) cG (aJ (pv 0) (aJ dH aX))) dH) dH))
   (aY (Cf 3 jI (nN (Hs _ T) j (T.G 74) cG (aJ (pv 0) (aJ dH (aJ dH aX)))))
   (aY (fX (dF nO (fS rK (fS qG (nN (gN _ T) j (T.G 59) cG (aJ (pv 0) (aJ dH aX))) dH) dH) dH (eM _)) (aY (Cf 2 jI dH)
   (cB (Cf 3 jI (mO (Xc (K:=K) rfl) (pv 3) qC (qB dH))))) dL)
   (aY (fX (dF nO (pv 1) dN (eM _)) (cB (Cf 2 jI (fS rK (pv 2) dH))) dL)
   (aY (Cf 4 jI (fS rK (fS qG (nN (gN _ T) j (T.G 59) cG (aJ (pv 0) (aJ dH aX))) dH) (cO (yH (K:=K) rfl) rfl T.n_len l0 (aJ (pv 3) aX))))
   (aY (Cf 5 jI (Yh T.mk_Desk a5 (j.mono (by decide)) rfl T.m_Desk T.b_qa .nil cG))
   (aY (fX (dF zQ (qD (pv 5) T.cl_Desk T.M_qb t (j.mono (by decide)) T.b_qb .nil cG (aJ (fS fK dN (qE ke nv r0 (wE (K:=K) rfl) dN (aJ (Po (cap:=[ν]) (NC:=["mark"]) rfl (lcO rfl) (Ye (K:=K) rfl (fS Ym (mO (Xc (K:=K) rfl) (pv 3) (qB (pv 4)) qC) (mO (Xc (K:=K) rfl) (pv 3) qC (qB (pv 4))))) (λ_ _ _ _=>(pgN 0 ["mark"])) (λ_ _ _ _=>pZ) (λ_ _ _ _=>(nN (Hr _ T) j (T.G 68) cG (aJ (pv 0) aX)))) aX))) aX)) dN (eM _)) (cB (fV sH)) dL)
   (aY (Cf 6 jI (nN (qK _ T) j (T.G 66) cG (aJ (qD (pv 5) T.cl_Desk T.M_qb a6 (j.mono (by decide)) T.b_qb .nil cG (aJ (fS fK (fS fK (fS fK dN (pv 1)) dN) (kL qX rfl T.n_str Dl.boot_str (aJ (pv 2) aX))) aX)) aX)))
   (aY (fX (PW.pt (sG (dF zQ (cO (yH (K:=K) rfl) rfl T.n_len l0 (aJ (pv 6) aX)) dH (eM _)) (sG (dF zQ (cO (yH (K:=K) rfl) rfl T.n_len l0 (aJ (sF (K:=K) rfl (pv 6)) aX)) dH (eM _)) (sG (dF zQ (cO (yH (K:=K) rfl) rfl T.n_len l0 (aJ (sF (K:=K) rfl (pv 6)) aX)) (fS Yn (pv 2) dH) (eM _)) (rJ (dF zQ (cO (yH (K:=K) rfl) rfl T.n_len l0 (aJ (sF (K:=K) rfl (pv 6)) aX)) (cO (yH (K:=K) rfl) rfl T.n_len l0 (aJ (pv 3) aX)) (eM _))))))) (cB (fV sH)) dL)
   (aY (fX (dF (inK (K:=K) rfl j.units) Yg (fS (aJr (K:=K) rfl) (fS (aJr (K:=K) rfl) (sF (K:=K) rfl (pv 6)) (sF (K:=K) rfl (pv 6))) (sF (K:=K) rfl (pv 6))) rfl) (cB (fV sH)) dL)
   (aY (Lj (nN f j (T.G 78) cG (aJ (pv 5) (aJ (pv 1) (aJ (sF (K:=K) rfl (pv 6)) (aJ (pv 3) aX))))) (aRx (K:=K) (n:=2) rfl rfl (mM (pgS 7 jI) (mM (pgS 8 jI) Ck))))
   (aY (fX (PW.pt (sG (dF (neK (K:=K) rfl j.units) (sF (K:=K) rfl (pv 6)) (lG (aJ (nN (nP _ T) j (T.G 63) cG (aJ (pv 1) (aJ (pv 3) (aJ (pv 7) aX)))) aX)) (eM _)) (rJ (dF (neK (K:=K) rfl j.units) (pv 8) (lG (aJ (sF (K:=K) rfl (pv 6)) aX)) (eM _))))) (cB (fV sH)) dL)
   (aY (fX (PW.pt (sG (Ce (vH (nN (Hw _ T) j (T.G 73) cG (aJ (pv 1) (aJ (pv 3) (aJ (nN (xV _ T) j (T.G 72) cG (aJ (pv 3) (aJ (pv 7) aX))) (aJ (sF (K:=K) rfl (pv 6)) aX))))))) (rJ (Ce (vH (nN (Hx _ T) j (T.G 76) cG (aJ (pv 3) (aJ (sF (K:=K) rfl (pv 6)) (aJ (pv 2) aX))))))))) (cB (fV sH)) dL)
   (aY (Ya pk rfl (zN rfl T.n_range (aJ dH (aJ (cO (Az rfl) rfl T.n_max aCm (aJ dH (aJ (cO (Ay rfl) rfl T.n_min aCl (aJ (cO (yH (K:=K) rfl) rfl T.n_len l0 (aJ (pv 0) aX)) (aJ dH aX))) aX))) aX))) (pgS 9 jI)
    (aY (Lj (nN f j (T.G 78) cG (aJ (pv 5) (aJ (pv 1) (aJ (nN (Hv _ T) j (T.G 77) cG (aJ (nN (gN _ T) j (T.G 59) cG (aJ (pv 0) (aJ (pv 9) aX))) (aJ (pv 2) aX))) (aJ (pv 3) aX))))) (aRx (K:=K) (n:=2) rfl rfl (mM (pgS 10 jI) (mM (pgS 11 jI) Ck))))
   (cB (fX (PW.pt (sG (dF (neK (K:=K) rfl j.units) (pv 11) (lG (aJ (lG (aJ (nN (nP _ T) j (T.G 63) cG (aJ (pv 1) (aJ (pv 3) (aJ (pv 10) aX)))) aX)) aX)) (eM _)) (rJ (vH (nN (sK _ T) j (T.G 61) cG (aJ (sF (K:=K) rfl (sF (K:=K) rfl (pv 11))) (aJ (sF (K:=K) rfl (sF (K:=K) rfl (pv 6))) aX))))))) (cB (fV sH)) dL))))
   (cB (fV sH))))))))))))))))),_,(sA 1 (bR (lP (dG (aI aT (aI aT (aI aT aQ))))) (aC (fE (k:=3) (by decide) (aC (aE (vN 0 (vE aU aB)))) aU))) (sA 2 (fE (k:=3) (by decide) (aC (kE (k:=3) (yK) (aC (aE (vN 0 (vE aU aB)))) aU)) aU) (aH (aZ 3 (bH (vN 0 (vE aU (vE aU aB)))))
   (nY (bF (tO cR (aC (fE (k:=6) (by decide) (aC (kE (k:=9) (yK) (aC (aE (vN 0 (vE aU aB)))) aU)) aU)) bI) (sA 2 aU (aZ 3 (gU (aL 3) fZ (cS bI)))) aP)
   (nY (bF (tO cR (aF 1) (aC aT)) (eL (fE (k:=2) (by decide) (aF 2) aU) (aG 2)) aP)
   (sA 4 (bZ dQ (aC (kE (k:=3) (yK) (aC (aE (vN 0 (vE aU aB)))) aU)) (aC (bQ cT (vN 3 aB)))) (Wq 5 (by decide) (bO eY (aC aT) (aC (uE (aC aT) (lP (He (cE (lP (iN (fB (gU (aL 3) (cS (aF 4)) fZ)) (fB (gU (aL 3) fZ (cS (aF 4))))))) (aG 0) bV (aE (vN 0 aB)) (by decide) (by decide))))))
   (aH (nX 3 (Fz (vE (Jp 5 (by decide) (vE (bZ eY (bO eY (bO eY (aC aT) (aF 1)) (aC aT)) (aC (bQ lD (vN 2 aB)))) aB)) aB) (aG 6)))
   (aH (bF (gL (tO pU (aC (bQ cT (vN 6 aB))) bI) (gL (tO pU (aC (bQ cT (vE (bR (aL 6) bI) aB))) bI) (gL (tO pU (aC (bQ cT (vE (bR (aL 6) bI) aB))) (bO cN (aF 2) bI)) (tO pU (aC (bQ cT (vE (bR (aL 6) bI) aB))) (aC (bQ cT (vN 3 aB))))))) (bB (aC jM)) aP)
   (aH (bF (tO aLr (aC kC) (aC (cL (Pq (aC (cL (Pq (aC (bR (aL 6) bI)) (aC (bR (aL 6) bI))))) (aC (bR (aL 6) bI)))))) (bB (aC jM)) aP)
   (aH (Ga 5 (vN 1 (vE (bR (aL 6) bI) (vN 3 aB))) (Zy (aW (aG 7) (aW (aG 8) dO))))
   (aH (bF (gL (tO hX (aC (bR (aL 6) bI)) (aC (cL (dG (aI (aE (vN 1 (vN 3 (vN 7 aB)))) aQ))))) (tO hX (aF 8) (aC (cL (dG (aI (bR (aL 6) bI) aQ)))))) (bB (aC jM)) aP)
   (aH (bF (gL (jZ (lA (aC (aE (vN 1 (vN 3 (vE (cL (bH (vN 3 (vN 7 aB)))) (vE (bR (aL 6) bI) aB)))))))) (jZ (lA (aC (aE (vN 3 (vE (bR (aL 6) bI) (vN 2 aB)))))))) (bB (aC jM)) aP)
   (aH (eA (Qk (vE aU (vE (bQ Li (vE aU (vE (bQ Lg (vE (bQ cT (vN 0 aB)) (vE aU aB))) aB))) aB))) (aG 9)
    (aH (Ga 5 (vN 1 (vE (cL (bH (vE (aE (vN 0 (vN 9 aB))) (vN 2 aB)))) (vN 3 aB))) (Zy (aW (aG 10) (aW (aG 11) dO))))
   (bF (gL (tO hX (aF 11) (aC (cL (dG (aI (cL (dG (aI (aE (vN 1 (vN 3 (vN 10 aB)))) aQ))) aQ))))) (lA (aC (aE (vE (bR (Zk (bR (aL 11) bI)) bI) (vE (bR (Zk (bR (aL 6) bI)) bI) aB)))))) (bB (aC jM)) aP)))
   (bB (aC jM)))))))))))))))),?_⟩
 intro ds Q X qQ0;refine qq0 λqq2=>?_;obtain⟨o,rfl,hlen,hbits,k⟩:=qQ0;refine qq2 ?_;walk_at"s";refine⟨o,0,rfl,by decide,by decide,?_⟩;walk_at"d";obtain⟨y,u,ak⟩:∃y:bf,y∈eV/\oX [dB<|ζ "far",dB<|ζ "sum",dB<|ζ "square"] (gX o 0%3)=γ (.str y):=by
  have h3:gX o 0%3=0\/gX o 0%3=1\/gX o 0%3=2:=by lia
  rcases h3 with e|e|e <;>rw[e]
  ·exact⟨"far",by simp[eV],rfl⟩
  ·exact⟨"sum",by simp[eV],rfl⟩
  ·exact⟨"square",by simp[eV],rfl⟩
 refine⟨_,ak,?_⟩;clear ak;walk_at"s";refine⟨o,0,rfl,by decide,by decide,?_⟩;walk_at"d";refine qq0 λqq2=>?_;obtain⟨b0,b5,c6⟩:∃b0:π,gX o 0/3%3=(b0:χ)/\b0<=2:=⟨(gX o 0/3%3).toNat,by lia,by lia⟩;refine qq2 ?_;rw[b5];walk_at"s";refine⟨o,3,8,rfl,hbits,‹101›,by decide,by decide,by decide,by decide,λp MR=>?_⟩;walk_at"d";refine⟨qM _,?_⟩;refine oU (λδ=>∃(b1:π)(p:ε Mk),δ=[γ<|.dat<|.list<|o.map .int,γ<|.dat<|.str y,γ<|.dat<|.int (b1:χ),γ<|.own<|p.map cP,ν,ν,ν,ν,ν,ν,ν,ν]/\b1<=3/\(b1=3->p.length<=6)/\MkR 8 p) ?_ ?_
 ·walk_at"d";refine⟨o,0,rfl,by decide,by decide,?_⟩;walk_at"d";refine bW (λ_=>?_) λ_=>⟨b0,p,rfl,‹101›,λz=>ψ z<|by lia,MR⟩;walk_at"s";rw[iK,aBw p (i:=6) (n:=6) rfl];exact⟨3,p.take 6,rfl,by decide,λ_=>by rw[ao];exact 50,MR.tk<|by decide⟩
 ·intro δ qQ0;refine qq0 λqq2=>?_;obtain⟨b1,p,rfl,b6,b7,MR⟩:=qQ0;refine qq2 ?_;refine oU (λδ=>∃b2:π,δ=[γ<|.dat<|.list<|o.map .int,γ<|.dat<|.str y,γ<|.dat<|.int (b2:χ),γ<|.own<|p.map cP,ν,ν,ν,ν,ν,ν,ν,ν]/\BdOk y p b2) ?_ ?_
  ·walk_at"d";refine bW (λc=>⟨b1%2,?_,by lia,λz=>ψ z<|by lia,λ_=>by lia⟩) λc=>⟨b1,rfl,b6,b7,λz=>ψ z c⟩;rw[show(b1:χ)%2=((b1%2:π):χ) by lia]
  ·intro δ qQ0;refine qq0 λqq2=>?_;obtain⟨bd,rfl,B⟩:=qQ0;refine qq2 ?_;have M:=MR.b (by decide);have M1:=MR.n1;have c7:=MR.nm;have b8:=MR.lw;have c8:p≠[]:=λe=>by rw[e]at M1;simp at M1
   walk_at"s";refine⟨o,2,rfl,by decide,by decide,?_⟩;walk_at"d";refine⟨‹119›,?_⟩;obtain⟨D,a7,a8⟩:∃D:π,gX o 2/3%(p.length:χ)=(D:χ)/\D<p.length:=by
    have h0:=pq (gX o 2/3) (show(p.length:χ)≠0 by lia);have h1:=tp (gX o 2/3) (show(0:χ)<(p.length:χ) by exact 119);exact⟨(gX o 2/3%(p.length:χ)).toNat,‹132›,by lia⟩
   rw[a7];clear a7;walk_at"d";refine⟨by decide,?_⟩;obtain⟨L,a2⟩:∃L:ε Mk,p.drop D++p.take D=L:=⟨_,rfl⟩;have rp:L.Perm p:=by
    rw[<-a2];exact qv.trans (by rw[jq])
   have rl:L.length=p.length:=rp.length_eq;have G:∀m∈L,Lw7 (m7 m):=λm hm=>b8 m<|rp.mem_iff.mp hm;have a3:L≠[]:=λe=>by rw[e]at rl;simp at rl;lia
   refine bL cP dB (λm=>[mG m]) L ‹110› (λQ h=>by
     walk_at"d"
     rw[iK,iK,aBx p rfl,aBw p rfl,<-bu,a2]
     exact⟨by rw[η,η,az,ao];lia,h⟩) (λm hm N c9 hN=>?_) ?_
   ·walk_at"d";refine⟨m7 m,rfl,(G m hm).sm,?_⟩;walk_at"d";exact hN
   rw[aN];have ml:=Tu ‹110› G;have d0:(ζ "marks a ").length=8:=by decide +kernel
   refine⟨L.map mG,rfl,aGe (n:=259) (λw hw=>?_) (by rw[η,fD];lia),by lia,?_⟩
   ·obtain⟨m,hm,rfl⟩:=Β.mp hw;exact(Bv (G m hm).sm).2
   refine⟨_,ζ "a",L,rfl,by rw[Φ];lia,Zh a3 G,⟨_,L,rfl,by decide +kernel,by decide +kernel,a3,‹110›,G,(rp.map (·.1)).nodup_iff.mpr<|Fh MR.up,λd hp hu=>?_⟩,‹48›,‹110›⟩;obtain rfl:d=p:=aHp hu MR.up<|hp.trans rp;clear rp rl G a3 a2 ml hp hu L a8;have O:∀m∈d,Dg 20 m.2.1/\1<=m.2.2/\m.2.2.natAbs<=10^1:=λm h=>⟨Cm.d20<|M.hc m h,(M.hw m h).1,by have:=M.hw m h;lia⟩;have d1:=(zX u).2;have d3:(ζ "bend a ").length=7:=by decide +kernel
   have d4:=fD;have b3:=B.b3;have a9:((bd:π):χ).natAbs<10^50:=by rw[en];exact eH b3 (by decide +kernel)
   have tl:=iT a9;walk_at"s";refine⟨_,rfl,by lia,by rw[Φ];lia,Ir a9,by rw[Φ,Φ];lia,Xh u M B λI S F=>?_⟩;have nl:=F.core.len;have W:=F.core.plen;refine qq0 λqq2=>?_;obtain⟨V,R⟩:=F.rowB M u;obtain⟨U,U0,U1,hU⟩:=F.pul;obtain⟨v,J⟩:∃v,dS y d (d.map λm=>bY I m.1)=v:=⟨_,rfl⟩;refine qq2 ?_;have dq:Dg 131 v:=by rw[<-J];exact M.dg R y
   have oq:Ok v:=cA dq;have b9:I≠[]:=λe=>by rw[e]at nl;simp at nl
   have c0:S≠[]:=λe=>by rw[e]at W;simp at W;lia
   rw[J];walk_at"d";refine⟨[[v],I,S],rfl,by simp,by simp,λr j=>?_,?_⟩
   ·simp only[Υ,dV,gz]at j;rcases j with rfl|rfl|rfl
    ·exact⟨by simp,by simp,λq hq=>by rw[br.mp hq];exact dq.mono<|by decide⟩
    ·exact⟨b9,by lia,F.ndg⟩
    ·exact⟨c0,‹110›,F.pdg⟩
   have eD:lsD [[v],I,S]=[gk [fr v],gk<|I.map fr,gk<|S.map fr]:=rfl;rw[eD];walk_at"d";walk_at"s";refine bW (λc=>ψ rfl c) λ_=>⟨_,rfl,?_⟩;dsimp only;refine bW (λc=>ψ rfl c) λ_=>⟨_,rfl,?_⟩;dsimp only;refine bW (λc=>ψ (show((I.map fr).length:χ)=(bd:χ)+1 by rw[η,nl];lia) c) λ_=>⟨_,rfl,?_⟩;dsimp only;refine bW (λc=>ψ (show((S.map fr).length:χ)=(d.length:χ) by rw[η,W]) c) λ_=>?_;walk_at"s";refine⟨_,rfl,_,rfl,_,_,rfl,rfl,rfl,bP _,?_,_,rfl,_,_,rfl,rfl,bP<|v::I,bP _,?_,?_⟩
   ·rw[η];simp;lia
   ·rw[Λ,η,η];simp;lia
   have e3:([fr v]++I.map fr)++S.map fr=(v::I++S).map fr:=by rw[bu];rfl
   rw[e3];refine aMw (qs:=v::I++S) ?_;walk_at"s";refine⟨_,rfl,_,rfl,y,I,d,V,rfl,rfl,u,M,‹48›,F.ndg,R,?_⟩;obtain⟨C,Y⟩:∃C,d.map (λm:Mk=>bY I m.1)=C:=⟨_,rfl⟩;have rl:C.length=d.length:=by rw[<-Y,η]
   have a1:=F.core.fair;rw[Y]at R J a1⊢;rw[J];walk_at"d";walk_at"s";refine⟨_,rfl,y,d,C,20,39,1,rfl,u,rl,‹101›,O,R.d,by lia,?_⟩;rw[J];walk_at"d";refine⟨ε θ,An eRat<|by decide,[v],[v],rfl,rfl,λb hb=>?_⟩;rw[hb.mpr rfl];walk_at"d";refine⟨_,rfl,ε<|ε θ,An (An eRat<|by decide)<|by decide,[[v]],[[v]],rfl,rfl,λb hb=>?_⟩;rw[hb.mpr rfl];walk_at"d";walk_at"s";refine⟨d,C,20,39,rfl,‹101›,λm hm=>(O m hm).1,R.d,by decide,?_⟩;walk_at"d";refine⟨bP _,_,rfl,y,d,C,S,V,U,rfl,u,M,rl,W,R,U0,U1,hU,a1,?_⟩;walk_at"d";refine⟨_,rfl,d,S,bd,U,rfl,b3,M,W,U0,U1,hU,F.core.even,?_⟩;walk_at"d";obtain⟨hi,c1,d5,d6⟩:∃hi:χ,(if (if 31<(o.length:χ)then 31 else(o.length:χ))>21 then(if 31<(o.length:χ)then 31 else(o.length:χ))else 21)=hi/\21<=hi/\hi<=31:=⟨_,rfl,by (repeat' split) <;>exact 50,by (repeat' split) <;>exact 50⟩
   refine cW (lJ (lo:=19) (st:=1) (n:=(hi-19).toNat) (λQ h=>by
     walk_at"d"
     rw[c1]
     exact⟨by lia,h⟩)
    (λi δ=>∃t1 t2 t3:Θ μ,δ=[γ<|.dat<|.list<|o.map .int,γ<|.dat<|.str y,γ<|.dat<|.int (bd:χ),γ<|.dat<|.list<|d.map cP,γ<|.dat<|.int (D:χ),γ<|.mon<|dskP A.c_Desk (ζ "kept") [(ζ "a",.list<|d.map cP)],γ<|.dat<|.list [gk [fr v],gk<|I.map fr,gk<|S.map fr],γ<|.dat<|.list<|C.map fr,γ<|.dat<|.list [gk [fr v]],t1.map Sl.dat,t2.map Sl.dat,t3.map Sl.dat])
    ⟨ν,ν,ν,rfl⟩ ?_ ?_)
   ·intro i δ d7 qQ0;refine qq0 λqq2=>?_;obtain⟨t1,t2,t3,rfl⟩:=qQ0;obtain⟨jj,b4,d8,d9⟩:∃jj:χ,19+(i:χ)*1=jj/\0<=jj/\jj<=100:=⟨_,rfl,‹129›,by lia⟩;refine qq2 ?_;rw[b4];clear b4;walk_at"s";refine⟨_,rfl,o,jj,rfl,‹51›,by lia,?_⟩;walk_at"d";refine⟨_,bd,rfl,Kj hbits ‹51›<|by lia,b3,λn2 l2 c2=>?_⟩;have R2:=aEv M ‹48› c2;have a0:=F.core.least u M.w0 l2;rw[Y,J]at a0;walk_at"d";refine⟨bP _,y,n2,d,_,rfl,rfl,u,M,‹48›,λq hq=>((c2 q hq).dg (by decide) (l:=1) (by decide)<|ω _).mono<|by decide,R2,?_⟩;obtain⟨x,Z⟩:∃x,d.map (λm:Mk=>bY n2 m.1)=x:=⟨_,rfl⟩;have c3:x.length=d.length:=by rw[<-Z,η]
    rw[Z]at R2 a0⊢;obtain⟨mo,a4⟩:∃mo,dS y d x=mo:=⟨_,rfl⟩;have c4:Dg 131 mo:=by rw[<-a4];exact M.dg R2 y
    rw[a4]at a0⊢;walk_at"d";refine⟨y,d,x,20,39,1,rfl,u,c3,‹101›,O,R2.d,by lia,?_⟩;rw[a4];walk_at"d";refine⟨ε<|ε θ,An (An eRat<|by decide)<|by decide,[[mo]],[[mo]],rfl,rfl,λb hb=>?_⟩;rw[hb.mpr rfl];walk_at"d";refine⟨_,rfl,_,rfl,_,rfl,_,rfl,mo,v,rfl,cA c4,oq,?_⟩;walk_at"d";refine bW (λc=>ψ c<|jk.mpr a0) λ_=>?_;exact⟨γ _,γ _,γ _,rfl⟩
   ·intro δ qQ0;refine qq0 λqq2=>?_;obtain⟨t1,t2,t3,rfl⟩:=qQ0;refine qq2 ?_;walk_at"d";exact k
@[elab_as_elim] theorem el1 {P:ε Γ->Prop}:∀b:ε Γ,b.length=1->(∀a:Γ,P [a])->P b
 |[],h,_=>by cases h
 |[a],_,h=>h a
 |_::_::_,h,_=>by simp at h
@[elab_as_elim] theorem el2 {P:ε Γ->Prop}:∀c:ε Γ,c.length=2->(∀a b:Γ,P [a,b])->P c
 |[],h,_=>by cases h
 |[_],h,_=>by cases h
 |[a,b],_,h=>h a b
 |_::_::_::_,h,_=>by simp at h
@[elab_as_elim] theorem el3 {P:ε Γ->Prop}:∀d:ε Γ,d.length=3->(∀a b c:Γ,P [a,b,c])->P d
 |[],h,_=>by cases h
 |[_],h,_=>by cases h
 |[_,_],h,_=>by cases h
 |[a,b,c],_,h=>h a b c
 |_::_::_::_::_,h,_=>by simp at h
@[elab_as_elim] theorem el4 {P:ε Γ->Prop}:∀e:ε Γ,e.length=4->(∀a b c d:Γ,P [a,b,c,d])->P e
 |[],h,_=>by cases h
 |[_],h,_=>by cases h
 |[_,_],h,_=>by cases h
 |[_,_,_],h,_=>by cases h
 |[a,b,c,d],_,h=>h a b c d
 |_::_::_::_::_::_,h,_=>by simp at h
local macro_rules|`(tactic|walk_at"b")=>`(tactic|(intro _ _ _ _ _ _ us hl;first|exact el1 us hl λ_=>rfl|exact el2 us hl λ_ _=>rfl|exact el3 us hl λ_ _ _=>rfl|exact el4 us hl λ_ _ _ _=>rfl))
def FsP(K:ς):ε (bf×π×ε bf)->Prop
 |[]=>wj
 |r::l=>(∃a d,Fg K r.1 (top r.2.1) a d)/\FsP K l
theorem aAf{K:ς}(x:Ζ)(y:FuncData):∀l,FsP K l->∃(a:π->Ζ)(d:π->FuncData),∀i,i<l.length->Fg K (l.getD i ("",0,[])).1 (top (l.getD i ("",0,[])).2.1) (a i) (d i)
 |[],_=>⟨λ_=>x,λ_=>y,λi h=>ψ h<|og _⟩
 |r::l,h=>by
  refine qq0 λqq2=>?_;obtain⟨⟨b,c,e⟩,f⟩:=h;obtain⟨a,d,g⟩:=aAf x y l f;refine qq2 ?_;refine⟨λi=>Nat.casesOn i b a,λi=>Nat.casesOn i c d,λi j=>?_⟩;cases i with
  |zero=>exact e
  |succ i=>exact g i<|Nat.lt_of_succ_lt_succ j
theorem aGb(h:i<tb.length):tr i∈tb:=by
 unfold tr;rw[Ο,ah h];exact ax _
theorem bs:∀r∈tb,∀(kV a d:Γ)(e:Θ Ζ)(b f:Γ)(c:ε Γ),c.length=r.2.2.length->bindArgs (W.fnOf r.1 r.1 (jX<|top r.2.1) (fF<|top r.2.1) (bK<|top r.2.1) .none kV a d e b f) ⟨c,[]⟩=pure (r.2.2.zip c):=by
 unfold tb
 repeat' (first|refine' gw.2 ⟨by walk_at"b",?_⟩|exact λ_ h=>nomatch h)
theorem all_mk{l:W.OpenLaw}{w:kn}{K:ς}{h:gy}{mg:bf->Θ Γ}{fa g0 g1 g2 g3 g9 q r x y z t B C U Y D b u c f j k m n o p:Ζ}(X:K.In h)(G:h.Ns mainGlobals mg)(h1:mg "law"=γ (.ref fa))
  {h2 h3 h4 h5 h0:FuncData}
  (oa_Desk:W.nsIn K mainGlobals "Desk"=γ (γ<|.ref b)) (pg_Desk:W.plainGet K b Str.empty=true) (hd_Desk:W.hasDictIn K b=true) (po_Desk:W.plainOver K b=true) (sa_Desk:W.findIn K (.ref b) "__setattr__"=γ (γ<|.builtin "object.__setattr__")) (mk_Desk:W.makesIn K b=true) (kc_Desk:W.keepIn K (.ref b)=true) (na_Desk:W.findIn K (.ref b) "kept"=γ ν)
  (Fs:FsP K tb) (Fl:Fg K "law" aLl g9 h0)
  (a79:W.findIn K (.ref b) "__init__"=γ (γ<|.ref g0)) (i79:W.isFn K (.ref g0)=true)
  (F79:Fun K "__init__" "Desk.__init__" aLp g0 h2)
  (a80:W.findIn K (.ref b) "say"=γ (γ<|.ref g1)) (i80:W.isFn K (.ref g1)=true)
  (F80:Fun K "say" "Desk.say" aLo g1 h3)
  (a81:W.findIn K (.ref b) "lay"=γ (γ<|.ref g2)) (i81:W.isFn K (.ref g2)=true)
  (F81:Fun K "lay" "Desk.lay" aLn g2 h4)
  (a82:W.findIn K (.ref b) "marks_by"=γ (γ<|.ref g3)) (i82:W.isFn K (.ref g3)=true)
  (F82:Fun K "marks_by" "Desk.marks_by" aLm g3 h5)
  (ax_MissError:W.nsIn K mainGlobals "MissError"=γ (γ<|.ref q)) (xx_MissError:W.excIn K q [.type "ValueError",.type "Exception",.type "BaseException",.type "object"] "ValueError.__new__"=true)
  (ax_NoNumber:W.nsIn K mainGlobals "NoNumber"=γ (γ<|.ref r)) (xx_NoNumber:W.excIn K r [.type "ValueError",.type "Exception",.type "BaseException",.type "object"] "ValueError.__new__"=true)
  (ax_NoMarks:W.nsIn K mainGlobals "NoMarks"=γ (γ<|.ref x)) (xx_NoMarks:W.excIn K x [.type "ValueError",.type "Exception",.type "BaseException",.type "object"] "ValueError.__new__"=true)
  (ax_NoKind:W.nsIn K mainGlobals "NoKind"=γ (γ<|.ref y)) (xx_NoKind:W.excIn K y [.type "ValueError",.type "Exception",.type "BaseException",.type "object"] "ValueError.__new__"=true)
  (ax_NoBend:W.nsIn K mainGlobals "NoBend"=γ (γ<|.ref z)) (xx_NoBend:W.excIn K z [.type "ValueError",.type "Exception",.type "BaseException",.type "object"] "ValueError.__new__"=true)
  (ax_NoAnswer:W.nsIn K mainGlobals "NoAnswer"=γ (γ<|.ref t)) (xx_NoAnswer:W.excIn K t [.type "ValueError",.type "Exception",.type "BaseException",.type "object"] "ValueError.__new__"=true)
  (ax_NoText:W.nsIn K mainGlobals "NoText"=γ (γ<|.ref B)) (xx_NoText:W.excIn K B [.type "ValueError",.type "Exception",.type "BaseException",.type "object"] "ValueError.__new__"=true)
  (ax_NoName:W.nsIn K mainGlobals "NoName"=γ (γ<|.ref C)) (xx_NoName:W.excIn K C [.type "ValueError",.type "Exception",.type "BaseException",.type "object"] "ValueError.__new__"=true)
  (ax_NoRow:W.nsIn K mainGlobals "NoRow"=γ (γ<|.ref U)) (xx_NoRow:W.excIn K U [.type "ValueError",.type "Exception",.type "BaseException",.type "object"] "ValueError.__new__"=true)
  (z_abs:W.nsIn K mainGlobals "abs"=γ ν)
  (z_all:W.nsIn K mainGlobals "all"=γ ν)
  (z_bool:W.nsIn K mainGlobals "bool"=γ ν)
  (z_int:W.nsIn K mainGlobals "int"=γ ν)
  (z_isinstance:W.nsIn K mainGlobals "isinstance"=γ ν)
  (z_len:W.nsIn K mainGlobals "len"=γ ν)
  (z_list:W.nsIn K mainGlobals "list"=γ ν)
  (z_max:W.nsIn K mainGlobals "max"=γ ν)
  (z_min:W.nsIn K mainGlobals "min"=γ ν)
  (z_range:W.nsIn K mainGlobals "range"=γ ν)
  (z_reversed:W.nsIn K mainGlobals "reversed"=γ ν)
  (z_sorted:W.nsIn K mainGlobals "sorted"=γ ν)
  (z_str:W.nsIn K mainGlobals "str"=γ ν)
  (z_sum:W.nsIn K mainGlobals "sum"=γ ν)
  (z_zip:W.nsIn K mainGlobals "zip"=γ ν)
  {I J L M N O R S:vh} {Z a0 a1 a2 a3 a4 a5 a6:χ} {g4:π} (zc_COUNTS:W.nsIn K mainGlobals "COUNTS"=γ (γ<|.ref u)) (lk_COUNTS:K.lookup u=γ ⟨.type "dict",ν,.dict #[⟨Z,.str "marks" I,.ref c⟩,⟨a0,.str "drop" J,.ref f⟩,⟨a1,.str "names" L,.ref j⟩,⟨a2,.str "show" M,.ref k⟩,⟨a3,.str "bend" N,.ref m⟩,⟨a4,.str "rise" O,.ref n⟩,⟨a5,.str "steps" R,.ref o⟩,⟨a6,.str "judge" S,.ref p⟩] g4,#[]⟩)
  {a9 b0:vh} {c6:Θ Ζ} {c7:π} {c8:Array<|Θ Γ} (lt0_COUNTS:K.lookup c=γ ⟨.type "tuple",c6,.seq #[(.int 3 a9),(.int 62 b0)] c7,c8⟩)
  {b1 b2:vh} {c9:Θ Ζ} {d0:π} {d1:Array<|Θ Γ} (lt1_COUNTS:K.lookup f=γ ⟨.type "tuple",c9,.seq #[(.int 2 b1),(.int 2 b2)] d0,d1⟩)
  {b3 b4:vh} {d3:Θ Ζ} {d4:π} {d5:Array<|Θ Γ} (lt2_COUNTS:K.lookup j=γ ⟨.type "tuple",d3,.seq #[(.int 1 b3),(.int 1 b4)] d4,d5⟩)
  {b5 b6:vh} {d6:Θ Ζ} {d7:π} {d8:Array<|Θ Γ} (lt3_COUNTS:K.lookup k=γ ⟨.type "tuple",d6,.seq #[(.int 2 b5),(.int 2 b6)] d7,d8⟩)
  {b7 b8:vh} {d9:Θ Ζ} {e0:π} {e1:Array<|Θ Γ} (lt4_COUNTS:K.lookup m=γ ⟨.type "tuple",d9,.seq #[(.int 4 b7),(.int 4 b8)] e0,e1⟩)
  {b9 c0:vh} {e2:Θ Ζ} {e3:π} {e4:Array<|Θ Γ} (lt5_COUNTS:K.lookup n=γ ⟨.type "tuple",e2,.seq #[(.int 3 b9),(.int 3 c0)] e3,e4⟩)
  {c1 c2:vh} {e5:Θ Ζ} {e6:π} {e7:Array<|Θ Γ} (lt6_COUNTS:K.lookup o=γ ⟨.type "tuple",e5,.seq #[(.int 4 c1),(.int 4 c2)] e6,e7⟩)
  {c3 c4:vh} {e8:Θ Ζ} {e9:π} {f0:Array<|Θ Γ} (lt7_COUNTS:K.lookup p=γ ⟨.type "tuple",e8,.seq #[(.int 4 c3),(.int 63 c4)] e9,f0⟩)
  (kl_COUNTS:W.KeysLit w.params [⟨Z,.str "marks" I,.ref c⟩,⟨a0,.str "drop" J,.ref f⟩,⟨a1,.str "names" L,.ref j⟩,⟨a2,.str "show" M,.ref k⟩,⟨a3,.str "bend" N,.ref m⟩,⟨a4,.str "rise" O,.ref n⟩,⟨a5,.str "steps" R,.ref o⟩,⟨a6,.str "judge" S,.ref p⟩]) (nz_COUNTS:(u==sysModules)=false)
  {f1:vh} (zc_FIGURES:W.nsIn K mainGlobals "FIGURES"=γ (γ<|.str "0123456789" f1))
  {f5 f6 f7:vh} {g5:Θ Ζ} {g8:π} {g6:Array<|Θ Γ} (zc_KINDS:W.nsIn K mainGlobals "KINDS"=γ (γ<|.ref Y))
  (lk_KINDS:K.lookup Y=γ ⟨.type "tuple",g5,.seq #[(.str "far" f5),(.str "sum" f6),(.str "square" f7)] g8,g6⟩)
  {f2:vh} (zc_LETTERS:W.nsIn K mainGlobals "LETTERS"=γ (γ<|.str "abcdefghijklmnopqrstuvwxyz" f2))
  {c5:vh} (zc_MOST_BEND:W.nsIn K mainGlobals "MOST_BEND"=γ (γ<|.int 3 c5))
  {E:vh} (zc_MOST_FIGURES:W.nsIn K mainGlobals "MOST_FIGURES"=γ (γ<|.int 40 E))
  {F:vh} (zc_MOST_LETTERS:W.nsIn K mainGlobals "MOST_LETTERS"=γ (γ<|.int 8 F))
  {a7:vh} (zc_MOST_MARKS:W.nsIn K mainGlobals "MOST_MARKS"=γ (γ<|.int 60 a7))
  {H:vh} (zc_MOST_NUMBERS:W.nsIn K mainGlobals "MOST_NUMBERS"=γ (γ<|.int 4 H))
  {a8:vh} (zc_MOST_STEPS:W.nsIn K mainGlobals "MOST_STEPS"=γ (γ<|.int 59 a8))
  {f3 f4:vh} {f8:Θ Ζ} {g7:π} {f9:Array<|Θ Γ} (zc_NOUGHT:W.nsIn K mainGlobals "NOUGHT"=γ (γ<|.ref D))
  (lk_NOUGHT:K.lookup D=γ ⟨.type "tuple",f8,.seq #[(.int 0 f3),(.int 1 f4)] g7,f9⟩)
  :∃fd:FuncData,(∀(s:aj)(v:Γ),BindsTo s fd ⟨[v],[]⟩ [("script",v)])/\∀base:gy,K.In base->base.Ns mainGlobals mg->FnOk l.prog w K mg base (oV l.prog w) 15 fa fd ["script"] (Ov K):=by
 refine qq0 λqq2=>?_;obtain⟨a,d,g⟩:=aAf g9 h0 tb Fs;refine qq2 ?_;have e:=h1.symm.trans<|ie X G Fl.a;cases e;refine qq0 λqq2=>?_;obtain⟨_,_,_,_,_,_,_,_,_,rfl,_,_⟩:=Fl.F.ex;refine qq2 ?_;have T:Txt K mg ⟨a,d,g0,_,g1,_,g2,_,g3,_,fa,_,q,r,x,y,z,t,B,C,U,Y,D,b,u,c,f,j,k,m,n,o,p⟩:=⟨λi hi=>(g i hi).fd X G<|bs _<|aGb hi,F79,⟨a79,i79,F79.kp⟩,F79.binds<|by walk_at"b",F80,⟨a80,i80,F80.kp⟩,F80.binds<|by walk_at"b",F81,⟨a81,i81,F81.kp⟩,F81.binds<|by walk_at"b",F82,⟨a82,i82,F82.kp⟩,F82.binds<|by walk_at"b",Fl.fd X G<|by walk_at"b",⟨xx_MissError,ie X G ax_MissError⟩,⟨xx_NoNumber,ie X G ax_NoNumber⟩,⟨xx_NoMarks,ie X G ax_NoMarks⟩,⟨xx_NoKind,ie X G ax_NoKind⟩,⟨xx_NoBend,ie X G ax_NoBend⟩,⟨xx_NoAnswer,ie X G ax_NoAnswer⟩,⟨xx_NoText,ie X G ax_NoText⟩,⟨xx_NoName,ie X G ax_NoName⟩,⟨xx_NoRow,ie X G ax_NoRow⟩,gh X G z_abs,gh X G z_all,gh X G z_bool,gh X G z_int,gh X G z_isinstance,gh X G z_len,gh X G z_list,gh X G z_max,gh X G z_min,gh X G z_range,gh X G z_reversed,gh X G z_sorted,gh X G z_str,gh X G z_sum,gh X G z_zip,ie X G oa_Desk,⟨pg_Desk,hd_Desk,po_Desk,sa_Desk⟩,⟨mk_Desk,a79,i79,kc_Desk⟩,na_Desk,ie X G zc_COUNTS,⟨_,ie X G zc_FIGURES⟩,ie X G zc_KINDS,yI (xs:=[(.str "far"),(.str "sum"),(.str "square")]) lk_KINDS (cg<|bX<|show 3<=1000 by decide) (.cons ⟨_,rfl⟩<|.cons ⟨_,rfl⟩<|.cons ⟨_,rfl⟩ .nil) λ_=>.cons (.str "far")<|.cons (.str "sum")<|.cons (.str "square") .nil,⟨_,ie X G zc_LETTERS⟩,⟨_,ie X G zc_MOST_BEND⟩,⟨_,ie X G zc_MOST_FIGURES⟩,⟨_,ie X G zc_MOST_LETTERS⟩,⟨_,ie X G zc_MOST_MARKS⟩,⟨_,ie X G zc_MOST_NUMBERS⟩,⟨_,ie X G zc_MOST_STEPS⟩,ie X G zc_NOUGHT,yI (xs:=[(.int 0),(.int 1)]) lk_NOUGHT (cg<|bX<|show 2<=1000 by decide) (.cons ⟨_,rfl⟩<|.cons ⟨_,rfl⟩ .nil) λ_=>.cons (.int 0)<|.cons (.int 1) .nil⟩;exact⟨_,λs v=>.of_eq rfl,λbase _ _=>aSe T ⟨nz_COUNTS,_,_,lk_COUNTS,kl_COUNTS,.cons ⟨⟨_,rfl⟩,rfl⟩<|.cons ⟨⟨_,rfl⟩,rfl⟩<|.cons ⟨⟨_,rfl⟩,rfl⟩<|.cons ⟨⟨_,rfl⟩,rfl⟩<|.cons ⟨⟨_,rfl⟩,rfl⟩<|.cons ⟨⟨_,rfl⟩,rfl⟩<|.cons ⟨⟨_,rfl⟩,rfl⟩<|.cons ⟨⟨_,rfl⟩,rfl⟩<|.nil,(gw.2 ⟨yI (xs:=[(.int 3),(.int 62)]) lt0_COUNTS (cg<|bX<|show 2<=1000 by decide) (.cons ⟨_,rfl⟩<|.cons ⟨_,rfl⟩<|.nil) λ_=>.cons (.int 3)<|.cons (.int 62)<|.nil,(gw.2 ⟨yI (xs:=[(.int 2),(.int 2)]) lt1_COUNTS (cg<|bX<|show 2<=1000 by decide) (.cons ⟨_,rfl⟩<|.cons ⟨_,rfl⟩<|.nil) λ_=>.cons (.int 2)<|.cons (.int 2)<|.nil,(gw.2 ⟨yI (xs:=[(.int 1),(.int 1)]) lt2_COUNTS (cg<|bX<|show 2<=1000 by decide) (.cons ⟨_,rfl⟩<|.cons ⟨_,rfl⟩<|.nil) λ_=>.cons (.int 1)<|.cons (.int 1)<|.nil,(gw.2 ⟨yI (xs:=[(.int 2),(.int 2)]) lt3_COUNTS (cg<|bX<|show 2<=1000 by decide) (.cons ⟨_,rfl⟩<|.cons ⟨_,rfl⟩<|.nil) λ_=>.cons (.int 2)<|.cons (.int 2)<|.nil,(gw.2 ⟨yI (xs:=[(.int 4),(.int 4)]) lt4_COUNTS (cg<|bX<|show 2<=1000 by decide) (.cons ⟨_,rfl⟩<|.cons ⟨_,rfl⟩<|.nil) λ_=>.cons (.int 4)<|.cons (.int 4)<|.nil,(gw.2 ⟨yI (xs:=[(.int 3),(.int 3)]) lt5_COUNTS (cg<|bX<|show 2<=1000 by decide) (.cons ⟨_,rfl⟩<|.cons ⟨_,rfl⟩<|.nil) λ_=>.cons (.int 3)<|.cons (.int 3)<|.nil,(gw.2 ⟨yI (xs:=[(.int 4),(.int 4)]) lt6_COUNTS (cg<|bX<|show 2<=1000 by decide) (.cons ⟨_,rfl⟩<|.cons ⟨_,rfl⟩<|.nil) λ_=>.cons (.int 4)<|.cons (.int 4)<|.nil,(gw.2 ⟨yI (xs:=[(.int 4),(.int 63)]) lt7_COUNTS (cg<|bX<|show 2<=1000 by decide) (.cons ⟨_,rfl⟩<|.cons ⟨_,rfl⟩<|.nil) λ_=>.cons (.int 4)<|.cons (.int 63)<|.nil,(λ_ h=>nomatch h)⟩)⟩)⟩)⟩)⟩)⟩)⟩)⟩)⟩⟩
end My
namespace PySem.W.Fast
def tw14391322738045029880:=()
def tw134521458876149014:=()
def tw16484114381101255030:=()
def tw12241787400750535188:=()
def tw205711152226594234:=()
def tw13486667809653512123:=()
def tw7021749624491698355:=()
def tw3838751070689307424:=()
def tw16238110116309096423:=()
def tw10794983882555887976:=()
def tw6466099449981175154:=()
def tw9725776863025756387:=()
def tw8847131825780144222:=()
def tw6475809326157496915:=()
def tw987096546636200820:=()
def tw3140399573807404932:=()
def tw16702943103748569380:=()
def tw5388736122569955719:=()
def tw8329683340852252600:=()
def tw6702478487648644006:=()
def tw834918046385836523:=()
def tw9865666931893516622:=()
def tw16457042683906549116:=()
def tw2807501819958043764:=()
def tw8777044510136719555:=()
def tw8961277416971453668:=()
def tw6997936588677426304:=()
def tw4294216988566401498:=()
def tw3791173113669980097:=()
def tw13906745174242246203:=()
def tw8525784675864318747:=()
def tw12859560924338565401:=()
def tw1225845905167618030:=()
def tw12987933694353771884:=()
def tw6806887367726194744:=()
def tw4473941098298792469:=()
def tw2723988875298297393:=()
def tw4869015738214439300:=()
def tw8291140930900468446:=()
def tw15209615918564866536:=()
def tw13184763774105087110:=()
def tw7257775323631038580:=()
def tw9459059149964581321:=()
def tw16749316786842468778:=()
def tw504111760529857435:=()
def tw12519616062674046685:=()
def tw9396246052924494474:=()
def tw5742084193742575523:=()
def tw8921278504269468479:=()
def tw5362040421179875237:=()
def tw12037779680047628719:=()
def tw5601926472362833295:=()
def tw2958906124013343931:=()
def tw3053526194333578648:=()
def tw17890200057781338013:=()
def tw551745010295020878:=()
def tw14440438789595219417:=()
def tw14729967230211753573:=()
def tw1467078155198462144:=()
def tw11354372103811556658:=()
def tw5893129136516062772:=()
def tw2912956979653775056:=()
def tw3908042962815521047:=()
def tw12737609933830895518:=()
def tw302176558690330243:=()
def tw7863928563640145700:=()
def tw6514696149337633409:=()
def tw4821062755254244911:=()
def tw11554008972208568406:=()
def tw1926181319613746539:=()
def tw10682323113850137666:=()
def tw8691948581362044672:=()
def tw4853879124268246203:=()
def tw2189382186865744822:=()
def tw5962377856063804672:=()
def tw3068886983283214857:=()
def tw9555669936666023738:=()
def tw16994292177755969091:=()
def tw13716631982584289606:=()
def tw11649172060527922100:=()
def tw3763877643527616489:=()
def tw14771734408589817106:=()
def tw18409055729396516981:=()
def tw11167588085527821558:=()
def tw10828900223505659493:=()
def tw758393834920542538:=()
def tw16613103794614515531:=()
def tw96692609449825005:=()
def tw4578767471961434470:=()
def tw2206232646522307677:=()
def tw17525087068551862573:=()
def tw2529495037176507300:=()
def tw17171151766937485245:=()
def tw11225362611878870774:=()
def tw3579642481949417756:=()
def tw17904803285251951935:=()
def tw14429203659024755217:=()
def tw11811713817304611881:=()
def tw1629293276156953205:=()
def tw4895613864393022215:=()
def tw17357743734569125892:=()
def tw7420638159178428134:=()
def tw6008763578627456918:=()
def tw18206957500951109774:=()
def tw1373176045315729474:=()
def tw18224460641648821442:=()
def tw2408929601243172656:=()
def tw11260417092292674475:=()
def tw11446066011835728161:=()
def tw16464716614153004878:=()
def tw13716677446846619430:=()
def tw18155625825143041756:=()
def tw5609933746196993415:=()
def tw17304535081773993120:=()
def tw1978257644339595424:=()
def tw1577114024207701674:=()
def tw15102720037258040164:=()
def tw11703414541182189689:=()
def tw13369392026189198911:=()
def tw2694058047134562967:=()
def tw8546471596434085048:=()
def tw9586031577428144512:=()
def tw17825913387574838117:=()
def tw13932393145325162372:=()
def tw12639141331538631926:=()
def tw11726856573380313912:=()
def tw1596311976819061981:=()
def tw14796618258148770784:=()
def tw9898733837496163176:=()
def tw17764814419432247447:=()
def tw17493586289607564999:=()
def tw11807252479124962148:=()
def tw13221098944273252324:=()
def tw9956543302579350458:=()
def tw7055716074089049037:=()
def tw2653034587216924724:=()
def tw18136963625015411614:=()
def tw10895297341013195666:=()
def tw2508068505487951581:=()
def tw69970720619466386:=()
def tw3129486475543030342:=()
def tw16647182761222813003:=()
def tw6881940013858272545:=()
def tw6421898543905678374:=()
def tw9548205438229448115:=()
def tw4326536143236981843:=()
def tw11550717139073307357:=()
def tw11288203825343900421:=()
def tw12496287147318395311:=()
def tw14163957950749289947:=()
def tw2347406151847574460:=()
def tw16625442145798826805:=()
def tw14238010409139686356:=()
def tw4503571425544170016:=()
def tw2504941754429231907:=()
def tw4125423970206479014:=()
def tw13888893892973898377:=()
def tw15592205416522470556:=()
def tw14824059027708178857:=()
def tw17097030544922106338:=()
def tw11204598974059424611:=()
def tw15215003019674317199:=()
def tw16301939986571551440:=()
def tw1184221995576481576:=()
def tw9451437310426021783:=()
def tw17945295533173301527:=()
def tw15473709881340100841:=()
def tw3911169875118543511:=()
def tw17823106220936174333:=()
def tw6924542450433173966:=()
def tw289331683774788812:=()
def tw16928120800734724995:=()
def tw14538571156539613622:=()
def tw4783539733924770780:=()
def tw9633634363354707085:=()
def tw4004730387364816961:=()
def tw12942978581821716703:=()
def tw16358362163601409690:=()
def tw5667620174168568263:=()
def tw5881674960649331682:=()
def tw8032511588164840355:=()
def tw10630070358833091272:=()
def tw7188893794804346154:=()
def tw11909300143380371229:=()
def tw14614007371279198251:=()
def tw15988596826951697474:=()
def tw12884296527249809195:=()
def tw13527514523551038240:=()
def tw4290223352719144934:=()
def tw5346083981413876418:=()
def tw6325154033032448457:=()
def tw8242090762885219575:=()
def tw10718657797599158445:=()
def tw3771638632303080324:=()
def tw12595483003106177998:=()
def tw17500863873900406411:=()
def tw2065579504788507119:=()
def tw1742334283097256315:=()
def tw14936811375929083549:=()
def tw15312408045685349590:=()
def tw1403198391964602801:=()
def tw1889377292345977651:=()
def tw8950157673768690582:=()
def tw1362086766789050696:=()
def tw10613601188148836029:=()
def tw15763695874209070338:=()
def tw8449677551131074984:=()
def tw18273641920242843905:=()
def tw7197888551077060338:=()
def tw2160711590943703188:=()
def tw4312682351644556757:=()
def tw1910966032841587351:=()
def tw13237948106329702763:=()
def tw14377600114725296299:=()
def tw5733104481473162885:=()
def tw16129054053539214699:=()
def tw2440903907595519313:=()
def tw16495267897222736557:=()
def tw38412685162830926:=()
def tw1094857614488833468:=()
def tw11694377138233299647:=()
def tw2962584960553787235:=()
def tw18295764299199853594:=()
def tw17750628872795974742:=()
def tw13102837181694790934:=()
def tw15082016600136980014:=()
def tw15516619011758399915:=()
def tw9586305638003876676:=()
def tw12301282304307072161:=()
def tw10291781745026605278:=()
def tw15490355445911952538:=()
def tw4335026113222493531:=()
def tw9775862968985311961:=()
def tw18234227612653664993:=()
def tw9790952741587219627:=()
def tw10720210765470633395:=()
def tw5201924384660436952:=()
def tw2151086316593179880:=()
def tw1053016076536305940:=()
def tw5842577513713576462:=()
def tw10697464652954044725:=()
def tw4154768720204962015:=()
def tw16988911982097920353:=()
def tw2554306017793843983:=()
def tw2826126742792157086:=()
def tw5026538222660131944:=()
def tw8893511496930063169:=()
def tw2258025305341805697:=()
def tw6635353704029499339:=()
def tw12449497002341056927:=()
def tw14790624862420724109:=()
def tw11002699491021498967:=()
def tw4476441476925358764:=()
def tw8922533693043140877:=()
def tw15026608031407682805:=()
def tw8230613532145175439:=()
def tw5616100370626196691:=()
def tw11177749076573249818:=()
def tw8538578646977437859:=()
def tw3936774936244275281:=()
def tw14322455053394975252:=()
def tw6633452729980550746:=()
def tw1475590252050519366:=()
def tw9510237382144225867:=()
def tw16982085805999619003:=()
def tw5354440128667468411:=()
def tw11553491948335117319:=()
def tw10961750288383287088:=()
def tw17071647155154507738:=()
def tw3768555527392868875:=()
def tw6311514679224049285:=()
def tw8322781896895725408:=()
def tw11856459126442084681:=()
def tw8545051581180708097:=()
def tw13823837113228660251:=()
def tw16416221324168512691:=()
def tw17103859351223301500:=()
def tw15498162629590115550:=()
def tw13268513250530778819:=()
def tw14917808842408225126:=()
def tw13325644786779737299:=()
def tw2144261220227922400:=()
def tw17179495002401780526:=()
def tw17436564458399631601:=()
def tw7941198716825537368:=()
def tw2593543694227924178:=()
def tw8388456462850903593:=()
def tw17010249282603304514:=()
def tw4162371200935002366:=()
def tw11933189457926559985:=()
def tw16875465190150214844:=()
def tw13444431322938155318:=()
def tw8100867607908389972:=()
def tw15524997888609839956:=()
def tw18051507777066801940:=()
def tw10441917140462418763:=()
def tw9733800278101146662:=()
def tw3658293935004366844:=()
def tw12566370040407766490:=()
def tw1008584257310876509:=()
def tw5467332683549020189:=()
def tw16825314349700589210:=()
def tw7327937269747044911:=()
def tw9777587138285758257:=()
def tw12054889439218318621:=()
def tw14124182188256966163:=()
def tw2702900423786359160:=()
def tw10011789761047980973:=()
def tw6902812405660323163:=()
def tw4674554290185089183:=()
def tw11347637996410646381:=()
def tw16516911859418205321:=()
def tw2329220362782898472:=()
def tw8653389946709038964:=()
def tw8830707659068734202:=()
def tw1136175182353525844:=()
def tw8757186365902868053:=()
def tw14393929654619850322:=()
def tw6708463233727626945:=()
def tw2454580178852763097:=()
def tw12271858520764882549:=()
def tw18363091987892789093:=()
def tw4181585717807020717:=()
def tw3164206468676028189:=()
def tw13415527733141055900:=()
def tw1904063289976043935:=()
def tw10475075763837464799:=()
def tw986151643711112798:=()
def tw2242383115787165527:=()
def tw7996349492773839915:=()
def tw15369024139755036896:=()
def tw16564302858259429443:=()
def tw6703292556746324329:=()
def tw3044895382605371547:=()
def tw1644930320294080950:=()
def tw6580165284346281651:=()
def tw9997454682891518957:=()
def tw6900385948251282169:=()
def tw7723713127610629387:=()
def tw765908750257502681:=()
def tw14616574600405903111:=()
def tw3832530866431054509:=()
def tw9309996958093249791:=()
def tw13198200559696107656:=()
def tw7325741185076346101:=()
def tw5945469752272674710:=()
def tw1746422161252825995:=()
def tw18140917196726393355:=()
def tw14299259239401666976:=()
def tw9931363624825682449:=()
def tw10881221421193230272:=()
def tw6364748116509106929:=()
def tw10426182527160979381:=()
def tw9412424304120063255:=()
def tw185400861456309788:=()
def tw250246243829600577:=()
def tw14850044848288216363:=()
def tw9607971632326491702:=()
def tw6456232580172950358:=()
def tw4473556875321203189:=()
def tw15795002721590997069:=()
def tw9532368618050910006:=()
def tw17251944566138595044:=()
def tw17693575874629377098:=()
def tw14459064789659298418:=()
def tw17163839637221491718:=()
def tw7034092045136830827:=()
def tw4075598719659280336:=()
def tw6596117412483319926:=()
def tw226506329380772219:=()
def tw9222197983954413161:=()
def tw3801039751106195124:=()
def tw10047158279400085787:=()
def tw9585604589015550939:=()
def tw6436269806620357112:=()
def tw8592648583801646326:=()
def tw1802635612495627512:=()
def tw11937489238201529751:=()
def tw13430799726233570248:=()
def tw6016089362226982210:=()
def tw2216614065398903055:=()
def tw476409404933099721:=()
def tw6101843108040726408:=()
def tw3682939058276464043:=()
def tw10485848558282020256:=()
def tw7501962919132818788:=()
def tw4736174478694372138:=()
def tw10930172924084541181:=()
def tw10308679526553309223:=()
def tw13484078664057345559:=()
def tw3477990124287373184:=()
def tw11453147271245068622:=()
def tw12498897616729386177:=()
def tw732161922962213034:=()
def tw16205142351472533801:=()
def tw11492667693985023332:=()
def tw18171488286825249205:=()
def tw5264451288606502953:=()
def tw15498178324647834611:=()
def tw15826282231540137913:=()
def tw10939617570242183678:=()
def tw1630633634429220332:=()
def tw17635711831187465884:=()
def tw15864024828286756083:=()
def tw4767537230669965704:=()
def tw8028621983695625708:=()
def tw7268612081782780860:=()
def tw14801209095219336031:=()
def tw13879055278324487488:=()
def tw14656235706962948857:=()
def tw4859263956903290442:=()
def tw1034845557016109899:=()
def tw7194010619093316140:=()
def tw4017983841357994341:=()
def tw6762901301838603590:=()
def tw1903895808141906901:=()
def tw16425683687360848255:=()
def tw9439528621342456585:=()
def tw5890837821302685793:=()
def tw3888030496127385652:=()
def tw8866387607464699626:=()
def tw12473038089029609490:=()
def tw16410320208395824286:=()
def tw15588527930797370984:=()
def tw12818312824871797139:=()
def tw17479522012784687609:=()
def tw9995775977072125182:=()
def tw1512776046175987733:=()
def tw16476854086398718122:=()
def tw17645190185899314956:=()
def tw11920359630711045318:=()
def tw8595229199205829505:=()
def tw14122742677460117051:=()
def tw3836720026973882641:=()
def tw2261053295357783949:=()
def tw594596821353091578:=()
def tw1253693909672040870:=()
def tw16459699789562471929:=()
def tw78610302813661409:=()
def tw18121297605628503696:=()
def tw10071766300568938173:=()
def tw9677230204906755044:=()
def tw5110461936304191094:=()
def tw1081703304405954776:=()
def tw11388956670071078617:=()
def tw2638977738651412240:=()
def tw10958125011148861194:=()
def tw18394022333039802368:=()
def tw7642063290676793780:=()
def tw6162716743381738376:=()
def tw4479294297022328471:=()
def tw12231138766246582280:=()
def tw10469736699369739126:=()
def tw5890464356816845755:=()
def tw7035976594046460269:=()
def tw2890565941337297252:=()
def tw6125210187238840254:=()
def tw576219474100548969:=()
def tw2720576546231160986:=()
def tw15254827988386664504:=()
def tw15405769170573233829:=()
def tw15277853298179795625:=()
def tw11349278807788028386:=()
def tw10129380286220605686:=()
def tw11875629458732799305:=()
def tw4222373201167178468:=()
def tw16636801788114137400:=()
def tw18209433000680501980:=()
def tw4971544896276062253:=()
def tw9189089845570037535:=()
def tw11937806896418159965:=()
def tw5309765726356549107:=()
def tw13398677634507743206:=()
def tw705889838809995500:=()
def tw17204664759528362053:=()
def tw15902217813892674429:=()
def tw5377301133211251468:=()
def tw18434903164280952144:=()
def tw11980376089147118713:=()
def tw8277502160887825366:=()
def tw6392697654579406614:=()
def tw9757138654819904865:=()
def tw9065775271652151497:=()
def tw15845765179250029190:=()
def tw18134214067960024680:=()
def tw6476330319944439083:=()
def tw3879768746237541324:=()
def tw2982486543609632145:=()
def tw16563943185257750455:=()
def tw7820385901171601559:=()
def tw7732802456697376102:=()
def tw14455268402180336224:=()
def tw10599791494843140806:=()
def tw2551948061337748236:=()
def tw7167254989405328334:=()
def tw10677865313087743842:=()
def tw13846567307183006925:=()
def tw15107894289736176852:=()
def tw15314535520119842035:=()
def tw12263239209372212630:=()
def tw6818435582396718695:=()
def tw14740344991807422047:=()
def tw5826110920274633867:=()
def tw14119831275611131587:=()
def tw5373556350138204764:=()
def tw17354532389546351925:=()
def tw7315753022007681800:=()
def tw12970985798287070596:=()
def tw3917040951046113557:=()
def tw2921632817587943086:=()
def tw8336052059610568394:=()
def tw4082170430193925104:=()
def tw6367125537779354859:=()
def tw5474543935944558707:=()
def tw16296757112680058067:=()
def tw11189280826962032855:=()
def tw13192518197477986744:=()
def tw3412380627914579626:=()
def tw2071038583589594078:=()
def tw10554267335373173473:=()
def tw16957625381795679448:=()
def tw13098015978222144669:=()
def tw6399559064345407410:=()
def tw6678232445768422233:=()
def tw10538415246799957295:=()
def tw11489886351398460212:=()
def tw2287881328595375650:=()
def tw3861051483673421442:=()
def tw5265571323600043368:=()
def tw7848355839706927484:=()
def tw6632577284163642257:=()
def tw4436833382425327301:=()
def tw9088423797011824612:=()
def tw3077436461062486297:=()
def tw5650753309916149322:=()
def tw5433276561042108374:=()
end PySem.W.Fast
end
open PySem PySem.W PyProof.Rows
set_option maxRecDepth 100000 in
set_option maxHeartbeats 0 in
theorem PySem.Challenge.cw_leastmiss_k81_whole_bent_lines_by_text_holds : PySem.Challenge.rw_leastmiss_k81_whole_bent_lines_by_text.Holds := by
  w_on;o_law;k_head;(case hw=>w_witness2)
  k_fill
  refine Lx.walkB (l:=PySem.Challenge.rw_leastmiss_k81_whole_bent_lines_by_text) (k:=15) rfl rfl ⟨rfl,by decide,by decide⟩ (λw h Y=>PySem.W.kIn_of Y) ?F
  case F=>
    intro w d e h b G a
    refine' My.all_mk b G a ?oa_Desk ?pg_Desk ?hd_Desk ?po_Desk ?sa_Desk ?mk_Desk ?kc_Desk ?na_Desk ?Fs ?Fl ?a79 ?i79 ?F79 ?a80 ?i80 ?F80 ?a81 ?i81 ?F81 ?a82 ?i82 ?F82 ?ax_MissError ?xx_MissError ?ax_NoNumber ?xx_NoNumber ?ax_NoMarks ?xx_NoMarks ?ax_NoKind ?xx_NoKind ?ax_NoBend ?xx_NoBend ?ax_NoAnswer ?xx_NoAnswer ?ax_NoText ?xx_NoText ?ax_NoName ?xx_NoName ?ax_NoRow ?xx_NoRow ?z_abs ?z_all ?z_bool ?z_int ?z_isinstance ?z_len ?z_list ?z_max ?z_min ?z_range ?z_reversed ?z_sorted ?z_str ?z_sum ?z_zip ?zc_COUNTS ?lk_COUNTS ?lt0_COUNTS ?lt1_COUNTS ?lt2_COUNTS ?lt3_COUNTS ?lt4_COUNTS ?lt5_COUNTS ?lt6_COUNTS ?lt7_COUNTS ?kl_COUNTS ?nz_COUNTS ?zc_FIGURES ?zc_KINDS ?lk_KINDS ?zc_LETTERS ?zc_MOST_BEND ?zc_MOST_FIGURES ?zc_MOST_LETTERS ?zc_MOST_MARKS ?zc_MOST_NUMBERS ?zc_MOST_STEPS ?zc_NOUGHT ?lk_NOUGHT
    (case oa_Desk=>k_is)
    (case pg_Desk=>k_is)
    (case hd_Desk=>k_is)
    (case po_Desk=>k_is)
    (case sa_Desk=>k_is)
    (case mk_Desk=>k_is)
    (case kc_Desk=>k_is)
    (case na_Desk=>k_is)
    (case Fs=>dsimp only[My.FsP,My.tb];(repeat' (first|exact trivial|apply And.intro)) <;>(refine' ⟨_,_,?xy⟩;(case xy=>refine' My.fg_mk ?xa ?xl ?xc ?xk;(case xa=>k_is);(case xl=>k_is);(case xc=>k_is);(case xk=>k_is))))
    (case Fl=>refine' My.fg_mk ?xa ?xl ?xc ?xk;(case xa=>k_is);(case xl=>k_is);(case xc=>k_is);(case xk=>k_is))
    (case a79=>k_is)
    (case i79=>k_is)
    (case F79=>refine' L2.fun_mk ?l ?c ?k;(case l=>k_is);(case c=>k_is);(case k=>k_is))
    (case a80=>k_is)
    (case i80=>k_is)
    (case F80=>refine' L2.fun_mk ?l ?c ?k;(case l=>k_is);(case c=>k_is);(case k=>k_is))
    (case a81=>k_is)
    (case i81=>k_is)
    (case F81=>refine' L2.fun_mk ?l ?c ?k;(case l=>k_is);(case c=>k_is);(case k=>k_is))
    (case a82=>k_is)
    (case i82=>k_is)
    (case F82=>refine' L2.fun_mk ?l ?c ?k;(case l=>k_is);(case c=>k_is);(case k=>k_is))
    (case ax_MissError=>k_is)
    (case xx_MissError=>k_exc)
    (case ax_NoNumber=>k_is)
    (case xx_NoNumber=>k_exc)
    (case ax_NoMarks=>k_is)
    (case xx_NoMarks=>k_exc)
    (case ax_NoKind=>k_is)
    (case xx_NoKind=>k_exc)
    (case ax_NoBend=>k_is)
    (case xx_NoBend=>k_exc)
    (case ax_NoAnswer=>k_is)
    (case xx_NoAnswer=>k_exc)
    (case ax_NoText=>k_is)
    (case xx_NoText=>k_exc)
    (case ax_NoName=>k_is)
    (case xx_NoName=>k_exc)
    (case ax_NoRow=>k_is)
    (case xx_NoRow=>k_exc)
    (case z_abs=>k_is)
    (case z_all=>k_is)
    (case z_bool=>k_is)
    (case z_int=>k_is)
    (case z_isinstance=>k_is)
    (case z_len=>k_is)
    (case z_list=>k_is)
    (case z_max=>k_is)
    (case z_min=>k_is)
    (case z_range=>k_is)
    (case z_reversed=>k_is)
    (case z_sorted=>k_is)
    (case z_str=>k_is)
    (case z_sum=>k_is)
    (case z_zip=>k_is)
    (case zc_COUNTS=>k_is)
    (case lk_COUNTS=>k_is)
    (case lt0_COUNTS=>k_is)
    (case lt1_COUNTS=>k_is)
    (case lt2_COUNTS=>k_is)
    (case lt3_COUNTS=>k_is)
    (case lt4_COUNTS=>k_is)
    (case lt5_COUNTS=>k_is)
    (case lt6_COUNTS=>k_is)
    (case lt7_COUNTS=>k_is)
    (case kl_COUNTS=>exact⟨⟨_,_,rfl,rfl⟩,⟨⟨_,_,rfl,rfl⟩,⟨⟨_,_,rfl,rfl⟩,⟨⟨_,_,rfl,rfl⟩,⟨⟨_,_,rfl,rfl⟩,⟨⟨_,_,rfl,rfl⟩,⟨⟨_,_,rfl,rfl⟩,⟨⟨_,_,rfl,rfl⟩,trivial⟩⟩⟩⟩⟩⟩⟩⟩)
    (case nz_COUNTS=>rfl)
    (case zc_FIGURES=>k_is)
    (case zc_KINDS=>k_is)
    (case lk_KINDS=>k_is)
    (case zc_LETTERS=>k_is)
    (case zc_MOST_BEND=>k_is)
    (case zc_MOST_FIGURES=>k_is)
    (case zc_MOST_LETTERS=>k_is)
    (case zc_MOST_MARKS=>k_is)
    (case zc_MOST_NUMBERS=>k_is)
    (case zc_MOST_STEPS=>k_is)
    (case zc_NOUGHT=>k_is)
    (case lk_NOUGHT=>k_is)
