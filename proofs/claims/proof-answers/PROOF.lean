import PyProof.Rows.All
import Wide.All
import OpenK.AllK
import Wide.FinOn
import PyProof.EqAt
import PyProof.EqKinds
import PyProof.TupleCall
import KE.BitLaws
import Open.SpecLaws
import KE.OsHead
import KE.OsGo
import PySem.Challenge.RW_lanemachine_s01_answers
set_option Elab.async false
set_option linter.all false
set_option maxRecDepth 100000
set_option maxHeartbeats 4000000
set_option maxHeartbeats 0
local macro_rules | `(tactic| o_law) => `(tactic| skip)
local macro_rules | `(tactic| k_head) => `(tactic| k_headS)
local macro_rules | `(tactic| w_witness2) => `(tactic| exact ⟨[.list [.int 2]], by decide +kernel, by decide +kernel⟩)
namespace Lm
open PySem PySem.W PyProof.Rows
open_top zzH for PySem.Challenge.rw_lanemachine_s01_answers
end Lm
set_option maxHeartbeats 4000000
open Bool renaming and_eq_true->eQ,eq_iff_iff->BJ,false_eq_true->IZ,false_ne_true->cW,noConfusion->kG,or_eq_false_iff->P0,or_eq_true->pK,or_false->sT
open Char renaming toNat->Ja
open Except renaming bind->i4,ok->BZ
open False renaming elim->gw
open ForInStep renaming yield->IY
open Function renaming comp->Jf
open Int renaming fmod_def->Jh,toNat_natCast->gW,toNat_of_nonneg->Jp,zero_add->vb
open List renaming all_cons->lj,all_eq_true->kH,any_cons->qM,any_nil->B_,append_assoc->lq,append_nil->dz,cons_append->B0,contains_cons->P1,dropWhile_cons->PZ,drop_drop->Jm,drop_eq_getElem_cons->qO,drop_left'->Qb,drop_length->BY,filterMap_cons->IG,filter_congr->P6,filter_cons->Jg,find?_cons->I_,flatMap_cons->P2,flatten_cons->uY,foldl_append->Qj,foldl_cons->uZ,getElem?_append_left->PQ,getElem?_append_right->PN,getElem?_eq_getElem->eI,getElem?_eq_none->pG,getElem?_eq_some_iff->dy,getElem?_map->dH,getElem?_of_mem->lC,getElem?_range->qQ,getElem?_replicate->BR,getElem?_set_ne->uT,getElem?_set_self->uS,getElem?_take_of_lt->afg,getElem_mem->x6,length->jX,length_append->bU,length_cons->cI,length_drop->kF,length_eq_zero_iff->P9,length_filter_le->B9,length_map->bx,length_nil->eJ,length_range->iy,length_replicate->qK,length_set->gV,length_take->jY,lookup->oy,lookup_cons->u1,map_append->iw,map_congr_left->pJ,map_cons->i0,map_id->Jk,map_map->iO,map_nil->IU,map_replicate->Qk,map_set->u7,mem_append->gO,mem_append_left->IH,mem_append_right->mX,mem_cons->cC,mem_cons_of_mem->fD,mem_cons_self->iL,mem_filter->BF,mem_map->mY,mem_of_getElem?->d7,mem_range->qG,mem_replicate->x8,mem_singleton->oA,nil_append->sU,nodup_append->u6,nodup_cons->fE,of_mem_zip->IP,range->cB,replicate->cZ,replicate_succ->xT,set_eq_of_length_le->afi,size_toArray->fN,sum_cons->u5,take_append_drop->P8,take_left'->Qa,take_length->oE,take_of_length_le->IV,take_succ_cons->xY
open List.cons renaming inj->oB
open Nat renaming le_of_eq->BL,le_of_lt->xO,le_of_succ_le->IX,le_refl->bE,le_succ->BP,le_trans->dw,lt_irrefl->iK,lt_of_le_of_lt->BX,lt_of_lt_of_le->ej,lt_or_ge->B1,lt_succ_of_lt->PV,lt_succ_self->BN,min_eq_left->Jq,min_le_right->PR,ne_of_gt->IJ,ne_of_lt->iu,not_lt_zero->Jd,pow_succ->Je,toDigits->xW,zero_le->eV
open Option renaming getD_some->P5,isSome_iff_exists->xS,map_some->P4
open Option.some renaming inj->f9
open Or renaming inl->aZ
open PyFlat renaming call->Ji,calls->sY,played->P_,told->B3
open PyProof.Rows renaming AllBare->sL,callWith_type1->Pu,RelV->b8,ite_bool->j7,join_one->gQ
open PySem renaming Addr->ae,Around->cQ,DictEntry->yb,Expr->bz,FuncData->bK,Heap->aC,NameKind->jw,Program->aS,Within->xN,mem_of_lookup->jZ,Scope->d6,Shared->aq,Stmt->cD,Value->ah,World->aL,attributeBase->oz,backTo->f_,backToKw->sQ,behindInMarks->sM,binaryOp->ou,bindArgs->qI,bootBuiltins->mU,boot_len->gj,builtinsNs->BG,cameBackBy->yd,cellsFrom->gP,codeAny->pF,codeAny_mono->xQ,compEnvC->ly,compareOp->kE,excClassObj->m_,foldedSetIterable->BI,keywordEach->sR,letOwnedTupleGo->IK,mainGlobals->mQ,noteFrame->u4,notedBy->pH,plainObj_wpAny_Assign_Attribute->PD,pushCells->sV,pushCells_keeps->IW,rawInt->gF,setFlight->ya,sizeLine_eq->aR,sliceBounds->uX,starEach->cG,swapsWith->sO,typeIs_str->BS,typeLookup->qL,wpAny->aW,wpAny_Call_Name_kw->qJ,wpAny_bind->cg,wpAny_call->BO,wpAny_execs_nil->sN,wpAny_field->sZ,wpAny_holding->II,wpAny_isSubtype_exc->Qc,wpAny_loadPart_at->pL,wpAny_mono->fM,wpAny_passesOwn->uU,wpAny_pure->gc,wpAny_setField->Jn,wpAny_standAt->BH,wpAny_truthy_bool->qH,wpAny_typeLookup_exc->x9
open PySem.Around renaming under->PH
open PySem.Builtin.List renaming listTooLong->IT
open PySem.Builtin.Range renaming rangeSize->aff
open PySem.Builtin.Str renaming strSliceIndices->qN
open PySem.Calls renaming Name_function_global->afe,callWith_builtin->IS,evalArgs_plain->PU,spliced_cons->PL,spliced_nil->PK
open PySem.Challenge renaming rw_lanemachine_s01_answers->afp
open PySem.EntryCells renaming newEntry->afm
open PySem.F renaming plainAttrs_list->i5,slot_dict_get->afo,slot_list_append->lD,slot_list_extend->Cb,store_Exception->afn,type_list_append->lE,type_list_extend->Cc
open PySem.Heap renaming SameBut->xP,get?_none_of_le->Pt,get?_push_of_some->eO,get?_push_size->iM,get?_update_other->uW,get?_update_self->BV,lt_size->cY,size_push->lh
open PySem.Heap.Ns1 renaming of_empty->PB
open PySem.NameKind renaming cell->PX,free->xU
open PySem.NumText renaming digitsVal->afl
open PySem.Obj renaming data_mapFields->B5,isFreed_of_fields->Qe,mapFields->x_,mapSeq->BU
open PySem.PassesOwn renaming never->j6
open PySem.SeqAt.EqAt renaming int_str->afc,str_int->afd
open PySem.Str renaming empty->sP,ofString->bV
open PySem.StrLaws renaming sliceText->xX
open PySem.Txt renaming isdigit->Jb,join->xV
open PySem.Unicode renaming isDigit->Jr
open PySem.Value renaming bool->xM,builtin->B4,none->iZ,ref->di,type->uR
open PySem.W renaming CodeHd->B6,Frag->az,callWith_K->xR,cellsFrom_some->PM,codeIn->sS,emptyDict->jW,findIn->jv,fnOf->j0,hasDictIn->IM,instObj->sJ,isFn->uV,keepIn->iN,kla_fn->Qh,kla_obj->Qg,length_le_weightAllW->afh,lookIn->IL,makesIn->Pz,methodCall_KW->PF,methodObj->Pr,mg_of->kK,nsIn->lB,ns_none_of->u_,plainGet->BK,plainGet_of->Pw,plainOver->Px,tabObj->yc,tab_of->Qm,takerIn->Py,WellAll->sW
open PySem.W.Codec renaming denoteAll->PY,encAll->BW
open PySem.W.WData renaming weightAll->Jc
open PyVaarrj renaming answers->Jl,answers_asked->P',shape->mZ,whole->P7
open Sum renaming inl->sI,inr->kC
open Vaarrj renaming Block->c6,Instr->cw,Machine->bj,ReadBlock->gH,Text->aM,Toks->aX,ABSENT->tq,Answer->Cd,BIG->oC,Code->Ca,DOMAIN->ng,GREAT->qS,LIMIT->Ql,NONE->Jt,Run->yf,ZERO->vc,also->j3,arrayNumber->yk,below->nj,codeText->yj,fresh->tj,good->B7,isTruth->jx,load->tu,mapCall->ym,mapText->pM,no->i6,onCode->eR,opAt->yi,opName->fO,ops1->s_,ops2->eX,readCode->Ju,reg->qP,runCode->Jv,setMask->Jo,setVec->B8,sign->Js,signedText->oF,small->ye,str->aE,told->j8,truth->Qi,arrayOf->dJ,digitsFrom->x5,doAll->eW,doOne->cx,elementOf->yg,firstFault->yh,instrText->gf,laneNumber->sX,laneOf->bP,maskText->kI,onIn->fk,plainInstr->gG,scalarOf->dI,tokensIn->je,vecOf->c8,writeLanes->B2
open Vaarrj.Block renaming cons->x4,size->lA
open Vaarrj.Instr renaming for_->xZ,size->eB,when->j5
open VaarrjNeutral renaming asked1->afk,encode->kJ,natural->afj,step->qR,text->Jj,whole60->u9
namespace L2
open PySem PySem.Spec PyProof.Rows
abbrev Key:=Sum Int Str
def qT:Key->ah->Bool
 | .inl k,v=>ah.isInt k v
 | .inr x,v=>ah.isStrOf x v
def Jw(w:aL):Key->Int
 | .inl k=>hashInt k
 | .inr x=>hashStr w x
theorem nk:∀{k:Key} {v:ah},qT k v=true->(∃i t,k=sI i/\v=ah.int i t)\/(∃x t,k=kC x/\v=ah.str x t)
 | .inl i,v,h=>by
   obtain⟨t,e⟩:=ah.isInt_shape (k:=i) (v:=v) h;exact .inl ⟨i,t,rfl,e⟩
 | .inr x,v,h=>by
   obtain⟨t,e⟩:=ah.isStrOf_shape (x:=x) (v:=v) h;exact .inr ⟨x,t,rfl,e⟩
theorem Qn(i:Int)(t:Tok):qT (.inl i) (.int i t)=true:=by simp[qT,ah.isInt]
theorem Qo(x:Str)(t:Tok):qT (.inr x) (.str x t)=true:=by simp[qT,ah.isStrOf]
theorem Qp(a b:Int):decide ((sI a:Key)=sI b)=(a==b):=by
 by_cases e:a=b
 ·subst e;simp
 ·have h: ¬(sI a:Key)=sI b:=λq=>e (sI.inj q);rw[decide_eq_false h];exact(beq_eq_false_iff_ne.mpr e).symm
theorem Qq(a b:Str):decide ((kC a:Key)=kC b)=decide (a=b):=by
 by_cases e:a=b
 ·subst e;simp
 ·have h: ¬(kC a:Key)=kC b:=λq=>e (kC.inj q);rw[decide_eq_false h,decide_eq_false e]
theorem Qr(a:Int)(b:Str):decide ((sI a:Key)=kC b)=false:=decide_eq_false (λq=>nomatch q)
theorem Qs(a:Str)(b:Int):decide ((kC a:Key)=sI b)=false:=decide_eq_false (λq=>nomatch q)
def i7(prog:aS)(w:aL):PySem.KeyKind prog w Key where
 is:=qT
 hash:=Jw w
 inj:=λv a b ha hb=>by
  rcases nk ha with⟨i,t,rfl,rfl⟩|⟨x,t,rfl,rfl⟩
  ·rcases nk hb with⟨j,u,rfl,e⟩|⟨y,u,rfl,e⟩
   ·injection e with e1 _;rw[e1]
   ·exact nomatch e
  ·rcases nk hb with⟨j,u,rfl,e⟩|⟨y,u,rfl,e⟩
   ·exact nomatch e
   ·injection e with e1 _;rw[e1]
 byValue:=λk v h=>by
  rcases nk h with⟨i,t,rfl,rfl⟩|⟨x,t,rfl,rfl⟩<;>rfl
 pyHash:=λhv h=>by
  rcases nk hv with⟨i,t,rfl,rfl⟩|⟨x,t,rfl,rfl⟩
  ·exact wpAny_pyHash_int h
  ·exact wpAny_pyHash_str h
 eqBool:=λhu hv h=>by
  rcases nk hu with⟨i,t,rfl,rfl⟩|⟨x,t,rfl,rfl⟩
  ·rcases nk hv with⟨j,u,rfl,rfl⟩|⟨y,u,rfl,rfl⟩
   ·rw[Qp] at h;exact wpAny_eqBool_int h
   ·rw[Qr] at h;exact afc i t y u _ _ _ _ h
  ·rcases nk hv with⟨j,u,rfl,rfl⟩|⟨y,u,rfl,rfl⟩
   ·rw[Qs] at h;exact afd x t j u _ _ _ _ h
   ·rw[Qq] at h;exact wpAny_eqBool_str h
 «strs»:=λk x t v h=>by
  rcases nk h with⟨i,u,rfl,e⟩|⟨y,u,rfl,e⟩
  ·exact nomatch e
  ·injection e with e1 _
   subst e1;cases v<;>rfl
theorem Qt(prog:aS)(w:aL)(i:Int)(t:Tok):(i7 prog w).is (.inl i) (.int i t)=true:=Qn i t
theorem Qu(prog:aS)(w:aL)(x:Str)(t:Tok):(i7 prog w).is (.inr x) (.str x t)=true:=Qo x t
inductive V where
 |aO|bl (b:Bool)|int (i:Int)|str (x:Str)|iP (b:Array UInt8)|vd (b:UInt64)|ref (a:ae)|ty (n:String)
 deriving DecidableEq
def b8:V->ah->Prop
 | .aO,u=>u=iZ
 | .bl b,u=>u=xM b
 | .int i,u=>∃t,u=ah.int i t
 | .str x,u=>∃t,u=ah.str x t
 | .iP b,u=>∃t,u=ah.bytes b t
 | .vd b,u=>∃t,u=ah.float b t
 | .ref a,u=>u=di a
 | .ty n,u=>u=uR n
abbrev Vals:List V->List ah->Prop:=Paired b8
theorem Vals.length{xs:List V}{us:List ah}(r:Vals xs us):xs.length=us.length:=Paired.length r
theorem Vals.get:∀{xs:List V} {us:List ah} {i:Nat} {x:V},Vals xs us->xs[i]? =some x->∃u,us[i]? =some u/\b8 x u
 |_,_,_,_,.nil,e=>by simp at e
 |_,_,0,_,.cons r _,e=>by simp at e;subst e;exact⟨_,rfl,r⟩
 |_,_,i+1,x,.cons _ t,e=>by
  obtain⟨u,h1,h2⟩:=Vals.get (i:=i) (x:=x) t (by simpa using e)
  exact⟨u,by simpa using h1,h2⟩
theorem Vals.set{x:V}{u:ah}(r:b8 x u):∀{xs:List V} {us:List ah} (i:Nat),Vals xs us->Vals (xs.set i x) (us.set i u)
 |_,_,_,.nil=>.nil
 |_,_,0,.cons _ t=>.cons r t
 |_,_,i+1,.cons q t=>.cons q (Vals.set r i t)
theorem Vals.append:∀{xs ys:List V} {us ws:List ah},Vals xs us->Vals ys ws->Vals (xs++ys) (us++ws)
 |_,_,_,_,.nil,s=>s
 |_,_,_,_,.cons r t,s=>.cons r (Vals.append t s)
theorem Vals.take:∀{xs:List V} {us:List ah} (n:Nat),Vals xs us->Vals (xs.take n) (us.take n)
 |_,_,0,_=>.nil
 |_,_,_+1,.nil=>.nil
 |_,_,n+1,.cons r t=>.cons r (Vals.take n t)
theorem Vals.drop:∀{xs:List V} {us:List ah} (n:Nat),Vals xs us->Vals (xs.drop n) (us.drop n)
 |_,_,0,r=>r
 |_,_,_+1,.nil=>.nil
 |_,_,n+1,.cons _ t=>Vals.drop n t
def gx:Option V->Option ah->Prop
 |some v,some u=>b8 v u
 |none,none=>True
 |_,_=>False
def KV{κ:Type}:List (κ×V)->List (κ×ah)->Prop:=Paired λ(p:κ×V) (q:κ×ah)=>p.1=q.1/\b8 p.2 q.2
def kV:Key->V
 | .inl i=>.int i
 | .inr x=>.str x
inductive HO where
 |lst (xs:List V)
 |tup (xs:List V)
 |dK (kvs:List (Key×V))|dT (kvs:List (List Key×V))
 |set (S:Int->Bool) (n:Nat)
 |ins (C dx:ae) (fs:List (Str×V))
 |own (x:ae)
 |xd (fs:List (Str×V))
 |met (f x:ae)
 |kL (lo hi:Int)
 |gX (o:Obj) (u:HO)
 |dM (ps:Array ah)
 |ext (φ:aC->Prop)
abbrev Hp:=ae->Option HO
def upd(H:Hp)(a:ae)(o:HO):Hp:=λb=>if b=a then some o else H b
theorem aB{H:Hp}{a:ae}{o:HO}:upd H a o a=some o:=by unfold upd;rw[if_pos rfl]
theorem ak{H:Hp}{a b:ae}{o:HO}(h:b≠a):upd H a o b=H b:=by unfold upd;rw[if_neg h]
theorem cE{H:Hp}{a b:ae}{o u:HO}(h:H a=some o)(h':H b=some u)(d:o≠u):a≠b:=by
 intro e;subst e;rw[h] at h';exact d (f9 h')
theorem bD{H:Hp}{a b:ae}{o:HO}(h:H a=some o)(h':H b=none):a≠b:=by
 intro e;subst e;rw[h] at h';cases h'
section
variable(P:aS)(w:aL)
def df(H:Hp)(h:aC)(a:ae):HO->Prop
 | .lst xs=>xs.length<=sizeLine/\ ∃(aH:List ah) (n:Nat),Vals xs aH/\h.get? a=some {cls:=.type "list",data:=.seq aH.toArray n}
 | .tup xs=>xs.length<=sizeLine/\ ∃aH:List ah,Vals xs aH/\IsTup h a aH.toArray
 | .dK kvs=>kvs.length<=sizeLine/\ (a==sysModules)=false/\ ∃vs,KV kvs vs/\h.DictOf (i7 P w) a vs
 | .dT kvs=>kvs.length<=sizeLine/\ (a==sysModules)=false/\ ∃xs:List (List Key×ae×ah),
    Paired (λ(p:List Key×V) (q:List Key×ae×ah)=>p.1=q.1/\H q.2.1=some (.tup (p.1.map kV))/\b8 p.2 q.2.2) kvs xs/\
    ∃o es ep,h.get? a=some o/\o.ExactDict/\o.data=.dict es ep/\es.toList=xs.map (entryOfKey (tupleKind (i7 P w)))/\ (xs.map (·.1)).Nodup
 | .set S n=>h.SetOf (intKind P w) a S n
 | .ins C dx fs=>H dx=some (.own a)/\fs.length<=1000/\dx≠a/\h.get? a=some (sJ C dx)/\
    ∃mA,h.Ns1 dx mA/\ (∀f,gx (fs.lookup f) (mA f))/\xN mA (fs.map (·.1))
 | .own _=>∃o,h.get? a=some o
 | .xd fs=>∃mA,h.Ns1 a mA/\ ∀f,gx (fs.lookup f) (mA f)
 | .kL lo hi=>∃t u v,h.get? a=some {cls:=.type "range",data:=.fields #[.int lo t,.int hi u,.int 1 v]}
 | .gX o u=>h.get? a=some o/\df H h a u
 | .dM ps=>h.get? a=some {cls:=.none,data:=.fields ps}
 | .met f x=>h.get? a=some (Pr (.ref f) (.ref x))
 | .ext φ=>φ h/\ (∃o,h.get? a=some o)/\ ∀h1 h2:aC,φ h1->(∀o,h1.get? a=some o->h2.get? a=some o)->φ h2
def c9(H:Hp)(h:aC):Prop:=∀a o,H a=some o->df P w H h a o
end
section
variable{P:aS}{w:aL}{H H':Hp}{h h':aC}{a:ae}{o:HO}
theorem df.lt(x:df P w H h a o):a<h.objs.size:=by
 cases o with
 |lst xs=>obtain⟨_,_,_,_,e⟩:=x;exact cY e
 |tup xs=>obtain⟨_,_,_,p⟩:=x;exact p.lt
 |dK kvs=>obtain⟨_,_,_,_,o,_,_,e,_⟩:=x;exact cY e
 |dT kvs=>obtain⟨_,_,_,_,o,_,_,e,_⟩:=x;exact cY e
 |set S n=>obtain⟨o,_,_,_,e,_⟩:=x;exact cY e
 |ins C dx fs=>obtain⟨_,_,_,e,_⟩:=x;exact cY e
 |own y=>obtain⟨_,e⟩:=x;exact cY e
 |xd fs=>obtain⟨_,⟨_,_,_,e,_⟩,_⟩:=x;exact cY e
 |kL lo hi=>obtain⟨_,_,_,e⟩:=x;exact cY e
 |gX ob u=>obtain⟨e,_⟩:=x;exact cY e
 |dM ps=>exact cY (show h.get? a=some _ from x)
 |met f y=>exact cY (show h.get? a=some _ from x)
 |ext φ=>obtain⟨_,⟨_,e⟩,_⟩:=x;exact cY e
theorem Paired.Jx{α β:Type}{F G:α->β->Prop}:∀{l₁:List α} {l₂:List β},Paired F l₁ l₂->(∀a b,F a b->G a b)->Paired G l₁ l₂
 |_,_,.nil,_=>.nil
 |_,_,.cons r t,f=>.cons (f _ _ r) (Paired.Jx t f)
theorem df.nq(x:df P w H h a o)(k:∀b u,(b=a\/H b=some (.own a))->h.get? b=some u->h'.get? b=some u)
 (ho:∀b,H b=some (.own a)->H' b=some (.own a)) (ht:∀b xs,H b=some (.tup xs)->H' b=some (.tup xs)):df P w H' h' a o:=by
 induction o with
 |lst xs=>obtain⟨z,aH,n,r,e⟩:=x;exact⟨z,aH,n,r,k _ _ (.inl rfl) e⟩
 |tup xs=>obtain⟨z,aH,r,ob,e,c⟩:=x;exact⟨z,aH,r,ob,k _ _ (.inl rfl) e,c⟩
 |dK kvs=>obtain⟨z,y,vs,r,ob,es,ep,e,c⟩:=x;exact⟨z,y,vs,r,ob,es,ep,k _ _ (.inl rfl) e,c⟩
 |dT kvs=>
  obtain⟨z,y,xs,r,ob,es,ep,e,c⟩:=x;exact⟨z,y,xs,Paired.Jx r λp q z=>⟨z.1,ht _ _ z.2.1,z.2.2⟩,ob,es,ep,k _ _ (.inl rfl) e,c⟩
 |set S n=>obtain⟨ob,es,ep,t,e,c⟩:=x;exact⟨ob,es,ep,t,k _ _ (.inl rfl) e,c⟩
 |ins C dx fs=>
  obtain⟨d,z,ne,e,mA,⟨od,es,ep,e2,c⟩,r⟩:=x;exact⟨ho _ d,z,ne,k _ _ (.inl rfl) e,mA,⟨od,es,ep,k _ _ (.inr d) e2,c⟩,r⟩
 |own y=>obtain⟨ob,e⟩:=x;exact⟨ob,k _ _ (.inl rfl) e⟩
 |xd fs=>obtain⟨mA,⟨od,es,ep,e,c⟩,r⟩:=x;exact⟨mA,⟨od,es,ep,k _ _ (.inl rfl) e,c⟩,r⟩
 |kL lo hi=>obtain⟨t,u,v,e⟩:=x;exact⟨t,u,v,k _ _ (.inl rfl) e⟩
 |gX ob u ih=>obtain⟨e,q⟩:=x;exact⟨k _ _ (.inl rfl) e,ih q⟩
 |dM ps=>
  have e:h.get? a=some {cls:=.none,data:=.fields ps}:=x;show h'.get? a=some {cls:=.none,data:=.fields ps};exact k a _ (.inl rfl) e
 |met f y=>
  have e:h.get? a=some (Pr (.ref f) (.ref y)):=x;show h'.get? a=some (Pr (.ref f) (.ref y));exact k a _ (.inl rfl) e
 |ext φ=>obtain⟨p,⟨o,e⟩,st⟩:=x;exact⟨st _ _ p λo q=>k _ _ (.inl rfl) q,⟨o,k _ _ (.inl rfl) e⟩,st⟩
theorem c9.lt(x:c9 P w H h)(e:H a=some o):a<h.objs.size:=(x a o e).lt
theorem c9.fresh(x:c9 P w H h)(e:h.objs.size<=a):H a=none:=by
 cases q:H a with
 |none=>rfl
 |some u=>exact absurd (ej (x.lt q) e) (iK _)
theorem c9.kept(x:c9 P w H h)(k:∀b u,h.get? b=some u->h'.get? b=some u):c9 P w H h':=λa o e=>
 (x a o e).nq (λb u _ q=>k b u q) (λ_ q=>q) λ_ _ q=>q
theorem c9.laid(x:c9 P w H h)(k:∀b u,h.get? b=some u->h'.get? b=some u)(hp:h.objs.size<=a)(new:df P w (upd H a o) h' a o):c9 P w (upd H a o) h':=λb u e=>by
 have hn:=x.fresh hp;by_cases hb:b=a
 ·subst hb;rw[aB] at e;cases e;exact new
 ·rw[ak hb] at e;exact(x b u e).nq (λc v _ q=>k c v q) (λc q=>by rw[ak (bD q hn)];exact q) λc xs q=>by rw[ak (bD q hn)];exact q
end
def Rd(H:Hp)(a:ae)(u:HO):Prop:=H a=some u\/∃o,H a=some (.gX o u)
theorem Rd.ok{P:aS}{w:aL}{H:Hp}{h:aC}{a:ae}{u:HO}(r:Rd H a u)(x:c9 P w H h):df P w H h a u:=by
 rcases r with r|⟨o,r⟩
 ·exact x a u r
 ·obtain⟨_,q⟩:=x a _ r;exact q
def yn:Option HO->Prop
 |some (.lst _)=>True
 |some (.dK _)=>True
 |some (.dT _)=>True
 |some (.set _ _)=>True
 |some (.ins _ _ _)=>True
 |some (.ext _)=>True
 |_=>False
section
variable{P:aS}{w:aL}{H:Hp}{h h':aC}{x e:ae}{o':HO}
theorem c9.write(ok:c9 P w H h)(mu:yn (H x))(he:e=x\/H e=some (.own x))(k:∀b u,b≠e->h.get? b=some u->h'.get? b=some u)(tD:∃u,h'.get? e=some u)
 (new:df P w (upd H x o') h' x o'):c9 P w (upd H x o') h':=λb u q=>by
 have Jy:∀c y,H c=some (.own y)->c≠x:=λc y r z=>by subst z;rw[r] at mu;exact mu
 have Qv:∀c xs,H c=some (.tup xs)->c≠x:=λc xs r z=>by subst z;rw[r] at mu;exact mu
 by_cases hb:b=x
 ·subst hb;rw[aB] at q;cases q;exact new
 ·rw[ak hb] at q;by_cases j9:b=e
  ·have q':H b=some (.own x):=by
    rcases he with z|z
    ·exact absurd (j9.trans z) hb
    ·rw[j9];exact z
   rw[q] at q';cases q';obtain⟨v,hv⟩:=tD;exact⟨v,by rw[j9];exact hv⟩
  ·refine(ok b u q).nq (λc v hc r=>k c v ?_ r) (λc r=>by rw[ak (Jy c b r)];exact r) λc xs r=>by rw[ak (Qv c xs r)];exact r
   rcases hc with rfl|hc
   ·exact j9
   ·rintro rfl;rcases he with z|z
    ·exact Jy c b hc z
    ·rw[hc] at z;cases z;exact hb rfl
end
structure Un(fs ex:List ae)(H H':Hp)(h h':aC):Prop where
 keep:∀b o,h.get? b=some o->H b=none->b∉fs->b∉ex->h'.get? b=some o
 slot:∀b o,h.get? b=some o->H b=none->b∈fs->b∉ex->∃sl,h'.get? b=some {o with slots:=sl}
 free:∀b o,h.get? b=some o->H b=none->b∉ex->H' b=none
 there:∀b o,h.get? b=some o->b∉ex->∃o',h'.get? b=some o'
 jy:∀b xs,H b=some (.tup xs)->H' b=some (.tup xs)
 jf:∀b o u,H b=some (.gX o u)->H' b=some (.gX o u)
 jz:∀b ps,H b=some (.dM ps)->∃more,H' b=some (.dM (ps++more))
section
variable{fs Qw ex ex':List ae}{H H1 H2:Hp}{h h1 h2 h':aC}{a x e:ae}{o:HO}
theorem Un.any(u:Un fs ex H H1 h h1){b:ae}{ob:Obj}(q:h.get? b=some ob)(n:H b=none)(hx:b∉ex):∃sl,h1.get? b=some {ob with slots:=sl}:=by
 by_cases hb:b∈fs
 ·exact u.slot b ob q n hb hx
 ·exact⟨ob.slots,u.keep b ob q n hb hx⟩
theorem Un.kept(k:∀b u,h.get? b=some u->h'.get? b=some u):Un fs ex H H h h':=
 ⟨λb ob q _ _ _=>k b ob q,λb ob q _ _ _=>⟨ob.slots,k b ob q⟩,λ_ _ _ n _=>n,λb ob q _=>⟨ob,k b ob q⟩,λ_ _ q=>q,λ_ _ _ q=>q,λ_ ps q=>⟨#[],by rw[q];simp⟩⟩
theorem Un.refl:Un fs ex H H h h:=Un.kept λ_ _ q=>q
theorem Un.laid(k:∀b u,h.get? b=some u->h'.get? b=some u)(hp:h.objs.size<=a)(hn:H a=none):Un fs ex H (upd H a o) h h' where
 keep:=λb u q _ _ _=>k b u q
 slot:=λb u q _ _ _=>⟨u.slots,k b u q⟩
 free:=λb u q n _=>by rw[ak (iu (ej (cY q) hp))];exact n
 there:=λb u q _=>⟨u,k b u q⟩
 jy:=λb xs q=>by rw[ak (bD q hn)];exact q
 jf:=λb u xs q=>by rw[ak (bD q hn)];exact q
 jz:=λb ps q=>⟨#[],by rw[ak (bD q hn),q];simp⟩
theorem Un.write(mu:yn (H x))(he:e=x\/H e=some (.own x))(k:∀b u,b≠e->h.get? b=some u->h'.get? b=some u)(tD:∃u,h'.get? e=some u):Un fs ex H (upd H x o) h h':=by
 have hx:∀b,H b=none->b≠x:=λb n z=>by subst z;rw[n] at mu;exact mu
 have hb:∀b,H b=none->b≠e:=λb n z=>by
  subst z;rcases he with r|r
  ·exact hx b n r
  ·rw[n] at r;cases r
 have hm:∀b u,H b=some u-> ¬yn (some u)->b≠x:=λb u q nm z=>by subst z;rw[q] at mu;exact nm mu
 refine⟨λb u q n _ _=>k b u (hb b n) q,λb u q n _ _=>⟨u.slots,k b u (hb b n) q⟩,λb u q n _=>by rw[ak (hx b n)];exact n,λb u q _=> ?_,
  λb xs q=>by rw[ak (hm b _ q λz=>z)];exact q,λb u xs q=>by rw[ak (hm b _ q λz=>z)];exact q,λb ps q=>⟨#[],by rw[ak (hm b _ q λz=>z),q];simp⟩⟩
 by_cases j9:b=e
 ·subst j9;exact tD
 ·exact⟨u,k b u j9 q⟩
end
def qU(h:aC)(H:Hp):List ae:=(cB h.objs.size).filter λa=>(H a).isSome
def ny(h:aC)(H:Hp):aC:=PySem.W.hideAll h (qU h H)
theorem Qx(h:aC)(H:Hp):(ny h H).objs.size=h.objs.size:=PySem.W.hideAll_size _ _
theorem Qy{h:aC}{H:Hp}{b:ae}{o:Obj}(e:h.get? b=some o)(n:H b=none):(ny h H).get? b=some o:=
 PySem.W.hideAll_get _ e λhm=>by
  have q:(H b).isSome=true:=(BF.mp hm).2;rw[n] at q;simp at q
theorem Qz{h:aC}{H:Hp}{b:ae}{o:Obj}(e:(ny h H).get? b=some o):h.get? b=some o/\H b=none:=by
 have e':h.get? b=some o:=PySem.W.of_hideAll (qU h H) e;refine⟨e',?_⟩;cases q:H b with
 |none=>rfl
 |some x=>
  have hm:b∈qU h H:=BF.mpr ⟨qG.mpr (cY e'),by simp[q]⟩
  have z:(ny h H).get? b=none:=PySem.W.hideAll_none (qU h H) hm;rw[z] at e;cases e
def QA(g h:aC)(L:ae):List (ae×Obj):=(cB h.objs.size).filterMap λa=>if a=L\/(g.get? a).isSome=true then none else(h.get? a).map λo=>(a,o)
def rest(g h:aC)(L d:ae):List (ae×Obj):=(QA g h L).filter λp=>decide (p.1≠d)
structure Mod(K:az)(mg:Str->Option ah)(base:aC):Prop where
 dA:K.In base
 glob:base.Ns mQ mg
 blt:∃mb,base.Ns BG mb/\ ∀x:Str,x≠"__name__"->mb x=mU x
 nolimit:base.NoLimit
structure Cx where
 prog:aS
 w:aL
 K:az
 mg:Str->Option ah
 base:aC
 A:cQ
 N:List Str
 dB:aq
 tE:Hp
 env:Env
 outer:List Env
 stack:List Env
 ex:List ae
 fn:Str->Bool
 calm:Bool
 pn:List (ae×Obj)
 xe:ah->aq->Prop
def jA(l:List Env):List ae:=l.filterMap (·.frame)
abbrev Cx.fs(X:Cx):List ae:=jA X.outer
def pN(sc:d6)(x:Str):Prop:=sc.names.lookup x=some .local\/sc.names.lookup x=some .cell\/sc.names.lookup x=some .free
def Loc(sc:d6)(x:Str):Prop:=sc.names.lookup x=some .local\/sc.names.lookup x=some .cell
def Look(env:Env)(h:aC)(m:Str->Option ah)(x:Str)(u:ah):Prop:=
 (env.kindOf x=some .local/\m x=some u)\/((env.kindOf x=some .cell\/env.kindOf x=some .free)/\ ∃c,env.cells.lookup x=some c/\h.IsCell c (some u))
structure Cx.Ok(X:Cx):Prop where
 mod:Mod X.K X.mg X.base
 kind:X.env.scope.kind=.function
 glob:X.env.globals=mQ
 blt:X.env.builtins=BG
 above:X.dB.heap.objs.size<=X.env.locals
 inj:∀x y c,X.env.cells.lookup x=some c->X.env.cells.lookup y=some c->x=y
 has:∀x,(X.env.kindOf x=some .cell\/X.env.kindOf x=some .free)->∃c,X.env.cells.lookup x=some c
 pO:∀x c,X.fn x=true->X.env.cells.lookup x=some c->X.dB.heap.objs.size<=c
 hd:X.calm=true->X.A.handled=none
 frames:X.A.frames=some X.stack
 qV:X.stack=X.outer\/(X.stack=X.env::X.outer/\X.env.frame=some X.env.locals)
 qW:∀b∈X.ex,b≠X.env.locals/\ ∀x c,X.env.cells.lookup x=some c->c≠b
 bs:∀b o,X.base.get? b=some o->X.dB.heap.get? b=some o/\X.tE b=none
 j_:X.base.objs.size<=X.dB.heap.objs.size
 pP:∀b o,X.base.get? b=some o->b∉X.ex
 pQ:∀b∈X.ex,b∉X.fs
 jg:X.dB.heap.FunFrames X.base X.outer
 nz:∀b∈X.fs,X.tE b=none
structure Inv(X:Cx)(pins:List (ae×Obj))(σ:List (Option V))(H:Hp)(s:aq):Prop where
 ok:X.Ok
 os:s.os=X.dB.os
 bare:sL s.gens
 base:Un X.fs X.ex X.tE H X.dB.heap s.heap
 loc:∃m,s.heap.Ns X.env.locals m/\ ∀(i:Nat) (x:Str) (v:V),X.N[i]? =some x->σ[i]? =some (some v)->pN X.env.scope x->∃u,b8 v u/\Look X.env s.heap m x u
 cell:∀x c,X.env.cells.lookup x=some c->∃v,s.heap.IsCell c v
 free:H X.env.locals=none
 gY:∀x c,X.env.cells.lookup x=some c->H c=none
 pin:∀p∈X.pn++pins,s.heap.get? p.1=some p.2/\H p.1=none/\p.1≠X.env.locals/\p.1∉X.fs/\ ∀v,p.2.data≠ .cell v
 aU:c9 X.prog X.w H s.heap
 len:σ.length=X.N.length
section
variable{X:Cx}{pins:List (ae×Obj)}{σ:List (Option V)}{H H':Hp}{s:aq}{h':aC}
theorem Cx.Ok.QB(ok:X.Ok){b:ae}{o:Obj}(e:X.base.get? b=some o):b∉X.fs:=λhb=>by
 have:=(ok.jg.mem hb).1;rw[e] at this;cases this
theorem Inv.bs(I:Inv X pins σ H s):∀b o,X.base.get? b=some o->s.heap.get? b=some o/\H b=none:=λb o e=>
 ⟨I.base.keep b o (I.ok.bs b o e).1 (I.ok.bs b o e).2 (I.ok.QB e) (I.ok.pP b o e),I.base.free b o (I.ok.bs b o e).1 (I.ok.bs b o e).2 (I.ok.pP b o e)⟩
theorem Inv.bk(I:Inv X pins σ H s):∀b o,X.base.get? b=some o->s.heap.get? b=some o:=λb o e=>(I.bs b o e).1
theorem Inv.mod(I:Inv X pins σ H s):Mod X.K X.mg X.base:=I.ok.mod
theorem Inv.dm(I:Inv X pins σ H s):X.K.In s.heap:=I.ok.mod.dA.keeps I.bk
theorem Inv.nolimit(I:Inv X pins σ H s):s.heap.NoLimit:=I.ok.mod.nolimit.keeps I.bk
theorem Inv.fr(I:Inv X pins σ H s):∃m,Fr X.base X.env.locals s.heap m:=
 let ⟨m,hn,_⟩:=I.loc
 ⟨m,hn,I.bk,dw I.ok.j_ I.ok.above⟩
theorem Inv.lt(I:Inv X pins σ H s):X.env.locals<s.heap.objs.size:=let ⟨_,hn,_⟩:=I.loc;hn.lt
theorem Inv.sz(I:Inv X pins σ H s):X.dB.heap.objs.size<=s.heap.objs.size:=dw I.ok.above (xO I.lt)
theorem Inv.Jz(I:Inv X pins σ H s){a:ae}(h:s.heap.objs.size<=a):a∉X.fs:=λhb=>by
 obtain⟨_,o,ho,_⟩:=I.ok.jg.mem hb;exact absurd (ej (cY ho) (dw I.sz h)) (iK _)
theorem Inv.pR(I:Inv X pins σ H s):∀x c,X.env.cells.lookup x=some c->c≠X.env.locals:=λx c e z=>by
 obtain⟨v,o,ho,hd⟩:=I.cell x c e;obtain⟨m,⟨o',es,ep,jB,tG,_⟩,_⟩:=I.loc;rw[z,jB] at ho;cases ho;rw[tG] at hd;cases hd
theorem Inv.jg(I:Inv X pins σ H s):s.heap.FunFrames X.base X.outer:=by
 have all:∀(l:List Env),(∀b∈jA l,b∈X.fs)->X.dB.heap.FunFrames X.base l->s.heap.FunFrames X.base l:=by
  intro l
  induction l with
  |nil=>intro _ _;trivial
  |cons env r ih=>
   intro hs hl;obtain⟨hk,⟨L,o,hf,hn,ho,hd⟩,hr⟩:=hl;have hL:L∈X.fs:=hs L (by unfold jA;rw[IG,hf];exact iL)
   obtain⟨sl,e⟩:=I.base.slot L o ho (I.ok.nz L hL) hL λz=>I.ok.pQ L z hL;exact⟨hk,⟨L,_,hf,hn,e,hd⟩,ih (λb hb=>hs b (by unfold jA;rw[IG,hf];exact fD _ hb)) hr⟩
 exact all X.outer (λ_ hb=>hb) I.ok.jg
theorem Inv.stack(I:Inv X pins σ H s):s.heap.FunFrames X.base X.stack:=by
 rcases I.ok.qV with e|⟨e,hf⟩
 ·rw[e];exact I.jg
 ·rw[e];obtain⟨m,hn,_⟩:=I.loc;refine .cons (by rw[I.ok.kind];decide) hf hn ?_ I.jg
  exact Pt (dw I.ok.j_ I.ok.above)
theorem Inv.ve(I:Inv X pins σ H s):∀b∈jA X.stack,b∈X.env.locals::X.fs:=λb hb=>by
 rcases I.ok.qV with e|⟨e,hf⟩
 ·rw[e] at hb;exact fD _ hb
 ·rw[e] at hb;unfold jA at hb;rw[IG,hf] at hb;exact hb
theorem Inv.pS(I:Inv X pins σ H s):∀b∈jA X.stack,H b=none:=λb hb=>by
 rcases cC.mp (I.ve b hb) with e|hb
 ·rw[e];exact I.free
 ·obtain⟨_,o,ho,_⟩:=I.ok.jg.mem hb;exact I.base.free b o ho (I.ok.nz b hb) λz=>I.ok.pQ b z hb
theorem Inv.step{g':Array GenState}{t':Nat}{d':Drawn}{ch:List ae}(I:Inv X pins σ H s)
 (nA:∀b∈ch,(b∈X.ex\/X.dB.heap.objs.size<=b)/\b≠X.env.locals/\ (∀x c,X.env.cells.lookup x=some c->c≠b)/\ ∀p∈X.pn++pins,p.1≠b)
 (keep:∀b o,b≠X.env.locals->b∉X.fs->b∉ch->s.heap.get? b=some o->H b=none->h'.get? b=some o)
 (slot:∀b o,b≠X.env.locals->b∈X.fs->b∉ch->s.heap.get? b=some o->H b=none->∃sl,h'.get? b=some {o with slots:=sl}) (free:∀b o,b∉ch->s.heap.get? b=some o->H b=none->H' b=none)
 (there:∀b o,b∉ch->s.heap.get? b=some o->∃o',h'.get? b=some o')
 (jy:∀b xs,H b=some (.tup xs)->H' b=some (.tup xs)) (jf:∀b o u,H b=some (.gX o u)->H' b=some (.gX o u)) (jz:∀b ps,H b=some (.dM ps)->∃more,H' b=some (.dM (ps++more)))
 (ns:∀m,s.heap.Ns X.env.locals m->h'.Ns X.env.locals m) (aU:c9 X.prog X.w H' h') (hg:sL g'):
 Inv X pins σ H' {s with heap:=h',gens:=g',drawn:=d',toks:=t'}:=by
 have pT:∀b o,X.dB.heap.get? b=some o->b≠X.env.locals:=λb o e=>iu (ej (cY e) I.ok.above);have yo:∀b o,X.dB.heap.get? b=some o->b∉X.ex->b∉ch:=λb o e hx hb=>by
  rcases(nA b hb).1 with z|z
  ·exact hx z
  ·exact absurd (ej (cY e) z) (iK _)
 have cellK:∀x c,X.env.cells.lookup x=some c->∀v,s.heap.IsCell c v->h'.IsCell c v:=λx c e v ⟨o,ho,hd⟩=>by
  have vg:c∉ch:=λz=>(nA c z).2.2.1 x c e rfl;by_cases hc:c∈X.fs
  ·obtain⟨sl,q⟩:=slot c o (I.pR x c e) hc vg ho (I.gY x c e);exact⟨_,q,hd⟩
  ·exact⟨o,keep c o (I.pR x c e) hc vg ho (I.gY x c e),hd⟩
 refine⟨I.ok,I.os,hg,⟨λb o e n hb hx=> ?_,λb o e n hb hx=> ?_,λb o e n hx=> ?_,λb o e hx=> ?_,λb xs e=>jy b xs (I.base.jy b xs e),λb o xs e=>jf b o xs (I.base.jf b o xs e),λb ps e=> ?_⟩,?_,λx c e=> ?_,?_,λx c e=> ?_,λp hp=> ?_,aU,I.len⟩
 ·exact keep b o (pT b o e) hb (yo b o e hx) (I.base.keep b o e n hb hx) (I.base.free b o e n hx)
 ·obtain⟨sl,e1⟩:=I.base.slot b o e n hb hx;obtain⟨tH,e2⟩:=slot b _ (pT b o e) hb (yo b o e hx) e1 (I.base.free b o e n hx);exact⟨tH,e2⟩
 ·obtain⟨o',e1⟩:=I.base.there b o e hx;exact free b o' (yo b o e hx) e1 (I.base.free b o e n hx)
 ·obtain⟨o',e1⟩:=I.base.there b o e hx;exact there b o' (yo b o e hx) e1
 ·obtain⟨m1,e1⟩:=I.base.jz b ps e;obtain⟨m2,e2⟩:=jz b _ e1;exact⟨m1++m2,by rw[e2,Array.append_assoc]⟩
 ·obtain⟨m,hn,hl⟩:=I.loc;refine⟨m,ns m hn,λi x v e1 e2 e3=> ?_⟩;obtain⟨u,r,l⟩:=hl i x v e1 e2 e3;refine⟨u,r,?_⟩;rcases l with l|⟨k,c,e,z⟩
  ·exact .inl l
  ·exact .inr ⟨k,c,e,cellK x c e _ z⟩
 ·obtain⟨v,z⟩:=I.cell x c e;exact⟨v,cellK x c e v z⟩
 ·obtain⟨m,⟨o,_,_,ho,_⟩,_⟩:=I.loc;exact free _ o (λz=>(nA _ z).2.1 rfl) ho I.free
 ·obtain⟨v,o,ho,hd⟩:=I.cell x c e;exact free c o (λz=>(nA c z).2.2.1 x c e rfl) ho (I.gY x c e)
 ·obtain⟨e,n,ne,nf,d⟩:=I.pin p hp;have vg:p.1∉ch:=λz=>(nA p.1 z).2.2.2 p hp rfl;exact⟨keep p.1 p.2 ne nf vg e n,free p.1 p.2 vg e n,ne,nf,d⟩
theorem Inv.un{t':Nat}(I:Inv X pins σ H s)(u:Un X.fs [] H H' s.heap h')(aU:c9 X.prog X.w H' h'):Inv X pins σ H' {s with heap:=h',toks:=t'}:=by
 obtain⟨m,⟨o,es,ep,ho,r⟩,_⟩:=id I.loc;obtain⟨sl,hL⟩:=u.any ho I.free (by simp)
 exact I.step (g':=s.gens) (d':=s.drawn) (ch:=[]) (λ_ z=>nomatch z) (λb o _ hb _ e n=>u.keep b o e n hb (by simp)) (λb o _ hb _ e n=>u.slot b o e n hb (by simp)) (λb o _ e n=>u.free b o e n (by simp)) (λb o _ e=>u.there b o e (by simp)) u.jy u.jf u.jz (λm' hm=>by
  obtain⟨o',yp,Ce,jB,r'⟩:=hm;rw[ho] at jB;cases jB;exact⟨_,yp,Ce,hL,r'⟩) aU I.bare
theorem Inv.call{g':Array GenState}{t':Nat}{d':Drawn}{ch:List ae}(I:Inv X pins σ H s)(u:Un (jA X.stack) ch H H' s.heap h')(aU:c9 X.prog X.w H' h')(hg:sL g')
 (nA:∀b∈ch,(b∈X.ex\/X.dB.heap.objs.size<=b)/\b≠X.env.locals/\ (∀x c,X.env.cells.lookup x=some c->c≠b)/\ ∀p∈X.pn++pins,p.1≠b):
 Inv X pins σ H' {s with heap:=h',gens:=g',drawn:=d',toks:=t'}:=by
 obtain⟨m,⟨o,es,ep,ho,r⟩,_⟩:=id I.loc;obtain⟨sl,hL⟩:=u.any ho I.free λz=>(nA _ z).2.1 rfl;exact I.step (ch:=ch) nA (λb o hL hb hc e n=>u.keep b o e n (λz=>(cC.mp (I.ve b z)).elim hL hb) hc) (λb o _ _ hc e n=>u.any e n hc) (λb o hc e n=>u.free b o e n hc) (λb o hc e=>u.there b o e hc) u.jy u.jf u.jz (λm' hm=>by
  obtain⟨o',yp,Ce,jB,r'⟩:=hm;rw[ho] at jB;cases jB;exact⟨_,yp,Ce,hL,r'⟩) aU hg
theorem Inv.turned{t':Nat}{it:ae}(I:Inv X pins σ H s)(k:∀b o,b≠it->s.heap.get? b=some o->h'.get? b=some o)(hn:H it=none)(hL:it≠X.env.locals)
 (h1:it∈X.ex\/X.dB.heap.objs.size<=it) (h2:∀x c,X.env.cells.lookup x=some c->c≠it) (h3:∀p∈X.pn++pins,p.1≠it):Inv X pins σ H {s with heap:=h',toks:=t'}:=by
 have JA:∀b u,H b=some u->b≠it:=λb u e z=>by rw[z,hn] at e;cases e
 refine I.step (g':=s.gens) (d':=s.drawn) (ch:=[it]) (λb hb=> ?_) (λb o _ _ hc e _=>k b o (λz=>hc (by simp[z])) e) (λb o _ _ hc e _=>⟨o.slots,k b o (λz=>hc (by simp[z])) e⟩) (λ_ _ _ _ n=>n)
  (λb o hc e=>⟨o,k b o (λz=>hc (by simp[z])) e⟩) (λ_ _ e=>e) (λ_ _ _ e=>e) (λb ps e=>⟨#[],by rw[e];simp⟩) (λm hm=> ?_) (λb u e=> ?_) I.bare
 ·have e:b=it:=by simpa using hb
  subst e;exact⟨h1,hL,h2,h3⟩
 ·obtain⟨o,es,ep,ho,r⟩:=hm;exact⟨o,es,ep,k _ o (Ne.symm hL) ho,r⟩
 ·refine(I.aU b u e).nq (λc v hc q=>k c v ?_ q) (λ_ q=>q) λ_ _ q=>q;rcases hc with z|z
  ·rw[z];exact JA b u e
  ·exact JA c _ z
theorem Inv.tok(I:Inv X pins σ H s)(t:Nat):Inv X pins σ H {s with toks:=t}:=I.un (h':=s.heap) (t':=t) Un.refl I.aU
theorem Inv.kept{t':Nat}(I:Inv X pins σ H s)(k:∀b u,s.heap.get? b=some u->h'.get? b=some u):Inv X pins σ H {s with heap:=h',toks:=t'}:=I.un (Un.kept k) (I.aU.kept k)
theorem Inv.laid{a:ae}{o:HO}{t':Nat}(I:Inv X pins σ H s)(k:∀b u,s.heap.get? b=some u->h'.get? b=some u)(hp:s.heap.objs.size<=a)(new:df X.prog X.w (upd H a o) h' a o):
 Inv X pins σ (upd H a o) {s with heap:=h',toks:=t'}:=I.un (Un.laid k hp (I.aU.fresh hp)) (I.aU.laid k hp new)
theorem Inv.write{x e:ae}{o:HO}{t':Nat}(I:Inv X pins σ H s)(mu:yn (H x))(he:e=x\/H e=some (.own x))(k:∀b u,b≠e->s.heap.get? b=some u->h'.get? b=some u)(tD:∃u,h'.get? e=some u)
 (new:df X.prog X.w (upd H x o) h' x o):Inv X pins σ (upd H x o) {s with heap:=h',toks:=t'}:=I.un (Un.write mu he k tD) (I.aU.write mu he k tD new)
theorem Inv.weak{σ':List (Option V)}(I:Inv X pins σ H s)(hl:σ'.length=σ.length)(w:∀(i:Nat) v,σ'[i]? =some (some v)->σ[i]? =some (some v)):Inv X pins σ' H s:=
 ⟨I.ok,I.os,I.bare,I.base,let ⟨m,hn,Cf⟩:=I.loc;⟨m,hn,λi x v e1 e2 e3=>Cf i x v e1 (w i v e2) e3⟩,I.cell,I.free,I.gY,I.pin,I.aU,hl.trans I.len⟩
theorem Inv.JB{yq:List (ae×Obj)}(I:Inv X pins σ H s)(h:∀p∈yq,s.heap.get? p.1=some p.2/\H p.1=none/\p.1≠X.env.locals/\p.1∉X.fs/\ ∀v,p.2.data≠ .cell v):Inv X yq σ H s:=
 ⟨I.ok,I.os,I.bare,I.base,I.loc,I.cell,I.free,I.gY,λp hp=>(gO.mp hp).elim (λz=>I.pin p (IH _ z)) (h p),I.aU,I.len⟩
theorem Ci{N:List Str}(hN:N.Nodup){i j:Nat}{x:Str}(a:N[i]? =some x)(b:N[j]? =some x):i=j:=by
 obtain⟨h1,e1⟩:=dy.mp a;obtain⟨h2,e2⟩:=dy.mp b;exact(List.getElem_inj hN).mp (e1.trans e2.symm)
theorem JC{M:Model}{A:cQ}{E:ah->aq->Prop}{i:Nat}{x:Str}{v:V}{u:ah}{Q:Unit->aq->Prop}(I:Inv X pins σ H s)(hN:X.N.Nodup)(hi:X.N[i]? =some x)(hx:Loc X.env.scope x)(r:b8 v u)
 (h:∀s',Inv X pins (σ.set i (some v)) H s'->(∃a,xP a s.heap s'.heap/\ (a=X.env.locals\/X.env.cells.lookup x=some a))->Q () s') (hf:X.fn x=true\/X.env.scope.names.lookup x=some .local:=by first|exact .inl rfl|exact .inr rfl|assumption):aW M A (storeName X.env x u) Q E s:=by
 obtain⟨m,hn,hl⟩:=id I.loc;have QC:(X.env.scope.kind== .class||(X.env.scope.kind== .module&&X.env.locals !=X.env.globals))=false:=by rw[I.ok.kind];rfl
 have hiσ:i<σ.length:=by rw[I.len];exact(dy.mp hi).1
 have pR:=I.pR;have tracked:∀{a:ae} {h':aC},(∃o,s.heap.get? a=some o/\H a=none)->xP a s.heap h'->c9 X.prog X.w H h':=λ{a h'} ha hs b ob e=>by
  obtain⟨_,_,tJ⟩:=ha;refine(I.aU b ob e).nq (λc w' hc q=>(hs.2 c ?_).trans q) (λ_ q=>q) λ_ _ q=>q;rintro rfl;rcases hc with rfl|hc
  ·rw[tJ] at e;cases e
  ·rw[tJ] at hc;cases hc
 rcases hx with hk|hk
 ·refine wpAny_storeName_local hk hn (λh' qX hs=> ?_) QC;obtain⟨oL,_,_,QD,_⟩:=id hn;refine h _ ⟨I.ok,I.os,I.bare,⟨λb o e n hb hx=> ?_,λb o e n hb hx=> ?_,I.base.free,λb o e hx=> ?_,I.base.jy,I.base.jf,I.base.jz⟩,⟨_,qX,λj y v' e1 e2 e3=> ?_⟩,λy c e=> ?_,I.free,I.gY,λp hp=> ?_,tracked ⟨oL,QD,I.free⟩ hs,by simpa using I.len⟩ ⟨_,hs,.inl rfl⟩
  ·exact(hs.2 b (iu (ej (cY e) I.ok.above))).trans (I.base.keep b o e n hb hx)
  ·obtain⟨sl,e1⟩:=I.base.slot b o e n hb hx;exact⟨sl,(hs.2 b (iu (ej (cY e) I.ok.above))).trans e1⟩
  ·obtain⟨o',e1⟩:=I.base.there b o e hx;exact⟨o',(hs.2 b (iu (ej (cY e) I.ok.above))).trans e1⟩
  ·by_cases hj:j=i
   ·subst hj;rw[hi] at e1;cases e1;rw[uS hiσ] at e2;cases e2;exact⟨u,r,.inl ⟨hk,by simp⟩⟩
   ·rw[uT (Ne.symm hj)] at e2;obtain⟨u',r',q⟩:=hl j y v' e1 e2 e3;refine⟨u',r',?_⟩;rcases q with⟨k,e⟩|⟨k,c,e,z⟩
    ·refine .inl ⟨k,?_⟩;have:y≠x:=λe=>hj (Ci hN e1 (e▸hi));simp[this,e]
    ·exact .inr ⟨k,c,e,z.sameBut hs (pR y c e)⟩
  ·obtain⟨w',z⟩:=I.cell y c e;exact⟨w',z.sameBut hs (pR y c e)⟩
  ·obtain⟨e,n,ne,nf,d⟩:=I.pin p hp;exact⟨(hs.2 p.1 ne).trans e,n,ne,nf,d⟩
 ·have Cj:X.fn x=true:=by
   rcases hf with z|z
   ·exact z
   ·rw[z] at hk;cases hk
  obtain⟨c,hc⟩:=I.ok.has x (.inl hk);obtain⟨w',z⟩:=I.cell x c hc;refine wpAny_storeName_cell I.ok.kind hk hc z (λh' d8 hs=> ?_);obtain⟨oc,JD,QE⟩:=id z;refine h {s with heap:=h'} ⟨I.ok,I.os,I.bare,⟨λb o e n hb hx=> ?_,λb o e n hb hx=> ?_,I.base.free,λb o e hx=> ?_,I.base.jy,I.base.jf,I.base.jz⟩,⟨m,hn.sameBut hs (Ne.symm (pR x c hc)),λj y v' e1 e2 e3=> ?_⟩,λy c' e=> ?_,I.free,I.gY,λp hp=> ?_,tracked ⟨oc,JD,I.gY x c hc⟩ hs,by simpa using I.len⟩ ⟨c,hs,.inr hc⟩
  ·exact(hs.2 b (iu (ej (cY e) (I.ok.pO x c Cj hc)))).trans (I.base.keep b o e n hb hx)
  ·obtain⟨sl,e1⟩:=I.base.slot b o e n hb hx;exact⟨sl,(hs.2 b (iu (ej (cY e) (I.ok.pO x c Cj hc)))).trans e1⟩
  ·obtain⟨o',e1⟩:=I.base.there b o e hx;exact⟨o',(hs.2 b (iu (ej (cY e) (I.ok.pO x c Cj hc)))).trans e1⟩
  ·by_cases hj:j=i
   ·subst hj;rw[hi] at e1;cases e1;rw[uS hiσ] at e2;cases e2;exact⟨u,r,.inr ⟨.inl hk,c,hc,d8⟩⟩
   ·rw[uT (Ne.symm hj)] at e2;obtain⟨u',r',q⟩:=hl j y v' e1 e2 e3;refine⟨u',r',?_⟩;rcases q with q|⟨k,c',e,z'⟩
    ·exact .inl q
    ·refine .inr ⟨k,c',e,z'.sameBut hs ?_⟩;rintro rfl;exact hj (Ci hN e1 (I.ok.inj _ _ _ e hc▸hi))
  ·by_cases nB:c'=c
   ·subst nB;exact⟨_,d8⟩
   ·obtain⟨w2,z2⟩:=I.cell y c' e;exact⟨w2,z2.sameBut hs nB⟩
  ·obtain⟨e,n,ne,nf,d⟩:=I.pin p hp;refine⟨(hs.2 p.1 ?_).trans e,n,ne,nf,d⟩;intro q;rw[q,JD] at e;have q':oc=p.2:=f9 e;exact d w' (by rw[<-q'];exact QE)
theorem Ck{M:Model}{A:cQ}{E:ah->aq->Prop}{i:Nat}{x:Str}{v:V}{u:ah}{Q:Unit->aq->Prop}(I:Inv X pins σ H s)(hN:X.N.Nodup)(hi:X.N[i]? =some x)(hx:Loc X.env.scope x)(r:b8 v u)
 (h:∀s',Inv X pins (σ.set i (some v)) H s'->Q () s') (hf:X.fn x=true\/X.env.scope.names.lookup x=some .local:=by first|exact .inl rfl|exact .inr rfl|assumption):aW M A (storeName X.env x u) Q E s:=
 JC I hN hi hx r (λs' I' _=>h s' I') hf
theorem Inv.vh{s':aq}{ch:List ae}(I:Inv X pins σ H s)(ho:s'.os=s.os)(u:Un (jA X.stack) ch H H' s.heap s'.heap)(aU:c9 X.prog X.w H' s'.heap)(hg:sL s'.gens)
 (nA:∀b∈ch,(b∈X.ex\/X.dB.heap.objs.size<=b)/\b≠X.env.locals/\ (∀x c,X.env.cells.lookup x=some c->c≠b)/\ ∀p∈X.pn++pins,p.1≠b):Inv X pins σ H' s':=by
 obtain⟨h',g',d',t',o'⟩:=s';have e:o'=s.os:=ho;subst e;exact I.call (g':=g') (t':=t') (d':=d') u aU hg nA
end
abbrev XK:=ah->Option ae->Hp->Prop
abbrev St:=List (Option V)
abbrev VK:=V->Hp->Prop
abbrev TE:=St->Hp->VK->Prop
abbrev TT:=St->Hp->(Bool->Hp->Prop)->Prop
abbrev TA:=St->Hp->(List V->Hp->Prop)->Prop
structure Ends where
 nx:St->Hp->Prop
 rt:VK
 bk:St->Hp->Prop:=λ_ _=>False
 ct:St->Hp->Prop:=λ_ _=>False
abbrev TS:=Ends->St->Hp->Prop
def EP(X:Cx)(pins:List (ae×Obj))(σ:St)(Q:VK)(u:ah)(s':aq):Prop:=∃v H',Inv X pins σ H' s'/\b8 v u/\Q v H'
def TP(X:Cx)(pins:List (ae×Obj))(σ:St)(Q:Bool->Hp->Prop)(b:Bool)(s':aq):Prop:=∃H',Inv X pins σ H' s'/\Q b H'
def AP(X:Cx)(pins:List (ae×Obj))(σ:St)(Q:List V->Hp->Prop)(us:List ah)(s':aq):Prop:=∃vs H',Inv X pins σ H' s'/\Vals vs us/\Q vs H'
def SP(X:Cx)(pins:List (ae×Obj))(D:Ends)(f:Flow)(s':aq):Prop:=
 match f with
 | .next=>∃σ' H',Inv X pins σ' H' s'/\D.nx σ' H'
 | .brk=>∃σ' H',Inv X pins σ' H' s'/\D.bk σ' H'
 | .cont=>∃σ' H',Inv X pins σ' H' s'/\D.ct σ' H'
 | .ret u=>∃v σ' H',Inv X pins σ' H' s'/\b8 v u/\D.rt v H'
def PE(X:Cx)(e:bz)(t:TE):Prop:=
 ∀(pins:List (ae×Obj)) (s:aq) (σ:St) (H:Hp) (Q:VK),Inv X pins σ H s->t σ H Q->aW (model X.prog X.w) X.A (eval e X.env) (EP X pins σ Q) X.xe s
def PT(X:Cx)(e:bz)(t:TT):Prop:=
 ∀(pins:List (ae×Obj)) (s:aq) (σ:St) (H:Hp) (Q:Bool->Hp->Prop),Inv X pins σ H s->t σ H Q->aW (model X.prog X.w) X.A (isTrue e X.env (eval e X.env)) (TP X pins σ Q) X.xe s
def PW(X:Cx)(e:bz)(t:TT):Prop:=
 ∀(whole:Sem ah) (pins:List (ae×Obj)) (s:aq) (σ:St) (H:Hp) (Q:Bool->Hp->Prop),Inv X pins σ H s->t σ H Q->aW (model X.prog X.w) X.A (isTrue e X.env whole) (TP X pins σ Q) X.xe s
theorem PW.pt{X:Cx}{e:bz}{t:TT}(h:PW X e t):PT X e t:=h _
def PA(X:Cx)(es:List bz)(t:TA):Prop:=
 ∀(pos:Pos) (pins:List (ae×Obj)) (s:aq) (σ:St) (H:Hp) (Q:List V->Hp->Prop),Inv X pins σ H s->t σ H Q->aW (model X.prog X.w) X.A (spliced (f_ pos (cG es X.env))) (AP X pins σ Q) X.xe s
def PS(X:Cx)(st:cD)(t:TS):Prop:=
 ∀(pins:List (ae×Obj)) (s:aq) (σ:St) (H:Hp) (D:Ends),Inv X pins σ H s->t D σ H->aW (model X.prog X.w) X.A (exec st X.env) (SP X pins D) X.xe s
def gy(X:Cx)(st:List cD)(t:TS):Prop:=
 ∀(pins:List (ae×Obj)) (s:aq) (σ:St) (H:Hp) (D:Ends),Inv X pins σ H s->t D σ H->aW (model X.prog X.w) X.A (execs st X.env) (SP X pins D) X.xe s
theorem bf{α:Type}{t:Sem α}{Q Q':α->aq->Prop}{M:Model}{A:cQ}{E:ah->aq->Prop}{s:aq}(h:aW M A t Q E s)(hQ:∀a s,Q a s->Q' a s):aW M A t Q' E s:=fM h hQ λ_ _ x=>x
section
variable{X:Cx}
theorem bin{a b:bz}{ta tb:TE}(ha:PE X a ta)(hb:PE X b tb){pins:List (ae×Obj)}{s:aq}{σ:St}{H:Hp}{R:V->V->Hp->Prop}(I:Inv X pins σ H s)(h:ta σ H λx H1=>tb σ H1 λy H2=>R x y H2)
 {α:Type} {Q:α->aq->Prop} {f:ah->ah->Sem α}
 (hf:∀v u s2 x y H2,Inv X pins σ H2 s2->b8 x v->b8 y u->R x y H2->aW (model X.prog X.w) X.A (f v u) Q X.xe s2):
 aW (model X.prog X.w) X.A (eval a X.env) (λv s₁=>aW (model X.prog X.w) X.A (eval b X.env) (λu s₂=>aW (model X.prog X.w) X.A (f v u) Q X.xe s₂) X.xe s₁) X.xe s:=by
 refine bf (ha pins s σ H _ I h) λv s1 ⟨x,H1,I1,r1,q1⟩=> ?_;refine bf (hb pins s1 σ H1 _ I1 q1) λu s2 ⟨y,H2,I2,r2,q2⟩=> ?_;exact hf v u s2 x y H2 I2 r1 r2 q2
def pU(i:Nat):TE:=λσ H Q=>∃v,σ[i]? =some (some v)/\Q v H
def tC(v:V):TE:=λ_ H Q=>Q v H
theorem yr{i:Nat}{x:Str}{pos:Pos}(hN:X.N[i]? =some x)(hv:pN X.env.scope x)(hd:(x==("__debug__":Str))=false:=by decide)(fq:(x==("__classdict__":Str))=false:=by decide):PE X (.Name x pos) (pU i):=by
 intro pins s σ H Q I h;obtain⟨v,e,h⟩:=h;obtain⟨m,hn,hl⟩:=I.loc;obtain⟨u,r,l⟩:=hl i x v hN e hv;have fin:EP X pins σ Q u s:=⟨v,H,I,r,h⟩;rcases l with⟨hk,hm⟩|⟨hk,c,hc,JE⟩
 ·exact wpAny_Name (wpAny_loadName_local I.ok.kind hk hn hm fin) hd
 ·rcases hk with hk|hk
  ·exact wpAny_Name (wpAny_loadName_cell I.ok.kind hk hc JE fin) hd
  ·exact wpAny_Name (wpAny_loadName_free I.ok.kind hk hc JE fin fq) hd
theorem aQ{i j pos}:PE X (.Constant (.int i) j pos) (tC (.int i)):=λ_ _ _ H _ I h=>wpAny_Constant_int ⟨.int i,H,I.tok _,⟨_,rfl⟩,h⟩
theorem jC{j pos}:PE X (.Constant .none j pos) (tC .aO):=λ_ _ _ H _ I h=>Constant_none ⟨.aO,H,I,rfl,h⟩
theorem bZ{x j pos}:PE X (.Constant (.str x) j pos) (tC (.str x)):=λ_ _ _ H _ I h=>Calls.Constant_str ⟨.str x,H,I.tok _,⟨_,rfl⟩,h⟩
def Gl(X:Cx)(x:Str):Prop:=X.env.kindOf x=some .globalImplicit
theorem qY{E:ah->aq->Prop}{pins:List (ae×Obj)}{s:aq}{σ:St}{H:Hp}{x:Str}{u:ah}{pos:Pos}{Q:ah->aq->Prop}(I:Inv X pins σ H s)(hg:Gl X x)(hm:X.mg x=some u)(h:Q u s)
 (hd:(x==("__debug__":Str))=false:=by decide):aW (model X.prog X.w) X.A (eval (.Name x pos) X.env) Q E s:=
 afe I.ok.kind hg (Calls.loadGlobal_global (by rw[I.ok.glob];exact I.mod.glob.keeps I.bk) hm h) hd
theorem yt{E:ah->aq->Prop}{pins:List (ae×Obj)}{s:aq}{σ:St}{H:Hp}{x:Str}{u:ah}{pos:Pos}{Q:ah->aq->Prop}(I:Inv X pins σ H s)(hg:Gl X x)(hm:X.mg x=none)(hv:mU x=some u)(h:Q u s)
 (hn:x≠"__name__":=by decide) (hd:(x==("__debug__":Str))=false:=by decide):aW (model X.prog X.w) X.A (eval (.Name x pos) X.env) Q E s:=by
 obtain⟨mb,h1,h2⟩:=I.mod.blt;exact afe I.ok.kind hg (Calls.loadGlobal_builtin (by rw[I.ok.glob];exact I.mod.glob.keeps I.bk) hm (by rw[I.ok.blt];exact h1.keeps I.bk) ((h2 x hn).trans hv) h) hd
theorem Cm{x:Str}{v:V}{u:ah}{pos:Pos}(hg:Gl X x)(hm:X.mg x=some u)(r:b8 v u)(hd:(x==("__debug__":Str))=false:=by decide):PE X (.Name x pos) (tC v):=
 λ_ _ _ H _ I h=>qY I hg hm ⟨v,H,I,r,h⟩ hd
variable{a b:bz}{ta tb:TE}{pos:Pos}
def PC(X:Cx)(op:CmpOp)(a b:bz)(t:TE):Prop:=
 ∀(pins:List (ae×Obj)) (s:aq) (σ:St) (H:Hp) (Q:VK),Inv X pins σ H s->t σ H Q->
  aW (model X.prog X.w) X.A (eval a X.env) (λv s₁=>aW (model X.prog X.w) X.A (eval b X.env) (λu s₂=>aW (model X.prog X.w) X.A (kE op v u) (EP X pins σ Q) X.xe s₂) X.xe s₁) X.xe s
theorem JF(b:bz){op:CmpOp}(h:op≠ .In)(h2:op≠ .NotIn):sM op b=false:=by
 have e1:(op==CmpOp.In)=false:=by cases op<;>first|rfl|exact absurd rfl h
 have e2:(op==CmpOp.NotIn)=false:=by cases op<;>first|rfl|exact absurd rfl h2
 cases b<;>simp[sM,e1,e2]
def QF(ta:TE):TE:=λσ H Q=>ta σ H λx H1=>Q (.bl (decide (x=.aO))) H1
def QG(ta:TE):TE:=λσ H Q=>ta σ H λx H1=>Q (.bl (!decide (x=.aO))) H1
theorem b8.JG{x:V}{v:ah}(r:b8 x v):(v==iZ)=decide (x=.aO):=by
 cases x with
 |aO=>cases r;rfl
 |bl _=>cases r;rfl
 |int _=>obtain⟨t,rfl⟩:=r;rfl
 |str _=>obtain⟨t,rfl⟩:=r;rfl
 |iP _=>obtain⟨t,rfl⟩:=r;rfl
 |vd _=>obtain⟨t,rfl⟩:=r;rfl
 |ref _=>cases r;rfl
 |ty _=>cases r;rfl
theorem oG{j pos'}(ha:PE X a ta):PC X .Is a (.Constant .none j pos') (QF ta):=by
 intro pins s σ H Q I h;refine bf (ha pins s σ H _ I h) λv s1 ⟨x,H1,I1,r1,q1⟩=> ?_;exact Constant_none (is_none_gen ⟨.bl _,H1,I1,by rw[r1.JG];rfl,q1⟩)
theorem yu{j pos'}(ha:PE X a ta):PC X .IsNot a (.Constant .none j pos') (QG ta):=by
 intro pins s σ H Q I h;refine bf (ha pins s σ H _ I h) λv s1 ⟨x,H1,I1,r1,q1⟩=> ?_;exact Constant_none (isnot_none_gen ⟨.bl _,H1,I1,by rw[r1.JG];rfl,q1⟩)
def tB(t:TE):TT:=λσ H Q=>t σ H λx H1=>∃c,x=.bl c/\Q c H1
theorem yw{op:CmpOp}{t:TE}(h:PC X op a b t)(h1:sM op b=false:=by first|exact JF _ (by decide) (by decide)|rfl):PE X (.Compare a [op] [b] pos) t:=λpins s σ H Q I hw=>wpAny_Compare1 (h pins s σ H Q I hw) h1
theorem jh{op:CmpOp}{t:TE}(h:PC X op a b t)(h1:sM op b=false:=by first|exact JF _ (by decide) (by decide)|rfl):PT X (.Compare a [op] [b] pos) (tB t):=by
 intro pins s σ H Q I hw;refine wpAny_isTrue_Compare1 (bf (h pins s σ H _ I hw) λv s1 h1=>bf h1 λu s2 h2=>bf h2 λc s3 ⟨x,H1,I1,r1,q1⟩=> ?_) h1;obtain⟨d,rfl,q⟩:=q1;cases r1;exact qH ⟨H1,I1,q⟩
theorem gZ{e:bz}{t:TE}(h:PE X e t)(he:∀whole,isTrue e X.env whole=(do let v <-whole;standAt e.pos;holding [v] (truthy v)):=by intro _;rfl):PT X e (tB t):=by
 intro pins s σ H Q I hw;refine isTrue_plain (bf (h pins s σ H _ I hw) λv s1 ⟨x,H1,I1,r1,q1⟩=> ?_) (he _);obtain⟨d,rfl,q⟩:=q1;cases r1;exact qH ⟨H1,I1,q⟩
variable{tA yx:TT}{rest:List bz}
def QH(t u:TT):TT:=λσ H Q=>t σ H λc H1=>if c=true then u σ H1 Q else Q false H1
def QI(t u:TT):TT:=λσ H Q=>t σ H λc H1=>if c=true then Q true H1 else u σ H1 Q
def QJ(t:TT):TT:=λσ H Q=>t σ H λc H1=>Q (!c) H1
theorem pV(ha:PT X a tA):PW X (.BoolOp .And [a] pos) tA:=by
 intro wh pins s σ H Q I h;refine isTrue_and (bf (ha pins s σ H Q I h) λc s1 e=> ?_);cases c with
 |true=>exact isTrue_and_nil e
 |false=>exact e
theorem nE(ha:PT X a tA):PW X (.BoolOp .Or [a] pos) tA:=by
 intro wh pins s σ H Q I h;refine isTrue_or (bf (ha pins s σ H Q I h) λc s1 e=> ?_);cases c with
 |false=>exact isTrue_or_nil e
 |true=>exact e
theorem pW(ha:PT X a tA)(hb:PW X (.BoolOp .And (b::rest) pos) yx):PW X (.BoolOp .And (a::b::rest) pos) (QH tA yx):=by
 intro wh pins s σ H Q I h;refine isTrue_and (bf (ha pins s σ H _ I h) λc s1 ⟨H1,I1,q1⟩=> ?_);cases c with
 |true=>exact hb wh pins s1 σ H1 Q I1 q1
 |false=>exact⟨H1,I1,q1⟩
theorem kM(ha:PT X a tA)(hb:PW X (.BoolOp .Or (b::rest) pos) yx):PW X (.BoolOp .Or (a::b::rest) pos) (QI tA yx):=by
 intro wh pins s σ H Q I h;refine isTrue_or (bf (ha pins s σ H _ I h) λc s1 ⟨H1,I1,q1⟩=> ?_);cases c with
 |true=>exact⟨H1,I1,q1⟩
 |false=>exact hb wh pins s1 σ H1 Q I1 q1
theorem lF(ha:PT X a tA):PT X (.UnaryOp .Not a pos) (QJ tA):=by
 intro pins s σ H Q I h;exact isTrue_not (ha pins s σ H (λc H1=>Q (!c) H1) I h)
def QK(ta tb:TE):TE:=λσ H Q=>ta σ H λx H1=>∃c,x=.bl c/\if c=true then tb σ H1 Q else Q (.bl false) H1
def QL(ta tb:TE):TE:=λσ H Q=>ta σ H λx H1=>∃c,x=.bl c/\if c=true then Q (.bl true) H1 else tb σ H1 Q
theorem Cn{op}{t:TE}(h:PE X a t):PE X (.BoolOp op [a] pos) t:=λpins s σ H Q I hw=>BoolOp_one (h pins s σ H Q I hw)
theorem JH(ha:PE X a ta)(hb:PE X (.BoolOp .And (b::rest) pos) tb):PE X (.BoolOp .And (a::b::rest) pos) (QK ta tb):=by
 intro pins s σ H Q I h;refine BoolOp_and (bf (ha pins s σ H _ I h) λv s1 ⟨x,H1,I1,r1,q1⟩=> ?_);obtain⟨c,rfl,q1⟩:=q1;cases r1;refine qH ?_;cases c with
 |true=>exact hb pins s1 σ H1 Q I1 q1
 |false=>exact⟨.bl false,H1,I1,rfl,q1⟩
theorem QM(ha:PE X a ta)(hb:PE X (.BoolOp .Or (b::rest) pos) tb):PE X (.BoolOp .Or (a::b::rest) pos) (QL ta tb):=by
 intro pins s σ H Q I h;refine BoolOp_or (bf (ha pins s σ H _ I h) λv s1 ⟨x,H1,I1,r1,q1⟩=> ?_);obtain⟨c,rfl,q1⟩:=q1;cases r1;refine qH ?_;cases c with
 |false=>exact hb pins s1 σ H1 Q I1 q1
 |true=>exact⟨.bl true,H1,I1,rfl,q1⟩
def QN(t:TT)(ta tb:TE):TE:=λσ H Q=>t σ H λc H1=>if c=true then ta σ H1 Q else tb σ H1 Q
theorem ji{c:bz}(hc:PT X c tA)(ha:PE X a ta)(hb:PE X b tb):PE X (.IfExp c a b pos) (QN tA ta tb):=by
 intro pins s σ H Q I h;refine wpAny_IfExp (bf (hc pins s σ H _ I h) λd s1 ⟨H1,I1,q1⟩=> ?_);cases d with
 |true=>exact ha pins s1 σ H1 Q I1 q1
 |false=>exact hb pins s1 σ H1 Q I1 q1
end
def aI(K:az)(H:Hp)(a:ae)(xs:List V):Prop:=
 Rd H a (.lst xs)\/
  ∃(o:Obj) (aH:Array ah) (n:Nat),K.lookup a=some o/\o.cls=.type "list"/\o.dict=none/\o.data=.seq aH n/\aH.size<=sizeLine/\Vals xs aH.toList
def fQ(K:az)(H:Hp)(a:ae)(xs:List V):Prop:=
 Rd H a (.tup xs)\/
  ∃(o:Obj) (aH:Array ah) (n:Nat),K.lookup a=some o/\o.cls=.type "tuple"/\o.data=.seq aH n/\aH.size<=sizeLine/\Vals xs aH.toList
def QO:ah->Option V
 | .none=>some .aO
 | .bool b=>some (.bl b)
 | .int i _=>some (.int i)
 | .str x _=>some (.str x)
 | .bytes b _=>some (.iP b)
 | .float b _=>some (.vd b)
 | .ref a=>some (.ref a)
 | .type n=>some (.ty n)
 |_=>none
theorem b8.abs{x:V}{u:ah}(r:b8 x u):QO u=some x:=by
 cases x with
 |aO=>cases r;rfl
 |bl _=>cases r;rfl
 |int _=>obtain⟨t,rfl⟩:=r;rfl
 |str _=>obtain⟨t,rfl⟩:=r;rfl
 |iP _=>obtain⟨t,rfl⟩:=r;rfl
 |vd _=>obtain⟨t,rfl⟩:=r;rfl
 |ref _=>cases r;rfl
 |ty _=>cases r;rfl
theorem b8.inj{x y:V}{u:ah}(r:b8 x u)(q:b8 y u):x=y:=f9 (r.abs.symm.trans q.abs)
theorem Vals.inj:∀{xs ys:List V} {us:List ah},Vals xs us->Vals ys us->xs=ys
 |_,_,_,.nil,.nil=>rfl
 |_,_,_,.cons r t,.cons r' t'=>by rw[r.inj r',Vals.inj t t']
section
variable{X:Cx}{pins:List (ae×Obj)}{σ:St}{H:Hp}{s:aq}{a:ae}{xs ys:List V}
theorem aI.of{K:az}(h:H a=some (.lst xs)):aI K H a xs:=.inl (.inl h)
theorem fQ.of{K:az}(h:H a=some (.tup xs)):fQ K H a xs:=.inl (.inl h)
theorem Inv.list(I:Inv X pins σ H s)(h:aI X.K H a xs):∃aH:List ah,Vals xs aH/\PlainL s.heap a aH.toArray/\xs.length<=sizeLine:=by
 rcases h with h|⟨o,aH,n,hk,hc,hd,hs,hz,r⟩
 ·obtain⟨z,aH,n,r,e⟩:=h.ok I.aU;exact⟨aH,r,⟨_,n,e,rfl,rfl,rfl⟩,z⟩
 ·refine⟨aH.toList,r,⟨o,n,I.dm a o hk,hc,hd,by simpa using hs⟩,?_⟩
  have e:=r.length;simp only[Array.length_toList] at e;omega
theorem Inv.tuple(I:Inv X pins σ H s)(h:fQ X.K H a xs):∃aH:List ah,Vals xs aH/\IsTup s.heap a aH.toArray/\xs.length<=sizeLine:=by
 rcases h with h|⟨o,aH,n,hk,hc,hs,hz,r⟩
 ·obtain⟨z,aH,r,p⟩:=h.ok I.aU;exact⟨aH,r,p,z⟩
 ·refine⟨aH.toList,r,⟨o,I.dm a o hk,hc,n,by simpa using hs⟩,?_⟩
  have e:=r.length;simp only[Array.length_toList] at e;omega
theorem Inv.QP(I:Inv X pins σ H s)(h:aI X.K H a xs)(h':aI X.K H a ys):xs=ys:=by
 obtain⟨aH,r,⟨o,n,e,_,_,d⟩,_⟩:=I.list h;obtain⟨its',r',⟨o',n',e',_,_,d'⟩,_⟩:=I.list h';rw[e] at e';cases e';rw[d] at d';injection d' with d1 _
 have:aH=its':=by simpa using congrArg Array.toList d1
 subst this;exact r.inj r'
end
abbrev Cx.lG(X:Cx)(E:ah->aq->Prop):Cx:={X with xe:=E}
abbrev Cx.tL(X:Cx):Cx:=X.lG λ_ _=>False
theorem Cx.Ok.lG{X:Cx}(ok:X.Ok)(E:ah->aq->Prop):(X.lG E).Ok:=
 ⟨ok.mod,ok.kind,ok.glob,ok.blt,ok.above,ok.inj,ok.has,ok.pO,ok.hd,ok.frames,ok.qV,ok.qW,ok.bs,ok.j_,ok.pP,ok.pQ,ok.jg,ok.nz⟩
theorem Cx.Ok.oH{X:Cx}{E:ah->aq->Prop}(ok:(X.lG E).Ok):X.Ok:=
 ⟨ok.mod,ok.kind,ok.glob,ok.blt,ok.above,ok.inj,ok.has,ok.pO,ok.hd,ok.frames,ok.qV,ok.qW,ok.bs,ok.j_,ok.pP,ok.pQ,ok.jg,ok.nz⟩
section
variable{X:Cx}{pins:List (ae×Obj)}{σ:St}{H:Hp}{s:aq}{E:ah->aq->Prop}
theorem Inv.lG(I:Inv X pins σ H s)(E:ah->aq->Prop):Inv (X.lG E) pins σ H s:=⟨I.ok.lG E,I.os,I.bare,I.base,I.loc,I.cell,I.free,I.gY,I.pin,I.aU,I.len⟩
theorem Inv.oH(I:Inv (X.lG E) pins σ H s):Inv X pins σ H s:=⟨I.ok.oH,I.os,I.bare,I.base,I.loc,I.cell,I.free,I.gY,I.pin,I.aU,I.len⟩
theorem SP.oH{D:Ends}{f:Flow}{s':aq}(h:SP (X.lG E) pins D f s'):SP X pins D f s':=by
 cases f with
 |next=>obtain⟨σ',H',I,q⟩:=h;exact⟨σ',H',I.oH,q⟩
 |brk=>obtain⟨σ',H',I,q⟩:=h;exact⟨σ',H',I.oH,q⟩
 |cont=>obtain⟨σ',H',I,q⟩:=h;exact⟨σ',H',I.oH,q⟩
 |ret u=>obtain⟨v,σ',H',I,r,q⟩:=h;exact⟨v,σ',H',I.oH,r,q⟩
theorem gy.tL{st:List cD}{t:TS}(h:gy X.tL st t):gy X st t:=λpins s σ H D I hw=>
 fM (h pins s σ H D (I.lG _) hw) (λ_ _ q=>q.oH) λ_ _ z=>gw z
end
section
variable{X:Cx}{st:cD}{rest:List cD}{t u:TS}{e:bz}{te:TE}{pos:Pos}
def QQ:TS:=λD σ H=>D.nx σ H
def JI(t u:TS):TS:=λD σ H=>t {D with nx:=u D} σ H
theorem cJ:gy X [] QQ:=λ_ _ σ H _ I h=>sN ⟨σ,H,I,h⟩
theorem ay(h1:PS X st t)(h2:gy X rest u):gy X (st::rest) (JI t u):=by
 intro pins s σ H D I h;refine wpAny_execs_cons (bf (h1 pins s σ H {D with nx:=u D} I h) λf s1 q=> ?_)
 cases f with
 |next=>
  obtain⟨σ',H',I',q⟩:=q;exact h2 pins s1 σ' H' D I' q
 |ret v=>exact q
 |brk=>exact q
 |cont=>exact q
theorem aw(h1:PS X st t):gy X [st] t:=by
 intro pins s σ H D I h;refine wpAny_execs_cons (bf (h1 pins s σ H D I h) λf s1 q=> ?_);cases f with
 |next=>exact sN q
 |ret v=>exact q
 |brk=>exact q
 |cont=>exact q
theorem Inv.quiet{pins:List (ae×Obj)}{σ:St}{H:Hp}{s:aq}(I:Inv X pins σ H s):interactive X.env=false:=by simp[interactive,I.ok.kind]
def QR(te:TE):TS:=λD σ H=>te σ H λ_ H1=>D.nx σ H1
theorem bO(he:PE X e te)(hs:sO e none pos.line X.env=pure false:=by rfl):PS X (.Expr e pos) (QR te):=by
 intro pins s σ H D I h;exact wpAny_Expr_any (bf (he pins s σ H _ I h) λv s1 ⟨x,H1,I1,r1,q1⟩=>⟨σ,H1,I1,q1⟩) I.quiet hs
def JJ(te:TE):TS:=λD σ H=>te σ H D.rt
theorem bw(he:PE X e te):PS X (.Return (some e) pos) (JJ te):=by
 intro pins s σ H D I h;exact wpAny_Return_some (bf (he pins s σ H _ I h) λv s1 ⟨x,H1,I1,r1,q1⟩=>⟨x,σ,H1,I1,r1,q1⟩)
def QS:TS:=λD _ H=>D.rt .aO H
theorem JK:PS X (.Return none pos) QS:=λ_ _ σ H _ I h=>wpAny_Return_none ⟨.aO,σ,H,I,rfl,h⟩
def QT(c:TT)(t u:TS):TS:=λD σ H=>c σ H λb H1=>if b=true then t D σ H1 else u D σ H1
theorem b7{c:bz}{a b:List cD}{tc:TT}(hc:PT X c tc)(ha:gy X a t)(hb:gy X b u):PS X (.If c a b pos) (QT tc t u):=by
 intro pins s σ H D I h;refine wpAny_If (bf (hc pins s σ H _ I h) λd s1 ⟨H1,I1,q1⟩=> ?_);cases d with
 |true=>exact ha pins s1 σ H1 D I1 q1
 |false=>exact hb pins s1 σ H1 D I1 q1
def QU:TS:=λ_ _ _=>False
theorem JL{QV:List cD}:gy X QV QU:=λ_ _ _ _ _ _ h=>h.elim
end
abbrev TG:=V->St->Hp->(St->Hp->Prop)->Prop
def PG(X:Cx)(target:bz)(t:TG):Prop:=
 ∀(pins:List (ae×Obj)) (s:aq) (σ:St) (H:Hp) (v:V) (u:ah) (Q:St->Hp->Prop),Inv X pins σ H s->b8 v u->t v σ H Q->
  aW (model X.prog X.w) X.A (assign target X.env u) (λ_ s'=>∃σ' H',Inv X pins σ' H' s'/\Q σ' H') X.xe s
abbrev Co:=V->V->V->Hp->(Hp->Prop)->Prop
def JM(X:Cx)(t:Co):Prop:=
 ∀(pins:List (ae×Obj)) (s:aq) (σ:St) (H:Hp) (o i v:V) (ov iv u:ah) (Q:Hp->Prop),Inv X pins σ H s->b8 o ov->b8 i iv->b8 v u->t o i v H Q->
  aW (model X.prog X.w) X.A (setItem ov iv u) (λ_ s'=>∃H',Inv X pins σ H' s'/\Q H') X.xe s
section
variable{X:Cx}{pos:Pos}
def yy(i:Nat):TG:=λv σ H Q=>Q (σ.set i (some v)) H
theorem fv{i:Nat}{x:Str}(hN:X.N.Nodup)(hi:X.N[i]? =some x)(hx:Loc X.env.scope x)(hf:X.fn x=true\/X.env.scope.names.lookup x=some .local:=by first|exact .inl rfl|exact .inr rfl|assumption):PG X (.Name x pos) (yy i):=by
 intro pins s σ H v u Q I r h;exact wpAny_assign_Name (Ck I hN hi hx r (λs' I'=>⟨_,H,I',h⟩) hf)
def QW(to ti:TE)(t:Co):TG:=λv σ H Q=>to σ H λo H1=>ti σ H1 λi H2=>t o i v H2 λH3=>Q σ H3
theorem jD{o i:bz}{to ti:TE}{t:Co}(ho:PE X o to)(hi:PE X i ti)(hs:JM X t)
 (ha:∀v,assign (.Subscript o i pos) X.env v=(do
   let ov <-holding [v] (eval o X.env)
   let iv <-holding [v,ov] (eval i X.env)
   standAt pos
   holding [v,ov,iv] (setItem ov iv v)
   release [v,ov,iv] []):=by intro _;rfl):PG X (.Subscript o i pos) (QW to ti t):=by
 intro pins s σ H v u Q I r h;rw[ha];refine cg (II (bf (ho pins s σ H _ I h) λov s1 ⟨x,H1,I1,r1,q1⟩=> ?_));refine cg (II (bf (hi pins s1 σ H1 _ I1 q1) λiv s2 ⟨y,H2,I2,r2,q2⟩=> ?_));refine cg (BH (cg (II (bf (hs pins s2 σ H2 x y v ov iv u _ I2 r1 r2 r q2) λ_ s3 ⟨H3,I3,q3⟩=> ?_))));exact wpAny_release ⟨σ,H3,I3,q3⟩
def Cp(te:TE)(g:TG):TS:=λD σ H=>te σ H λx H1=>g x σ H1 D.nx
theorem jE{tg e:bz}{te:TE}{g:TG}(he:PE X e te)(hg:PG X tg g)(hs:swapsWithSole [tg] e pos.line X.env=pure false:=by rfl)(hw:swappedStores [tg] e X.env=pure none:=by rfl)
 (h1:(assignEach [tg] X.env).map (·.2)=[assign tg X.env]:=by rfl):PS X (.Assign [tg] e pos) (Cp te g):=by
 intro pins s σ H D I h;refine wpAny_Assign_stores (bf (he pins s σ H _ I h) λv s1 ⟨x,H1,I1,r1,q1⟩=> ?_) hs hw;rw[h1];exact bf (hg pins s1 σ H1 x v _ I1 r1 q1) λ_ s2 q=>q
theorem bH{i:Nat}{x:Str}{e:bz}{te:TE}{pos':Pos}(hN:X.N.Nodup)(hi:X.N[i]? =some x)(hx:Loc X.env.scope x)(he:PE X e te)(hs:sO e (some (.Name x pos')) pos.line X.env=pure false:=by rfl)(hf:X.fn x=true\/X.env.scope.names.lookup x=some .local:=by first|exact .inl rfl|exact .inr rfl|assumption):
 PS X (.Assign [.Name x pos'] e pos) (Cp te (yy i)):=by
 intro pins s σ H D I h;refine wpAny_Assign_Name (bf (he pins s σ H _ I h) λv s1 ⟨y,H1,I1,r1,q1⟩=> ?_) hs;exact Ck I1 hN hi hx r1 (λs2 I2=>⟨_,H1,I2,q1⟩) hf
def JN(c:TT)(tb:TS):TS:=λD σ H=>∃W:Nat->St->Hp->Prop,(∃m,W m σ H)/\ ∀m σ H,W m σ H->
 c σ H λb H1=>if b=true then∃N:St->Hp->Prop,(∀σ' H',N σ' H'->∃m',m'<m/\W m' σ' H')/\tb {D with nx:=N,ct:=N,bk:=D.nx} σ H1 else D.nx σ H1
theorem yz{c:bz}{body:List cD}{tc:TT}{tb:TS}(hp:PassesOwn (model X.prog X.w) X.A X.env X.xe)(hc:PT X c tc)(hb:gy X body tb):PS X (.While c body [] pos) (JN tc tb):=by
 intro pins s σ H D I h;obtain⟨W,⟨m0,w0⟩,turn⟩:=h;refine wpAny_While (codeAny_whileLoop (λn s'=>∃σ' H',Inv X pins σ' H' s'/\W n σ' H') ?_ m0 ⟨σ,H,I,w0⟩);rintro n s1 ⟨σ1,H1,I1,w1⟩;refine uU hp (bf (hc pins s1 σ1 H1 _ I1 (turn n σ1 H1 w1)) λb s2 ⟨H2,I2,q2⟩=> ?_);cases b with
 |true=>
  obtain⟨N,hN,q2⟩:=q2;rw[if_pos rfl];refine uU hp (bf (hb pins s2 σ1 H2 _ I2 q2) λf s3 q3=> ?_);cases f with
  |next=>
   obtain⟨σ3,H3,I3,n3⟩:=q3;obtain⟨m',hm,w3⟩:=hN σ3 H3 n3;exact⟨m',hm,σ3,H3,I3,w3⟩
  |cont=>
   obtain⟨σ3,H3,I3,n3⟩:=q3;obtain⟨m',hm,w3⟩:=hN σ3 H3 n3;exact⟨m',hm,σ3,H3,I3,w3⟩
  |brk=>exact q3
  |ret v=>exact q3
 |false=>
  rw[if_neg cW];exact sN ⟨σ1,H2,I2,q2⟩
end
structure It where
 go:Nat->Hp->Prop
 oI:Nat->Hp->V->Hp->Prop
 stop:Nat->Hp->Prop
def lH(X:Cx)(pins:List (ae×Obj))(H:Hp)(b:ae):Prop:=
 H b=none/\b≠X.env.locals/\b∉X.fs/\ (b∈X.ex\/X.dB.heap.objs.size<=b)/\ (∀x c,X.env.cells.lookup x=some c->c≠b)/\ ∀p∈X.pn++pins,p.1≠b
theorem Inv.yA{X:Cx}{pins:List (ae×Obj)}{σ:St}{H H':Hp}{s:aq}{b:ae}(I:Inv X pins σ H s)(hb:s.heap.objs.size<=b)(hn:H' b=none):lH X pins H' b:=by
 refine⟨hn,IJ (ej I.lt hb),I.Jz hb,.inr (dw I.sz hb),λx c e z=> ?_,λp hp z=> ?_⟩
 ·obtain⟨v,q⟩:=I.cell x c e;exact absurd (ej q.lt (by rw[z];exact hb)) (iK _)
 ·exact absurd (ej (cY (I.pin p hp).1) (by rw[z];exact hb)) (iK _)
structure Turn(P:aS)(w:aL)(K:az)(tg:bz)(J:It)(fp:List ae)(it:ae)(tn:Nat->aC->Prop):Prop where
 mem:it∈fp
 obj:∀i h,tn i h->∀b∈fp,∃o,h.get? b=some o/\ ∀v,o.data≠ .cell v
 keep:∀i h h',tn i h->(∀b∈fp,∀o,h.get? b=some o->h'.get? b=some o)->tn i h'
 item:∀(X:Cx),X.prog=P->X.w=w->X.K=K->X.calm=true->∀(i:Nat) (pins:List (ae×Obj)) (s:aq) (σ:St) (H:Hp) (E:ah->aq->Prop),Inv X pins σ H s->(∀b∈fp,lH X pins H b)->tn i s.heap->J.go i H->
  aW (model P w) X.A (pyNext (.ref it)) (λr s1=>∃u,r=some u/\
   aW (model P w) X.A (IK tg (.ref it) u) (λ_ s2=>∃x H',Inv X pins σ H' s2/\b8 x u/\J.oI i H x H'/\tn (i+1) s2.heap/\ ∀b∈fp,H' b=none) E s1) E s
 done:∀(X:Cx),X.prog=P->X.w=w->X.K=K->X.calm=true->∀(i:Nat) (pins:List (ae×Obj)) (s:aq) (σ:St) (H:Hp) (E:ah->aq->Prop),Inv X pins σ H s->(∀b∈fp,lH X pins H b)->tn i s.heap->J.stop i H->
  aW (model P w) X.A (pyNext (.ref it)) (λr s1=>r=none/\Inv X pins σ H s1) E s
 self:∀(A:cQ) (i:Nat) (s:aq) (Q:ah->aq->Prop) (E:ah->aq->Prop),tn i s.heap->Q (.ref it) s->aW (model P w) A (pyIter (.ref it)) Q E s
abbrev TI:=St->Hp->(It->Hp->Prop)->Prop
def Cq(X:Cx)(pins:List (ae×Obj))(σ:St)(tg:bz)(R:It->Hp->Prop)(yB:ah)(s2:aq):Prop:=
 ∃(it:ae) (fp:List ae) (tn:Nat->aC->Prop) (J:It) (H':Hp),yB=.ref it/\Inv X pins σ H' s2/\Turn X.prog X.w X.K tg J fp it tn/\tn 0 s2.heap/\ (∀b∈fp,lH X pins H' b)/\R J H'
def PI(X:Cx)(tg iter:bz)(wi:TI):Prop:=
 ∀(pins:List (ae×Obj)) (s:aq) (σ:St) (H:Hp) (R:It->Hp->Prop),Inv X pins σ H s->wi σ H R->
  aW (model X.prog X.w) X.A (eval iter X.env) (λv s1=>aW (model X.prog X.w) X.A (pyIter v) (Cq X pins σ tg R) X.xe s1) X.xe s
theorem Cr{M:Model}{A:cQ}{E:ah->aq->Prop}{s:aq}{tg:bz}{it:ae}{u:ah}{o:Obj}{n:String}{vs:Array ah}{Q:Unit->aq->Prop}(ho:s.heap.get? it=some o)(hc:o.cls=.type n)(hd:o.data=.fields vs)
 (hn:["enumerate","zip","dict_itemiterator","dict_reverseitemiterator","odict_iterator","itertools.zip_longest","itertools.pairwise"].contains n=false) (hQ:Q () s):aW M A (IK tg (.ref it) u) Q E s:=by
 unfold IK;cases tg<;>first
  |exact gc hQ
  |(cases u<;>first
     |exact gc hQ
     |(refine cg (wpAny_load ho ?_)
       rw[hc,hd];show aW M A (if(["enumerate","zip","dict_itemiterator","dict_reverseitemiterator","odict_iterator","itertools.zip_longest","itertools.pairwise"].contains n&&vs[0]? ==some (gF _))=true then _ else _) Q E s
       rw[if_neg (by intro h;rw[hn,Bool.false_and] at h;cases h)]
       exact gc hQ))
def pX(K:az)(a:ae):It:=
 ⟨λi H=>∃xs x,aI K H a xs/\xs[i]? =some x,λi H x H'=>H'=H/\ ∀xs,aI K H a xs->xs[i]? =some x,λi H=>∃xs,aI K H a xs/\xs.length<=i⟩
def oJ(lo:Int)(n:Nat):It:=⟨λi _=>i<n,λi H x H'=>H'=H/\x=.int (lo+i),λi _=>n<=i⟩
theorem QX{P:aS}{w:aL}{K:az}{tg:bz}(a it:ae):Turn P w K tg (pX K a) [it] it (λi h=>h.IsListIter it a i) where
 mem:=by simp
 obj:=λi h st b hb=>by
  have e:b=it:=by simpa using hb
  subst e;obtain⟨o,e,c,d⟩:=st;exact⟨o,e,λv z=>by rw[d] at z;cases z⟩
 keep:=λi h h' st k=>st.at λo e=>k it (by simp) o e
 item:=by
  intro X hP hw hK hc i pins s σ H E I hf st hg;subst hP hw hK;obtain⟨xs,x,hq,hx⟩:=hg;obtain⟨aH,rv,p,hz⟩:=I.list hq;obtain⟨u,hu,ru⟩:=rv.get hx;obtain⟨f0,f1,f2,f3,f4,f5⟩:=hf it (by simp)
  refine wpAny_pyNext_list_item st p.isList (x:=u) (by simpa using hu) λh' pY sb=> ?_
  have I1:Inv X pins σ H {s with heap:=h'}:=I.turned (t':=s.toks) (λb o hb e=>(sb.2 b hb).trans e) f0 f1 f3 f4 f5
  obtain⟨o,e,c,d⟩:=id pY;exact⟨u,rfl,Cr (s:={s with heap:=h'}) e c d (by decide) ⟨x,H,I1,ru,⟨rfl,λys hy=>by rw[I.QP hy hq];exact hx⟩,pY,λb hb=>(hf b hb).1⟩⟩
 done:=by
  intro X hP hw hK hc i pins s σ H E I hf st hg;subst hP hw hK;obtain⟨xs,hq,hx⟩:=hg;obtain⟨aH,rv,p,hz⟩:=I.list hq;obtain⟨f0,f1,f2,f3,f4,f5⟩:=hf it (by simp)
  have hl:=rv.length;exact wpAny_pyNext_list_end (I.ok.hd hc) st p.isList (by simp;omega) λh' eb=>⟨rfl,I.turned (t':=s.toks) (λb o hb e=>eb b o hb e) f0 f1 f3 f4 f5⟩
 self:=λ_ _ _ _ _ st h=>wpAny_pyIter_listiter st h
theorem QY{P:aS}{w:aL}{K:az}{tg:bz}(it:ae)(lo:Int)(n:Nat):Turn P w K tg (oJ lo n) [it] it (λi h=>IsRangeIter h it (lo+(i:Nat)*1) ((n:Int)-(i:Nat)) 1) where
 mem:=by simp
 obj:=λi h st b hb=>by
  have e:b=it:=by simpa using hb
  subst e;exact⟨_,st,λv z=>by
   have z':Data.fields _=Data.cell v:=z;cases z'⟩
 keep:=λi h h' st k=>k it (by simp) _ st
 item:=by
  intro X hP hw hK hc i pins s σ H E I hf st hg;subst hP hw hK;obtain⟨f0,f1,f2,f3,f4,f5⟩:=hf it (by simp)
  have W:=Walks.range (prog:=X.prog) (w:=X.w) (I.ok.hd hc) it lo 1 n;refine W.item i s _ _ hg st λv h' tk hv pY kk=> ?_;obtain⟨t,rfl⟩:=hv;have I1:Inv X pins σ H {s with heap:=h',toks:=tk}:=I.turned (λb o hb e=>kk b o (by simpa using hb) e) f0 f1 f3 f4 f5
  refine⟨_,rfl,Cr (s:={s with heap:=h',toks:=tk}) (n:="range_iterator") pY rfl rfl (by decide) ⟨.int (lo+i),H,I1,⟨t,?_⟩,⟨rfl,rfl⟩,pY,λb hb=>(hf b hb).1⟩⟩
  rw[Int.mul_one]
 done:=by
  intro X hP hw hK hc i pins s σ H E I hf st hg;subst hP hw hK;obtain⟨f0,f1,f2,f3,f4,f5⟩:=hf it (by simp)
  exact wpAny_pyNext_range_end (I.ok.hd hc) st (by have:n<=i:=hg;omega) λh' eb=>⟨rfl,I.turned (t':=s.toks) (λb o hb e=>eb b o hb e) f0 f1 f3 f4 f5⟩
 self:=λ_ _ _ _ _ st h=>wpAny_pyIter_rangeiter st h
section
variable{X:Cx}{tg:bz}
def QZ(K:az)(tl:TE):TI:=λσ H R=>tl σ H λx H1=>∃a,x=.ref a/\ (∃xs,aI K H1 a xs)/\R (pX K a) H1
theorem g8{l:bz}{tl:TE}(hl:PE X l tl):PI X tg l (QZ X.K tl):=by
 intro pins s σ H R I h;refine bf (hl pins s σ H _ I h) λv s1 ⟨x,H1,I1,r1,q1⟩=> ?_;obtain⟨a,e,⟨xs,hq⟩,q⟩:=q1;subst e;cases r1;obtain⟨aH,rv,p,hz⟩:=I1.list hq;refine wpAny_pyIter_list p.isList ?_;refine⟨s1.heap.objs.size,[s1.heap.objs.size],_,_,H1,rfl,I1.kept (t':=s1.toks) λb o e=>eO _ e,QX a _,⟨_,iM _ rfl,rfl,rfl⟩,λb hb=> ?_,q⟩;have e:b=s1.heap.objs.size:=by simpa using hb
 subst e;exact I1.yA (bE _) (I1.aU.fresh (bE _))
theorem Q0{pins:List (ae×Obj)}{σ:St}{H:Hp}{s:aq}{R:It->Hp->Prop}{E:ah->aq->Prop}{lo hi:Int}{t u v:Tok}{tk:Nat}(I:Inv X pins σ H s)(h1: -(2^62)<=lo)(h2:lo<2^62)(h3: -(2^62)<=hi)(h4:hi<2^62)
 (q:R (oJ lo (hi-lo).toNat) H):aW (model X.prog X.w) X.A (pyIter (.ref s.heap.objs.size)) (Cq X pins σ tg R) E {s with heap:=s.heap.push {cls:=.type "range",data:=.fields #[.int lo t,.int hi u,.int 1 v]},toks:=tk}:=by
 refine wpAny_pyIter_range (IsRange.new ..) (small_one h1 h2 h3 h4) ?_;have I1:Inv X pins σ H {s with heap:=s.heap.push {cls:=.type "range",data:=.fields #[.int lo t,.int hi u,.int 1 v]},toks:=tk}:=I.kept λb o e=>eO _ e
 refine⟨(s.heap.push {cls:=.type "range",data:=.fields #[.int lo t,.int hi u,.int 1 v]}).objs.size,[(s.heap.push {cls:=.type "range",data:=.fields #[.int lo t,.int hi u,.int 1 v]}).objs.size],_,_,H,rfl,
  I1.kept (t':=tk) λb o e=>eO _ e,QY _ lo (hi-lo).toNat,?_,λb hb=> ?_,q⟩
 ·have e1:lo+((0:Nat):Int)*1=lo:=by simp
  have e2:(((hi-lo).toNat:Nat):Int)-((0:Nat):Int)=aff lo hi 1:=by rw[rangeSize_one];split<;>omega
  show IsRangeIter _ _ (lo+((0:Nat):Int)*1) ((((hi-lo).toNat:Nat):Int)-((0:Nat):Int)) 1;rw[e1,e2];exact iM _ rfl
 ·have e:b=(s.heap.push {cls:=.type "range",data:=.fields #[.int lo t,.int hi u,.int 1 v]}).objs.size:=by simpa using hb
  subst e;exact I1.yA (bE _) (I1.aU.fresh (bE _))
def Q1(ta:TA):TI:=λσ H R=>ta σ H λvs H1=>∃j:Int,vs=[.int j]/\ -(2^62)<=j/\j<2^62/\R (oJ 0 j.toNat) H1
theorem vi{a:bz}{ta:TA}{p pos:Pos}(hg:Gl X "range")(hm:X.mg "range"=none)(ha:PA X [a] ta)(hs:cG [a] X.env=[(false,eval a X.env)]:=by rfl):PI X tg (.Call (.Name "range" p) [a] [] pos) (Q1 ta):=by
 intro pins s σ H R I h;refine Call_ (yt I hg hm boot_range (Pu (bf (ha pos pins s σ H _ I h) λus s1 ⟨vs,H1,I1,r1,q1⟩=> ?_) hs rfl));obtain⟨j,e,q1,q2,q⟩:=q1;subst e;cases r1 with
 |cons r rr=>
  cases rr;obtain⟨t,rfl⟩:=r;exact call_range_1 (Q0 I1 (by omega) (by omega) q1 q2 (by simpa using q))
def JO(wi:TI)(g:TG)(tb:TS):TS:=λD σ H=>wi σ H λJ H1=>∃W:Nat->Nat->St->Hp->Prop,(∃m,W 0 m σ H1)/\ ∀i m σ H,W i m σ H->
 (J.stop i H/\D.nx σ H)\/(J.go i H/\ ∃N:St->Hp->Prop,(∀σ' H',N σ' H'->∃m',m'<m/\W (i+1) m' σ' H')/\ ∀x H',J.oI i H x H'->g x σ H' λσ2 H2=>tb {D with nx:=N,ct:=N,bk:=D.nx} σ2 H2)
def pZ(fp:List ae)(h:aC):List (ae×Obj):=fp.filterMap λb=>(h.get? b).map λo=>(b,o)
theorem vj{fp:List ae}{h:aC}{b:ae}{o:Obj}(hb:b∈fp)(e:h.get? b=some o):(b,o)∈pZ fp h:=List.mem_filterMap.mpr ⟨b,hb,by rw[e];rfl⟩
theorem Q2{fp:List ae}{h:aC}{p:ae×Obj}(hp:p∈pZ fp h):p.1∈fp/\h.get? p.1=some p.2:=by
 obtain⟨b,hb,e⟩:=List.mem_filterMap.mp hp;cases q:h.get? b with
 |none=>rw[q] at e;cases e
 |some o=>
  rw[q] at e;have e':(b,o)=p:=f9 e;subst e';exact⟨hb,q⟩
theorem Inv.pinned{pins:List (ae×Obj)}{σ:St}{H:Hp}{s:aq}{fp:List ae}(I:Inv X pins σ H s)(hf:∀b∈fp,lH X pins H b)(ho:∀b∈fp,∃o,s.heap.get? b=some o/\ ∀v,o.data≠ .cell v):Inv X (pins++pZ fp s.heap) σ H s:=
 I.JB λp hp=>(gO.mp hp).elim (λz=>I.pin p (mX _ z)) λz=>by
  obtain⟨hb,e⟩:=Q2 z;obtain⟨f0,f1,f2,_⟩:=hf p.1 hb;obtain⟨o,e',d⟩:=ho p.1 hb;rw[e] at e';cases e';exact⟨e,f0,f1,f2,d⟩
theorem Inv.qZ{pins pl:List (ae×Obj)}{σ:St}{H:Hp}{s:aq}(I:Inv X (pins++pl) σ H s):Inv X pins σ H s:=I.JB λp hp=>I.pin p (mX _ (IH _ hp))
theorem lI{iter:bz}{body:List cD}{wi:TI}{g:TG}{tb:TS}{pos:Pos}(hp:PassesOwn (model X.prog X.w) X.A X.env X.xe)(hc:X.calm=true)(hi:PI X tg iter wi)(hg:PG X tg g)(hb:gy X body tb)
 (hs:∀x,BI iter X.env x=pure x:=by intro _;rfl):PS X (.For tg iter body [] pos) (JO wi g tb):=by
 intro pins s σ H D I h;refine wpAny_For (bf (hi pins s σ H _ I h) λv s1 h1=>bf h1 λyB s2 h2=> ?_) hs;obtain⟨it,fp,tn,J,H2,e,I2,T,tM,f2,W,⟨m0,w0⟩,turn⟩:=h2;subst e;have lJ:∀{H':Hp},(∀b∈fp,H' b=none)->∀b∈fp,lH X pins H' b:=λhn b hb=>⟨hn b hb,(f2 b hb).2⟩;refine codeAny_forLoop_any (λn s'=>∃i σ' H',Inv X pins σ' H' s'/\tn i s'.heap/\ (∀b∈fp,H' b=none)/\W i n σ' H') ?_ m0 ⟨0,σ,H2,I2,tM,λb hb=>(f2 b hb).1,w0⟩;rintro n s3 ⟨i,σ3,H3,I3,q0,vk,w3⟩;rcases turn i n σ3 H3 w3 with⟨stop,qn⟩|⟨go,N,hN,step⟩
 ·refine uU hp (bf (T.done X rfl rfl rfl hc i pins s3 σ3 H3 X.xe I3 (lJ vk) q0 stop) λr s4 ⟨hr,I4⟩=> ?_);subst hr;exact sN ⟨σ3,H3,I4,qn⟩
 ·refine uU hp (bf (T.item X rfl rfl rfl hc i pins s3 σ3 H3 X.xe I3 (lJ vk) q0 go) λr s4 ⟨u,hr,h4⟩=> ?_);subst hr;refine uU hp (bf h4 λ_ s5 ⟨x,H5,I5,r5,y5,nF,Cs⟩=> ?_);have Ct:=I5.pinned (lJ Cs) (T.obj _ _ nF);refine uU hp (bf (hg _ s5 σ3 H5 x u _ Ct r5 (step x H5 y5)) λ_ s6 ⟨σ6,H6,I6,q6⟩=> ?_);refine uU hp (bf (hb _ s6 σ6 H6 _ I6 q6) λf s7 q7=> ?_);have again:∀{σ7:St} {H7:Hp},Inv X (pins++pZ fp s5.heap) σ7 H7 s7->N σ7 H7->∃m,m<n/\ ∃i σ' H',Inv X pins σ' H' s7/\tn i s7.heap/\ (∀b∈fp,H' b=none)/\W i m σ' H':=λ{σ7 H7} I7 n7=>by
   obtain⟨m',hm,w7⟩:=hN σ7 H7 n7;refine⟨m',hm,i+1,σ7,H7,I7.qZ,T.keep _ _ _ nF λb hb o e=>(I7.pin (b,o) (mX _ (mX _ (vj hb e)))).1,λb hb=> ?_,w7⟩;obtain⟨o,e,d⟩:=T.obj _ _ nF b hb;exact(I7.pin (b,o) (mX _ (mX _ (vj hb e)))).2.1
  cases f with
  |next=>obtain⟨σ7,H7,I7,n7⟩:=q7;exact again I7 n7
  |cont=>obtain⟨σ7,H7,I7,n7⟩:=q7;exact again I7 n7
  |brk=>obtain⟨σ7,H7,I7,q7⟩:=q7;exact⟨σ7,H7,I7.qZ,q7⟩
  |ret v=>obtain⟨x7,σ7,H7,I7,r7,q7⟩:=q7;exact⟨x7,σ7,H7,I7.qZ,r7,q7⟩
end
theorem lK{K:az}{a:ae}{xs:List V}{g:TG}{tb:TS}{D:Ends}{σ:St}{H:Hp}(Pv:Nat->St->Hp->Prop)(h0:Pv 0 σ H)(hl:∀i σ H,i<=xs.length->Pv i σ H->aI K H a xs)
 (hs:∀i x σ H,xs[i]? =some x->Pv i σ H->g x σ H λσ2 H2=>tb {D with nx:=Pv (i+1),ct:=Pv (i+1),bk:=D.nx} σ2 H2) (hd:∀σ H,Pv xs.length σ H->D.nx σ H):
 ∃W:Nat->Nat->St->Hp->Prop,(∃m,W 0 m σ H)/\ ∀i m σ H,W i m σ H->
  ((pX K a).stop i H/\D.nx σ H)\/((pX K a).go i H/\ ∃N:St->Hp->Prop,(∀σ' H',N σ' H'->∃m',m'<m/\W (i+1) m' σ' H')/\ ∀x H',(pX K a).oI i H x H'->g x σ H' λσ2 H2=>tb {D with nx:=N,ct:=N,bk:=D.nx} σ2 H2):=by
 refine⟨λi m σ H=>m=xs.length-i/\i<=xs.length/\Pv i σ H,⟨xs.length,by simp,eV _,h0⟩,?_⟩
 rintro i m σ H ⟨rfl,hi,p⟩;have q:=hl i σ H hi p;by_cases dR:i<xs.length
 ·refine .inr ⟨⟨xs,xs[i],q,by simp[dR]⟩,Pv (i+1),λσ' H' p'=>⟨xs.length-(i+1),by omega,rfl,dR,p'⟩,λx H' y=> ?_⟩
  obtain⟨e,y⟩:=y;subst e;exact hs i x σ _ (y xs q) p
 ·have e:i=xs.length:=by omega
  subst e;exact .inl ⟨⟨xs,q,bE _⟩,hd σ H p⟩
theorem Cu{lo:Int}{n:Nat}{g:TG}{tb:TS}{D:Ends}{σ:St}{H:Hp}(Pv:Nat->St->Hp->Prop)(h0:Pv 0 σ H)
 (hs:∀i σ H,i<n->Pv i σ H->g (.int (lo+i)) σ H λσ2 H2=>tb {D with nx:=Pv (i+1),ct:=Pv (i+1),bk:=D.nx} σ2 H2) (hd:∀σ H,Pv n σ H->D.nx σ H):
 ∃W:Nat->Nat->St->Hp->Prop,(∃m,W 0 m σ H)/\ ∀i m σ H,W i m σ H->
  ((oJ lo n).stop i H/\D.nx σ H)\/((oJ lo n).go i H/\ ∃N:St->Hp->Prop,(∀σ' H',N σ' H'->∃m',m'<m/\W (i+1) m' σ' H')/\ ∀x H',(oJ lo n).oI i H x H'->g x σ H' λσ2 H2=>tb {D with nx:=N,ct:=N,bk:=D.nx} σ2 H2):=by
 refine⟨λi m σ H=>m=n-i/\i<=n/\Pv i σ H,⟨n,by simp,eV _,h0⟩,?_⟩
 rintro i m σ H ⟨rfl,hi,p⟩;by_cases dR:i<n
 ·refine .inr ⟨dR,Pv (i+1),λσ' H' p'=>⟨n-(i+1),by omega,rfl,dR,p'⟩,λx H' y=> ?_⟩
  obtain⟨e,y⟩:=y;subst e y;exact hs i σ _ dR p
 ·have e:i=n:=by omega
  subst e;exact .inl ⟨bE _,hd σ H p⟩
abbrev R2:=V->V->Hp->VK->Prop
def eY(X:Cx)(f:ah->ah->Sem ah)(r:R2):Prop:=
 ∀(pins:List (ae×Obj)) (s:aq) (σ:St) (H:Hp) (x y:V) (v u:ah) (Q:VK),Inv X pins σ H s->b8 x v->b8 y u->r x y H Q->
  aW (model X.prog X.w) X.A (f v u) (EP X pins σ Q) X.xe s
def Cv(X:Cx)(f:ah->Sem ah)(r:V->Hp->VK->Prop):Prop:=
 ∀(pins:List (ae×Obj)) (s:aq) (σ:St) (H:Hp) (x:V) (v:ah) (Q:VK),Inv X pins σ H s->b8 x v->r x H Q->
  aW (model X.prog X.w) X.A (f v) (EP X pins σ Q) X.xe s
def jF(X:Cx)(f:ah)(r:List V->Hp->VK->Prop):Prop:=
 ∀(pins:List (ae×Obj)) (s:aq) (σ:St) (H:Hp) (xs:List V) (us:List ah) (Q:VK),Inv X pins σ H s->Vals xs us->r xs H Q->
  aW (model X.prog X.w) X.A (call f us) (EP X pins σ Q) X.xe s
def vm(r:R2)(ta tb:TE):TE:=λσ H Q=>ta σ H λx H1=>tb σ H1 λy H2=>r x y H2 Q
def Q3(r:V->Hp->VK->Prop)(ta:TE):TE:=λσ H Q=>ta σ H λx H1=>r x H1 Q
def rI(C:Int->Int->Prop)(g:Int->Int->V):R2:=λx y H Q=>∃i j,x=.int i/\y=.int j/\C i j/\Q (g i j) H
def nH(g:Int->Int->V):R2:=λx y H Q=>∃i j,x=.int i/\y=.int j/\Q (g i j) H
def rU(g:Int->V):V->Hp->VK->Prop:=λx H Q=>∃i,x=.int i/\Q (g i) H
section
variable{X:Cx}{a b c:bz}{ta tb tc:TE}{pos:Pos}
theorem Cw(ha:PE X a ta)(hb:PE X b tb){pins:List (ae×Obj)}{s:aq}{σ:St}{H:Hp}{R:V->V->Hp->Prop}(I:Inv X pins σ H s)
 (h:ta σ H λx H1=>tb σ H1 λy H2=>R x y H2) {Q:ah->aq->Prop} {f:ah->ah->Sem ah}
 (hf:∀v u s2 x y H2,Inv X pins σ H2 s2->b8 x v->b8 y u->R x y H2->aW (model X.prog X.w) X.A (f v u) Q X.xe s2):
 aW (model X.prog X.w) X.A (eval a X.env) (λv s₁=>aW (model X.prog X.w) X.A (eval b X.env) (λu s₂=>aW (model X.prog X.w) X.A (f v u) Q X.xe s₂) X.xe s₁) X.xe s:=by
 refine bf (ha pins s σ H _ I h) λv s1 ⟨x,H1,I1,r1,q1⟩=> ?_;refine bf (hb pins s1 σ H1 _ I1 q1) λu s2 ⟨y,H2,I2,r2,q2⟩=> ?_;exact hf v u s2 x y H2 I2 r1 r2 q2
theorem cy{op:Operator}{r:R2}(ho:eY X (ou op) r)(ha:PE X a ta)(hb:PE X b tb):PE X (.BinOp a op b pos) (vm r ta tb):=by
 intro pins s σ H Q I h;exact wpAny_BinOp (Cw ha hb I h λv u s2 x y H2 I2 rx ry q=>ho pins s2 σ H2 x y v u Q I2 rx ry q)
theorem Cy{op:UnaryOp}{r:V->Hp->VK->Prop}(ho:Cv X (unaryOp op) r)(ha:PE X a ta):PE X (.UnaryOp op a pos) (Q3 r ta):=by
 intro pins s σ H Q I h;exact UnaryOp_ (bf (ha pins s σ H _ I h) λv s1 ⟨x,H1,I1,r1,q1⟩=>ho pins s1 σ H1 x v Q I1 r1 q1)
theorem Cz{f:ah->ah->Sem ah}{C:Int->Int->Prop}{g:Int->Int->Int}
 (rule:∀(i j:Int) (t u:Tok) (s:aq) (Q:ah->aq->Prop) (E:ah->aq->Prop),C i j->Q (.int (g i j) s.toks) {s with toks:=s.toks+1}->aW (model X.prog X.w) X.A (f (.int i t) (.int j u)) Q E s):
 eY X f (rI C λi j=>.int (g i j)):=by
 intro pins s σ H x y v u Q I rx ry h;obtain⟨i,j,rfl,rfl,hc,q⟩:=h;obtain⟨t,rfl⟩:=rx;obtain⟨t',rfl⟩:=ry;exact rule i j t t' s _ _ hc ⟨.int (g i j),H,I.tok _,⟨_,rfl⟩,q⟩
theorem yC{f:ah->ah->Sem ah}{g:Int->Int->Int}
 (rule:∀(i j:Int) (t u:Tok) (s:aq) (Q:ah->aq->Prop) (E:ah->aq->Prop),Q (.int (g i j) s.toks) {s with toks:=s.toks+1}->aW (model X.prog X.w) X.A (f (.int i t) (.int j u)) Q E s):
 eY X f (nH λi j=>.int (g i j)):=by
 intro pins s σ H x y v u Q I rx ry h;obtain⟨i,j,rfl,rfl,q⟩:=h;obtain⟨t,rfl⟩:=rx;obtain⟨t',rfl⟩:=ry;exact rule i j t t' s _ _ ⟨.int (g i j),H,I.tok _,⟨_,rfl⟩,q⟩
theorem yD{f:ah->ah->Sem ah}{g:Int->Int->Bool}
 (rule:∀(i j:Int) (t u:Tok) (s:aq) (Q:ah->aq->Prop) (E:ah->aq->Prop),Q (.bool (g i j)) s->aW (model X.prog X.w) X.A (f (.int i t) (.int j u)) Q E s):
 eY X f (nH λi j=>.bl (g i j)):=by
 intro pins s σ H x y v u Q I rx ry h;obtain⟨i,j,rfl,rfl,q⟩:=h;obtain⟨t,rfl⟩:=rx;obtain⟨t',rfl⟩:=ry;exact rule i j t t' s _ _ ⟨.bl (g i j),H,I,rfl,q⟩
def CA(i j:Int):Prop:=(-(2^64)<i/\i<2^64)\/(-(2^64)<j/\j<2^64)
theorem CA.ok{i j:Int}(h:CA i j):IntMulOk i j:=by
 rcases h with⟨h1,h2⟩|⟨h1,h2⟩
 ·exact .of_left (intBits_le_64 h1 h2)
 ·exact .of_right (intBits_le_64 h1 h2)
theorem i8:eY X (ou .Add) (nH λi j=>.int (i+j)):=yC λ_ _ _ _ _ _ _ q=>add_int q
theorem p9:eY X (ou .Sub) (nH λi j=>.int (i-j)):=yC λ_ _ _ _ _ _ _ q=>sub_int q
theorem JP:eY X (ou .Mult) (rI CA λi j=>.int (i*j)):=Cz λ_ _ _ _ _ _ _ hc q=>mul_int q hc.ok
theorem Q4:eY X (ou .Mod) (rI (λ_ j=>j≠0) λi j=>.int (i.fmod j)):=Cz λ_ _ _ _ _ _ _ hc q=>mod_int' hc q
theorem JQ:eY X (ou .BitAnd) (nH λi j=>.int (Builtin.bitAnd i j)):=yC λ_ _ _ _ _ _ _ q=>and_int q
theorem Q5:eY X (ou .BitOr) (nH λi j=>.int (Builtin.bitOr i j)):=yC λ_ _ _ _ _ _ _ q=>or_int q
theorem Q6{f:ah->Sem ah}{g:Int->Int}
 (rule:∀(i:Int) (t:Tok) (s:aq) (Q:ah->aq->Prop) (E:ah->aq->Prop),Q (.int (g i) s.toks) {s with toks:=s.toks+1}->aW (model X.prog X.w) X.A (f (.int i t)) Q E s):
 Cv X f (rU λi=>.int (g i)):=by
 intro pins s σ H x v Q I rx h;obtain⟨i,rfl,q⟩:=h;obtain⟨t,rfl⟩:=rx;exact rule i t s _ _ ⟨.int (g i),H,I.tok _,⟨_,rfl⟩,q⟩
theorem CB:Cv X (unaryOp .USub) (rU λi=>.int (-i)):=Q6 λ_ _ _ _ _ q=>neg_int q
end
def JR:V->V->Bool
 | .aO,.aO=>true| .aO,.int _=>true| .int _,.aO=>true| .aO,.bl _=>true| .bl _,.aO=>true| .aO,.str _=>true| .str _,.aO=>true
 | .int _,.int _=>true| .bl _,.bl _=>true| .str _,.str _=>true| .iP _,.iP _=>true
 | .int _,.str _=>true| .str _,.int _=>true| .bl _,.str _=>true| .str _,.bl _=>true
 |_,_=>false
def Q7:R2:=λx y H Q=>JR x y=true/\Q (.bl (decide (x=y))) H
def Q8:R2:=λx y H Q=>JR x y=true/\Q (.bl (!decide (x=y))) H
theorem CD{i j:Int}:decide (V.int i=V.int j)=(i==j):=by
 rw[BJ];simp
theorem JS{i j:Bool}:decide (V.bl i=V.bl j)=(i==j):=by
 rw[BJ];simp
theorem JT{i j:Str}:decide (V.str i=V.str j)=(i==j):=by
 rw[BJ];simp
theorem JU{i j:Array UInt8}:decide (V.iP i=V.iP j)=(i.toList==j.toList):=by
 rw[BJ];cases i;cases j;simp
section
variable{X:Cx}{a b c:bz}{ta tb tc:TE}{pos:Pos}
theorem eC{pins:List (ae×Obj)}{σ:St}{H:Hp}{s:aq}{Q:VK}{k k':Bool}(I:Inv X pins σ H s)(q:Q (.bl k) H)(e:k=k'):EP X pins σ Q (.bool k') s:=by
 subst e;exact⟨.bl k,H,I,rfl,q⟩
theorem fR:eY X (kE .Eq) Q7:=by
 intro pins s σ H x y v u Q I rx ry h;obtain⟨hs,q⟩:=h;cases x with
 |aO=>
  cases rx;cases y with
  |aO=>cases ry;exact PySem.EqNone.eq_none_none (eC I q (by simp))
  |bl j=>cases ry;exact PySem.EqNone.eq_none_bool (eC I q (by simp))
  |int j=>obtain⟨t',rfl⟩:=ry;exact PySem.EqNone.eq_none_int (eC I q (by simp))
  |str j=>obtain⟨t',rfl⟩:=ry;exact PySem.EqNone.eq_none_str (eC I q (by simp))
  |_=>exact absurd (show false=true from hs) cW
 |bl i=>
  cases rx;cases y with
  |aO=>cases ry;exact PySem.EqNone.eq_bool_none (eC I q (by simp))
  |bl j=>cases ry;exact eq_bool (eC I q JS)
  |str j=>obtain⟨t',rfl⟩:=ry;exact PySem.EqMixed.eq_bool_str (eC I q (by simp))
  |_=>exact absurd (show false=true from hs) cW
 |int i=>
  obtain⟨t,rfl⟩:=rx;cases y with
  |aO=>cases ry;exact PySem.EqNone.eq_int_none (eC I q (by simp))
  |int j=>obtain⟨t',rfl⟩:=ry;exact eq_int (eC I q CD)
  |str j=>obtain⟨t',rfl⟩:=ry;exact PySem.EqMixed.eq_int_str (eC I q (by simp))
  |_=>exact absurd (show false=true from hs) cW
 |str i=>
  obtain⟨t,rfl⟩:=rx;cases y with
  |aO=>cases ry;exact PySem.EqNone.eq_str_none (eC I q (by simp))
  |bl j=>cases ry;exact PySem.EqMixed.eq_str_bool (eC I q (by simp))
  |int j=>obtain⟨t',rfl⟩:=ry;exact PySem.EqMixed.eq_str_int (eC I q (by simp))
  |str j=>obtain⟨t',rfl⟩:=ry;exact eq_str (eC I q JT)
  |_=>exact absurd (show false=true from hs) cW
 |iP i=>
  obtain⟨t,rfl⟩:=rx;cases y with
  |iP j=>obtain⟨t',rfl⟩:=ry;exact PySem.W.eq_bytes (eC I q JU)
  |_=>exact absurd (show false=true from hs) cW
 |_=>cases y<;>exact absurd (show false=true from hs) cW
theorem jj:eY X (kE .NotEq) Q8:=by
 intro pins s σ H x y v u Q I rx ry h;obtain⟨hs,q⟩:=h;cases x with
 |aO=>
  cases rx;cases y with
  |aO=>cases ry;exact PySem.EqNone.ne_none_none (eC I q (by simp))
  |bl j=>cases ry;exact PySem.EqNone.ne_none_bool (eC I q (by simp))
  |int j=>obtain⟨t',rfl⟩:=ry;exact PySem.EqNone.ne_none_int (eC I q (by simp))
  |str j=>obtain⟨t',rfl⟩:=ry;exact PySem.EqNone.ne_none_str (eC I q (by simp))
  |_=>exact absurd (show false=true from hs) cW
 |bl i=>
  cases rx;cases y with
  |aO=>cases ry;exact PySem.EqNone.ne_bool_none (eC I q (by simp))
  |bl j=>cases ry;exact ne_bool (eC I q (congrArg not JS))
  |str j=>obtain⟨t',rfl⟩:=ry;exact PySem.EqMixed.ne_bool_str (eC I q (by simp))
  |_=>exact absurd (show false=true from hs) cW
 |int i=>
  obtain⟨t,rfl⟩:=rx;cases y with
  |aO=>cases ry;exact PySem.EqNone.ne_int_none (eC I q (by simp))
  |int j=>obtain⟨t',rfl⟩:=ry;exact ne_int (eC I q (congrArg not CD))
  |str j=>obtain⟨t',rfl⟩:=ry;exact PySem.EqMixed.ne_int_str (eC I q (by simp))
  |_=>exact absurd (show false=true from hs) cW
 |str i=>
  obtain⟨t,rfl⟩:=rx;cases y with
  |aO=>cases ry;exact PySem.EqNone.ne_str_none (eC I q (by simp))
  |bl j=>cases ry;exact PySem.EqMixed.ne_str_bool (eC I q (by simp))
  |int j=>obtain⟨t',rfl⟩:=ry;exact PySem.EqMixed.ne_str_int (eC I q (by simp))
  |str j=>obtain⟨t',rfl⟩:=ry;exact ne_str (eC I q (congrArg not JT))
  |_=>exact absurd (show false=true from hs) cW
 |iP i=>
  obtain⟨t,rfl⟩:=rx;cases y with
  |iP j=>obtain⟨t',rfl⟩:=ry;exact PySem.W.ne_bytes (eC I q (congrArg not JU))
  |_=>exact absurd (show false=true from hs) cW
 |_=>cases y<;>exact absurd (show false=true from hs) cW
theorem gz:eY X (kE .Lt) (nH λi j=>.bl (decide (i<j))):=yD λ_ _ _ _ _ _ _ q=>lt_int q
theorem iQ:eY X (kE .LtE) (nH λi j=>.bl (decide (i<=j))):=yD λ_ _ _ _ _ _ _ q=>le_int q
theorem lL:eY X (kE .Gt) (nH λi j=>.bl (decide (j<i))):=yD λ_ _ _ _ _ _ _ q=>gt_int q
theorem JV:eY X (kE .GtE) (nH λi j=>.bl (decide (j<=i))):=yD λ_ _ _ _ _ _ _ q=>ge_int q
theorem bQ(b:bz){op:CmpOp}(h:op≠ .In:=by decide)(h2:op≠ .NotIn:=by decide):sM op b=false:=by
 have e1:(op==CmpOp.In)=false:=by cases op<;>first|rfl|exact absurd rfl h
 have e2:(op==CmpOp.NotIn)=false:=by cases op<;>first|rfl|exact absurd rfl h2
 cases b<;>simp[sM,e1,e2]
theorem oM{op:CmpOp}{r:R2}(ho:eY X (kE op) r)(ha:PE X a ta)(hb:PE X b tb)(hm:sM op b=false):PE X (.Compare a [op] [b] pos) (vm r ta tb):=by
 intro pins s σ H Q I h;exact wpAny_Compare1 (Cw ha hb I h λv u s2 x y H2 I2 rx ry q=>ho pins s2 σ H2 x y v u Q I2 rx ry q) hm
def JW(t:TE):TT:=λσ H Q=>t σ H λx H'=>∃k,x=.bl k/\Q k H'
theorem bW{op:CmpOp}{r:R2}(ho:eY X (kE op) r)(ha:PE X a ta)(hb:PE X b tb)(hm:sM op b=false):PT X (.Compare a [op] [b] pos) (JW (vm r ta tb)):=by
 intro pins s σ H Q I h;refine wpAny_isTrue_Compare1 (bf (ha pins s σ H _ I h) λv s1 ⟨x,H1,I1,r1,q1⟩=>bf (hb pins s1 σ H1 _ I1 q1) λu s2 ⟨y,H2,I2,r2,q2⟩=>
  bf (ho pins s2 σ H2 x y v u _ I2 r1 r2 q2) λc s3 ⟨z,H3,I3,r3,k,e,q3⟩=> ?_) hm
 subst e;cases r3;exact qH ⟨H3,I3,q3⟩
def JX(r r':R2)(ta tb tc:TE):TE:=λσ H Q=>ta σ H λx H1=>tb σ H1 λy H2=>r x y H2 λz H3=>∃k,z=.bl k/\
 (if k=true then tc σ H3 λw' H4=>r' y w' H4 Q else Q (.bl false) H3)
theorem yE{op q_:CmpOp}{r r':R2}(ho:eY X (kE op) r)(jB:eY X (kE q_) r')(ha:PE X a ta)(hb:PE X b tb)(hc:PE X c tc)
 (hm:lastMarks [op,q_] [b,c]=false:=by with_unfolding_all rfl):PE X (.Compare a [op,q_] [b,c] pos) (JX r r' ta tb tc):=by
 intro pins s σ H Q I h;refine Compare_chain (bf (ha pins s σ H _ I h) λv s1 ⟨x,H1,I1,r1,q1⟩=>chain_link (bf (hb pins s1 σ H1 _ I1 q1) λu s2 ⟨y,H2,I2,r2,q2⟩=>
  bf (ho pins s2 σ H2 x y v u _ I2 r1 r2 q2) λd s3 ⟨z,H3,I3,r3,k,e,q3⟩=> ?_)) hm
 subst e;cases r3;refine qH ?_;cases k with
 |false=>exact ite_ff ⟨.bl false,H3,I3,rfl,q3⟩
 |true=>exact ite_tt (chain_last (bf (hc pins s3 σ H3 _ I3 q3) λw' s4 ⟨z',H4,I4,r4,q4⟩=>jB pins s4 σ H4 y z' u w' Q I4 r2 r4 q4))
theorem vn{op q_:CmpOp}{r r':R2}(ho:eY X (kE op) r)(jB:eY X (kE q_) r')(ha:PE X a ta)(hb:PE X b tb)(hc:PE X c tc)
 (hm:lastMarks [op,q_] [b,c]=false:=by with_unfolding_all rfl):PT X (.Compare a [op,q_] [b,c] pos) (JW (JX r r' ta tb tc)):=by
 intro pins s σ H Q I h;refine isTrue_chain (bf (ha pins s σ H _ I h) λv s1 ⟨x,H1,I1,r1,q1⟩=>test_link (bf (hb pins s1 σ H1 _ I1 q1) λu s2 ⟨y,H2,I2,r2,q2⟩=>
  bf (ho pins s2 σ H2 x y v u _ I2 r1 r2 q2) λd s3 ⟨z,H3,I3,r3,k,e,q3⟩=> ?_)) hm
 subst e;cases r3;refine qH ?_;cases k with
 |false=>
  obtain⟨k',e',q'⟩:=q3;cases e';exact ite_ff ⟨H3,I3,q'⟩
 |true=>
  refine ite_tt (test_last (bf (hc pins s3 σ H3 _ I3 q3) λw' s4 ⟨z',H4,I4,r4,q4⟩=>bf (jB pins s4 σ H4 y z' u w' _ I4 r2 r4 q4) λd' s5 ⟨z2,H5,I5,r5,k2,e2,q5⟩=> ?_));subst e2;cases r5;exact qH ⟨H5,I5,q5⟩
theorem tO:(sizeLine:Nat)<2^63:=by rw[aR];decide
theorem iR:eY X (ou .Add) (λx y H Q=>∃i j,x=.str i/\y=.str j/\i.length+j.length<=sizeLine/\Q (.str (i++j)) H):=by
 intro pins s σ H x y v u Q I rx ry h;obtain⟨i,j,rfl,rfl,hz,q⟩:=h;obtain⟨t,rfl⟩:=rx;obtain⟨t',rfl⟩:=ry;exact add_str (λt' tk=>⟨.str (i++j),H,I.tok _,⟨_,rfl⟩,q⟩) hz
theorem vals1{x:V}{us:List ah}(r:Vals [x] us):∃u,us=[u]/\b8 x u:=by
 cases r with
 |cons r1 r2=>cases r2;exact⟨_,rfl,r1⟩
theorem Q9:jF X (.builtin "abs") (λxs H Q=>∃i,xs=[.int i]/\Q (.int (if i<0 then-i else i)) H):=by
 intro pins s σ H xs us Q I r h;obtain⟨i,rfl,q⟩:=h;obtain⟨u,rfl,t,rfl⟩:=vals1 r;exact call_abs_int λu tk=>⟨.int (if i<0 then-i else i),H,I.tok _,⟨_,rfl⟩,q⟩
theorem yF:jF X (.type "str") (λxs H Q=>∃i,xs=[.int i]/\i.natAbs.log2<1920/\Q (.str (toString i)) H):=by
 intro pins s σ H xs us Q I r h;obtain⟨i,rfl,hz,q⟩:=h;obtain⟨u,rfl,t,rfl⟩:=vals1 r;exact PySem.P.str_of_int hz ⟨.str _,H,I.tok _,⟨_,rfl⟩,q⟩
theorem Q_:jF X (.builtin "ord") (λxs H Q=>∃x,xs=[.str x]/\x.length=1/\Q (.int (x.cps.getD 0 0:Nat)) H):=by
 intro pins s σ H xs us Q I r h;obtain⟨x,rfl,hz,q⟩:=h;obtain⟨u,rfl,t,rfl⟩:=vals1 r;exact ord_of_one hz ⟨.int _,H,I.tok _,⟨_,rfl⟩,q⟩
end
structure rb(h:aC)(x dx C:ae)(mA:Str->Option ah):Prop where
 obj:h.get? x=some (sJ C dx)
 ns:h.Ns1 dx mA
 ne:dx≠x
theorem Rb{h:aC}{dx:ae}{mA:Str->Option ah}(n:h.Ns1 dx mA):∃od,h.get? dx=some od/\ ∀name,IL name od=some (mA name):=by
 obtain⟨o,es,ep,ho,hd,hk,_,hm⟩:=n;refine⟨o,ho,λname=> ?_⟩;have e:=hm name;unfold nsFind findBy at e;rw[<-Array.find?_toList] at e;unfold IL;rw[hd];dsimp only
 split
 ·rename_i y q;rw[q] at e;exact congrArg some e
 ·rename_i q;rw[q] at e;have a:es.toList.any (·.refKey)=false:=by
   rw[List.any_eq_false];intro y hy;obtain⟨z,t,Rc⟩:=hk y (Array.mem_toList_iff.mp hy);simp[yb.refKey,Rc]
  have a': ¬es.toList.any (·.refKey)=true:=by rw[a];exact cW
  rw[if_neg a'];exact congrArg some e
theorem rb.look{h:aC}{x dx C:ae}{mA:Str->Option ah}(I:rb h x dx C mA):∃od,PySem.W.InstAt h x (sJ C dx) C (some od)/\ ∀name,IL name od=some (mA name):=
 let ⟨od,ho,hl⟩:=Rb I.ns
 ⟨od,⟨I.obj,rfl,rfl,ho⟩,hl⟩
section
variable{prog:aS}{w:aL}{A:cQ}{E:ah->aq->Prop}{s:aq}{K:az}{x dx C f:ae}{mA:Str->Option ah}{name:Str}{v:ah}
theorem get_map{expr:Bool}{Q:ah->aq->Prop}(X:K.In s.heap)(I:rb s.heap x dx C mA)(hg:BK K C name=true)(hh:IM K C=true)
 (ha:jv K (.ref C) name=some none) (hv:mA name=some v) (yG:PySem.W.handedIn v=true) (h:Q v {s with toks:=s.toks+1}):
 aW (model prog w) A (getAttr (.ref x) name expr) Q E s:=by
 obtain⟨od,J,hl⟩:=I.look;exact PySem.W.get_value X J (Pw hg).1 (PySem.W.findObj_own hh ha rfl (by rw[hl,hv])) yG h
theorem Rf{pl:Sem Bool}{Q:ah×List ah->aq->Prop}(X:K.In s.heap)(I:rb s.heap x dx C mA)(hg:BK K C name=true)
 (hf:jv K (.ref C) name=some (some (.ref f))) (ht:uV K (.ref f)=true) (hv:mA name=none) (h:Q (.ref f,[.ref x]) s):
 aW (model prog w) A (getMethod (.ref x) name pl) Q E s:=by
 obtain⟨od,J,hl⟩:=I.look;exact PySem.W.method_fn X J (Pw hg).1 (Pw hg).2 hf (beq_iff_eq.mp ht) (by show(IL name od).map (·.isSome)=some false;rw[hl,hv];rfl) h
theorem Rh{ns:List Str}{Q:Unit->aq->Prop}(X:K.In s.heap)(I:rb s.heap x dx C mA)
 (hs:jv K (.ref C) "__setattr__"=some (some (.builtin "object.__setattr__"))) (hp:Px K C=true) (ht:Py K C name=some none) (hh:IM K C=true)
 (hw:xN mA ns) (hsz:ns.length<=sizeLine)
 (h:∀h',rb h' x dx C (λy=>if y=name then some v else mA y)->xP dx s.heap h'->Q () {s with heap:=h',toks:=s.toks+2}):
 aW (model prog w) A (setAttr (.ref x) name v) Q E s:=by
 obtain⟨od,J,hl⟩:=I.look;refine PySem.W.set_plain X J hs (PySem.W.osa_open (s:={s with toks:=s.toks+1}) (r:=none) X J hp ht λb=> ?_)
 obtain⟨cd,hc,tG⟩:=PySem.W.any_some hh;have hx:s.heap.get? x=some ⟨.ref C,some dx,.plain,#[]⟩:=I.obj;refine cg (gc (cg (cg (wpAny_loadPart hx (cg (PySem.W.Looks.here (s:={s with toks:=s.toks+1}) (PySem.W.looks_clsIn X hc) ?_))))))
 rw[tG];refine gc (a:=some dx) (cg (gc (cg ?_)));refine wpAny_nsSet1 (s:={s with toks:=s.toks+1}) I.ns λh' yH JY=> ?_
 obtain⟨oD,Ri,Rj,CF,CG,CH⟩:=yH.count (xN.cons name v hw);refine cg (wpAny_lookBehind CF (by rw[CG];exact pastItsLine_dict (dw CH (by rw[cI];omega))) ?_)
 exact gc (h _ ⟨(JY.2 _ (Ne.symm I.ne)).trans I.obj,yH,I.ne⟩ JY)
theorem Rk{R:Result->aq->Prop}{vs:List ah}{kw:List (Str×ah)}(X:K.In s.heap)(hm:Pz K C=true)
 (hi:jv K (.ref C) "__init__"=some (some (.ref f))) (hf:PySem.W.typeIn K (.ref f)=some (.type "function"))
 (h:pF (model prog w) (A.under (.builtin "type.__call__" ⟨.ref C::vs,kw⟩)) (.call (.ref f) ⟨.ref (s.heap.objs.size+1)::vs,kw⟩) (PySem.W.InitBack (s.heap.objs.size+1) R)
   {s with heap:=(s.heap.push jW).push (sJ C s.heap.objs.size)}):
 pF (model prog w) A (.call (.ref C) ⟨vs,kw⟩) R s:=by
 obtain⟨hh,g,d,t,os⟩:=s;exact PySem.W.make_core (PySem.W.makes_of X hm) (PySem.W.looks_findIn X hi) (λself=>PySem.W.bind_fn X self hf) (.inl rfl) h
end
def aA(f:Str)(v:V):List (Str×V)->List (Str×V)
 |[]=>[(f,v)]
 |(g,x)::r=>if g=f then(g,v)::r else(g,x)::aA f v r
theorem CI(f g:Str)(v:V):∀fs:List (Str×V),(aA f v fs).lookup g=if g=f then some v else fs.lookup g
 |[]=>by
  show oy g [(f,v)]=_;by_cases h:g=f
  ·have hb:(g==f)=true:=beq_iff_eq.mpr h;simp only[oy,hb,if_pos h]
  ·have hb:(g==f)=false:=beq_eq_false_iff_ne.mpr h;simp only[oy,hb,if_neg h]
 |(k,x)::r=>by
  have ih:=CI f g v r;rw[show aA f v ((k,x)::r)=(if k=f then(k,v)::r else(k,x)::aA f v r) from rfl]
  by_cases hk:k=f
  ·rw[if_pos hk];by_cases h:g=k
   ·have hb:(g==k)=true:=beq_iff_eq.mpr h;simp only[oy,hb,if_pos (h.trans hk)]
   ·have hb:(g==k)=false:=beq_eq_false_iff_ne.mpr h;simp only[oy,hb,if_neg (λe:g=f=>h (e.trans hk.symm))]
  ·rw[if_neg hk];by_cases h:g=k
   ·have hb:(g==k)=true:=beq_iff_eq.mpr h;simp only[oy,hb,if_neg (λe:g=f=>hk (h.symm.trans e))]
   ·have hb:(g==k)=false:=beq_eq_false_iff_ne.mpr h;simp only[oy,hb];exact ih
theorem vo(f:Str)(v:V):∀fs:List (Str×V),f∈(aA f v fs).map (·.1)/\ ∀g,g∈fs.map (·.1)->g∈(aA f v fs).map (·.1)
 |[]=>⟨by simp[aA],λg h=>by simp at h⟩
 |(k,x)::r=>by
  obtain⟨i1,i2⟩:=vo f v r;rw[show aA f v ((k,x)::r)=(if k=f then(k,v)::r else(k,x)::aA f v r) from rfl]
  by_cases hk:k=f
  ·rw[if_pos hk];subst hk;exact⟨by simp,λg h=>by simpa using h⟩
  ·rw[if_neg hk];refine⟨?_,λg h=> ?_⟩
   ·rw[i0];exact fD _ i1
   ·rw[i0] at h⊢;rcases cC.mp h with e|e
    ·exact cC.mpr (.inl e)
    ·exact fD _ (i2 g e)
theorem JZ(f:Str)(v:V):∀fs:List (Str×V),(aA f v fs).length<=fs.length+1
 |[]=>by simp[aA]
 |(k,x)::r=>by
  have ih:=JZ f v r;rw[show aA f v ((k,x)::r)=(if k=f then(k,v)::r else(k,x)::aA f v r) from rfl]
  by_cases hk:k=f
  ·rw[if_pos hk,cI,cI];omega
  ·rw[if_neg hk,cI,cI];omega
theorem gx.some_of{v:V}{o:Option ah}(r:gx (some v) o):∃u,o=some u/\b8 v u:=by
 cases o with
 |none=>exact(show False from r).elim
 |some u=>exact⟨u,rfl,r⟩
theorem gx.none_of{o:Option ah}(r:gx none o):o=none:=by
 cases o with
 |none=>rfl
 |some u=>exact(show False from r).elim
theorem Rl{v:V}{u:ah}(r:b8 v u):PySem.W.handedIn u=true:=by
 cases v with
 |aO=>cases (show u=iZ from r);rfl
 |bl b=>cases (show u=xM b from r);rfl
 |int i=>obtain⟨t,e⟩:=(show∃t,u=ah.int i t from r);cases e;rfl
 |str x=>obtain⟨t,e⟩:=(show∃t,u=ah.str x t from r);cases e;rfl
 |iP b=>obtain⟨t,e⟩:=(show∃t,u=ah.bytes b t from r);cases e;rfl
 |vd b=>obtain⟨t,e⟩:=(show∃t,u=ah.float b t from r);cases e;rfl
 |ref a=>cases (show u=di a from r);rfl
 |ty n=>cases (show u=uR n from r);rfl
section
variable{P:aS}{w:aL}{H H':Hp}{h h':aC}{a C dx:ae}{fs Qw:List (Str×V)}
theorem CJ(aU:c9 P w H h)(e:H a=some (.ins C dx fs)):∃mA,rb h a dx C mA/\ (∀f,gx (fs.lookup f) (mA f))/\xN mA (fs.map (·.1))/\fs.length<=1000/\H dx=some (.own a):=by
 obtain⟨d,z,ne,ob,mA,n,r,q⟩:=(show df P w H h a (.ins C dx fs) from aU a _ e);exact⟨mA,⟨ob,n,ne⟩,r,q,z,d⟩
end
structure iz(K:az)(C:ae):Prop where
 pg:BK K C sP=true
 hd:IM K C=true
 po:Px K C=true
 sa:jv K (.ref C) "__setattr__"=some (some (.builtin "object.__setattr__"))
theorem iz.get{K:az}{C:ae}(c:iz K C)(f:Str):BK K C f=true:=c.pg
def dC(K:az)(C:ae)(f:Str):Prop:=jv K (.ref C) f=some none
theorem dC.Rm{K:az}{C:ae}{f:Str}(n:dC K C f):Py K C f=some none:=by
 unfold Py;rw[show jv K (.ref C) f=some none from n];rfl
structure Meth(K:az)(C:ae)(m:Str)(f:ae):Prop where
 at_:jv K (.ref C) m=some (some (.ref f))
 fn:uV K (.ref f)=true
 kp:iN K (.ref f)=true
section
variable{X:Cx}{pins:List (ae×Obj)}{σ:St}{H:Hp}{s:aq}{a C dx:ae}{fs:List (Str×V)}{f:Str}{v:V}{A:cQ}{E:ah->aq->Prop}
theorem Ro{b:Bool}{Q:ah->aq->Prop}(I:Inv X pins σ H s)(e:H a=some (.ins C dx fs))(c:iz X.K C)(n:dC X.K C f)(l:fs.lookup f=some v)
 (h:∀u s',Inv X pins σ H s'->b8 v u->Q u s'):aW (model X.prog X.w) A (getAttr (.ref a) f b) Q E s:=by
 obtain⟨mA,O,r,_,_,_⟩:=CJ I.aU e;obtain⟨u,hu,ru⟩:=gx.some_of (v:=v) (o:=mA f) (by rw[<-l];exact r f)
 exact get_map I.dm O (c.get f) c.hd n hu (Rl ru) (h u _ (I.tok _) ru)
theorem CK{m:Str}{g:ae}{pl:Sem Bool}{Q:ah×List ah->aq->Prop}(I:Inv X pins σ H s)(e:H a=some (.ins C dx fs))(c:iz X.K C)(k:Meth X.K C m g)(l:fs.lookup m=none)
 (h:Q (.ref g,[.ref a]) s):aW (model X.prog X.w) A (getMethod (.ref a) m pl) Q E s:=by
 obtain⟨mA,O,r,_,_,_⟩:=CJ I.aU e;have hn:mA m=none:=gx.none_of (by rw[<-l];exact r m)
 exact Rf I.dm O (c.get m) k.at_ k.fn hn h
theorem Rp{y:V}{u:ah}{Q:Unit->aq->Prop}(I:Inv X pins σ H s)(e:H a=some (.ins C dx fs))(c:iz X.K C)(n:dC X.K C f)(hl:fs.length<1000)(ry:b8 y u)
 (h:∀s',Inv X pins σ (upd H a (.ins C dx (aA f y fs))) s'->Q () s'):aW (model X.prog X.w) A (setAttr (.ref a) f u) Q E s:=by
 obtain⟨mA,O,r,wi,_,ho⟩:=CJ I.aU e;have hz:(fs.map (·.1)).length<=sizeLine:=by rw[bx,aR];omega
 refine Rh I.dm O c.sa c.po n.Rm c.hd wi hz λh' O' sb=>h _ ?_;have hd:∃o,h'.get? dx=some o:=let ⟨o,_,_,e',_⟩:=O'.ns;⟨o,e'⟩;refine I.write (x:=a) (e:=dx) (by rw[e];exact True.intro) (.inr ho) (λb q hb z=>(sb.2 b hb).trans z) hd ?_
 refine⟨by rw[ak O.ne];exact ho,?_,O.ne,O'.obj,_,O'.ns,λg=> ?_,λg hg=> ?_⟩
 ·have:=JZ f y fs;omega
 ·show gx ((aA f y fs).lookup g) (if g=f then some u else mA g)
  rw[CI];by_cases q:g=f
  ·rw[if_pos q,if_pos q];exact ry
  ·rw[if_neg q,if_neg q];exact r g
 ·by_cases q:g=f
  ·rw[q];exact(vo f y fs).1
  ·refine(vo f y fs).2 g (wi g λz=>hg ?_);show(if g=f then some u else mA g)=none
   rw[if_neg q];exact z
theorem Inv.made(I:Inv X pins σ H s):Inv X pins σ (upd (upd H s.heap.objs.size (.own (s.heap.objs.size+1))) (s.heap.objs.size+1) (.ins C s.heap.objs.size []))
 {s with heap:=(s.heap.push jW).push (sJ C s.heap.objs.size)}:=by
 have e1:(s.heap.push jW).get? s.heap.objs.size=some jW:=iM s.heap rfl;have e2:((s.heap.push jW).push (sJ C s.heap.objs.size)).get? (s.heap.objs.size+1)=some (sJ C s.heap.objs.size):=by
  have:=iM (s.heap.push jW) (o:=sJ C s.heap.objs.size) rfl
  rwa [lh] at this
 have e3:(s.heap.push jW).Ns s.heap.objs.size (λ_=>none):=⟨jW,#[],_,e1,rfl,(λe he=>absurd he (by simp)),λ_=>rfl⟩
 have I1:=I.laid (a:=s.heap.objs.size) (o:=.own (s.heap.objs.size+1)) (h':=s.heap.push jW) (t':=s.toks) (λb u q=>eO _ q) (bE _) ⟨_,e1⟩;refine I1.laid (a:=s.heap.objs.size+1) (o:=.ins C s.heap.objs.size []) (t':=s.toks) (λb u q=>eO _ q) (BL (lh _ _)) ?_;have ne:s.heap.objs.size≠s.heap.objs.size+1:=iu (BN _);refine⟨by rw[ak ne,aB],eV _,ne,e2,λ_=>none,(PB e3).at λo q=>eO _ q,λ_=>True.intro,λy hy=>absurd rfl hy⟩
theorem J0{prog:aS}{w:aL}{env:Env}{e:bz}{f:Str}{pos:Pos}{s:aq}{Q:ah->aq->Prop}(hb:oz e f env (eval e env)=eval e env)
 (h:aW (model prog w) A (eval e env) (λo s₁=>aW (model prog w) A (getAttr o f true) Q E s₁) E s):aW (model prog w) A (eval (.Attribute e f pos) env) Q E s:=
 Attribute_any_ h (by rw[arm_eval_Attribute,hb])
end
def J8(K:az)(ta:TE)(f:Str):TE:=λσ H Q=>ta σ H λx H1=>∃a C dx fs v,x=.ref a/\H1 a=some (.ins C dx fs)/\iz K C/\dC K C f/\fs.lookup f=some v/\Q v H1
def Rq(K:az)(ta tv:TE)(f:Str):TS:=λD σ H=>tv σ H λy H1=>ta σ H1 λx H2=>∃a C dx fs,x=.ref a/\H2 a=some (.ins C dx fs)/\iz K C/\dC K C f/\fs.length<1000/\
 D.nx σ (upd H2 a (.ins C dx (aA f y fs)))
section
variable{X:Cx}{o e value:bz}{f:Str}{pos pos' afq:Pos}{ta tv:TE}
theorem aP(he:PE X e ta)(hb:oz e f X.env (eval e X.env)=eval e X.env):PE X (.Attribute e f pos) (J8 X.K ta f):=by
 intro pins s σ H Q I h;refine J0 hb (bf (he pins s σ H _ I h) λu s1 ⟨x,H1,I1,rx,a,C,dx,fs,v,ex,ea,c,n,l,q⟩=> ?_);subst ex;obtain rfl:u=di a:=rx;exact Ro I1 ea c n l λu' s2 I2 ru=>⟨v,H1,I2,ru,q⟩
theorem cT(ha:PE X o ta)(hv:PE X value tv)(hs:sO value (some (.Attribute o f pos')) pos.line X.env=pure false):PS X (.Assign [.Attribute o f pos'] value pos) (Rq X.K ta tv f):=by
 intro pins s σ H D I h;refine PD (bf (hv pins s σ H _ I h) λu s1 ⟨y,H1,I1,ry,q⟩=>bf (ha pins s1 σ H1 _ I1 q) λov s2 ⟨x,H2,I2,rx,a,C,dx,fs,ex,ea,c,n,l,q2⟩=> ?_) hs;subst ex;obtain rfl:ov=di a:=rx;exact Rp I2 ea c n l ry λs3 I3=>⟨σ,_,I3,q2⟩
theorem afr{pl:Sem Bool}{m:Str}{apos:Pos}{args:List bz}{pins:List (ae×Obj)}{s:aq}{σ:St}{H:Hp}{Q:ah->aq->Prop}{te:TE}(he:PE X e te)(I:Inv X pins σ H s)
 (h:te σ H λx H1=>∃a C dx fs g,x=.ref a/\H1 a=some (.ins C dx fs)/\iz X.K C/\Meth X.K C m g/\fs.lookup m=none/\
   ∀s1,Inv X pins σ H1 s1->aW (model X.prog X.w) X.A (callWith pos (.ref g) [.ref a] (f_ pos (cG args X.env)) (sQ pos (sR [] X.env))) Q X.xe s1)
 (ht:eval (.Call (.Attribute e m apos) args [] pos) X.env=(do
   let ov <-eval e X.env
   standAt apos.atName
   let (f,first)<-holding [ov] (getMethod ov m pl)
   callWith pos f first (f_ pos (cG args X.env)) (sQ pos (sR [] X.env)))):
 aW (model X.prog X.w) X.A (eval (.Call (.Attribute e m apos) args [] pos) X.env) Q X.xe s:=by
 refine PF (pl:=pl) (bf (he pins s σ H _ I h) λu s1 ⟨x,H1,I1,rx,a,C,dx,fs,g,ex,ea,c,k,l,q⟩=> ?_) ht;subst ex;obtain rfl:u=di a:=rx;exact CK I1 ea c k l (q s1 I1)
end
structure dD(k:Nat)(A:cQ):Prop where
 hd:A.handled=none
 dp:A.depth+3*k+5<recursionLimit
 un:A.units+16*k+200<cLine
theorem dD.mono{j k:Nat}{A:cQ}(r:dD k A)(h:j<=k):dD j A:=⟨r.hd,by have:=r.dp;omega,by have:=r.un;omega⟩
theorem dD.deeper{k:Nat}{A:cQ}(r:dD (k+1) A)(env:Env):dD k (A.deeper env):=
 ⟨r.hd,by have:=r.dp;show A.depth+1+3*k+5<_;omega,by have:=r.un;show A.units+3+16*k+200<_;omega⟩
theorem Rt{A:cQ}{C:ae}{us:List ah}{kw:List (Str×ah)}:(A.under (.builtin "type.__call__" ⟨.ref C::us,kw⟩)).depth=A.depth+1:=by
 first|rfl|simp[PH,Code.weight,Code.isCreation,Code.isGuard,Code.isCaller,Code.frames,Code.isFrame,guardIds]
theorem Ru{A:cQ}{C:ae}{us:List ah}{kw:List (Str×ah)}:(A.under (.builtin "type.__call__" ⟨.ref C::us,kw⟩)).units=A.units+1:=by
 first|rfl|simp[PH,Code.cUnits,Code.frames,Code.isFrame]
theorem dD.make{k:Nat}{A:cQ}(r:dD (k+1) A)(C:ae)(us:List ah)(kw:List (Str×ah)):dD k (A.under (.builtin "type.__call__" ⟨.ref C::us,kw⟩)):=
 ⟨r.hd,by have:=r.dp;rw[Rt];omega,by have:=r.un;rw[Ru];omega⟩
theorem dD.depth{k:Nat}{A:cQ}(r:dD k A):A.depth<recursionLimit:=by have:=r.dp;omega
def tP:TA:=λ_ H Q=>Q [] H
def p_(ta:TE)(tr:TA):TA:=λσ H Q=>ta σ H λx H1=>tr σ H1 λxs H2=>Q (x::xs) H2
section
variable{X:Cx}{e:bz}{es:List bz}{te:TE}{t:TA}{pos:Pos}
theorem aj:PA X [] tP:=λ_ _ _ _ H Q I h=>PK ⟨[],H,I,.nil,h⟩
theorem ai(ha:PE X e te)(hr:PA X es t)(hs:cG (e::es) X.env=(false,eval e X.env)::cG es X.env:=by rfl):PA X (e::es) (p_ te t):=by
 intro pos pins s σ H Q I h;rw[hs];show aW _ _ (spliced ((false,eval e X.env)::f_ pos (cG es X.env))) _ _ s;refine PL (bf (ha pins s σ H _ I h) λu s1 ⟨x,H1,I1,r1,q1⟩=> ?_);exact bf (hr pos pins s1 σ H1 _ I1 q1) λus s2 ⟨xs,H2,I2,r2,q2⟩=>⟨x::xs,H2,I2,.cons r1 r2,q2⟩
def Rv(t:TA):TE:=λσ H Q=>t σ H λxs H1=>xs.length<=sizeLine/\ ∀p,H1 p=none->Q (.ref p) (upd H1 p (.tup xs))
def J9(t:TA):TE:=λσ H Q=>t σ H λxs H1=>xs.length<=sizeLine/\ ∀p,H1 p=none->Q (.ref p) (upd H1 p (.lst xs))
theorem CL{x1}(h:PA X es t):PE X (.Tuple es x1 pos) (Rv t):=by
 intro pins s σ H Q I hq;refine wpAny_Tuple_spliced (bf (h pos pins s σ H _ I hq) λus s1 ⟨xs,H1,I1,r,z,q⟩=>⟨by rw[<-r.length];exact z,?_⟩)
 have hf:H1 s1.heap.objs.size=none:=I1.aU.fresh (bE _);refine⟨.ref s1.heap.objs.size,upd H1 s1.heap.objs.size (.tup xs),I1.laid (t':=s1.toks) (λb u e=>eO _ e) (bE _) ?_,rfl,q _ hf⟩;exact⟨z,us,r,⟨_,iM _ rfl,rfl,_,rfl⟩⟩
theorem cR(h:PA X es t):PE X (.List es pos) (J9 t):=by
 intro pins s σ H Q I hq;refine wpAny_List_spliced (bf (h pos pins s σ H _ I hq) λus s1 ⟨xs,H1,I1,r,z,q⟩=>⟨by rw[<-r.length];exact z,?_⟩)
 have hf:H1 s1.heap.objs.size=none:=I1.aU.fresh (bE _);refine⟨.ref s1.heap.objs.size,upd H1 s1.heap.objs.size (.lst xs),I1.laid (t':=s1.toks) (λb u e=>eO _ e) (bE _) ?_,rfl,q _ hf⟩;exact⟨z,us,0,r,iM _ rfl⟩
end
abbrev Sp:=List V->Hp->VK->XK->Prop
abbrev jG:=List Env->Hp->aq->XK->ah->aq->Prop
structure rh(P:aS)(w:aL)(K:az)(mg:Str->Option ah)(base:aC)(A:cQ)(outer:List Env)(s:aq)(H:Hp):Prop where
 frames:A.frames=some outer
 mod:Mod K mg base
 bs:∀b o,base.get? b=some o->s.heap.get? b=some o/\H b=none
 j_:base.objs.size<=s.heap.objs.size
 jg:s.heap.FunFrames base outer
 nz:∀b∈jA outer,H b=none
 aU:c9 P w H s.heap
 bare:sL s.gens
def CE(outer:List Env)(P:aS)(w:aL)(H:Hp)(s:aq)(Q:VK)(u:ah)(s':aq):Prop:=
 ∃v H',s'.os=s.os/\sL s'.gens/\Un (jA outer) [] H H' s.heap s'.heap/\c9 P w H' s'.heap/\b8 v u/\Q v H'
def CR(CX:jG)(outer:List Env)(P:aS)(w:aL)(H:Hp)(s:aq)(Q:VK)(E:XK)(r:Result)(s':aq):Prop:=
 match r with
 | .ok (.ret u)=>CE outer P w H s Q u s'
 | .ok _=>False
 | .error e=>CX outer H s E e s'
structure aD(P:aS)(w:aL)(K:az)(mg:Str->Option ah)(base:aC)(CX:jG)(k:Nat)(f:ae)(fd:bK)(ps:List Str)(sp:Sp):Prop where
 len:∀vs H Q E,sp vs H Q E->vs.length=ps.length
 run:∀(A:cQ) (outer:List Env) (s:aq) (H:Hp) (args:Args) (us:List ah) (vs:List V) (Q:VK) (E:XK),dD k A->rh P w K mg base A outer s H->BindsTo s fd args (ps.zip us)->Vals vs us->sp vs H Q E->
  pF (model P w) A (.call (.ref f) args) (CR CX outer P w H s Q E) s
theorem aD.mono{P:aS}{w:aL}{K:az}{mg:Str->Option ah}{base:aC}{CX:jG}{j k:Nat}{f:ae}{fd:bK}{ps:List Str}{sp:Sp}(F:aD P w K mg base CX j f fd ps sp)(h:j<=k):
 aD P w K mg base CX k f fd ps sp:=⟨F.len,λA outer s H args us vs Q E hr=>F.run A outer s H args us vs Q E (hr.mono h)⟩
theorem rh.make{P:aS}{w:aL}{K:az}{mg:Str->Option ah}{base:aC}{A:cQ}{outer:List Env}{s:aq}{H:Hp}(e:rh P w K mg base A outer s H)(C:ae)(us:List ah)(kw:List (Str×ah)):
 rh P w K mg base (A.under (.builtin "type.__call__" ⟨.ref C::us,kw⟩)) outer s H:=⟨by first|exact e.frames|(simpa[PH,Code.envs,Code.isFrame,pushEnvs] using e.frames),e.mod,e.bs,e.j_,e.jg,e.nz,e.aU,e.bare⟩
section
variable{X:Cx}{pins:List (ae×Obj)}{σ:St}{H:Hp}{s s':aq}
theorem Inv.yI(I:Inv X pins σ H s):rh X.prog X.w X.K X.mg X.base X.A X.stack s H:=
 ⟨I.ok.frames,I.ok.mod,I.bs,dw I.ok.j_ I.sz,I.stack,I.pS,I.aU,I.bare⟩
theorem Inv.after{Q:VK}{u:ah}(I:Inv X pins σ H s)(h:CE X.stack X.prog X.w H s Q u s'):EP X pins σ Q u s':=by
 obtain⟨v,H',os,bare,un,aU,r,q⟩:=h;obtain⟨hh,g,d,t,Rw⟩:=s';obtain rfl:Rw=s.os:=os;exact⟨v,H',I.call (h':=hh) (g':=g) (d':=d) (t':=t) (ch:=[]) un aU bare (λb z=>absurd z (by simp)),r,q⟩
end
def CM(sp:Sp)(dvs:List V)(E:XK)(t:TA):TE:=λσ H Q=>t σ H λvs H1=>sp (vs++dvs) H1 Q E
def J_(C:ae)(m:Str)(sp:Sp)(dvs:List V)(E:XK)(ta:TE)(t:TA):TE:=λσ H Q=>ta σ H λx H1=>∃a dx fs,x=.ref a/\H1 a=some (.ins C dx fs)/\fs.lookup m=none/\
 t σ H1 λvs H2=>sp (x::(vs++dvs)) H2 Q E
def CN(C:ae)(sp:Sp)(dvs:List V)(E:XK)(t:TA):TE:=λσ H Q=>t σ H λvs H1=>∀x dx,H1 x=none->H1 dx=none->dx≠x->
 sp (.ref x::(vs++dvs)) (upd (upd H1 dx (.own x)) x (.ins C dx [])) (λv H2=>v=.aO/\Q (.ref x) H2) E
def Binds(K:az)(fd:bK)(ps:List Str)(ds:List ah):Prop:=
 ∀(s:aq) (us:List ah),K.In s.heap->(us++ds).length=ps.length->BindsTo s fd ⟨us,[]⟩ (ps.zip (us++ds))
theorem Binds.all{K:az}{fd:bK}{ps:List Str}(h:∀us:List ah,us.length=ps.length->qI fd ⟨us,[]⟩=pure (ps.zip us)):Binds K fd ps []:=λs us _ hl=>by
 rw[dz] at hl⊢;exact .of_eq (h us hl)
def Passes(CX:jG)(X:Cx)(E:XK):Prop:=∀(pins:List (ae×Obj)) (σ:St) (H:Hp) (s:aq) (e:ah) (s':aq),Inv X pins σ H s->CX X.stack H s E e s'->X.xe e s'
section
variable{X:Cx}{CX:jG}{k:Nat}{f C:ae}{fd:bK}{ps:List Str}{sp:Sp}{dvs:List V}{ds:List ah}{E:XK}{x m:Str}{p pos apos:Pos}{e o:bz}{es:List bz}{ta:TE}{t:TA}
theorem vp{pins:List (ae×Obj)}{σ:St}{H:Hp}{s:aq}{Q:VK}{us:List ah}{vs:List V}(F:aD X.prog X.w X.K X.mg X.base CX k f fd ps sp)(hr:dD k X.A)(hb:Binds X.K fd ps ds)(hd:Vals dvs ds)(hx:Passes CX X E)
 (I:Inv X pins σ H s) (r:Vals vs us) (h:sp (vs++dvs) H Q E):aW (model X.prog X.w) X.A (call (.ref f) us) (EP X pins σ Q) X.xe s:=by
 have r2:Vals (vs++dvs) (us++ds):=r.append hd;have hl:(us++ds).length=ps.length:=by rw[<-r2.length];exact F.len _ _ _ _ h
 refine BO (xQ (F.run X.A X.stack s H ⟨us,[]⟩ (us++ds) (vs++dvs) Q E hr I.yI (hb s us I.dm hl) r2 h) λr s' hq=> ?_);cases r with
 |error e=>exact hx pins σ H s e s' I hq
 |ok fl=>
  cases fl with
  |ret u=>exact I.after hq
  |next=>exact gw hq
  |brk=>exact gw hq
  |cont=>exact gw hq
theorem rj(F:aD X.prog X.w X.K X.mg X.base CX k f fd ps sp)(hr:dD k X.A)(hg:Gl X x)(hm:X.mg x=some (.ref f))(hk:iN X.K (.ref f)=true)(hb:Binds X.K fd ps ds)(hd:Vals dvs ds)(hx:Passes CX X E)
 (ha:PA X (e::es) t) (g9:(x==("__debug__":Str))=false:=by decide) (he:cG (e::es) X.env=(false,eval e X.env)::cG es X.env:=by rfl) (dE:(f_ pos (cG es X.env)).any (·.1)=false:=by rfl):
 PE X (.Call (.Name x p) (e::es) [] pos) (CM sp dvs E t):=by
 intro pins s σ H Q I h;refine qJ (qY I hg hm ?_ g9);refine xR (h₀:=X.base) I.ok.mod.dA hk (bf (ha pos pins s σ H _ I h) λus s1 ⟨vs,H1,I1,r,q⟩=>⟨I1.dm,?_⟩) he dE;exact vp F hr hb hd hx I1 r q
theorem jk{pl:Sem Bool}(he:PE X o ta)(c:iz X.K C)(hm:Meth X.K C m f)(F:aD X.prog X.w X.K X.mg X.base CX k f fd ps sp)(hr:dD k X.A)(hb:Binds X.K fd ps ds)(hd:Vals dvs ds)(hx:Passes CX X E)(ha:PA X (e::es) t)
 (d9:cG (e::es) X.env=(false,eval e X.env)::cG es X.env:=by rfl) (dE:(f_ pos (cG es X.env)).any (·.1)=false:=by rfl)
 (ht:eval (.Call (.Attribute o m apos) (e::es) [] pos) X.env=(do
   let ov <-eval o X.env
   standAt apos.atName
   let (f,first)<-holding [ov] (getMethod ov m pl)
   callWith pos f first (f_ pos (cG (e::es) X.env)) (sQ pos (sR [] X.env))):=by rfl):
 PE X (.Call (.Attribute o m apos) (e::es) [] pos) (J_ C m sp dvs E ta t):=by
 intro pins s σ H Q I h;refine PF (pl:=pl) (bf (he pins s σ H _ I h) λu s1 ⟨x,H1,I1,rx,a,dx,fs,ex,ea,l,q⟩=> ?_) ht;subst ex;obtain rfl:u=di a:=rx;refine CK I1 ea c hm l ?_;refine xR (first:=[.ref a]) (h₀:=X.base) I.ok.mod.dA hm.kp (bf (ha pos pins s1 σ H1 _ I1 q) λus s2 ⟨vs,H2,I2,r,q2⟩=>⟨I2.dm,?_⟩) d9 dE
 exact vp (us:=.ref a::us) (vs:=.ref a::vs) F hr hb hd hx I2 (.cons rfl r) q2
theorem nI{pl:Sem Bool}(he:PE X o ta)(c:iz X.K C)(hm:Meth X.K C m f)(F:aD X.prog X.w X.K X.mg X.base CX k f fd ps sp)(hr:dD k X.A)(hb:Binds X.K fd ps ds)(hd:Vals dvs ds)(hx:Passes CX X E)
 (ht:eval (.Call (.Attribute o m apos) [] [] pos) X.env=(do
   let ov <-eval o X.env
   standAt apos.atName
   let (f,first)<-holding [ov] (getMethod ov m pl)
   callWith pos f first (f_ pos (cG [] X.env)) (sQ pos (sR [] X.env))):=by rfl):
 PE X (.Call (.Attribute o m apos) [] [] pos) (J_ C m sp dvs E ta tP):=by
 intro pins s σ H Q I h;refine PF (pl:=pl) (bf (he pins s σ H _ I h) λu s1 ⟨x,H1,I1,rx,a,dx,fs,ex,ea,l,q⟩=> ?_) ht;subst ex;obtain rfl:u=di a:=rx;refine CK I1 ea c hm l ?_;exact PySem.W.callWith_K0 (first:=[.ref a]) I1.dm hm.kp (vp (us:=[.ref a]) (vs:=[.ref a]) F hr hb hd hx I1 (.cons rfl .nil) q)
structure Mk(K:az)(C f:ae):Prop where
 makes:Pz K C=true
 init:jv K (.ref C) "__init__"=some (some (.ref f))
 fn:uV K (.ref f)=true
 kp:iN K (.ref C)=true
theorem J'{pins:List (ae×Obj)}{σ:St}{H:Hp}{s:aq}{Q:VK}{us:List ah}{vs:List V}(M:Mk X.K C f)(F:aD X.prog X.w X.K X.mg X.base CX k f fd ps sp)(hr:dD (k+1) X.A)(hb:Binds X.K fd ps ds)(hd:Vals dvs ds)
 (hx:Passes CX X E) (I:Inv X pins σ H s) (r:Vals vs us)
 (h:∀x dx,H x=none->H dx=none->dx≠x->sp (.ref x::(vs++dvs)) (upd (upd H dx (.own x)) x (.ins C dx [])) (λv H2=>v=.aO/\Q (.ref x) H2) E):
 aW (model X.prog X.w) X.A (call (.ref C) us) (EP X pins σ Q) X.xe s:=by
 have hq:=h (s.heap.objs.size+1) s.heap.objs.size (I.aU.fresh (BP _)) (I.aU.fresh (bE _)) (iu (BN _));have I2:=Inv.made (C:=C) I;have r2:Vals (V.ref (s.heap.objs.size+1)::(vs++dvs)) (di (s.heap.objs.size+1)::(us++ds)):=.cons rfl (r.append hd);have hl:(di (s.heap.objs.size+1)::us++ds).length=ps.length:=by
  have e:=r2.length;rw[F.len _ _ _ _ hq] at e;exact e.symm
 refine BO (Rk (f:=f) I.dm M.makes M.init (beq_iff_eq.mp M.fn) (xQ (F.run _ X.stack _ _ ⟨di (s.heap.objs.size+1)::us,[]⟩ (di (s.heap.objs.size+1)::(us++ds)) _ _ E (hr.make C us [])
  (I2.yI.make C us []) (hb _ (di (s.heap.objs.size+1)::us) I2.dm hl) r2 hq) λr s' jH=> ?_))
 cases r with
 |error e=>exact hx pins σ _ _ e s' I2 jH
 |ok fl=>
  cases fl with
  |ret u=>
   obtain⟨v,H',I3,rv,ev,q3⟩:=I2.after jH;subst ev;exact⟨rv,⟨V.ref (s.heap.objs.size+1),H',I3,rfl,q3⟩⟩
  |next=>exact gw jH
  |brk=>exact gw jH
  |cont=>exact gw jH
theorem j'(M:Mk X.K C f)(F:aD X.prog X.w X.K X.mg X.base CX k f fd ps sp)(hr:dD (k+1) X.A)(hg:Gl X x)(hm:X.mg x=some (.ref C))(hb:Binds X.K fd ps ds)(hd:Vals dvs ds)(hx:Passes CX X E)
 (ha:PA X (e::es) t) (g9:(x==("__debug__":Str))=false:=by decide) (he:cG (e::es) X.env=(false,eval e X.env)::cG es X.env:=by rfl) (dE:(f_ pos (cG es X.env)).any (·.1)=false:=by rfl):
 PE X (.Call (.Name x p) (e::es) [] pos) (CN C sp dvs E t):=by
 intro pins s σ H Q I h;refine qJ (qY I hg hm ?_ g9);refine xR (h₀:=X.base) I.ok.mod.dA M.kp (bf (ha pos pins s σ H _ I h) λus s1 ⟨vs,H1,I1,r,q⟩=>⟨I1.dm,?_⟩) he dE;exact J' M F hr hb hd hx I1 r q
theorem Ka(M:Mk X.K C f)(F:aD X.prog X.w X.K X.mg X.base CX k f fd ps sp)(hr:dD (k+1) X.A)(hg:Gl X x)(hm:X.mg x=some (.ref C))(hb:Binds X.K fd ps ds)(hd:Vals dvs ds)(hx:Passes CX X E)
 (g9:(x==("__debug__":Str))=false:=by decide):PE X (.Call (.Name x p) [] [] pos) (CN C sp dvs E tP):=by
 intro pins s σ H Q I h;refine qJ (qY I hg hm ?_ g9);exact PySem.W.callWith_K0 I.dm M.kp (J' (us:=[]) M F hr hb hd hx I .nil h)
end
structure aV(N P:List Str)(sc:d6):Prop where
 kind:sc.kind=.function
 co:sc.isCoroutine=false
 gen:sc.isGenerator=false
 nd:N.Nodup
 pre:N.take P.length=P
 par:∀x∈P,sc.names.lookup x=some .local\/sc.names.lookup x=some .cell
 Rx:∀y∈sc.names,y.2≠ .free
theorem Kb{kindOf:Str->Option jw}{x:Str}:∀{binds:List (Str×ah)} {m:Str->Option ah},(∀v,(x,v)∉binds)->bindL kindOf binds m x=m x
 |[],_,_=>rfl
 |(n,v)::r,m,h=>by
  unfold bindL;rw[Kb λw hw=>h w (fD _ hw)]
  split
  ·have:x≠n:=by rintro rfl;exact h v iL
   simp[this]
  ·rfl
theorem Kc{kindOf:Str->Option jw}{x:Str}:∀{binds:List (Str×ah)} {m:Str->Option ah},(∀v,(x,v)∉binds)->bindC kindOf binds m x=m x
 |[],_,_=>rfl
 |(n,v)::r,m,h=>by
  unfold bindC;rw[Kc λw hw=>h w (fD _ hw)]
  split
  ·rfl
  ·have:x≠n:=by rintro rfl;exact h v iL
   simp[this]
theorem Ke{kindOf:Str->Option jw}{x:Str}{v:ah}:∀{P:List Str} {vs:List ah} {i:Nat} {m:Str->Option ah},P.Nodup->P[i]? =some x->vs[i]? =some v->kindOf x=some .local->
 bindL kindOf (P.zip vs) m x=some v
 |[],_,_,_,_,h,_,_=>by simp at h
 |_::_,[],_,_,_,_,h,_=>by simp at h
 |p::P,w::vs,0,m,nd,h1,h2,hk=>by
  simp at h1 h2;subst h1;subst h2;show bindL kindOf ((p,w)::P.zip vs) m p=_;unfold bindL;rw[Kb λv hv=>(fE.mp nd).1 (IP hv).1,if_pos hk];simp
 |p::P,w::vs,i+1,m,nd,h1,h2,hk=>by
  show bindL kindOf ((p,w)::P.zip vs) m x=_;unfold bindL;exact Ke (i:=i) (fE.mp nd).2 (by simpa using h1) (by simpa using h2) hk
theorem Kf{kindOf:Str->Option jw}{x:Str}{v:ah}:∀{P:List Str} {vs:List ah} {i:Nat} {m:Str->Option ah},P.Nodup->P[i]? =some x->vs[i]? =some v->kindOf x≠some .local->
 bindC kindOf (P.zip vs) m x=some v
 |[],_,_,_,_,h,_,_=>by simp at h
 |_::_,[],_,_,_,_,h,_=>by simp at h
 |p::P,w::vs,0,m,nd,h1,h2,hk=>by
  simp at h1 h2;subst h1;subst h2;show bindC kindOf ((p,w)::P.zip vs) m p=_;unfold bindC;rw[Kc λv hv=>(fE.mp nd).1 (IP hv).1,if_neg hk];simp
 |p::P,w::vs,i+1,m,nd,h1,h2,hk=>by
  show bindC kindOf ((p,w)::P.zip vs) m x=_;unfold bindC;exact Kf (i:=i) (fE.mp nd).2 (by simpa using h1) (by simpa using h2) hk
def start(N:List Str)(vs:List V):St:=vs.map some++cZ (N.length-vs.length) none
def i9(CX:jG)(P:aS)(w:aL)(K:az)(mg:Str->Option ah)(base:aC)(N:List Str)(qual:Str)(scope:d6)(f:ae)(cd:ah)(A:cQ)(outer:List Env)(s:aq)(H:Hp)(E:XK):Cx where
 prog:=P
 w:=w
 K:=K
 mg:=mg
 base:=base
 A:=A.deeper (envOfC qual scope s.heap.objs.size f cd)
 N:=N
 dB:=s
 tE:=H
 env:=envOfC qual scope s.heap.objs.size f cd
 outer:=outer
 stack:=envOfC qual scope s.heap.objs.size f cd::outer
 ex:=[]
 calm:=true
 fn:=λ_=>true
 pn:=[]
 xe:=λe s'=>aW (model P w) (A.deeper (envOfC qual scope s.heap.objs.size f cd)) (leaving (envOfC qual scope s.heap.objs.size f cd) e) (λ_ CO=>CX outer H s E e CO) (λe' CO=>CX outer H s E e' CO) s'
theorem Kg{sc:d6}{n:Nat}{x:Str}(h:sc.names.lookup x=some .cell):∃c,(gP n sc.names []).lookup x=some c:=by
 have q:=PM sc.names n [] (.inl h);exact xS.mp q
theorem Kh{CX:jG}{P:aS}{w:aL}{K:az}{mg:Str->Option ah}{base:aC}{N ps:List Str}{qual:Str}{scope:d6}{f:ae}{cd:ah}{A:cQ}{outer:List Env}{s s1:aq}{H:Hp}{E:XK}{us:List ah}{vs:List V}
 (S:aV N ps scope) (hd:A.handled=none) (e0:rh P w K mg base A outer s H) (hl:vs.length=ps.length) (r:Vals vs us)
 (x:InCallC s s.heap.objs.size (bindL (envOfC qual scope s.heap.objs.size f cd).kindOf (ps.zip us) λ_=>none) (gP (s.heap.objs.size+1) scope.names []) (bindC (envOfC qual scope s.heap.objs.size f cd).kindOf (ps.zip us) λ_=>none) s1):
 Inv (i9 CX P w K mg base N qual scope f cd A outer s H E) [] (start N vs) H s1:=by
 have dE:ps.length<=N.length:=by have:=congrArg jX S.pre;rw[jY] at this;omega
 obtain⟨h1,tk,rfl,hk⟩:=x.done;have tQ:∀b:ae,b∉(i9 CX P w K mg base N qual scope f cd A outer s H E).ex:=λb z=>absurd (show b∈([]:List ae) from z) (by simp)
 refine⟨⟨e0.mod,S.kind,rfl,rfl,bE _,λy z c h1 h2=> ?_,λy hy=> ?_,λy c _ h=> ?_,λ_=>hd,cQ.frames_deeper e0.frames,.inr ⟨rfl,rfl⟩,λb z=>absurd z (tQ b),e0.bs,e0.j_,λb _ _=>tQ b,λb z=>absurd z (tQ b),e0.jg,e0.nz⟩,
  rfl,e0.bare,Un.kept hk,⟨_,x.toInCall.ns,λi y v h1 h2 h3=> ?_⟩,λy c h=>⟨_,x.cell y c h⟩,e0.aU.fresh (bE _),λy c h=> ?_,λp hp=>absurd (show p∈([]:List (ae×Obj)) from hp) (by simp),e0.aU.kept hk,?_⟩
 ·exact name_of_addr x.apart (jZ h1) (jZ h2)
 ·have hy:scope.names.lookup y=some .cell\/scope.names.lookup y=some .free:=hy;rcases hy with hy|hy
  ·exact Kg hy
  ·exact absurd rfl (S.Rx _ (jZ hy))
 ·exact xO (x.above y c (jZ h))
 ·have hi:i<vs.length:=by
   unfold start at h2;by_cases hi:i<vs.length
   ·exact hi
   ·rw[PN (by simpa using hi)] at h2
    rw[BR] at h2
    split at h2<;>cases h2
  have ha:vs[i]? =some v:=by
   unfold start at h2;rw[PQ (by simpa using hi),dH] at h2
   cases e:vs[i]? with
   |none=>rw[e] at h2;cases h2
   |some a=>rw[e] at h2;cases h2;rfl
  obtain⟨u,hu,rv⟩:=r.get ha;have hp:ps[i]? =some y:=by
   rw[<-S.pre,afg (by omega)];exact h1
  have Ki:ps.Nodup:=by rw[<-S.pre];exact S.nd.sublist (List.take_sublist _ _)
  refine⟨u,rv,?_⟩;rcases S.par y (d7 hp) with k|k
  ·exact .inl ⟨k,Ke Ki hp hu k⟩
  ·obtain⟨c,e⟩:=Kg (n:=s.heap.objs.size+1) k;refine .inr ⟨.inl k,c,e,?_⟩;have q:=x.cell y c e;rw[Kf Ki hp hu (by show scope.names.lookup y≠_;rw[k];decide)] at q
   exact q
 ·exact e0.aU.fresh (xO (x.above y c (jZ h)))
 ·unfold start;show _=N.length;rw[bU,bx,qK];omega
theorem CP{CX:jG}{P:aS}{w:aL}{K:az}{mg:Str->Option ah}{base:aC}{k:Nat}{f:ae}{name qual:Str}{params:Arguments}{body:List cD}{scope:d6}{dV kV doc pm aF ct oc:ah}{an od:Option ae}
 {gI:Array (Option ah)} {N ps:List Str} {sp:Sp} (lk:K.lookup f=some ⟨oc,od,.func (j0 name qual params body scope dV kV doc pm an aF ct),gI⟩) (fq:sS K aF qual=true) (S:aV N ps scope)
 (len:∀vs H Q E,sp vs H Q E->vs.length=ps.length)
 (lM:∀(A:cQ) (outer:List Env) (s:aq) (H:Hp) (vs:List V) (Q:VK) (E:XK),dD k (A.deeper (envOfC qual scope s.heap.objs.size f aF))->sp vs H Q E->
   ∃t,gy (i9 CX P w K mg base N qual scope f aF A outer s H E) body t/\t {nx:=λ_ H'=>Q .aO H',rt:=Q} (start N vs) H):
 aD P w K mg base CX (k+1) f (j0 name qual params body scope dV kV doc pm an aF ct) ps sp:=by
 refine⟨len,λA outer s H args us vs Q E hr e0 hb r kN=> ?_⟩;have hl:=len _ _ _ _ kN;have KX:K.In s.heap:=e0.mod.dA.keeps λb o e=>(e0.bs b o e).1;have lim:s.heap.NoLimit:=e0.mod.nolimit.keeps λb o e=>(e0.bs b o e).1;have CQ:∀y∈ps.zip us,scope.names.lookup y.1=some .local\/(scope.names.lookup y.1=some .cell/\ ((gP (s.heap.objs.size+1) scope.names []).lookup y.1).isSome=true):=λ⟨n,v⟩ hy=>by
  rcases S.par n (IP hy).1 with q|q
  ·exact .inl q
  ·exact .inr ⟨q,PM _ _ _ (.inl q)⟩
 refine codeAny_call_function hr.depth (KX _ _ lk) rfl S.co S.gen rfl (PySem.W.codeRec_of KX fq) (hb _ _ _ _ ?_);refine wpAny_newFunctionEnv_cells S.kind CQ λenv he s1 x=> ?_;subst he;refine⟨lim.keeps x.toInCall.keep,codeAny_func ?_⟩;obtain⟨t,ht,hq⟩:=lM A outer s H vs Q E (hr.deeper _) kN;have I:Inv (i9 CX P w K mg base N qual scope f aF A outer s H E) [] (start N vs) H s1:=Kh S hr.hd e0 hl r x;refine fM (ht [] s1 (start N vs) H _ I hq) (λfl s' hs=> ?_) λe s' hs=>hs;have fin:∀{σ':St} {H':Hp} {v:V} {u:ah},Inv (i9 CX P w K mg base N qual scope f aF A outer s H E) [] σ' H' s'->b8 v u->Q v H'->CE outer P w H s Q u s':=
  λ{σ' H' v u} J rv q=>⟨v,H',J.os,J.bare,J.base,J.aU,rv,q⟩
 cases fl with
 |ret u=>
  obtain⟨v,σ',H',J,rv,q⟩:=hs;exact fin J rv q
 |next=>
  obtain⟨σ',H',J,q⟩:=hs;exact fin (v:=V.aO) (u:=iZ) J rfl q
 |brk=>
  obtain⟨_,_,_,q⟩:=hs;exact gw q
 |cont=>
  obtain⟨_,_,_,q⟩:=hs;exact gw q
section
variable{X:Cx}{x:Str}{p pos:Pos}{e:bz}{es:List bz}{t:TA}{id T:String}{r:List V->Hp->VK->Prop}
def Kj(r:List V->Hp->VK->Prop)(t:TA):TE:=λσ H Q=>t σ H λvs H1=>r vs H1 Q
theorem eS(hc:jF X (.builtin id) r)(hg:Gl X x)(hm:X.mg x=none)(hv:mU x=some (.builtin id))(ha:PA X (e::es) t)(hn:x≠"__name__":=by decide)(g9:(x==("__debug__":Str))=false:=by decide)
 (he:cG (e::es) X.env=(false,eval e X.env)::cG es X.env:=by rfl) (dE:(f_ pos (cG es X.env)).any (·.1)=false:=by rfl):PE X (.Call (.Name x p) (e::es) [] pos) (Kj r t):=by
 intro pins s σ H Q I h;refine qJ (yt I hg hm hv ?_ hn g9);exact PyProof.Rows.callWith_builtin1 (bf (ha pos pins s σ H _ I h) λus s1 ⟨vs,H1,I1,r1,q1⟩=>hc pins s1 σ H1 vs us Q I1 r1 q1) he dE
theorem oN(hc:jF X (.type T) r)(hg:Gl X x)(hm:X.mg x=none)(hv:mU x=some (.type T))(ha:PA X (e::es) t)(hn:x≠"__name__":=by decide)(g9:(x==("__debug__":Str))=false:=by decide)
 (he:cG (e::es) X.env=(false,eval e X.env)::cG es X.env:=by rfl) (dE:(f_ pos (cG es X.env)).any (·.1)=false:=by rfl):PE X (.Call (.Name x p) (e::es) [] pos) (Kj r t):=by
 intro pins s σ H Q I h;refine qJ (yt I hg hm hv ?_ hn g9);exact Pu (bf (ha pos pins s σ H _ I h) λus s1 ⟨vs,H1,I1,r1,q1⟩=>hc pins s1 σ H1 vs us Q I1 r1 q1) he dE
end
end L2
namespace HT
open PySem PyProof.Rows
section
variable{prog:aS}{w:aL}{A:cQ}{E:ah->aq->Prop}{s:aq}
def cK(n d:Nat):Option Int->Nat
 |none=>d
 |some v=>if v<0 then(v+(n:Int)).toNat else min v.toNat n
theorem Kk(n d:Nat)(hd:d<=n)(o:Option Int):cK n d o<=n:=by
 cases o with
 |none=>exact hd
 |some v=>
  show(if v<0 then(v+(n:Int)).toNat else min v.toNat n)<=n
  by_cases hv:v<0
  ·rw[if_pos hv];omega
  ·rw[if_neg hv];exact PR _ _
end
end HT
namespace L2
open PySem PySem.Spec PyProof.Rows
abbrev TO:=St->Hp->(Option Int->Hp->Prop)->Prop
def PO(X:Cx)(e:Option bz)(t:TO):Prop:=
 ∀(pins:List (ae×Obj)) (s:aq) (σ:St) (H:Hp) (Q:Option Int->Hp->Prop),Inv X pins σ H s->t σ H Q->
  aW (model X.prog X.w) X.A (evalPart e X.env) (λu s'=>∃o H',Inv X pins σ H' s'/\IsPart u o/\Q o H') X.xe s
def Ry:TO:=λ_ H Q=>Q none H
def Rz(t:TE):TO:=λσ H Q=>t σ H λx H1=>∃i,x=.int i/\Q (some i) H1
section
variable{X:Cx}{e:bz}{te:TE}{lo hi:Option bz}{tl th:TO}{pos p2:Pos}
theorem Kl:PO X none Ry:=by
 intro pins s σ H Q I h;rw[evalPart_none];exact gc ⟨none,H,I,.none,h⟩
theorem qa(h:PE X e te):PO X (some e) (Rz te):=by
 intro pins s σ H Q I hw;rw[evalPart_some];refine bf (h pins s σ H _ I hw) λu s1 ⟨x,H1,I1,r1,q1⟩=> ?_;obtain⟨i,rfl,q⟩:=q1;obtain⟨t,rfl⟩:=r1;exact⟨some i,H1,I1,.int i t,q⟩
def CS(X:Cx)(r:V->Option Int->Option Int->Hp->VK->Prop):Prop:=
 ∀(pins:List (ae×Obj)) (s:aq) (σ:St) (H:Hp) (x:V) (v vl vu:ah) (lo hi:Option Int) (sl:ae) (Q:VK),Inv X pins σ H s->b8 x v->s.heap.IsSliceOf sl vl vu .none->IsPart vl lo->IsPart vu hi->r x lo hi H Q->
  ∃T id,qL (.type T) "__getitem__"=pure (some (.builtin id))/\s.TypeIs v T/\aW (model X.prog X.w) X.A (getItem v (.ref sl)) (EP X pins σ Q) X.xe s
def RA(r:V->Option Int->Option Int->Hp->VK->Prop)(te:TE)(tl th:TO):TE:=λσ H Q=>te σ H λx H1=>tl σ H1 λl H2=>th σ H2 λu H3=>r x l u H3 Q
theorem vq{r:V->Option Int->Option Int->Hp->VK->Prop}(hr:CS X r)(he:PE X e te)(hl:PO X lo tl)(hu:PO X hi th):PE X (.Subscript e (.Slice lo hi none p2) pos) (RA r te tl th):=by
 intro pins s σ H Q I h;refine Subscript_ (bf (he pins s σ H _ I h) λv s1 ⟨x,H1,I1,r1,q1⟩=> ?_);refine wpAny_Slice (bf (hl pins s1 σ H1 _ I1 q1) λvl s2 ⟨l,H2,I2,pl,q2⟩=>bf (hu pins s2 σ H2 _ I2 q2) λvu s3 ⟨u,H3,I3,pu,q3⟩=> ?_);rw[evalPart_none];refine gc ?_;have I4:Inv X pins σ H3 {s3 with heap:=s3.heap.push {cls:=.type "slice",data:=.fields #[vl,vu,.none]}}:=I3.kept (t':=s3.toks) λb ob q=>eO _ q
 obtain⟨T,id,hT,ht,hg⟩:=hr pins {s3 with heap:=s3.heap.push {cls:=.type "slice",data:=.fields #[vl,vu,.none]}} σ H3 x v vl vu l u s3.heap.objs.size Q I4 r1 (aC.IsSliceOf.new ..) pl pu q3
 show aW (model X.prog X.w) X.A (subscriptTail e (.Slice lo hi none p2) v (.ref s3.heap.objs.size)) (EP X pins σ Q) X.xe {s3 with heap:=s3.heap.push {cls:=.type "slice",data:=.fields #[vl,vu,.none]}}
 exact tail_any (ops:=[.ref s3.heap.objs.size,v]) ht hT hg (by with_unfolding_all rfl)
def qc(xs:List V)(lo hi:Option Int):List V:=(xs.drop (HT.cK xs.length 0 lo)).take (HT.cK xs.length xs.length hi-HT.cK xs.length 0 lo)
theorem RB(xs:List V)(lo hi:Option Int):(qc xs lo hi).length<=xs.length:=by
 unfold qc;rw[jY,kF];omega
end
def ka(n:Nat)(i:Int):Option Nat:=if 0<=i then(if i<n then some i.toNat else none) else if-(n:Int)<=i then some (i+n).toNat else none
def kb{α:Type}(xs:List α)(i:Int):Option α:=(ka xs.length i).bind λj=>xs[j]?
theorem Km{n:Nat}{i:Int}{j:Nat}(h:ka n i=some j):seqIndex? i n=some j/\j<n/\ -(n:Int)<=i/\i<n:=by
 unfold ka at h;by_cases h0:0<=i
 ·rw[if_pos h0] at h;by_cases h1:i<n
  ·rw[if_pos h1] at h;have e:i.toNat=j:=f9 h;exact⟨by rw[seqIndex_of h0 h1,e],by omega,by omega,h1⟩
  ·rw[if_neg h1] at h;cases h
 ·rw[if_neg h0] at h;by_cases h1: -(n:Int)<=i
  ·rw[if_pos h1] at h;have e:(i+n).toNat=j:=f9 h;exact⟨by rw[seqIndex_neg (by omega) h1,e],by omega,h1,by omega⟩
  ·rw[if_neg h1] at h;cases h
theorem CT{α:Type}{xs:List α}{i:Int}{v:α}(h:kb xs i=some v):∃j,seqIndex? i xs.length=some j/\xs[j]? =some v/\j<xs.length/\ -(xs.length:Int)<=i/\i<xs.length:=by
 unfold kb at h;cases e:ka xs.length i with
 |none=>rw[e] at h;cases h
 |some j=>
  rw[e] at h;obtain⟨h1,h2,h3,h4⟩:=Km e;exact⟨j,h1,h,h2,h3,h4⟩
theorem cX{α:Type}{xs:List α}{j:Nat}{v:α}(h:xs[j]? =some v):kb xs (j:Int)=some v:=by
 have hj:j<xs.length:=(dy.mp h).1;have e:ka xs.length (j:Int)=some j:=by
  unfold ka;rw[if_pos (by omega),if_pos (by omega)];simp
 unfold kb;rw[e];exact h
def RD(b:bz):Prop:=∀o i,subscripted b false o i=operate [o,i] (getItem o i)
def yJ(X:Cx)(r:R2):Prop:=
 ∀(value slice:bz) (pins:List (ae×Obj)) (s:aq) (σ:St) (H:Hp) (x y:V) (v u:ah) (Q:VK),Inv X pins σ H s->b8 x v->b8 y u->r x y H Q->
  subscripted slice false v u=operate [v,u] (getItem v u)->aW (model X.prog X.w) X.A (subscriptTail value slice v u) (EP X pins σ Q) X.xe s
def rk(X:Cx)(id:String)(r:V->List V->Hp->VK->Prop):Prop:=
 ∀(pins:List (ae×Obj)) (s:aq) (σ:St) (H:Hp) (x:V) (xs:List V) (v:ah) (us:List ah) (Q:VK),Inv X pins σ H s->b8 x v->Vals xs us->r x xs H Q->
  aW (model X.prog X.w) X.A (call (.builtin id) (v::us)) (EP X pins σ Q) X.xe s
section
variable{X:Cx}{a b:bz}{ta tb:TE}{pos:Pos}
theorem cj{r:R2}(hr:yJ X r)(ha:PE X a ta)(hb:PE X b tb)(hs:RD b):PE X (.Subscript a b pos) (vm r ta tb):=by
 intro pins s σ H Q I h;exact Subscript_ (Cw ha hb I h λv u s2 x y H2 I2 rx ry q=>hr a b pins s2 σ H2 x y v u Q I2 rx ry q (hs _ _))
def CU(K:az):R2:=λx y H Q=>∃p xs i v,x=.ref p/\y=.int i/\aI K H p xs/\kb xs i=some v/\Q v H
def CV(K:az):R2:=λx y H Q=>∃p xs i v,x=.ref p/\y=.int i/\fQ K H p xs/\kb xs i=some v/\Q v H
def RE:R2:=λx y H Q=>∃z i c,x=.str z/\y=.int i/\z.length<=sizeLine/\kb z.cps.toList i=some c/\Q (.str ⟨#[c]⟩) H
theorem cH:yJ X (CU X.K):=by
 intro value slice pins s σ H x y v u Q I rx ry h hs;obtain⟨p,xs,i,z,rfl,rfl,hq,he,q⟩:=h;cases rx;obtain⟨t,rfl⟩:=ry;obtain⟨aH,r,pl,hz⟩:=I.list hq;obtain⟨j,h1,h2,h3,h4,h5⟩:=CT he;obtain⟨w,ew,vr⟩:=r.get h2;have hl:=r.length;have hn:=tO;have fin:EP X pins σ Q w s:=⟨z,H,I,vr,q⟩;by_cases h0:0<=i
 ·have hj:i.toNat=j:=by
   rw[seqIndex_of h0 h5] at h1;exact f9 h1
  exact item_listR pl.isList h0 (by omega) (by rw[hj];simpa using ew) fin hs
 ·have hj:(i+(aH.toArray.size:Int)).toNat=j:=by
   rw[seqIndex_neg (by omega) h4] at h1
   rw[fN,<-hl];exact f9 h1
  exact subscriptTail_builtinR (x:=w) pl.isList.typeIs slot_list_getitem.lookup
   (wpAny_getItem_list_neg (Q:=λr s'=>r=w/\EP X pins σ Q r s') pl.isList (by omega) (by rw[fN]<;>omega) (by omega) (by rw[hj];simpa using ew) ⟨rfl,fin⟩) hs
theorem Kn:yJ X (CV X.K):=by
 intro value slice pins s σ H x y v u Q I rx ry h hs;obtain⟨p,xs,i,z,rfl,rfl,hq,he,q⟩:=h;cases rx;obtain⟨t,rfl⟩:=ry;obtain⟨aH,r,pl,hz⟩:=I.tuple hq;obtain⟨j,h1,h2,h3,h4,h5⟩:=CT he;obtain⟨w,ew,vr⟩:=r.get h2;have hl:=r.length;have hn:=tO;have fin:EP X pins σ Q w s:=⟨z,H,I,vr,q⟩;exact subscriptTail_builtinR (x:=w) pl.typeIs slot_tuple_getitem.lookup
  (getItem_tuple (j:=j) (Q:=λr s'=>r=w/\EP X pins σ Q r s') pl (by omega) (by omega) (by rw[fN,<-hl];exact h1) (by simpa using ew) ⟨rfl,fin⟩) hs
theorem CW:yJ X RE:=by
 intro value slice pins s σ H x y v u Q I rx ry h hs;obtain⟨z,i,c,rfl,rfl,hz,he,q⟩:=h;obtain⟨t,rfl⟩:=rx;obtain⟨t',rfl⟩:=ry;obtain⟨j,h1,h2,h3,h4,h5⟩:=CT he;have hl:z.cps.toList.length=z.length:=by simp[Str.length]
 rw[hl] at h1 h4 h5;have hn:=tO;exact tail_any (BS s z t) slot_str_getitem.lookup (getItem_str (c:=c) (by
  have e1:decide (i< -(2^63:Int))=false:=decide_eq_false (by omega)
  have e2:decide (i≥2^63)=false:=decide_eq_false (by omega)
  rw[e1,e2,sT]) (by rw[h1];simpa using h2) ⟨.str ⟨#[c]⟩,H,I.tok _,⟨_,rfl⟩,q⟩) hs
theorem RF(aH:List ah)(n j:Nat)(u:ah):BU (·.setIfInBounds j u) {cls:=.type "list",data:=.seq aH.toArray n}={cls:=.type "list",data:=.seq (aH.set j u).toArray n}:=by
 simp[BU]
theorem Inv.lst{pins:List (ae×Obj)}{σ:St}{H:Hp}{s:aq}{p:ae}{xs:List V}(I:Inv X pins σ H s)(h:H p=some (.lst xs)):
 ∃(aH:List ah) (n:Nat),Vals xs aH/\s.heap.get? p=some {cls:=.type "list",data:=.seq aH.toArray n}/\xs.length<=sizeLine:=by
 obtain⟨z,aH,n,r,e⟩:=I.aU p _ h;exact⟨aH,n,r,e,z⟩
theorem Inv.RG{pins:List (ae×Obj)}{σ:St}{H:Hp}{s:aq}{p:ae}{xs ys:List V}{aH its':List ah}{n n':Nat}{f:Obj->Obj}(I:Inv X pins σ H s)(h:H p=some (.lst xs))
 (ho:s.heap.get? p=some {cls:=.type "list",data:=.seq aH.toArray n}) (hf:f {cls:=.type "list",data:=.seq aH.toArray n}={cls:=.type "list",data:=.seq its'.toArray n'}) (r:Vals ys its') (hz:ys.length<=sizeLine) (t:Nat):
 Inv X pins σ (upd H p (.lst ys)) {s with heap:=s.heap.update p f,toks:=t}:=by
 have e:(s.heap.update p f).get? p=some {cls:=.type "list",data:=.seq its'.toArray n'}:=by
  rw[BV f ho (by rw[hf]<;>rfl),hf]
 refine I.write (x:=p) (e:=p) (by rw[h];trivial) (.inl rfl) (λb u hb q=>(uW _ _ (Ne.symm hb)).trans q) ⟨_,e⟩ ?_
 exact⟨hz,its',n',r,e⟩
def RH:V->V->V->Hp->(Hp->Prop)->Prop:=λo i v H Q=>∃p xs k j,o=.ref p/\i=.int k/\H p=some (.lst xs)/\ka xs.length k=some j/\Q (upd H p (.lst (xs.set j v)))
theorem set_list:JM X RH:=by
 intro pins s σ H o i v ov iv u Q I ro ri rv h;obtain⟨p,xs,k,j,rfl,rfl,hp,hj,q⟩:=h;cases ro;obtain⟨t,rfl⟩:=ri;obtain⟨aH,n,r,ho,hz⟩:=I.lst hp;obtain⟨h1,h2,h3,h4⟩:=Km hj;have hl:=r.length;have hn:=tO;have I':Inv X pins σ (upd H p (.lst (xs.set j v))) {s with heap:=s.heap.update p (BU (·.setIfInBounds j u))}:=
  I.RG hp ho (RF aH n j u) (r.set rv j) (by rw[gV];exact hz) s.toks
 by_cases h0:0<=k
 ·have hk:k.toNat=j:=by
   rw[seqIndex_of h0 h4] at h1;exact f9 h1
  exact PySem.W.ki_setAt ho h0 (by omega) (by rw[fN,<-hl];exact h4) (by rw[hk];exact⟨_,I',q⟩)
 ·have hk:(k+(aH.toArray.size:Int)).toNat=j:=by
   rw[seqIndex_neg (by omega) h3] at h1
   rw[fN,<-hl];exact f9 h1
  exact PySem.W.ki_setBack ho (by omega) (by rw[fN,<-hl];exact h3) (by omega) (by rw[hk];exact⟨_,I',q⟩)
theorem RI(lo hi:Option Int)(n:Nat):(uX lo hi none n).1=((HT.cK n 0 lo:Nat):Int)/\ (uX lo hi none n).2.1=((HT.cK n n hi:Nat):Int)/\ (uX lo hi none n).2.2=1:=by
 refine⟨?_,?_,rfl⟩
 ·cases lo with
  |none=>simp[uX,HT.cK]
  |some i=>
   simp only[uX,HT.cK,Option.getD_none,show(1:Int)>0 by decide,if_true]
   by_cases h:i<0
   ·simp only[h,if_true]<;>omega
   ·simp only[h,if_false]<;>omega
 ·cases hi with
  |none=>simp[uX,HT.cK]
  |some i=>
   simp only[uX,HT.cK,Option.getD_none,show(1:Int)>0 by decide,if_true]
   by_cases h:i<0
   ·simp only[h,if_true]<;>omega
   ·simp only[h,if_false]<;>omega
theorem RJ(aH:List ah)(lo hi:Option Int):slicePick aH.toArray lo hi none=((aH.drop (HT.cK aH.length 0 lo)).take (HT.cK aH.length aH.length hi-HT.cK aH.length 0 lo)).toArray:=by
 obtain⟨h1,h2,h3⟩:=RI lo hi aH.toArray.size;unfold slicePick;rw[h1,h2,h3];simp only[sliceRange_one,pick_run,fN]<;>rfl
def RK(K:az):V->Option Int->Option Int->Hp->VK->Prop:=λx lo hi H Q=>∃a xs,x=.ref a/\aI K H a xs/\ ∀p,H p=none->Q (.ref p) (upd H p (.lst (qc xs lo hi)))
theorem CY:CS X (RK X.K):=by
 intro pins s σ H x v vl vu lo hi sl Q I rx hs pl pu h;obtain⟨a,xs,rfl,hx,q⟩:=h;cases rx;obtain⟨aH,r,ht,hz⟩:=I.list hx;have hlen:=r.length;refine⟨"list",_,slot_list_getitem.lookup,ht.isList.typeIs,?_⟩;refine wpAny_getItem_list_slice ht.isList hs pl pu .none (by simp) ?_ (by rw[fN]<;>omega)
 rw[RJ,<-hlen];refine⟨.ref s.heap.objs.size,_,I.laid (t':=s.toks) (o:=.lst (qc xs lo hi)) (λb ob q=>eO _ q) (bE _) ?_,rfl,q _ (I.aU.fresh (bE _))⟩;exact⟨dw (RB xs lo hi) hz,_,0,(r.drop (HT.cK xs.length 0 lo)).take (HT.cK xs.length xs.length hi-HT.cK xs.length 0 lo),iM _ rfl⟩
def qd:V->Bool
 | .aO=>true
 | .bl _=>true
 | .int _=>true
 | .str _=>true
 |_=>false
def nJ:V->V->Bool
 | .aO,.aO=>true
 | .bl a,.bl b=>a==b
 | .bl a,.int b=>(if a then 1 else 0)==b
 | .int a,.bl b=>a==(if b then 1 else 0)
 | .int a,.int b=>a==b
 | .str a,.str b=>a==b
 |_,_=>false
theorem RL{A:cQ}{s:aq}{y x:V}{u v:ah}(ry:b8 y u)(rx:b8 x v)(fy:qd y=true)(fx:qd x=true):SeqAt.EqAt A s u v (nJ y x):=by
 cases y with
 |aO=>
  cases ry;cases x with
  |aO=>cases rx;exact SeqAt.EqAt.same _
  |bl b=>cases rx;exact SeqAt.EqAt.none_bool b
  |int b=>obtain⟨t,rfl⟩:=rx;exact SeqAt.EqAt.none_int b t
  |str b=>obtain⟨t,rfl⟩:=rx;exact SeqAt.EqAt.none_str b t
  |_=>exact absurd (show false=true from fx) cW
 |bl a=>
  cases ry;cases x with
  |aO=>cases rx;exact SeqAt.EqAt.bool_none a
  |bl b=>cases rx;exact SeqAt.EqAt.bool_bool a b
  |int b=>obtain⟨t,rfl⟩:=rx;exact SeqAt.EqAt.bool_int a b t
  |str b=>obtain⟨t,rfl⟩:=rx;exact SeqAt.EqAt.bool_str a b t
  |_=>exact absurd (show false=true from fx) cW
 |int a=>
  obtain⟨t',rfl⟩:=ry;cases x with
  |aO=>cases rx;exact SeqAt.EqAt.int_none a t'
  |bl b=>cases rx;exact SeqAt.EqAt.int_bool a t' b
  |int b=>obtain⟨t,rfl⟩:=rx;exact SeqAt.EqAt.int_int a t' b t
  |str b=>obtain⟨t,rfl⟩:=rx;exact afc a t' b t
  |_=>exact absurd (show false=true from fx) cW
 |str a=>
  obtain⟨t',rfl⟩:=ry;cases x with
  |aO=>cases rx;exact SeqAt.EqAt.str_none a t'
  |bl b=>cases rx;exact SeqAt.EqAt.str_bool a t' b
  |int b=>obtain⟨t,rfl⟩:=rx;exact afd a t' b t
  |str b=>obtain⟨t,rfl⟩:=rx;exact SeqAt.EqAt.str_str a t' b t
  |_=>exact absurd (show false=true from fx) cW
 |_=>exact absurd (show false=true from fy) cW
def oO(x:V)(u:ah):Bool:=match u with
 | .none=>nJ .aO x
 | .bool b=>nJ (.bl b) x
 | .int i _=>nJ (.int i) x
 | .str z _=>nJ (.str z) x
 |_=>false
theorem Ko{x y:V}{u:ah}(r:b8 y u)(f:qd y=true):oO x u=nJ y x:=by
 cases y with
 |aO=>cases r;rfl
 |bl b=>cases r;rfl
 |int i=>obtain⟨t,rfl⟩:=r;rfl
 |str z=>obtain⟨t,rfl⟩:=r;rfl
 |_=>exact absurd (show false=true from f) cW
theorem CZ{x:V}:∀{xs:List V} {us:List ah},Vals xs us->xs.all qd=true->us.any (oO x)=xs.any λy=>nJ y x
 |_,_,.nil,_=>rfl
 |y::xs,u::us,.cons r t,f=>by
  rw[lj,eQ] at f;rw[qM,qM,Ko r f.1,CZ t f.2]
theorem C0{A:cQ}{s:aq}{x:V}{v:ah}(rx:b8 x v)(fx:qd x=true):∀{xs:List V} {us:List ah},Vals xs us->xs.all qd=true->∀u∈us,SeqAt.EqAt A s u v (oO x u)
 |_,_,.nil,_=>λu hu=>by cases hu
 |y::xs,u::us,.cons r t,f=>λu' hu=>by
  rw[lj,eQ] at f;rcases cC.mp hu with rfl|hu
  ·rw[Ko r f.1];exact RL r rx f.1 fx
  ·exact C0 rx fx t f.2 u' hu
def jI(x:V)(xs:List V):Bool:=xs.any λy=>nJ y x
def RM(K:az)(neg:Bool):R2:=λx y H Q=>∃p xs,y=.ref p/\ (aI K H p xs\/fQ K H p xs)/\qd x=true/\xs.all qd=true/\Q (.bl (if neg then !jI x xs else jI x xs)) H
theorem yK:eY X (kE .In) (RM X.K false):=by
 intro pins s σ H x y v u Q I rx ry h;obtain⟨p,xs,rfl,hq,fx,fs,q⟩:=h;cases ry;rcases hq with hq|hq
 ·obtain⟨aH,r,pl,hz⟩:=I.list hq;refine SeqAt.in_listAt (oO x) pl.isList (λw hw=>C0 rx fx r fs w (by simpa using hw)) ⟨.bl _,H,I,rfl,?_⟩
  rw[show aH.toArray.any (oO x)=aH.any (oO x) by simp,CZ r fs]
  exact q
 ·obtain⟨aH,r,pl,hz⟩:=I.tuple hq;refine SeqAt.in_tupleAt (oO x) pl (λw hw=>C0 rx fx r fs w (by simpa using hw)) ⟨.bl _,H,I,rfl,?_⟩
  rw[show aH.toArray.any (oO x)=aH.any (oO x) by simp,CZ r fs]
  exact q
theorem iA:jF X (.builtin "len") (λxs H Q=>∃p ys,xs=[.ref p]/\ (aI X.K H p ys\/fQ X.K H p ys)/\Q (.int ys.length) H):=by
 intro pins s σ H xs us Q I r h;obtain⟨p,ys,rfl,hq,q⟩:=h;obtain⟨u,rfl,rx⟩:=vals1 r;cases rx;have hn:=tO;rcases hq with hq|hq
 ·obtain⟨aH,r',pl,hz⟩:=I.list hq;have hlen:=r'.length;exact Calls.call_len_list pl.isList (by simp only[fN]<;>omega) ⟨.int ys.length,H,I.tok _,⟨s.toks+1,by rw[fN,hlen]⟩,q⟩
 ·obtain⟨aH,r',pl,hz⟩:=I.tuple hq;have hlen:=r'.length;exact len_tuple pl (by simp only[fN]<;>omega) ⟨.int ys.length,H,I.tok _,⟨s.toks+1,by rw[fN,hlen]⟩,q⟩
theorem vt:jF X (.builtin "len") (λxs H Q=>∃z,xs=[.str z]/\z.length<=sizeLine/\Q (.int z.length) H):=by
 intro pins s σ H xs us Q I r h;obtain⟨z,rfl,hz,q⟩:=h;obtain⟨u,rfl,t,rfl⟩:=vals1 r;have hn:=tO;exact len_str (by omega) ⟨.int z.length,H,I.tok _,⟨_,rfl⟩,q⟩
theorem Kq:jF X (.type "list") (λxs H Q=>∃p ys,xs=[.ref p]/\ (aI X.K H p ys\/fQ X.K H p ys)/\ ∀l,H l=none->Q (.ref l) (upd H l (.lst ys))):=by
 intro pins s σ H xs us Q I r h;obtain⟨p,ys,rfl,hq,q⟩:=h;obtain⟨u,rfl,rx⟩:=vals1 r;cases rx;have fin:∀(aH:List ah),Vals ys aH->ys.length<=sizeLine->∀(h':aC) (c':Nat),(∀b o',s.heap.get? b=some o'->h'.get? b=some o')->
  h'.get? s.heap.objs.size=some {cls:=.type "list",dict:=none,data:=.seq aH.toArray c',slots:= #[]}->EP X pins σ Q (.ref s.heap.objs.size) {s with heap:=h'}:=λaH r' hz h' c' kp e=>
  ⟨.ref s.heap.objs.size,_,I.laid (t':=s.toks) kp (bE _) (show df X.prog X.w _ h' _ (.lst ys) from⟨hz,aH,c',r',e⟩),rfl,q _ (I.aU.fresh (bE _))⟩
 rcases hq with hq|hq
 ·obtain⟨aH,r',pl,hz⟩:=I.list hq;have hlen:=r'.length;obtain⟨o,ho,hc,n,hd⟩:=pl.isList;exact call_list_seq p (.inl rfl) ho hc hd (λh' c' kp e=>fin aH r' hz h' c' kp e) (by simp only[fN]<;>omega)
 ·obtain⟨aH,r',pl,hz⟩:=I.tuple hq;have hlen:=r'.length;obtain⟨o,ho,hc,n,hd⟩:=pl;exact call_list_seq p (.inr rfl) ho hc hd (λh' c' kp e=>fin aH r' hz h' c' kp e) (by simp only[fN]<;>omega)
def C1(K:az)(T:String)(x:V)(H:Hp):Prop:=match x with
 | .str _=>T="str"
 | .int _=>T="int"
 | .ref p=>(T="list"/\ ∃xs,aI K H p xs)\/(T="tuple"/\ ∃o,K.lookup p=some o/\o.cls=.type "tuple"/\o.dict=none)\/
    (T="dict"/\ ((∃kvs,H p=some (.dK kvs))\/∃kvs,H p=some (.dT kvs)))\/(T="set"/\ ∃S n,H p=some (.set S n))
 |_=>False
theorem RN{pins:List (ae×Obj)}{σ:St}{H:Hp}{s:aq}{T:String}{x:V}{v:ah}(I:Inv X pins σ H s)(r:b8 x v)(ty:C1 X.K T x H):
 s.TypeIs v T/\ ∀a,v=.ref a->∃ob,s.heap.get? a=some ob/\ob.dict=none:=by
 cases x with
 |str z=>
  obtain⟨t,rfl⟩:=r;cases (show T="str" from ty);exact⟨BS s z t,λ_ e=>nomatch e⟩
 |int i=>
  obtain⟨t,rfl⟩:=r;cases (show T="int" from ty);exact⟨typeIs_int s i t,λ_ e=>nomatch e⟩
 |ref p=>
  cases r;rcases ty with⟨rfl,xs,hq⟩|⟨rfl,o,hk,hc,hd⟩|⟨rfl,hk⟩|⟨rfl,S,n,hk⟩
  ·obtain⟨aH,_,pl,_⟩:=I.list hq;refine⟨pl.isList.typeIs,λa e=> ?_⟩;cases e;obtain⟨o,n,e,c,hd,_⟩:=pl;exact⟨o,e,hd⟩
  ·refine⟨⟨o,I.dm p o hk,hc⟩,λa e=> ?_⟩;cases e;exact⟨o,I.dm _ o hk,hd⟩
  ·have z:∃o,s.heap.get? p=some o/\o.ExactDict:=by
    rcases hk with⟨kvs,hk⟩|⟨kvs,hk⟩
    ·obtain⟨_,_,_,_,o,_,_,e,ex,_⟩:=I.aU p _ hk;exact⟨o,e,ex⟩
    ·obtain⟨_,_,_,_,o,_,_,e,ex,_⟩:=I.aU p _ hk;exact⟨o,e,ex⟩
   obtain⟨o,e,ex⟩:=z;refine⟨⟨o,e,ex.1⟩,λa e2=> ?_⟩;cases e2;exact⟨o,e,ex.2.1⟩
  ·obtain⟨o,_,_,_,e,ex,_⟩:=I.aU p _ hk;refine⟨⟨o,e,ex.1⟩,λa e2=> ?_⟩;cases e2;exact⟨o,e,ex.2.1⟩
 |_=>exact gw ty
def Ks(K:az)(T:String)(r:V->List V->Hp->VK->Prop)(to:TE)(t:TA):TE:=λσ H Q=>to σ H λx H1=>C1 K T x H1/\t σ H1 λxs H2=>r x xs H2 Q
variable{o e:bz}{es:List bz}{to:TE}{t:TA}{name:Str}{apos dS:Pos}{T id:String}{r:V->List V->Hp->VK->Prop}
theorem iS(pa:PlainAttrs T)(slot:Slot T name id)(qe:typeOf (.builtin id)=pure (.type "method_descriptor"))(hm:rk X id r)(ho:PE X o to)(ha:PA X (e::es) t)
 (jm:oz o name X.env (eval o X.env)=eval o X.env:=by rfl)
 (C3:((f_ dS (cG (e::es) X.env)).all (λx=> !x.1)&&(sQ dS (sR [] X.env)).all (λx=>x.1.isSome)
   &&decide ((e::es).length+([]:List Keyword).length+(if([]:List Keyword).isEmpty then 0 else 1)<30))=true:=by rfl)
 (oP:(apos.endLine==dS.line)=true:=by rfl) (hs:cG (e::es) X.env=(false,eval e X.env)::cG es X.env:=by rfl) (C4:(f_ dS (cG es X.env)).any (·.1)=false:=by rfl):
 PE X (.Call (.Attribute o name apos) (e::es) [] dS) (Ks X.K T r to t):=by
 intro pins s σ H Q I h;refine wpAny_Call_method_late jm C3 oP rfl (bf (ho pins s σ H _ I h) λv s1 ⟨x,H1,I1,r1,ty,q1⟩=> ?_);obtain⟨h1,h2⟩:=RN I1 r1 ty;refine⟨T,id,pa,slot,qe,h1,h2,?_⟩;have hA:=ha dS pins s1 σ H1 _ I1 q1;rw[hs] at hA⊢;refine IS (by show(false||(f_ dS (cG es X.env)).any (·.1))=false;rw[C4]<;>rfl) (PU ?_)
 exact bf hA λus s2 ⟨vs,H2,I2,r2,q2⟩=>hm pins s2 σ H2 x vs v us Q I2 r1 r2 q2
end
def Ku(X:Cx)(id:String)(r:V->List V->Hp->VK->Prop):Prop:=
 ∀(pins:List (ae×Obj)) (s:aq) (σ:St) (H:Hp) (x:V) (xs:List V) (v:ah) (us:List ah) (Q:VK),Inv X pins σ H s->b8 x v->Vals xs us->r x xs H Q->
  aW (model X.prog X.w) X.A (call (.builtin id) (v::us)) (EP X pins σ Q) X.xe s
theorem Vals.one:∀{x:V} {us:List ah},Vals [x] us->∃u,us=[u]/\b8 x u
 |_,_,.cons r .nil=>⟨_,rfl,r⟩
theorem Vals.rep{xs:List V}{us:List ah}(h:Vals xs us):∀k:Nat,Vals (cZ k xs).flatten (cZ k us).flatten
 |0=>.nil
 |k+1=>by
  rw[xT,xT,uY,uY];exact Vals.append h (Vals.rep h k)
theorem foldl_rep(aH:List ah):∀(k:Nat) (acc:List ah),
 List.foldl (λx1 x2=>x1++x2) acc.toArray (cZ k aH.toArray)=(acc++(cZ k aH).flatten).toArray
 |0,acc=>by simp
 |k+1,acc=>by
  have e:acc.toArray++aH.toArray=(acc++aH).toArray:=by simp
  have e2:(acc++aH)++(cZ k aH).flatten=acc++(cZ (k+1) aH).flatten:=by
   rw[xT,uY,lq]
  rw[<-e2,<-foldl_rep aH k (acc++aH),<-e,xT,uZ]
section
variable{X:Cx}{pins:List (ae×Obj)}{σ:St}{H:Hp}{s:aq}{l b:ae}{xs ys zs:List V}
theorem Inv.Kv{aH its':List ah}{n:Nat}{f:Array ah->Array ah}{t':Nat}(I:Inv X pins σ H s)(hH:H l=some (.lst xs))
 (e:s.heap.get? l=some {cls:=.type "list",data:=.seq aH.toArray n}) (hf:f aH.toArray=its'.toArray) (hv:Vals ys its') (hz:ys.length<=sizeLine):
 Inv X pins σ (upd H l (.lst ys)) {s with heap:=s.heap.update l (BU f),toks:=t'}:=by
 have q:=PySem.IsL.update e f;rw[hf] at q;refine I.write (x:=l) (e:=l) (by rw[hH];exact trivial) (.inl rfl) (λb' u hb hu=>(uW s.heap (BU f) (Ne.symm hb)).trans hu) ⟨_,q⟩ ?_
 exact⟨hz,its',_,hv,q⟩
theorem Inv.Kw{aH:List ah}{t':Nat}(I:Inv X pins σ H s)(hv:Vals ys aH)(hz:ys.length<=sizeLine):
 Inv X pins σ (upd H s.heap.objs.size (.lst ys)) {s with heap:=s.heap.push {cls:=.type "list",data:=.seq aH.toArray},toks:=t'}:=
 I.laid (λ_ _ q=>eO _ q) (bE _) ⟨hz,aH,0,hv,iM _ rfl⟩
theorem Inv.fresh(I:Inv X pins σ H s):H s.heap.objs.size=none:=I.aU.fresh (bE _)
theorem Inv.tR(I:Inv X pins σ H s)(hH:H l=some (.lst xs)):xs.length<=sizeLine/\ ∃(aH:List ah) (n:Nat),Vals xs aH/\xs.length=aH.length/\s.heap.get? l=some {cls:=.type "list",data:=.seq aH.toArray n}:=by
 obtain⟨z,aH,n,r,e⟩:=I.aU l _ hH;exact⟨z,aH,n,r,r.length,e⟩
theorem Kx{n:Nat}(h:n<=sizeLine):IT n=false:=by
 unfold IT;exact decide_eq_false (by omega)
end
section
variable{X:Cx}
def Ky:V->List V->Hp->VK->Prop:=λx vs H Q=>∃l xs y,x=.ref l/\vs=[y]/\H l=some (.lst xs)/\xs.length<sizeLine/\Q .aO (upd H l (.lst (xs++[y])))
theorem kd:Ku X "list.append" Ky:=by
 intro pins s σ H x vs v us Q I rx rv h;obtain⟨l,xs,y,rfl,rfl,hH,hz,q⟩:=h;cases rx;obtain⟨u,rfl,ru⟩:=rv.one;obtain⟨z,aH,n,r,hl,e⟩:=I.tR hH;refine call_meets F.slot_list_append ⟨_,e,rfl⟩ F.entry_list_append (F.args_list_append_2 _ _) (PySem.list_append l aH.toArray n u (by rw[fN];omega)) ⟨e,?_⟩
 refine⟨.aO,_,I.Kv (its':=aH++[u]) hH e (by simp) (r.append (.cons ru .nil)) ?_,rfl,q⟩
 rw[bU,List.length_singleton];omega
def RO:V->List V->Hp->VK->Prop:=λx vs H Q=>∃l b xs zs,x=.ref l/\vs=[.ref b]/\H l=some (.lst xs)/\H b=some (.lst zs)/\xs.length+zs.length<=sizeLine/\Q .aO (upd H l (.lst (xs++zs)))
theorem vv:Ku X "list.extend" RO:=by
 intro pins s σ H x vs v us Q I rx rv h;obtain⟨l,b,xs,zs,rfl,rfl,hH,hB,hz,q⟩:=h;cases rx;obtain⟨u,rfl,ru⟩:=rv.one;cases ru;obtain⟨z,aH,n,r,hl,e⟩:=I.tR hH;obtain⟨z2,rn,n2,r2,jJ,e2⟩:=I.tR hB;have hsz:aH.toArray.size+rn.toArray.size<=sizeLine:=by rw[fN,fN];omega
 have C5: ¬(!aH.toArray.isEmpty&&IT (aH.toArray.size+rn.toArray.size))=true:=by
  rw[Kx hsz,Bool.and_false];exact cW
 refine call_meets F.slot_list_extend ⟨_,e,rfl⟩ F.entry_list_extend (F.args_list_extend_2 _ _)
  (AutoSeq1.list_extend_list_list_0 l aH.toArray n b rn.toArray n2 C5 (by rw[fN];omega) (by omega)) ⟨e,e2,?_⟩
 refine⟨.aO,_,I.Kv (its':=aH++rn) hH e (by simp) (r.append r2) ?_,rfl,q⟩
 rw[bU];omega
def RP:R2:=λx y H Q=>∃l b xs zs,x=.ref l/\y=.ref b/\H l=some (.lst xs)/\H b=some (.lst zs)/\xs.length+zs.length<=sizeLine/\ ∀p,H p=none->Q (.ref p) (upd H p (.lst (xs++zs)))
theorem C7:eY X (ou .Add) RP:=by
 intro pins s σ H x y v u Q I rx ry h;obtain⟨l,b,xs,zs,rfl,rfl,hH,hB,hz,q⟩:=h;cases rx;cases ry;obtain⟨z,aH,n,r,hl,e⟩:=I.tR hH;obtain⟨z2,rn,n2,r2,jJ,e2⟩:=I.tR hB;refine PySem.P.add_list e e2 ?_ (by rw[fN,fN];omega)
 have ea:aH.toArray++rn.toArray=(aH++rn).toArray:=by simp
 rw[ea];exact⟨.ref _,_,I.Kw (t':=s.toks) (r.append r2) (by rw[bU];omega),rfl,q _ I.fresh⟩
def Kz:R2:=λx y H Q=>∃l k xs,x=.ref l/\y=.int k/\H l=some (.lst xs)/\ -(2^63)<=k/\k<2^63/\xs.length*k.toNat<=sizeLine/\
 ∀p,H p=none->Q (.ref p) (upd H p (.lst (cZ k.toNat xs).flatten))
theorem len_rep{α:Type}(xs:List α)(k:Nat):(cZ k xs).flatten.length=k*xs.length:=by
 induction k with
 |zero=>simp
 |succ k ih=>rw[xT,uY,bU,ih,Nat.succ_mul,Nat.add_comm]
theorem vw:eY X (ou .Mult) Kz:=by
 intro pins s σ H x y v u Q I rx ry h;obtain⟨l,k,xs,rfl,rfl,hH,h1,h2,hz,q⟩:=h;cases rx;obtain⟨t,rfl⟩:=ry;obtain⟨z,aH,n,r,hl,e⟩:=I.tR hH;have hlen:aH.toArray.size*k.toNat<=sizeLine:=by rw[fN,<-hl];exact hz
 have RQ: ¬aH.toArray.size*k.toNat>(2^63-1)/8:=by
  have:(sizeLine:Nat)<=(2^63-1)/8:=by decide
  omega
 have RS: ¬(!Builtin.List.listFitsIndex k)=true:=by
  rw[fitsIndex_both h1 h2];exact cW
 have C5: ¬IT (aH.toArray.size*k.toNat)=true:=by
  rw[Kx hlen];exact cW
 have RT:List.foldl (λx1 x2=>x1++x2) #[] (cZ (if aH.toArray.isEmpty=true then 0 else k.toNat) aH.toArray)=(cZ k.toNat aH).flatten.toArray:=by
  have f0:∀m:Nat,List.foldl (λx1 x2=>x1++x2) #[] (cZ m aH.toArray)=(cZ m aH).flatten.toArray:=λm=>by
   have:=foldl_rep aH m [];rw[sU] at this;exact this
  rw[f0];cases aH with
  |nil=>simp
  |cons a r'=>rw[if_neg (by simp)]
 refine wpAny_binaryOp_repeat_ref (T:="list") (U:="int") (by decide) ⟨_,e,rfl⟩ (λs'=>typeIs_int s' k t) noFill_list_mul F.fills_int_mul F.slot_int_rmul repeat_list F.slot_int_index.lookup
  (call_meets F.slot_int_rmul (typeIs_int s k t) F.entry_int_rmul (F.args_int_rmul_2 _ _) (int___rmul___int_list k t l aH.toArray n)
    ⟨e,rfl,⟨_,e,rfl⟩,call_meets F.slot_list_mul ⟨_,e,rfl⟩ F.entry_list_mul (F.args_list_mul_2 _ _) (AutoListH.list___mul___list_int_3 l aH.toArray n k t RS RQ C5) ⟨e,?_⟩⟩)
 rw[RT];exact⟨.ref _,_,I.Kw (t':=s.toks) (r.rep k.toNat) (by rw[len_rep,Nat.mul_comm];exact hz),rfl,q _ I.fresh⟩
end
section
variable{prog:aS}{w:aL}{A:cQ}{E:ah->aq->Prop}{s:aq}
set_option maxRecDepth 100000 in
end
theorem Vals.ints:∀{ns:List Int} {us:List ah},Vals (ns.map V.int) us->IntsAre us ns
 |[],us,h=>by
  rw[IU] at h;cases h;exact IntsAre.nil
 |n::ns,us,h=>by
  rw[i0] at h;cases h with
  |cons r t=>
   obtain⟨k,rfl⟩:=r;exact IntsAre.cons n k (Vals.ints t)
theorem Vals.KA:∀{bs:List Bool} {us:List ah},Vals (bs.map V.bl) us->us=bs.map xM
 |[],us,h=>by
  rw[IU] at h;cases h;rfl
 |b::bs,us,h=>by
  rw[i0] at h;cases h with
  |cons r t=>
   cases r;rw[Vals.KA t,i0]
theorem Vals.KC{a:ae}{us:List ah}(r:Vals [V.ref a] us):us=[di a]:=by
 cases r with
 |cons r t=>
  cases t;cases r;rfl
section
variable{prog:aS}{w:aL}{A:cQ}{E:ah->aq->Prop}{s:aq}{l:ae}{aH:List ah}{ns:List Int}{Q:ah->aq->Prop}
theorem RU(hh:A.handled=none)(hl:s.heap.IsList l aH.toArray)(hi:IntsAre aH ns)
 (h:∀h' tk t',(∀b o,s.heap.get? b=some o->h'.get? b=some o)->Q (.int ns.sum t') {s with heap:=h',toks:=tk}):aW (model prog w) A (call (.builtin "sum") [.ref l]) Q E s:=by
 obtain⟨xs,e⟩:=hi.allInts.items;have hn:numsOf (intItems xs).toList=ns:=by rw[<-e];exact hi.numsOf
 rw[nums_intItems] at hn;rw[e] at hl;refine PySem.sum_intListG hh hl λh' tk t' hk=> ?_;have:=h h' tk t' hk;rw[preSum_eq,IV (by simp),hn];exact this
end
section
variable{X:Cx}
def RV(K:az):List V->Hp->VK->Prop:=λvs H Q=>∃(a:ae) (ns:List Int),vs=[V.ref a]/\aI K H a (ns.map V.int)/\Q (.int ns.sum) H
theorem RW(hc:X.calm=true):jF X (.builtin "sum") (RV X.K):=by
 intro pins s σ H vs us Q I r h;obtain⟨a,ns,rfl,hs,q⟩:=h;obtain⟨aH,rv,hl,_⟩:=I.list hs;rw[Vals.KC r];exact RU (I.ok.hd hc) hl.isList rv.ints λh' tk t' hk=>⟨.int _,H,I.kept hk,⟨_,rfl⟩,q⟩
end
theorem RX{prog:aS}{w:aL}{A:cQ}{E:ah->aq->Prop}{s:aq}{l:ae}{items:Array ah}{Q:ah->aq->Prop}(hl:s.heap.IsList l items)
 (h:∀s₂:aq,s₂={s with heap:=s.heap.push {cls:=.type "list_iterator",data:=.fields #[.ref l,.int 0 0]}}->
   (s₂.heap.IsListIter s.heap.objs.size l 0/\s₂.heap.IsList l items)->l≠s.heap.objs.size->Q (.ref s.heap.objs.size) s₂):aW (model prog w) A (pyIter (.ref l)) Q E s:=by
 have dR:l<s.heap.objs.size:=by obtain⟨_,e,_⟩:=hl;exact cY e
 exact wpAny_pyIter_list hl (h _ rfl ⟨⟨_,iM _ rfl,rfl,rfl⟩,hl.push _⟩ (iu dR))
theorem RY{prog:aS}{w:aL}{A:cQ}{bs:List Bool}{aH:List ah}(e:aH=bs.map xM):
 TruthOf prog w A (λi v=>aH.toArray[i]? =some v) (λi=>bs.getD i false):=λi v s Q E hv hq=>by
 have yG:aH[i]? =some v:=by simpa using hv
 rw[e,dH] at yG;obtain⟨b,hb,rfl⟩:=Option.map_eq_some_iff.mp yG;have hg:bs.getD i false=b:=by rw[List.getD_eq_getElem?_getD,hb]<;>rfl
 have jH:Q (bs.getD i false) s:=hq;rw[hg] at jH;exact qH jH
theorem any_range:∀bs:List Bool,(cB bs.length).any (λi=>bs.getD i false)=bs.any id
 |[]=>rfl
 |b::bs=>by
  rw[cI,List.range_succ_eq_map,qM,List.any_map,qM,<-any_range bs]
  all_goals rfl
theorem all_range:∀bs:List Bool,(cB bs.length).all (λi=>bs.getD i false)=bs.all id
 |[]=>rfl
 |b::bs=>by
  rw[cI,List.range_succ_eq_map,lj,List.all_map,lj,<-all_range bs]
  all_goals rfl
section
variable{X:Cx}
def RZ(K:az):List V->Hp->VK->Prop:=λvs H Q=>∃(a:ae) (bs:List Bool),vs=[V.ref a]/\aI K H a (bs.map V.bl)/\Q (.bl (bs.all id)) H
theorem R0(hc:X.calm=true):jF X (.builtin "all") (RZ X.K):=by
 intro pins s σ H vs us Q I r h;obtain⟨a,bs,rfl,hs,q⟩:=h;obtain⟨aH,rv,hl,_⟩:=I.list hs;rw[Vals.KC r];have hb:=rv.KA;refine call_all_walk (RX hl.isList λs₂ e2 st tT=> ?_);subst e2;refine⟨_,_,_,_,_,_,_,rfl,Walks.list (A:=X.A.in1) (I.ok.hd hc) _ a tT aH.toArray,st,RY hb,λh' tk hk=> ?_⟩;refine⟨.bl _,H,I.kept λb o eo=>hk b o (λC8=> ?_) (eO _ eo),?_,q⟩
 ·rcases cC.mp C8 with e1|C8
  ·exact absurd (e1▸cY eo) (iK _)
  ·cases C8
 ·show xM _=xM _;rw[<-all_range,hb,fN,bx]
end
abbrev KD(h:aC)(c:ae)(v:Option ah):Prop:=h.IsCell c v
def R1(scope sc:d6):d6:=
 {scope with names:=scope.names.map λ(n,k)=>if(k== .free&&sc.kind== .function&&sc.names.lookup n==some .cell) then(n,.cell) else(n,k)}
def gJ(cells:List (Str×ae)):List (Str×jw)->List (Str×ae)->List (Str×ae)
 |[],acc=>acc
 |(n,k)::r,acc=>if k== .free then gJ cells r ((n,(cells.lookup n).getD 0)::acc) else gJ cells r acc
theorem KG(env:Env)(f:Str×jw->List (Str×ae)->Sem (ForInStep (List (Str×ae))))
 (hf:∀n k c,f (n,k) c=if k== .free then(do let a <-cellOf env n;pure (.yield ((n,a)::c))) else pure (.yield c)):
 ∀(names:List (Str×jw)) (acc:List (Str×ae)),(∀y∈names,y.2=.free->∃c,env.cells.lookup y.1=some c)->forIn names acc f=pure (gJ env.cells names acc)
 |[],acc,_=>by rw[List.forIn_nil];rfl
 |(n,k)::r,acc,h=>by
  rw[List.forIn_cons,hf];have ih:=λacc=>KG env f hf r acc λy hy=>h y (fD _ hy);unfold gJ;by_cases hk:(k==xU)=true
  ·rw[if_pos hk,if_pos hk];obtain⟨c,hc⟩:=h (n,k) iL (by simpa using hk)
   have e:cellOf env n=pure c:=by unfold cellOf;rw[hc]
   rw[e];have e2:(env.cells.lookup n).getD 0=c:=by rw[hc];rfl
   rw[e2];exact ih _
  ·rw[if_neg hk,if_neg hk];exact ih _
theorem R3{scope:d6}{env:Env}(h:∀y∈scope.names,y.2=.free->∃c,env.cells.lookup y.1=some c):closureFor scope env=pure (gJ env.cells scope.names []):=by
 simp only[closureFor];rw[KG env _ (λn k c=>rfl) scope.names [] h];rfl
theorem mem_lookup{α:Type}:∀{l:List (Str×α)} {n:Str} {c:α},(n,c)∈l->∃c',l.lookup n=some c'
 |(k,v)::r,n,c,h=>by
  rw[u1];cases hb:n==k with
  |true=>exact⟨_,rfl⟩
  |false=>
   rcases cC.mp h with e|h
   ·cases e;simp at hb
   ·exact mem_lookup h
theorem yL{cells:List (Str×ae)}:∀{names:List (Str×jw)} {acc:List (Str×ae)} {n:Str} {c:ae},(n,c)∈gJ cells names acc->(n,c)∈acc\/((n,.free)∈names/\c=(cells.lookup n).getD 0)
 |[],_,_,_,h=>.inl h
 |(m,k)::r,acc,n,c,h=>by
  unfold gJ at h
  split at h
  ·rename_i hk;have hk:k=.free:=by simpa using hk
   rcases yL h with h|⟨h1,h2⟩
   ·rcases cC.mp h with e|h
    ·cases e;exact .inr ⟨hk▸iL,rfl⟩
    ·exact .inl h
   ·exact .inr ⟨fD _ h1,h2⟩
  ·rcases yL h with h|⟨h1,h2⟩
   ·exact .inl h
   ·exact .inr ⟨fD _ h1,h2⟩
theorem C9{cells:List (Str×ae)}:∀{names:List (Str×jw)} {acc:List (Str×ae)} {p:Str×ae},p∈acc->p∈gJ cells names acc
 |[],_,_,h=>h
 |(m,k)::r,acc,p,h=>by
  unfold gJ
  split
  ·exact C9 (fD _ h)
  ·exact C9 h
theorem C_{cells:List (Str×ae)}:∀{names:List (Str×jw)} {acc:List (Str×ae)} {n:Str},(n,.free)∈names->(n,(cells.lookup n).getD 0)∈gJ cells names acc
 |(m,k)::r,acc,n,h=>by
  unfold gJ;rcases cC.mp h with e|h
  ·cases e;exact C9 iL
  ·split
   ·exact C_ h
   ·exact C_ h
theorem vx:∀{names:List (Str×jw)} {h:aC} {acc:List (Str×ae)} {x:Str} {c:ae},(x,c)∈gP h.objs.size names acc->
 (x,c)∈acc\/((x,.cell)∈names/\h.objs.size<=c/\KD (sV h names) c none)
 |[],_,_,_,_,h=>.inl h
 |(n,k)::r,h,acc,x,c,hm=>by
  unfold gP at hm;unfold sV
  split at hm
  ·rename_i hk;rw[if_pos hk];have hk:k=.cell:=by simpa using hk
   rw[<-lh h {cls:=.type "cell",data:=.cell none}] at hm;rcases vx hm with hm|⟨h1,h2,h3⟩
   ·rcases cC.mp hm with e|hm
    ·cases e;exact .inr ⟨hk▸iL,bE _,_,IW r _ _ _ (iM _ rfl),rfl⟩
    ·exact .inl hm
   ·rw[lh] at h2;exact .inr ⟨fD _ h1,IX h2,h3⟩
  ·rename_i hk;rw[if_neg hk];rcases vx hm with hm|⟨h1,h2,h3⟩
   ·exact .inl hm
   ·exact .inr ⟨fD _ h1,h2,h3⟩
theorem yM:∀{names:List (Str×jw)} {n:Nat} {acc:List (Str×ae)} {p:Str×ae},p∈acc->p∈gP n names acc
 |[],_,_,_,h=>h
 |(m,k)::r,n,acc,p,h=>by
  unfold gP
  split
  ·exact yM (fD _ h)
  ·exact yM h
theorem Dc:∀{names:List (Str×jw)} {n:Nat} {acc:List (Str×ae)} {x:Str},(x,.cell)∈names->∃c,(x,c)∈gP n names acc
 |(m,k)::r,n,acc,x,h=>by
  unfold gP;rcases cC.mp h with e|h
  ·cases e;exact⟨n,yM iL⟩
  ·split
   ·exact Dc h
   ·exact Dc h
theorem De:∀{names:List (Str×jw)} {h:aC} {acc:List (Str×ae)} {x y:Str} {c:ae},(∀p∈acc,p.2<h.objs.size)->(∀x y c,(x,c)∈acc->(y,c)∈acc->x=y)->
 (x,c)∈gP h.objs.size names acc->(y,c)∈gP h.objs.size names acc->x=y
 |[],_,_,_,_,_,_,hi,h1,h2=>hi _ _ _ h1 h2
 |(n,k)::r,h,acc,x,y,c,hl,hi,h1,h2=>by
  unfold gP at h1 h2
  split at h1
  ·rename_i hk;rw[if_pos hk] at h2;rw[<-lh h {cls:=.type "cell",data:=.cell none}] at h1 h2;refine De (h:=h.push _) (λp hp=> ?_) (λx y c a b=> ?_) h1 h2
   ·rw[lh];rcases cC.mp hp with rfl|hp
    ·exact BN _
    ·exact PV (hl p hp)
   ·rcases cC.mp a with e|a<;>rcases cC.mp b with e'|b
    ·cases e;cases e';rfl
    ·cases e;exact absurd (hl _ b) (iK _)
    ·cases e';exact absurd (hl _ a) (iK _)
    ·exact hi _ _ _ a b
  ·rename_i hk;rw[if_neg hk] at h2;exact De hl hi h1 h2
theorem R4{M:Model}{A:cQ}{E:ah->aq->Prop}{s:aq}{scope:d6}{globals:ae}{closure:List (Str×ae)}{qual:Str}{func:Option ae}{code:ah}{around:Env}{builtins:ae}{Q:Env->aq->Prop}
 (h:Q (newEnv scope s.heap.objs.size globals (gP (s.heap.objs.size+1) scope.names closure) qual func code (some around) builtins)
   {s with heap:=sV (s.heap.push {cls:=.type "dict",data:=.dict #[]}) scope.names}):
 aW M A (newFunctionEnv scope globals closure [] qual func code (some around) builtins) Q E s:=by
 simp only[newFunctionEnv,Option.isSome_some,if_true];refine cg (wpAny_alloc ?_);refine cg (wpAny_layCells _ (λn k c=>rfl) scope.names closure _ _ ?_);rw[show({s with heap:=s.heap.push {cls:=.type "dict",data:=.dict #[]}}:aq).heap.objs.size=s.heap.objs.size+1 from lh ..]
 rw[List.forIn_nil];exact cg (gc (gc h))
theorem Dg{sc:d6}:∀{names:List (Str×jw)} {x:Str} {k:jw},
 (names.map λ(n,k)=>if(k==xU&&sc.kind== .function&&sc.names.lookup n==some .cell) then(n,PX) else(n,k)).lookup x=some k->
 ∃k',names.lookup x=some k'/\ (k=k'\/(k'=.free/\k=.cell))
 |[],_,_,h=>by simp at h
 |(n,k₀)::r,x,k,h=>by
  have ih:= @Dg sc r x k;have h':oy x ((if(k₀==xU&&sc.kind== .function&&sc.names.lookup n==some .cell)=true then(n,PX) else(n,k₀))::(r.map _))=some k:=h
  cases hx:x==n with
  |true=>
   simp only[u1,hx];by_cases hc:(k₀==xU&&sc.kind== .function&&sc.names.lookup n==some .cell)=true
   ·rw[if_pos hc] at h';simp only[u1,hx] at h';cases h';simp only[eQ,beq_iff_eq] at hc;exact⟨k₀,rfl,.inr ⟨hc.1.1,rfl⟩⟩
   ·rw[if_neg hc] at h';simp only[u1,hx] at h';cases h';exact⟨_,rfl,.inl rfl⟩
  |false=>
   simp only[u1,hx];by_cases hc:(k₀==xU&&sc.kind== .function&&sc.names.lookup n==some .cell)=true
   ·rw[if_pos hc] at h';simp only[u1,hx] at h';exact ih h'
   ·rw[if_neg hc] at h';simp only[u1,hx] at h';exact ih h'
structure jn(N:List Str)(sc scope:d6)(own:List (Str×Nat)):Prop where
 kind:scope.kind=.function
 uniq:∀y∈scope.names,scope.names.lookup y.1=some y.2
 ix:∀p∈own,N[p.2]? =some p.1
 free:∀y∈scope.names,y.2=.free->sc.names.lookup y.1=some .cell\/sc.names.lookup y.1=some .free
 own:∀y∈scope.names,y.2=.local\/y.2=.cell->y.1∈own.map (·.1)\/y.1∉N
def wipe(σ:St):List Nat->St
 |[]=>σ
 |v::vs=>(wipe σ vs).set v none
theorem Dh(σ:St):∀vs:List Nat,(wipe σ vs).length=σ.length
 |[]=>rfl
 |v::vs=>by unfold wipe;rw[gV,Dh σ vs]
theorem Di{σ:St}{i:Nat}{x:V}:∀{vs:List Nat},(wipe σ vs)[i]? =some (some x)->σ[i]? =some (some x)/\i∉vs
 |[],h=>⟨h,by simp⟩
 |v::vs,h=>by
  unfold wipe at h;by_cases hi:v=i
  ·subst hi;by_cases hv:v<(wipe σ vs).length
   ·rw[uS hv] at h;cases h
   ·rw[pG (by simpa using hv)] at h;cases h
  ·rw[uT hi] at h;obtain⟨h1,h2⟩:=Di h;exact⟨h1,by simp only[cC,not_or];exact⟨λe=>hi e.symm,h2⟩⟩
abbrev Cx.g_(X:Cx)(s:aq)(H:Hp)(scope:d6)(eE:Env)(fp:List ae):Cx:={X with dB:=s,tE:=H,env:=eE,outer:=X.stack,ex:=fp,fn:=λx=>scope.names.lookup x==some .cell,pn:=[],xe:=λ_ _=>False}
section
variable{X:Cx}{pins:List (ae×Obj)}{σ:St}{H:Hp}{s:aq}
theorem R5{scope:d6}{own:List (Str×Nat)}{fp:List ae}(I:Inv X pins σ H s)(ok:jn X.N X.env.scope scope own)(hN:X.N.Nodup)(tU:∀b∈fp,lH X pins H b/\b<s.heap.objs.size):
 Inv (X.g_ s H scope (ly scope (gP (s.heap.objs.size+1) scope.names (gJ X.env.cells scope.names [])) s.heap.objs.size X.env) fp) [] (wipe σ (own.map (·.2))) H {s with heap:=sV (s.heap.push {cls:=.type "dict",data:=.dict #[]}) scope.names}:=by
 have tJ:∀y∈scope.names,y.2=.free->∃c,X.env.cells.lookup y.1=some c:=λy hy e=>by
  rcases ok.free y hy e with k|k
  ·exact I.ok.has _ (.inl k)
  ·exact I.ok.has _ (.inr k)
 generalize vy:ly scope (gP (s.heap.objs.size+1) scope.names (gJ X.env.cells scope.names [])) s.heap.objs.size X.env=eE;have kp:∀b o,s.heap.get? b=some o->(sV (s.heap.push {cls:=.type "dict",data:=.dict #[]}) scope.names).get? b=some o:=λb o e=>IW _ _ _ _ (eO _ e);have hL:eE.locals=s.heap.objs.size:=by rw[<-vy];rfl
 have kO:eE.cells=gP (s.heap.objs.size+1) scope.names (gJ X.env.cells scope.names []):=by rw[<-vy];rfl
 have rp:eE.scope=R1 scope X.env.scope:=by rw[<-vy];rfl
 rw[<-lh s.heap {cls:=.type "dict",data:=.dict #[]}] at kO;have cm:∀{y c},(y,c)∈gJ X.env.cells scope.names []->X.env.cells.lookup y=some c/\c<s.heap.objs.size:=λ{y c} hm=>by
  rcases yL hm with hm|⟨h1,rfl⟩
  ·cases hm
  ·obtain⟨c,hc⟩:=tJ _ h1 rfl;rw[hc];obtain⟨w,z⟩:=I.cell _ _ hc;exact⟨rfl,z.lt⟩
 have mem:∀{y c},eE.cells.lookup y=some c->(X.env.cells.lookup y=some c/\c<s.heap.objs.size)\/(s.heap.objs.size+1<=c/\KD (sV (s.heap.push {cls:=.type "dict",data:=.dict #[]}) scope.names) c none):=λ{y c} e=>by
  rw[kO] at e;rcases vx (jZ e) with hm|⟨_,h2,h3⟩
  ·exact .inl (cm hm)
  ·rw[lh] at h2;exact .inr ⟨h2,h3⟩
 have look:∀{y},scope.names.lookup y=some .free->∃c,eE.cells.lookup y=some c/\X.env.cells.lookup y=some c:=λ{y} hl=>by
  have hy:(y,xU)∈scope.names:=jZ hl;obtain⟨c',e'⟩:=mem_lookup (yM (names:=scope.names) (n:=(s.heap.push {cls:=.type "dict",data:=.dict #[]}).objs.size) (C_ (cells:=X.env.cells) (acc:=[]) hy));rw[<-kO] at e';refine⟨c',e',?_⟩;rw[kO] at e';rcases vx (jZ e') with hm|⟨h1,_,_⟩
  ·exact(cm hm).1
  ·have:=ok.uniq _ h1;rw[hl] at this;cases this
 have jo:(X.g_ s H scope eE fp).Ok:=by
  refine⟨I.ok.mod,by show eE.scope.kind=_;rw[rp];exact ok.kind,by show eE.globals=_;rw[<-vy];exact I.ok.glob,by show eE.builtins=_;rw[<-vy];exact I.ok.blt,by show s.heap.objs.size<=eE.locals;rw[hL];exact bE _,
   λy z c e1 e2=> ?_,λy hy=> ?_,λy c z e=> ?_,I.ok.hd,I.ok.frames,.inl rfl,λb hb=>⟨?_,λy c e z=> ?_⟩,I.bs,dw I.ok.j_ I.sz,λb o e hb=> ?_,λb hb z=> ?_,I.stack,I.pS⟩
  ·have e1:eE.cells.lookup y=some c:=e1;have e2:eE.cells.lookup z=some c:=e2;rw[kO] at e1 e2;refine De (λp hp=> ?_) (λy z c a b=>I.ok.inj y z c (cm a).1 (cm b).1) (jZ e1) (jZ e2);rw[lh];exact PV (cm (y:=p.1) (c:=p.2) hp).2
  ·show∃c,eE.cells.lookup y=some c;have key:∀k,eE.kindOf y=some k->(k=.cell\/k=.free)->∃c,eE.cells.lookup y=some c:=λk hk Dj=>by
    unfold Env.kindOf at hk;rw[rp] at hk;obtain⟨k',e,r⟩:=Dg hk;have:k'=.cell\/k'=.free:=by
     rcases r with rfl|⟨rfl,_⟩
     ·exact Dj
     ·exact .inr rfl
    rcases this with rfl|rfl
    ·obtain⟨c,hm⟩:=Dc (n:=(s.heap.push {cls:=.type "dict",data:=.dict #[]}).objs.size) (acc:=gJ X.env.cells scope.names []) (jZ e);obtain⟨c',e'⟩:=mem_lookup hm;exact⟨c',by rw[kO];exact e'⟩
    ·obtain⟨c,h1,_⟩:=look e;exact⟨c,h1⟩
   rcases hy with hy|hy
   ·exact key _ hy (.inl rfl)
   ·exact key _ hy (.inr rfl)
  ·have z:(scope.names.lookup y==some PX)=true:=z;have z:scope.names.lookup y=some .cell:=by simpa using z
   have e:eE.cells.lookup y=some c:=e;rw[kO] at e;rcases vx (jZ e) with hm|⟨_,h2,_⟩
   ·rcases yL hm with hm|⟨h1,_⟩
    ·cases hm
    ·have q:=ok.uniq _ h1;rw[z] at q;cases q
   ·rw[lh] at h2;exact IX h2
  ·show b≠eE.locals;rw[hL];exact iu (tU b hb).2
  ·have e:eE.cells.lookup y=some c:=e;rcases mem e with⟨h1,_⟩|⟨h1,_⟩
   ·exact(tU b hb).1.2.2.2.2.1 y c h1 z
   ·have h2:s.heap.objs.size+1<=b:=by rw[<-z];exact h1
    exact absurd (ej (tU b hb).2 (IX h2)) (iK _)
  ·rcases(tU b hb).1.2.2.2.1 with z|z
   ·exact I.ok.pP b o e z
   ·exact absurd (ej (cY e) (dw I.ok.j_ z)) (iK _)
  ·rcases cC.mp (I.ve b z) with z|z
   ·exact(tU b hb).1.2.1 z
   ·exact(tU b hb).1.2.2.1 z
 refine⟨jo,rfl,I.bare,Un.kept kp,⟨λ_=>none,?_,λi y av e1 e2 e3=> ?_⟩,λy c e=> ?_,?_,λy c e=> ?_,λp hp=> ?_,I.aU.kept kp,by rw[Dh];exact I.len⟩
 ·show aC.Ns _ eE.locals _;rw[hL];exact aC.Ns.keeps (aC.Ns.new ..) λb o e=>IW _ _ _ _ e
 ·obtain⟨e2,tT⟩:=Di e2;have hG:scope.names.lookup y=some .free/\ (eE.kindOf y=some .cell\/eE.kindOf y=some .free):=by
   have key:∀k,eE.scope.names.lookup y=some k->k=.local\/k=.cell\/k=.free->scope.names.lookup y=some .free/\ (eE.kindOf y=some .cell\/eE.kindOf y=some .free):=λk hk Dj=>by
    have tV:=hk;rw[rp] at hk;obtain⟨k',e,r⟩:=Dg hk;have no: ¬(k'=.local\/k'=.cell):=λhh=>by
     rcases ok.own _ (jZ e) hh with e'|e'
     ·obtain⟨p,hp,R6⟩:=mY.mp e';have e3:=ok.ix p hp;have:p.1=y:=R6;rw[this] at e3;exact tT (mY.mpr ⟨p,hp,Ci hN e3 e1⟩)
     ·exact e' (d7 e1)
    rcases r with rfl|⟨rfl,rfl⟩
    ·rcases Dj with rfl|rfl|rfl
     ·exact absurd (.inl rfl) no
     ·exact absurd (.inr rfl) no
     ·exact⟨e,.inr tV⟩
    ·exact⟨e,.inl tV⟩
   have e3:pN eE.scope y:=e3;rcases e3 with e3|e3|e3
   ·exact key _ e3 (.inl rfl)
   ·exact key _ e3 (.inr (.inl rfl))
   ·exact key _ e3 (.inr (.inr rfl))
  obtain⟨m,hn,hl⟩:=I.loc;have R7:pN X.env.scope y:=(ok.free _ (jZ hG.1) rfl).elim (λk=>.inr (.inl k)) (λk=>.inr (.inr k));obtain⟨w,r,q⟩:=hl i y av e1 e2 R7;refine⟨w,r,.inr ⟨hG.2,?_⟩⟩;obtain⟨c,h1,h2⟩:=look hG.1;rcases q with⟨k,_⟩|⟨_,c',e',z⟩
  ·have k:X.env.scope.names.lookup y=some .local:=k;rcases ok.free _ (jZ hG.1) rfl with k'|k'<;>rw[show X.env.scope.names.lookup y=_ from k'] at k<;>cases k
  ·rw[h2] at e';cases e';exact⟨c,h1,z.keeps kp⟩
 ·have e:eE.cells.lookup y=some c:=e;rcases mem e with⟨h1,_⟩|⟨_,z⟩
  ·obtain⟨w,z⟩:=I.cell y c h1;exact⟨w,z.keeps kp⟩
  ·exact⟨_,z⟩
 ·show H eE.locals=none;rw[hL];exact I.aU.fresh (bE _)
 ·have e:eE.cells.lookup y=some c:=e;rcases mem e with⟨h1,_⟩|⟨h1,_⟩
  ·exact I.gY y c h1
  ·exact I.aU.fresh (IX h1)
 ·exact absurd (show p∈([]:List (ae×Obj))++[] from hp) (by simp)
theorem R8{E:ah->aq->Prop}{D:ae}{xs:List V}{y:V}{v:ah}{Q:ah->aq->Prop}(I:Inv X pins σ H s)(hD:H D=some (.lst xs))(hz:xs.length<sizeLine)(r:b8 y v)
 (h:∀s',Inv X pins σ (upd H D (.lst (xs++[y]))) s'->Q .none s'):aW (model X.prog X.w) X.A (call (.builtin "list.append") [.ref D,v]) Q E s:=by
 obtain⟨hz',aH,n,ri,e⟩:=I.aU D _ hD;have hl:=ri.length;refine append_at (hsz:=by rw[fN];omega) e λh' sb jB=> ?_
 refine h {s with heap:=h'} (I.write (t':=s.toks) (by rw[hD];trivial) (.inl rfl) (λb u hb q=>(sb.2 b hb).trans q) ⟨_,jB⟩ ⟨by rw[bU];exact hz,aH++[v],n+1,ri.append (.cons r .nil),?_⟩)
 rw[jB];simp
def vz(X:Cx)(ifs:List bz)(t:TT):Prop:=
 ∀(pins:List (ae×Obj)) (s:aq) (σ:St) (H:Hp) (Q:Bool->Hp->Prop),Inv X pins σ H s->t σ H Q->
  aW (model X.prog X.w) X.A (forIn ifs true λc r=>if r=true then do let ok <-isTrue c X.env (eval c X.env);pure (IY ok) else pure (IY r)) (TP X pins σ Q) X.xe s
def R9:TT:=λ_ H Q=>Q true H
theorem oQ:vz X [] R9:=λ_ _ _ H _ I h=>wpAny_tests_nil ⟨H,I,h⟩
theorem KH{c:bz}{t:TT}(h:PT X c t):vz X [c] t:=λpins s σ H Q I hw=>wpAny_tests_one (h pins s σ H Q I hw)
end
theorem tW{α:Type}{t:Sem α}{Q Q':α->aq->Prop}{M:Model}{A:cQ}{E:ah->aq->Prop}{s:aq}(h:aW M A t Q (λ_ _=>False) s)(hQ:∀a s,Q a s->Q' a s):aW M A t Q' E s:=fM h hQ λ_ _ z=>gw z
theorem R_{prog:aS}{w:aL}{A:cQ}{R:Result->aq->Prop}{s:aq}{elt target iter:bz}{ifs:List bz}{scope:d6}{pos:Pos}{it acc:ah}{env:Env}(I:Nat->aq->Prop)
 (turn:∀n s,I n s->aW (model prog w) A (pyNext it) (λr s₁=>match r with
   |none=>R (.ok .next) s₁
   |some v=>aW (model prog w) A (IK target it v) (λ_ s₁'=>aW (model prog w) A (assign target env v) (λ_ s₂=>
     aW (model prog w) A (forIn ifs true λc r=>if r=true then do let ok <-isTrue c env (eval c env);pure (IY ok) else pure (IY r)) (λok s₃=>
      if ok=true then aW (model prog w) A (eval elt env) (λx s₄=>
       aW (model prog w) A (call (.builtin "list.append") [acc,x]) (λ_ s₅=>∃m,m<n/\I m s₅) (pH (model prog w) A env λe s'=>R (.error e) s') s₄) (pH (model prog w) A env λe s'=>R (.error e) s') s₃
      else∃m,m<n/\I m s₃) (pH (model prog w) A env λe s'=>R (.error e) s') s₂) (pH (model prog w) A env λe s'=>R (.error e) s') s₁') (pH (model prog w) A env λe s'=>R (.error e) s') s₁) (pH (model prog w) A env λe s'=>R (.error e) s') s)
 (n:Nat) (h:I n s):
 pF (model prog w) A (.compLoop (.ListComp elt [⟨target,iter,ifs,0⟩] scope pos) 0 it acc env) R s:=by
 refine codeAny_loop rfl I (λn s hI=> ?_) n h;show aW _ A ((compTurn (.ListComp elt [⟨target,iter,ifs,0⟩] scope pos) 0 it acc env).onRaise (λx=>do u4 x env;theTreesLotGoes x)) _ _ s
 refine wpAny_noted ?_;rw[compTurn_list];refine cg (BH (cg (fM (turn n s hI) (λr s₁ h₁=> ?_) λ_ _ h'=>h')));cases r with
 |none=>exact gc h₁
 |some v=>
  refine cg (fM h₁ (λ_ s₁' h₁'=> ?_) λ_ _ h'=>h');refine cg (fM h₁' (λ_ s₂ h₂=>cg (fM h₂ (λok s₃ h₃=> ?_) λ_ _ h'=>h')) λ_ _ h'=>h');cases ok with
  |false=>exact gc ⟨rfl,h₃⟩
  |true=>
   exact cg (cg (fM h₃ (λx s₄ h₄=>cg (fM h₄ (λ_ s₅ h₅=>gc (gc ⟨rfl,h₅⟩)) λ_ _ h'=>h')) λ_ _ h'=>h'))
section
variable{X:Cx}
def yN(wi:TI)(g:TG)(tt:TT)(te:TE)(vs:List Nat):TE:=λσ H Q=>wi σ H λJ H1=>∀D,H1 D=none->∃W:Nat->Nat->Hp->Prop,(∃m,W 0 m (upd H1 D (.lst [])))/\ ∀i m H,W i m H->
 (J.stop i H/\Q (.ref D) H)\/(J.go i H/\ ∃Nx:Hp->Prop,(∀H',Nx H'->∃m',m'<m/\W (i+1) m' H')/\ ∀x H',J.oI i H x H'->g x (wipe σ vs) H' λσ2 H2=>wipe σ2 vs=wipe σ vs/\tt σ2 H2 λb H3=>
   if b=true then te σ2 H3 λy H4=>∃acc,H4 D=some (.lst acc)/\acc.length<sizeLine/\Nx (upd H4 D (.lst (acc++[y]))) else Nx H3)
theorem KI{pins:List (ae×Obj)}{s:aq}{σ:St}{H:Hp}{Q:VK}{elt tg iter:bz}{ifs:List bz}{scope:d6}{own:List (Str×Nat)}{pos pos':Pos}{wi:TI}{g:TG}{tt:TT}{te:TE}{use:Option (ah->Sem Unit)}{Qf:ah->aq->Prop}
 (hc:X.calm=true) (hN:X.N.Nodup) (I:Inv X pins σ H s) (hi:PI X tg iter wi) (ok:jn X.N X.env.scope scope own)
 (hg:∀(s:aq) (H:Hp) (C:ae) (cl:List (Str×ae)) (fp:List ae),PG (X.g_ s H scope (ly scope cl C X.env) fp) tg g) (ht:∀(s:aq) (H:Hp) (C:ae) (cl:List (Str×ae)) (fp:List ae),vz (X.g_ s H scope (ly scope cl C X.env) fp) ifs tt)
 (he:∀(s:aq) (H:Hp) (C:ae) (cl:List (Str×ae)) (fp:List ae),PE (X.g_ s H scope (ly scope cl C X.env) fp) elt te) (hs:∀x,BI iter X.env x=pure x)
 (h:yN wi g tt te (own.map (·.2)) σ H Q)
 (R':∀D C s' m H',Inv X pins σ H' s'->Q (.ref D) H'->s'.heap.Ns C m->lH X pins H' C->compPost (model X.prog X.w) X.A X.xe use Qf (.ref D) C (.ok .next) s'):
 aW (model X.prog X.w) X.A (comprehension (.ListComp elt [⟨tg,iter,ifs,0⟩] scope pos) scope X.env pos' (newList []) false (eval iter X.env) use) Qf X.xe s:=by
 have tJ:∀y∈scope.names,y.2=.free->∃c,X.env.cells.lookup y.1=some c:=λy hy e=>by
  rcases ok.free y hy e with k|k
  ·exact I.ok.has _ (.inl k)
  ·exact I.ok.has _ (.inr k)
 refine wpAny_comprehension_free (use:=use) rfl hs (R3 tJ) ok.kind (λy hy e=>by rw[ok.uniq y hy,e])
  (bf (hi pins s σ H _ I h) λxv s1 hx=>bf hx λyB s2 h2=> ?_)
 obtain⟨it,fp,tn,J,H2,e,I2,T,tM,f2,q⟩:=h2;subst e;refine wpAny_newObj_type (R4 ?_) (by show 0<=sizeLine;decide)
 generalize hD:s2.heap.objs.size=D;have Sa:H2 D=none:=I2.aU.fresh (BL hD);obtain⟨W,⟨m0,w0⟩,turn⟩:=q D Sa;generalize KJ:({s2 with heap:=s2.heap.push {cls:=.type "list",data:=.seq ([]:List ah).toArray}}:aq)=s3
 have I3:Inv X pins σ (upd H2 D (.lst [])) s3:=by
  rw[<-KJ];refine I2.laid (t':=s2.toks) (λb o e=>eO _ e) (BL hD) ⟨eV _,[],0,.nil,?_⟩;rw[<-hD];exact iM _ rfl
 have h3:s3.heap=s2.heap.push {cls:=.type "list",data:=.seq ([]:List ah).toArray}:=by rw[<-KJ]
 have sz:∀b∈fp,b<s2.heap.objs.size:=λb hb=>by
  obtain⟨o,e,_⟩:=T.obj _ _ tM b hb;exact cY e
 have f3:∀b∈fp,lH X pins (upd H2 D (.lst [])) b/\b<s3.heap.objs.size:=λb hb=>by
  have dR:=sz b hb;refine⟨⟨?_,(f2 b hb).2⟩,by rw[h3,lh];exact PV dR⟩
  rw[ak (by rw[<-hD];exact iu dR)]
  exact(f2 b hb).1
 have q0:tn 0 s3.heap:=T.keep _ _ _ tM λb _ o e=>by rw[h3];exact eO _ e
 have I4:=R5 I3 ok hN f3;have pg:=hg s3 (upd H2 D (.lst [])) s3.heap.objs.size (gP (s3.heap.objs.size+1) scope.names (gJ X.env.cells scope.names [])) fp;have pt:=ht s3 (upd H2 D (.lst [])) s3.heap.objs.size (gP (s3.heap.objs.size+1) scope.names (gJ X.env.cells scope.names [])) fp;have pe:=he s3 (upd H2 D (.lst [])) s3.heap.objs.size (gP (s3.heap.objs.size+1) scope.names (gJ X.env.cells scope.names [])) fp;show pF _ _ (.compStart (.ListComp elt [⟨tg,iter,ifs,0⟩] scope pos) 0 (.ref it) (.ref D) (ly scope (gP (s3.heap.objs.size+1) scope.names (gJ X.env.cells scope.names [])) s3.heap.objs.size X.env)) (compPost (model X.prog X.w) X.A X.xe use Qf (.ref D) s3.heap.objs.size) {s3 with heap:=sV (s3.heap.push {cls:=.type "dict",data:=.dict #[]}) scope.names}
 have KL:∀b∈fp,(upd H2 D (.lst [])) b=none:=λb hb=>(f3 b hb).1.1;generalize Sb:ly scope (gP (s3.heap.objs.size+1) scope.names (gJ X.env.cells scope.names [])) s3.heap.objs.size X.env=ce at I4 pg pt pe⊢;have cL:ce.locals=s3.heap.objs.size:=by subst Sb;rfl
 generalize hH3:upd H2 D (.lst [])=H3 at I3 I4 pg pt pe w0 KL f3;generalize Sd:({s3 with heap:=sV (s3.heap.push {cls:=.type "dict",data:=.dict #[]}) scope.names}:aq)=s4 at I4⊢
 have KN:tn 0 s4.heap:=T.keep _ _ _ q0 λb _ o e=>by rw[<-Sd];exact IW _ _ _ _ (eO _ e)
 have lJ:∀{σ':St} {H':Hp} {s':aq},Inv (X.g_ s3 H3 scope ce fp) [] σ' H' s'->(∀b∈fp,H' b=none)->∀b∈fp,lH (X.g_ s3 H3 scope ce fp) [] H' b:=λ{σ' H' s'} I' hn b hb=>
  ⟨hn b hb,(I'.ok.qW b hb).1,I'.ok.pQ b hb,.inl hb,λx c e=>(I'.ok.qW b hb).2 x c e,λp hp=>absurd (show p∈([]:List (ae×Obj))++[] from hp) (by simp)⟩
 have loop:pF (model X.prog X.w) X.A (.compLoop (.ListComp elt [⟨tg,iter,ifs,0⟩] scope pos) 0 (.ref it) (.ref D) ce) (compPost (model X.prog X.w) X.A X.xe use Qf (.ref D) s3.heap.objs.size) s4:=by
  refine R_ (λn s'=>∃i H',Inv (X.g_ s3 H3 scope ce fp) [] (wipe σ (own.map (·.2))) H' s'/\tn i s'.heap/\ (∀b∈fp,H' b=none)/\W i n H') ?_ m0 ⟨0,H3,I4,KN,KL,w0⟩;rintro n s5 ⟨i,H5,I5,nF,n5,w5⟩;rcases turn i n H5 w5 with⟨stop,qq⟩|⟨go,Nx,Se,step⟩
  ·have td:=T.done (X.g_ s3 H3 scope ce fp) rfl rfl rfl hc i [] s5 _ H5 (λ_ _=>False) I5 (lJ I5 n5) nF stop;refine tW td λr s6 ⟨hr,I6⟩=> ?_;subst hr;have I7:Inv X pins σ H5 s6:=I3.vh (ch:=fp) I6.os I6.base I6.aU I6.bare λb hb=>⟨(f3 b hb).1.2.2.2.1,(f3 b hb).1.2.1,(f3 b hb).1.2.2.2.2.1,(f3 b hb).1.2.2.2.2.2⟩;have nC:H5 s3.heap.objs.size=none:=by
    have z:H5 ce.locals=none:=I6.free;rw[cL] at z;exact z
   obtain⟨m,hn,_⟩:=I6.loc;have hn:s6.heap.Ns ce.locals m:=hn;rw[cL] at hn;exact R' D s3.heap.objs.size s6 m H5 I7 qq hn (I3.yA (bE _) nC)
  ·have ti:=T.item (X.g_ s3 H3 scope ce fp) rfl rfl rfl hc i [] s5 _ H5 (λ_ _=>False) I5 (lJ I5 n5) nF go;refine tW ti λr s6 ⟨u,hr,h6⟩=> ?_;subst hr;refine tW h6 λ_ s7 ⟨x,H7,I7,r7,y7,Dk,n7⟩=> ?_;have Sf:=I7.pinned (lJ I7 n7) (T.obj _ _ Dk);refine tW (pg _ s7 _ H7 x u _ Sf r7 (step x H7 y7)) λ_ s8 ⟨σ8,H8,I8,KO,q8⟩=> ?_;refine tW (pt _ s8 σ8 H8 _ I8 q8) λb s9 ⟨H9,I9,q9⟩=> ?_;have fin:∀{s':aq} {H':Hp},Inv (X.g_ s3 H3 scope ce fp) ([]++pZ fp s7.heap) σ8 H' s'->Nx H'->∃m,m<n/\ ∃i H',Inv (X.g_ s3 H3 scope ce fp) [] (wipe σ (own.map (·.2))) H' s'/\tn i s'.heap/\ (∀b∈fp,H' b=none)/\W i m H':=λ{s' H'} I' nx=>by
    obtain⟨m',hm,w'⟩:=Se H' nx;have KP:∀b∈fp,∀o,s7.heap.get? b=some o->s'.heap.get? b=some o/\H' b=none:=λb hb o e=>
     let z:=I'.pin (b,o) (mX _ (mX _ (vj hb e)))
     ⟨z.1,z.2.1⟩
    have hl:(wipe σ (own.map (·.2))).length=σ8.length:=by rw[<-KO,Dh]
    refine⟨m',hm,i+1,H',(I'.qZ (pins:=[])).weak hl (λj v e=> ?_),T.keep _ _ _ Dk λb hb o e=>(KP b hb o e).1,λb hb=> ?_,w'⟩
    ·rw[<-KO] at e;exact(Di e).1
    ·obtain⟨o,e,_⟩:=T.obj _ _ Dk b hb;exact(KP b hb o e).2
   cases b with
   |false=>
    simp only[IZ,if_false] at q9⊢;exact fin I9 q9
   |true=>
    simp only[if_true] at q9⊢;refine tW (pe _ s9 σ8 H9 _ I9 q9) λz s10 ⟨yv,H10,Sg,Sh,acc,Si,Sj,nx⟩=> ?_;exact R8 (X:=X.g_ s3 H3 scope ce fp) Sg Si Sj Sh λs11 Sk=>fin Sk nx
 exact codeAny_compStart_list loop (T.self X.A 0 _ _ _ KN loop)
theorem nL{elt tg iter:bz}{ifs:List bz}{scope:d6}{own:List (Str×Nat)}{pos:Pos}{wi:TI}{g:TG}{tt:TT}{te:TE}(hc:X.calm=true)(hN:X.N.Nodup)(hi:PI X tg iter wi)(ok:jn X.N X.env.scope scope own)
 (hg:∀(s:aq) (H:Hp) (C:ae) (cl:List (Str×ae)) (fp:List ae),PG (X.g_ s H scope (ly scope cl C X.env) fp) tg g) (ht:∀(s:aq) (H:Hp) (C:ae) (cl:List (Str×ae)) (fp:List ae),vz (X.g_ s H scope (ly scope cl C X.env) fp) ifs tt)
 (he:∀(s:aq) (H:Hp) (C:ae) (cl:List (Str×ae)) (fp:List ae),PE (X.g_ s H scope (ly scope cl C X.env) fp) elt te) (hs:∀x,BI iter X.env x=pure x:=by intro _;rfl):
 PE X (.ListComp elt [⟨tg,iter,ifs,0⟩] scope pos) (yN wi g tt te (own.map (·.2))):=by
 intro pins s σ H Q I h;rw[eval_ListComp];refine KI hc hN I hi ok hg ht he hs h λD C s' m H' I' q hn f=>⟨m,hn,λtX sb=> ?_⟩;obtain⟨f0,f1,f2,f3,f4,f5⟩:=f;exact⟨.ref D,H',I'.turned (t':=s'.toks) (λb o hb e=>(sb.2 b hb).trans e) f0 f1 f3 f4 f5,rfl,q⟩
theorem Sl{i:Nat}{y:Str}{py:Pos}{elt tg iter:bz}{ifs:List bz}{scope:d6}{own:List (Str×Nat)}{pos KQ:Pos}{wi:TI}{g:TG}{tt:TT}{te:TE}(hc:X.calm=true)(hN:X.N.Nodup)(hy:X.N[i]? =some y)(KR:X.env.scope.names.lookup y=some .local)
 (Sm:sO (.ListComp elt [⟨tg,iter,ifs,0⟩] scope pos) (some (.Name y py)) KQ.line X.env=pure true) (hi:PI X tg iter wi) (ok:jn X.N X.env.scope scope own)
 (hg:∀(s:aq) (H:Hp) (C:ae) (cl:List (Str×ae)) (fp:List ae),PG (X.g_ s H scope (ly scope cl C X.env) fp) tg g) (ht:∀(s:aq) (H:Hp) (C:ae) (cl:List (Str×ae)) (fp:List ae),vz (X.g_ s H scope (ly scope cl C X.env) fp) ifs tt)
 (he:∀(s:aq) (H:Hp) (C:ae) (cl:List (Str×ae)) (fp:List ae),PE (X.g_ s H scope (ly scope cl C X.env) fp) elt te) (hs:∀x,BI iter X.env x=pure x:=by intro _;rfl):
 PS X (.Assign [.Name y py] (.ListComp elt [⟨tg,iter,ifs,0⟩] scope pos) KQ) (Cp (yN wi g tt te (own.map (·.2))) (yy i)):=by
 intro pins s σ H D I h;rw[exec_Assign_Name_used _ _ _ _ Sm];refine cg (BH (cg ?_));show aW _ X.A (do let _ <-comprehension (.ListComp elt [⟨tg,iter,ifs,0⟩] scope pos) scope X.env (firstIterPos [⟨tg,iter,ifs,0⟩] pos) (newList []) false (eval iter X.env) (some (assign (.Name y py) X.env))) _ _ s
 have h:yN wi g tt te (own.map (·.2)) σ H (λx H1=>yy i x σ H1 D.nx):=h;refine cg (bf (KI (Qf:=λ_ s'=>SP X pins D .next s') hc hN I hi ok hg ht he hs h λL C s' m H' I' q hn f=> ?_) λ_ s' hq=>gc (gc hq));show aW _ _ (assign (.Name y py) X.env (.ref L)) _ _ _;refine wpAny_assign_Name (JC (v:=V.ref L) I' hN hy (.inl KR) rfl (λs2 I2 ⟨a,sb,ha⟩=> ?_) (.inr KR));obtain⟨f0,f1,f2,f3,f4,f5⟩:=f;have Sn:C≠a:=by
  rcases ha with z|z
  ·rw[z];exact f1
  ·exactλe=>f4 y a z e.symm
 refine⟨m,hn.sameBut sb Sn,λh3 So=> ?_⟩;exact⟨_,H',I2.turned (t':=s2.toks) (λb o hb e=>(So.2 b hb).trans e) f0 f1 f3 f4 f5,q⟩
theorem Sq{elt:bz}{gs:List Comprehension}{scope:d6}{pos py:Pos}{y:Str}{l:Nat}{env:Env}(hk:env.scope.kind=.function)(hy:env.scope.names.lookup y=some .local)(hl:(py.line==pos.line)=true)
 (ha:(scope.names.any λ(n,k)=>n==y&&(k== .local||k== .cell))=false):sO (.ListComp elt gs scope pos) (some (.Name y py)) l env=pure true:=by
 have ky:env.kindOf y=some .local:=hy;have hb:env.blockKind=.function:=by unfold Env.blockKind;rw[hk];rfl
 unfold sO;simp only[hb,ky,ha,bz.pos,hl];rfl
end
theorem KS{lo:Int}{n:Nat}{g:TG}{tt:TT}{te:TE}{vs:List Nat}{σ:St}{H1:Hp}{D:ae}{Qd:Hp->Prop}(Pv:Nat->Hp->Prop)(h0:Pv 0 (upd H1 D (.lst [])))
 (hs:∀i H,i<n->Pv i H->g (.int (lo+i)) (wipe σ vs) H λσ2 H2=>wipe σ2 vs=wipe σ vs/\tt σ2 H2 λb H3=>
   if b=true then te σ2 H3 λy H4=>∃acc,H4 D=some (.lst acc)/\acc.length<sizeLine/\Pv (i+1) (upd H4 D (.lst (acc++[y]))) else Pv (i+1) H3) (hd:∀H,Pv n H->Qd H):
 ∃W:Nat->Nat->Hp->Prop,(∃m,W 0 m (upd H1 D (.lst [])))/\ ∀i m H,W i m H->
  ((oJ lo n).stop i H/\Qd H)\/((oJ lo n).go i H/\ ∃Nx:Hp->Prop,(∀H',Nx H'->∃m',m'<m/\W (i+1) m' H')/\ ∀x H',(oJ lo n).oI i H x H'->g x (wipe σ vs) H' λσ2 H2=>wipe σ2 vs=wipe σ vs/\tt σ2 H2 λb H3=>
    if b=true then te σ2 H3 λy H4=>∃acc,H4 D=some (.lst acc)/\acc.length<sizeLine/\Nx (upd H4 D (.lst (acc++[y]))) else Nx H3):=by
 refine⟨λi m H=>m=n-i/\i<=n/\Pv i H,⟨n,by simp,eV _,h0⟩,?_⟩
 rintro i m H ⟨rfl,hi,p⟩;by_cases dR:i<n
 ·refine .inr ⟨dR,Pv (i+1),λH' p'=>⟨n-(i+1),by omega,rfl,dR,p'⟩,λx H' y=> ?_⟩
  obtain⟨e,y⟩:=y;subst e y;exact hs i _ dR p
 ·have e:i=n:=by omega
  subst e;exact .inl ⟨bE _,hd H p⟩
theorem qf{K:az}{a:ae}{xs:List V}{g:TG}{tt:TT}{te:TE}{vs:List Nat}{σ:St}{H1:Hp}{D:ae}{Qd:Hp->Prop}(Pv:Nat->Hp->Prop)(h0:Pv 0 (upd H1 D (.lst [])))(hl:∀i H,i<=xs.length->Pv i H->aI K H a xs)
 (hs:∀i x H,xs[i]? =some x->Pv i H->g x (wipe σ vs) H λσ2 H2=>wipe σ2 vs=wipe σ vs/\tt σ2 H2 λb H3=>
   if b=true then te σ2 H3 λy H4=>∃acc,H4 D=some (.lst acc)/\acc.length<sizeLine/\Pv (i+1) (upd H4 D (.lst (acc++[y]))) else Pv (i+1) H3) (hd:∀H,Pv xs.length H->Qd H):
 ∃W:Nat->Nat->Hp->Prop,(∃m,W 0 m (upd H1 D (.lst [])))/\ ∀i m H,W i m H->
  ((pX K a).stop i H/\Qd H)\/((pX K a).go i H/\ ∃Nx:Hp->Prop,(∀H',Nx H'->∃m',m'<m/\W (i+1) m' H')/\ ∀x H',(pX K a).oI i H x H'->g x (wipe σ vs) H' λσ2 H2=>wipe σ2 vs=wipe σ vs/\tt σ2 H2 λb H3=>
    if b=true then te σ2 H3 λy H4=>∃acc,H4 D=some (.lst acc)/\acc.length<sizeLine/\Nx (upd H4 D (.lst (acc++[y]))) else Nx H3):=by
 refine⟨λi m H=>m=xs.length-i/\i<=xs.length/\Pv i H,⟨xs.length,by simp,eV _,h0⟩,?_⟩
 rintro i m H ⟨rfl,hi,p⟩;have q:=hl i H hi p;by_cases dR:i<xs.length
 ·refine .inr ⟨⟨xs,xs[i],q,by simp[dR]⟩,Pv (i+1),λH' p'=>⟨xs.length-(i+1),by omega,rfl,dR,p'⟩,λx H' y=> ?_⟩
  obtain⟨e,y⟩:=y;subst e;exact hs i x _ (y xs q) p
 ·have e:i=xs.length:=by omega
  subst e;exact .inl ⟨⟨xs,q,bE _⟩,hd H p⟩
section
variable{κ:Type}[DecidableEq κ]
def dU(kvs:List (κ×V))(k:κ):Option V:=(kvs.find? λkv=>decide (kv.1=k)).map (·.2)
theorem Dl{p:κ×V}{r:List (κ×V)}{k:κ}(e:p.1=k):dU (p::r) k=some p.2:=by simp[dU,I_,e]
theorem nN{p:κ×V}{r:List (κ×V)}{k:κ}(e: ¬p.1=k):dU (p::r) k=dU r k:=by simp[dU,I_,e]
theorem gx.Sr{o:Option V}{u:Option ah}(r:gx o u):o.isSome=u.isSome:=by
 cases o with
 |none=>cases u with
  |none=>rfl
  |some _=>exact(show False from r).elim
 |some _=>cases u with
  |none=>exact(show False from r).elim
  |some _=>rfl
theorem gx.getD{o:Option V}{u:Option ah}{d:V}{d':ah}(r:gx o u)(rd:b8 d d'):b8 (o.getD d) (u.getD d'):=by
 cases o with
 |none=>cases u with
  |none=>exact rd
  |some _=>exact(show False from r).elim
 |some _=>cases u with
  |none=>exact(show False from r).elim
  |some _=>exact r
end
theorem Dm{P:aS}{w:aL}{k:Key}{u:ah}(r:b8 (kV k) u):(i7 P w).is k u=true:=by
 cases k with
 |inl i=>obtain⟨t,e⟩:=(show∃t,u=ah.int i t from r);subst e;exact Qt P w i t
 |inr x=>obtain⟨t,e⟩:=(show∃t,u=ah.str x t from r);subst e;exact Qu P w x t
def Dp(i:bz):Prop:=∀ov iv,subscripted i false ov iv=operate [ov,iv] (getItem ov iv)
theorem Ss{prog:aS}{w:aL}{A:cQ}{E:ah->aq->Prop}{s:aq}{env:Env}{value slice:bz}{pos:Pos}{T id:String}{Q:ah->aq->Prop}
 (hl:qL (.type T) "__getitem__"=pure (some (.builtin id))) (hs:Dp slice)
 (h:aW (model prog w) A (eval value env) (λo s₁=>aW (model prog w) A (eval slice env) (λi s₂=>s₂.TypeIs o T/\aW (model prog w) A (getItem o i) Q E s₂) E s₁) E s):
 aW (model prog w) A (eval (.Subscript value slice pos) env) Q E s:=by
 refine Subscript_ (fM h (λo s₁ h₁=>fM h₁ (λi s₂ h₂=> ?_) λ_ _ x=>x) λ_ _ x=>x);obtain⟨hT,h₂⟩:=h₂;unfold subscriptTail;refine cg ?_;rw[getitemInPython_of_ne hT.not_modules];refine cg (wpAny_specialOf hT hl ?_);have fin:aW (model prog w) A (subscripted slice false o i) (λr s₃=>aW (model prog w) A (letTemporaryGo value o r>>=λ_=>pure r) Q E s₃) E s₂:=by
  rw[hs o i];exact wpAny_operating (fM h₂ (λr s₃ h₃=>cg (wpAny_letTemporaryGo (gc h₃))) λ_ _ x=>x)
 first
  |exact gc (cg fin)
  |exact cg (gc (cg fin))
  |exact cg fin
structure M1(X:Cx)(o:bz)(m:Str)(apos:Pos)(e:bz)(dS:Pos):Prop where
 base:oz o m X.env (eval o X.env)=eval o X.env
 KU:((f_ dS (cG [e] X.env)).all (λx=> !x.1)&&(sQ dS (sR [] X.env)).all (λx=>x.1.isSome)
  &&decide (([e]:List bz).length+([]:List Keyword).length+(if([]:List Keyword).isEmpty then 0 else 1)<30))=true
 line:(apos.endLine==dS.line)=true
 trees:f_ dS (cG [e] X.env)=[(false,eval e X.env)]
structure M2(X:Cx)(o:bz)(m:Str)(apos:Pos)(e f:bz)(dS:Pos):Prop where
 base:oz o m X.env (eval o X.env)=eval o X.env
 KU:((f_ dS (cG [e,f] X.env)).all (λx=> !x.1)&&(sQ dS (sR [] X.env)).all (λx=>x.1.isSome)
  &&decide (([e,f]:List bz).length+([]:List Keyword).length+(if([]:List Keyword).isEmpty then 0 else 1)<30))=true
 line:(apos.endLine==dS.line)=true
 trees:f_ dS (cG [e,f] X.env)=[(false,eval e X.env),(false,eval f X.env)]
section
variable{X:Cx}
theorem KW{tg:bz}{pins:List (ae×Obj)}{σ:St}{H:Hp}{s:aq}{R:It->Hp->Prop}{J:It}{tn:Nat->aC->Prop}{tk:Nat}(I:Inv X pins σ H s)(o:Obj)
 (T:Turn X.prog X.w X.K tg J [s.heap.objs.size] s.heap.objs.size tn) (st:tn 0 (s.heap.push o)) (q:R J H):Cq X pins σ tg R (.ref s.heap.objs.size) {s with heap:=s.heap.push o,toks:=tk}:=by
 refine⟨s.heap.objs.size,[s.heap.objs.size],tn,J,H,rfl,I.kept λb ob e=>eO _ e,T,st,λb hb=> ?_,q⟩;have e:b=s.heap.objs.size:=by simpa using hb
 subst e;exact I.yA (bE _) (I.aU.fresh (bE _))
end
def qg(x:Str):It:=⟨λi _=>i<x.cps.size,λi H v H'=>H'=H/\ ∃c,x.cps[i]? =some c/\v=.str ⟨#[c]⟩,λi _=>x.cps.size<=i⟩
theorem KY{P:aS}{w:aL}{K:az}{tg:bz}(it:ae)(x:Str)(t:Tok)(ty:String)(qe:ty="str_ascii_iterator"\/ty="str_iterator"):
 Turn P w K tg (qg x) [it] it (λi h=>h.IsStrIter it ty x t i) where
 mem:=by simp
 obj:=λi h st b hb=>by
  have e:b=it:=by simpa using hb
  subst e;obtain⟨o,e,c,d⟩:=st;exact⟨o,e,λv z=>by rw[d] at z;cases z⟩
 keep:=λi h h' st k=>let ⟨o,ho,r⟩:=st;⟨o,k it (by simp) o ho,r⟩
 item:=by
  intro X hP hw hK hc i pins s σ H E I hf st hg;subst hP hw hK;obtain⟨f0,f1,f2,f3,f4,f5⟩:=hf it (by simp)
  have W:Walks X.prog X.w X.A it [it] [it] x.cps.size (SignAt x) (λi h=>h.IsStrIter it ty x t i):=by
   rcases qe with e|e
   ·rw[e];exact Walks.strAscii (I.ok.hd hc) it x t
   ·rw[e];exact Walks.strWide (I.ok.hd hc) it x t
  have Su:["enumerate","zip","dict_itemiterator","dict_reverseitemiterator","odict_iterator","itertools.zip_longest","itertools.pairwise"].contains ty=false:=by
   rcases qe with e|e
   ·rw[e];decide
   ·rw[e];decide
  refine W.item i s _ _ hg st λv h' tk hv pY kk=> ?_;obtain⟨c,u,vA,rfl⟩:=hv;have I1:Inv X pins σ H {s with heap:=h',toks:=tk}:=I.turned (λb o hb e=>kk b o (by simpa using hb) e) f0 f1 f3 f4 f5
  obtain⟨oi,e,cc,dd⟩:=id pY;exact⟨_,rfl,Cr (s:={s with heap:=h',toks:=tk}) e cc dd Su ⟨.str ⟨#[c]⟩,H,I1,⟨u,rfl⟩,⟨rfl,c,vA,rfl⟩,pY,λb hb=>(hf b hb).1⟩⟩
 done:=by
  intro X hP hw hK hc i pins s σ H E I hf st hg;subst hP hw hK;obtain⟨f0,f1,f2,f3,f4,f5⟩:=hf it (by simp)
  have hx:x.cps[i]? =none:=Array.getElem?_eq_none hg;rcases qe with e|e
  ·rw[e] at st;exact wpAny_pyNext_ascii_end (I.ok.hd hc) st hx λh' eb=>⟨rfl,I.turned (t':=s.toks) (λb o hb e=>eb b o hb e) f0 f1 f3 f4 f5⟩
  ·rw[e] at st;exact wpAny_pyNext_wide_end (I.ok.hd hc) st hx λh' eb=>⟨rfl,I.turned (t':=s.toks) (λb o hb e=>eb b o hb e) f0 f1 f3 f4 f5⟩
 self:=λA i s Q E st h=>by
  rcases qe with e|e
  ·rw[e] at st;exact wpAny_pyIter_striter_ascii st h
  ·rw[e] at st;exact wpAny_pyIter_striter_wide st h
def Sv(te:TE):TI:=λσ H R=>te σ H λv H1=>∃x,v=.str x/\R (qg x) H1
theorem KZ{X:Cx}{tg e:bz}{te:TE}(he:PE X e te):PI X tg e (Sv te):=by
 intro pins s σ H R I h;refine bf (he pins s σ H _ I h) λv s1 ⟨y,H1,I1,r1,x,ex,q⟩=> ?_;subst ex;obtain⟨t,rfl⟩:=r1;cases ha:x.cps.all (·<128)
 ·exact wpAny_pyIter_wide ha (KW (tk:=s1.toks) I1 _ (KY _ x t "str_iterator" (.inr rfl)) ⟨_,iM _ rfl,rfl,rfl⟩ q)
 ·exact wpAny_pyIter_ascii ha (KW (tk:=s1.toks) I1 _ (KY _ x t "str_ascii_iterator" (.inl rfl)) ⟨_,iM _ rfl,rfl,rfl⟩ q)
theorem Dq{α β:Type}{G:α->β->Prop}{l₁:List α}{l₂:List β}(h:Paired G l₁ l₂):∀{i:Nat} {a:α},l₁[i]? =some a->∃b,l₂[i]? =some b/\G a b:=by
 induction h with
 |nil=>intro i a e;simp at e
 | @cons a b l₁ l₂ r t ih=>
   intro i a' e;cases i with
   |zero=>
    simp only[List.getElem?_cons_zero,Option.some.injEq] at e;subst e;exact⟨b,rfl,r⟩
   |succ j=>
    simp only[List.getElem?_cons_succ] at e⊢;exact ih e
end L2
section
namespace TL
open PySem PySem.Builtin PySem.Builtin.Str PySem.StrLaws
abbrev tl(x:Str):List Nat:=x.cps.toList
theorem Sw(x:Str):x.length=(tl x).length:=by simp[tl,Str.length]
theorem rq{x y:Str}(h:tl x=tl y):x=y:=Str.ext' (Array.toList_inj.mp h)
theorem Ds(x y:Str):tl (x++y)=tl x++tl y:=by
 show(x++y).cps.toList=_;rw[Str.cps_append,Array.toList_append]
theorem Sx(x:Str):(⟨(tl x).toArray⟩:Str)=x:=rq rfl
theorem Sy(s:String):tl (bV s)=s.toList.map Ja:=PyProof.Rows.signs_ofString s
def pre(S l:List Nat):Bool:=l.take S.length==S
def par(S:List Nat):List Nat->List Nat->Option (List Nat×List Nat)
 |_,[]=>none
 |acc,c::r=>if pre S (c::r)=true then some (acc,(c::r).drop S.length) else par S (acc++[c]) r
def Dt(S:List Nat):List (List Nat)->List Nat
 |[]=>[]
 |[p]=>p
 |p::q::r=>p++(S++Dt S (q::r))
theorem yO(y:Str):∀parts:List Str,tl (Str.join y parts)=Dt (tl y) (parts.map tl)
 |[]=>rfl
 |[_]=>rfl
 |x::z::r=>by
  show tl (x++y++Str.join y (z::r))=tl x++(tl y++Dt (tl y) ((z::r).map tl));rw[Ds,Ds,yO y (z::r),lq]
theorem join_eq(y:Str)(parts:List Str):xV y parts=Str.join y parts:=glued_eq_join y parts
def rz(n:Nat):List Nat:=(xW 10 n).map Ja
theorem Sz(n:Nat):tl (bV (toString ((n:Nat):Int)))=rz n:=PySem.W.KIN.signs_num n
theorem K0:∀d:Nat,d<10->(Nat.digitChar d).toNat=48+d:=by decide
theorem SA{n:Nat}(h:n<10):rz n=[48+n]:=by
 unfold rz;rw[Nat.toDigits_of_lt_base h];show[(Nat.digitChar n).toNat]=_;rw[K0 n h]
theorem SD{n:Nat}(h:10<=n):rz n=rz (n/10)++[48+n%10]:=by
 have hm:n%10<10:=Nat.mod_lt n (by decide)
 have t:xW 10 (n/10)++xW 10 (n%10)=xW 10 (10*(n/10)+n%10):=Nat.toDigits_append_toDigits (by decide) (by omega) hm
 rw[Nat.div_add_mod] at t;show(xW 10 n).map Ja=_;rw[<-t,iw,Nat.toDigits_of_lt_base hm];show(xW 10 (n/10)).map Ja++[(Nat.digitChar (n%10)).toNat]=_;rw[K0 _ hm]<;>rfl
end TL
end
namespace L2
open PySem PySem.Spec PyProof.Rows
theorem Du:∀{ys:List Str} {us:List ah},Vals (ys.map V.str) us->StrsAre us ys
 |[],_,.nil=>.nil
 |y::ys,_,.cons r t=>by
  obtain⟨k,rfl⟩:=r;exact .cons y k (Du t)
section
variable{X:Cx}
theorem SE:rk X "str.join" (λx xs H Q=>∃a p,∃ys:List Str,x=.str a/\xs=[.ref p]/\ (aI X.K H p (ys.map V.str)\/fQ X.K H p (ys.map V.str))/\
 (ys.map (·.length)).sum+ys.length*a.length<=16777216/\Q (.str (xV a ys)) H):=by
 intro pins s σ H x xs v us Q I rx rs h;obtain⟨a,p,ys,rfl,rfl,hp,hz,h⟩:=h;obtain⟨t,rfl⟩:=rx;cases rs with
 |cons r1 rs=>
  cases rs;cases r1;rcases hp with hp|hp
  ·obtain⟨aH,r,⟨o,n,ho,hc,_,hd⟩,_⟩:=I.list hp;exact PyProof.Rows.join_list (items:=aH.toArray) ⟨o,ho,hc,n,hd⟩ (by rw[List.toList_toArray];exact Du r) hz λt' k=>⟨.str _,H,I.tok k,⟨t',rfl⟩,h⟩
  ·obtain⟨aH,r,ht,_⟩:=I.tuple hp;exact PyProof.Rows.join_tuple (items:=aH.toArray) ht (by rw[List.toList_toArray];exact Du r) hz λt' k=>⟨.str _,H,I.tok k,⟨t',rfl⟩,h⟩
theorem SI{id:String}{C:Str->Prop}{g:Str->V}(rule:∀(a:Str) (t:Tok) (s:aq) (Q:ah->aq->Prop),C a->(∀(u:ah) (k:Nat),b8 (g a) u->Q u {s with toks:=k})->
 aW (model X.prog X.w) X.A (call (.builtin id) [.str a t]) Q X.xe s):rk X id (λx xs H Q=>∃a,x=.str a/\xs=[]/\C a/\Q (g a) H):=by
 intro pins s σ H x xs v us Q I rx rs h;obtain⟨a,rfl,rfl,hc,h⟩:=h;obtain⟨t,rfl⟩:=rx;cases rs;exact rule a t s _ hc λu k r=>⟨g a,H,I.tok k,r,h⟩
theorem SJ:rk X "str.isdigit" (λx xs H Q=>∃a,x=.str a/\xs=[]/\True/\Q (.bl (Jb a)) H):=
 SI (C:=λ_=>True) (g:=λa=>.bl (Jb a)) λ_ _ s _ _ h=>PySem.SC.isdigit (h _ s.toks rfl)
theorem SM:jF X (.type "int") (λxs H Q=>∃a n,xs=[.str a]/\PySem.intText? a=some n/\a.length<=640/\Q (.int n) H):=by
 intro pins s σ H xs us Q I rs h;obtain⟨a,n,rfl,hn,hl,h⟩:=h;cases rs with
 |cons r1 rs=>
  cases rs;obtain⟨t,rfl⟩:=r1;exact PySem.W.KIN.call_text hn hl ⟨.int n,H,I.tok _,⟨_,rfl⟩,h⟩
end
section
variable{X:Cx}{o e:bz}{to te:TE}
def SN(r:V->List V->Hp->VK->Prop)(to:TE):TE:=λσ H Q=>to σ H λx H1=>(∃a,x=.str a)/\r x [] H1 Q
def K1(r:V->List V->Hp->VK->Prop)(to te:TE):TE:=λσ H Q=>to σ H λx H1=>(∃a,x=.str a)/\te σ H1 λy H2=>r x [y] H2 Q
theorem SO{id:String}{name:Str}{apos pos:Pos}{r:V->List V->Hp->VK->Prop}(slot:Slot "str" name id)(ty:typeOf (.builtin id)=pure (.type "method_descriptor"))(rule:rk X id r)(ho:PE X o to)
 (jm:oz o name X.env (eval o X.env)=eval o X.env:=by rfl) (oP:(apos.endLine==pos.line)=true:=by rfl):PE X (.Call (.Attribute o name apos) [] [] pos) (SN r to):=by
 intro pins s σ H Q I h;refine PySem.Call_method0 jm oP (bf (ho pins s σ H _ I h) λv s1 ⟨x,H1,I1,r1,q1⟩=> ?_);obtain⟨⟨a,rfl⟩,q1⟩:=q1;obtain⟨t,rfl⟩:=_root_.id r1;exact⟨"str",_,F.plainAttrs_str,slot,ty,BS _ _ _,(λ_ e=>nomatch e),IS rfl (PySem.evalArgs_none (rule pins s1 σ H1 _ [] _ [] Q I1 r1 .nil q1))⟩
theorem SQ{id:String}{name:Str}{apos pos:Pos}{r:V->List V->Hp->VK->Prop}(slot:Slot "str" name id)(ty:typeOf (.builtin id)=pure (.type "method_descriptor"))(rule:rk X id r)(ho:PE X o to)(he:PE X e te)
 (hs:cG [e] X.env=[(false,eval e X.env)]:=by rfl) (jm:oz o name X.env (eval o X.env)=eval o X.env:=by rfl) (oP:(apos.endLine==pos.line)=true:=by rfl):
 PE X (.Call (.Attribute o name apos) [e] [] pos) (K1 r to te):=by
 intro pins s σ H Q I h;refine PySem.Call_method1 jm hs oP (bf (ho pins s σ H _ I h) λv s1 ⟨x,H1,I1,r1,q1⟩=> ?_);obtain⟨⟨a,rfl⟩,q1⟩:=q1;obtain⟨t,rfl⟩:=_root_.id r1;refine⟨"str",_,F.plainAttrs_str,slot,ty,BS _ _ _,(λ_ e=>nomatch e),IS rfl (PU (PL ?_))⟩;exact bf (he pins s1 σ H1 _ I1 q1) λu s2 ⟨y,H2,I2,r2,q2⟩=>PK (rule pins s2 σ H2 _ [y] _ [u] Q I2 r1 (.cons r2 .nil) q2)
theorem yP{apos pos:Pos}(ho:PE X o to)(he:PE X e te)(hs:cG [e] X.env=[(false,eval e X.env)]:=by rfl)(jm:oz o "join" X.env (eval o X.env)=eval o X.env:=by rfl)(oP:(apos.endLine==pos.line)=true:=by rfl):
 PE X (.Call (.Attribute o "join" apos) [e] [] pos) (K1 (λx xs H Q=>∃a p,∃ys:List Str,x=.str a/\xs=[.ref p]/\ (aI X.K H p (ys.map V.str)\/fQ X.K H p (ys.map V.str))/\
  (ys.map (·.length)).sum+ys.length*a.length<=16777216/\Q (.str (xV a ys)) H) to te):=
 SQ F.slot_str_join F.type_str_join SE ho he hs jm oP
end
theorem IsPart.raw{v:ah}{o:Option Int}(p:IsPart v o):∃l:Option (Int×Tok),v=partValue l/\l.map (·.1)=o:=by
 cases p with
 |none=>exact⟨none,rfl,rfl⟩
 |int i t=>exact⟨some (i,t),rfl,rfl⟩
def vB(n d:Nat):Option Int->Int
 |none=>(d:Int)
 |some i=>max 0 (min (if i<0 then i+(n:Int) else i) (n:Int))
theorem K2(n d:Nat)(o:Option Int):vB n d o=((HT.cK n d o:Nat):Int):=by
 cases o with
 |none=>rfl
 |some v=>
  show max (0:Int) (min (if v<0 then v+(n:Int) else v) (n:Int))=(((if v<0 then(v+(n:Int)).toNat else min v.toNat n):Nat):Int)
  by_cases hv:v<0
  ·simp only[if_pos hv];omega
  ·simp only[if_neg hv];omega
theorem SR(a b:Option Int)(n:Nat):qN a b 1 n=sliceRange (vB n 0 a) (vB n n b) 1:=by
 have h1:((1:Int)>0)=True:=by simp
 cases a<;>cases b<;>first
  |rfl
  |(simp only[qN,vB,h1,if_true];rfl)
  |simp[qN,vB]
theorem SS(a b:Option Int)(n:Nat):qN a b 1 n=(cB (HT.cK n n b-HT.cK n 0 a)).map (λk=>HT.cK n 0 a+k):=by
 rw[SR,K2,K2];generalize HT.cK n 0 a=p;generalize HT.cK n n b=q;simp only[sliceRange,show((1:Int)>0)=True from by simp,if_true]
 by_cases dR:(p:Int)<q
 ·have e3:(((q:Int)-p+1-1)/1).toNat=q-p:=by first|omega|(simp;done)|(simp;omega)
  simp only[dR,if_true,e3];refine pJ λk _=> ?_;omega
 ·have:q-p=0:=by omega
  simp[dR,this]
def rB(z:Str)(lo hi:Option Int):Str:=
 ⟨((z.cps.toList.drop (HT.cK z.length 0 lo)).take (HT.cK z.length z.length hi-HT.cK z.length 0 lo)).toArray⟩
theorem K3(z:Str)(lo hi:Option Int):xX z lo hi=rB z lo hi:=by
 have h1:HT.cK z.length 0 lo<=z.length:=HT.Kk _ _ (eV _) _;have h2:HT.cK z.length z.length hi<=z.length:=HT.Kk _ _ (bE _) _;have hp:HT.cK z.length 0 lo<=max (HT.cK z.length 0 lo) (HT.cK z.length z.length hi):=Nat.le_max_left _ _;have hq:max (HT.cK z.length 0 lo) (HT.cK z.length z.length hi)<=z.length:=Nat.max_le.mpr ⟨h1,h2⟩;have hd:max (HT.cK z.length 0 lo) (HT.cK z.length z.length hi)-HT.cK z.length 0 lo=HT.cK z.length z.length hi-HT.cK z.length 0 lo:=by omega
 have e:qN lo hi 1 z.length=
  qN (some ((HT.cK z.length 0 lo:Nat):Int)) (some ((max (HT.cK z.length 0 lo) (HT.cK z.length z.length hi):Nat):Int)) 1 z.length:=by
  rw[PySem.StrLaws.strSliceIndices_plain hp hq,hd,SS]
 have e2:xX z lo hi=
  xX z (some ((HT.cK z.length 0 lo:Nat):Int)) (some ((max (HT.cK z.length 0 lo) (HT.cK z.length z.length hi):Nat):Int)):=by
  unfold xX;rw[e]
 rw[e2,PySem.StrLaws.sliceText_nat z hp hq,hd];rfl
theorem SU(z:Str)(lo hi:Option Int):(rB z lo hi).length<=z.length:=by
 show(((z.cps.toList.drop (HT.cK z.length 0 lo)).take (HT.cK z.length z.length hi-HT.cK z.length 0 lo)).toArray).size<=z.cps.size;rw[fN,jY,kF,Array.length_toList];omega
def SV:V->Option Int->Option Int->Hp->VK->Prop:=λx lo hi H Q=>∃z,x=.str z/\z.length<=sizeLine/\Q (.str (rB z lo hi)) H
theorem K4{X:Cx}:CS X SV:=by
 intro pins s σ H x v vl vu lo hi sl Q I rx hs pl pu h;obtain⟨z,rfl,hz,q⟩:=h;obtain⟨t,rfl⟩:=rx;obtain⟨os,SW,SX,SY⟩:=hs;obtain⟨l,rfl,rfl⟩:=IsPart.raw pl;obtain⟨u,rfl,rfl⟩:=IsPart.raw pu;refine⟨"str",_,F.slot_str_getitem.lookup,BS _ _ _,?_⟩;refine wpAny_getItem_str_slice (l:=l) (u:=u) (st:=none) ⟨os,SW,SX,SY⟩ rfl ?_;have hl:(xX z (l.map (·.1)) (u.map (·.1))).length<=sizeLine:=by
  rw[K3];exact dw (SU z _ _) hz
 rw[<-K3] at q;unfold xX at q hl;show Made.post (if((1:Int)==1&&(qN (l.map (·.1)) (u.map (·.1)) 1 z.length).length==z.length)=true then Made.val (.str z t)
  else Made.str ⟨((qN (l.map (·.1)) (u.map (·.1)) 1 z.length).filterMap (z.cps[·]?)).toArray⟩) (EP X pins σ Q) s
 by_cases c:((1:Int)==1&&(qN (l.map (·.1)) (u.map (·.1)) 1 z.length).length==z.length)=true
 ·rw[if_pos c] at q⊢;exact⟨.str z,H,I,⟨t,rfl⟩,q⟩
 ·rw[if_neg c] at q hl⊢;exact⟨hl,.str _,H,I.tok _,⟨_,rfl⟩,q⟩
def inClass(s:cD)(j:Nat):cD:=match s with
 | .ClassDef _ _ _ body _ _ _ _ _ _ _=>body.getD j (.Pass ⟨0,0,0,0⟩)
 |_=>.Pass ⟨0,0,0,0⟩
def ke(s:cD):Arguments:=match s with
 | .FunctionDef _ a _ _ _ _ _ _ _ _=>a
 |_=>{posonlyargs:=[],args:=[],vararg:=none,kwonlyargs:=[],kw_defaults:=[],kwarg:=none,defaults:=[]}
def hX(s:cD):List cD:=match s with
 | .FunctionDef _ _ b _ _ _ _ _ _ _=>b
 |_=>[]
def aK(s:cD):d6:=match s with
 | .FunctionDef _ _ _ _ _ _ sc _ _ _=>sc
 |_=>{kind:=.function,names:=[],isGenerator:=false,isCoroutine:=false}
abbrev au:jG:=λ_ _ _ _ _ _=>False
abbrev E0:XK:=λ_ _ _=>False
theorem a_{X:Cx}:Passes au X E0:=λ_ _ _ _ _ _ _ h=>h.elim
structure aG(K:az)(x qual:Str)(st:cD)(f:ae)(fd:bK):Prop where
 ex:∃(oc:ah) (od:Option ae) (kV doc pm:ah) (an:Option ae) (aF ct:ah) (gI:Array (Option ah)),
  fd=j0 x qual (ke st) (hX st) (aK st) .none kV doc pm an aF ct/\K.lookup f=some ⟨oc,od,.func fd,gI⟩/\sS K aF qual=true
 kp:iN K (.ref f)=true
section
variable{P:aS}{w:aL}{K:az}{mg:Str->Option ah}{base:aC}
theorem aG.ok{x qual:Str}{st:cD}{f:ae}{fd:bK}{N ps:List Str}{k:Nat}{sp:Sp}(F:aG K x qual st f fd)(S:aV N ps (aK st))(len:∀vs H Q E,sp vs H Q E->vs.length=ps.length)
 (lM:∀(aF:ah) (A:cQ) (outer:List Env) (s:aq) (H:Hp) (vs:List V) (Q:VK) (E:XK),dD k (A.deeper (envOfC qual (aK st) s.heap.objs.size f aF))->sp vs H Q E->
   ∃t,gy (i9 au P w K mg base N qual (aK st) f aF A outer s H E).tL (hX st) t/\t {nx:=λ_ H'=>Q .aO H',rt:=Q} (start N vs) H):aD P w K mg base au (k+1) f fd ps sp:=by
 obtain⟨oc,od,kV,doc,pm,an,aF,ct,gI,rfl,lk,fq⟩:=F.ex;refine CP lk fq S len λA outer s H vs Q E hr kN=> ?_;obtain⟨t,h,q⟩:=lM aF A outer s H vs Q E hr kN;exact⟨t,h.tL,q⟩
theorem aG.binds{x qual:Str}{st:cD}{f:ae}{fd:bK}{ps:List Str}(F:aG K x qual st f fd)
 (h:∀(kV doc pm:ah) (an:Option ae) (aF ct:ah) (us:List ah),us.length=ps.length->qI (j0 x qual (ke st) (hX st) (aK st) .none kV doc pm an aF ct) ⟨us,[]⟩=pure (ps.zip us)):Binds K fd ps []:=by
 obtain⟨oc,od,kV,doc,pm,an,aF,ct,gI,rfl,lk,fq⟩:=F.ex;exact .all (h kV doc pm an aF ct)
theorem rC{x qual:Str}{st:cD}{f:ae}{oc:ah}{od an:Option ae}{gI:Array (Option ah)}{kV doc pm aF ct:ah}(l:K.lookup f=some ⟨oc,od,.func (j0 x qual (ke st) (hX st) (aK st) .none kV doc pm an aF ct),gI⟩)
 (c:sS K aF qual=true) (k:iN K (.ref f)=true):aG K x qual st f (j0 x qual (ke st) (hX st) (aK st) .none kV doc pm an aF ct):=⟨⟨oc,od,kV,doc,pm,an,aF,ct,gI,rfl,l,c⟩,k⟩
end
section
variable{X:Cx}
theorem pv(i:Nat){x:Str}{pos:Pos}(hN:X.N[i]? =some x:=by rfl)(hv:pN X.env.scope x:=by first|exact aZ rfl|exact Or.inr (aZ rfl)|exact Or.inr (Or.inr rfl))(hd:(x==("__debug__":Str))=false:=by decide)
 (fq:(x==("__classdict__":Str))=false:=by decide):PE X (.Name x pos) (pU i):=yr hN hv hd fq
end
theorem dW{A B:Prop}(h:B):if false=true then A else B:=by
 rw[if_neg cW];exact h
theorem dq{A B:Prop}(h:A):if true=true then A else B:=by
 rw[if_pos rfl];exact h
def tY(H H':Hp):Prop:=∀b o,H b=some o->H' b=some o
theorem tY.seq{K:az}{H H':Hp}{a:ae}{xs:List V}(e:tY H H')(h:aI K H a xs):aI K H' a xs:=by
 rcases h with(h|⟨o,h⟩)|h
 ·exact .inl (.inl (e _ _ h))
 ·exact .inl (.inr ⟨o,e _ _ h⟩)
 ·exact .inr h
theorem S0{α:Type}{l:List α}(hN:l.Nodup){i j:Nat}{x:α}(a:l[i]? =some x)(b:l[j]? =some x):i=j:=by
 obtain⟨h1,e1⟩:=dy.mp a;obtain⟨h2,e2⟩:=dy.mp b;exact(List.getElem_inj hN).mp (e1.trans e2.symm)
end L2
section
namespace L2
open PySem PySem.Spec PyProof.Rows
open PySem.W (WData Codec OpenSpec Well WellAll ReadsW ReadsAllW)
mutual
inductive Dw(K:az)(H:Hp):V->WData->Prop
 |aO:Dw K H .aO .none
 |bl (b:Bool):Dw K H (.bl b) (.bool b)
 |int (i:Int):Dw K H (.int i) (.int i)
 |str (x:Str):Dw K H (.str x) (.str x)
 |iP (b:Array UInt8):Dw K H (.iP b) (.bytes b.toList)
 |lst {a:ae} {xs:List V} {ds:List WData}:aI K H a xs->lN K H xs ds->Dw K H (.ref a) (.list ds)
 |tup {a:ae} {xs:List V} {ds:List WData}:fQ K H a xs->lN K H xs ds->Dw K H (.ref a) (.tuple ds)
inductive lN(K:az)(H:Hp):List V->List WData->Prop
 |nil:lN K H [] []
 |cons {v:V} {vs:List V} {d:WData} {ds:List WData}:Dw K H v d->lN K H vs ds->lN K H (v::vs) (d::ds)
end
theorem K5{K:az}{H:Hp}:∀ns:List Int,lN K H (ns.map V.int) (ns.map WData.int)
 |[]=>.nil
 |n::r=>.cons (.int n) (K5 r)
theorem K6{K:az}{H:Hp}:∀(ns:List Int) (xs:List V),lN K H xs (ns.map WData.int)->xs=ns.map V.int
 |[],xs,h=>by
  cases h;rfl
 |n::r,xs,h=>by
  cases h with
  |cons h1 h2=>
   cases h1;rw[K6 r _ h2]<;>rfl
section
variable{P:aS}{w:aL}{K:az}{H:Hp}{h:aC}{R:PySem.W.WRecords}{cl:Str->Option ae}
theorem S1{a:ae}{xs:List V}(aU:c9 P w H h)(KX:K.In h)(q:aI K H a xs):∃(aH:List ah) (o:Obj) (n:Nat),Vals xs aH/\h.get? a=some o/\o.cls=.type "list"/\o.data=.seq aH.toArray n:=by
 rcases q with q|⟨o,aH,n,e,hc,_,hd,_,hv⟩
 ·obtain⟨_,aH,n,hv,e⟩:=(show df P w H h a (.lst xs) from q.ok aU);exact⟨aH,_,n,hv,e,rfl,rfl⟩
 ·exact⟨aH.toList,o,n,hv,KX _ _ e,hc,by simp[hd]⟩
theorem S2{a:ae}{xs:List V}(aU:c9 P w H h)(KX:K.In h)(q:fQ K H a xs):∃(aH:List ah) (o:Obj) (n:Nat),Vals xs aH/\h.get? a=some o/\o.cls=.type "tuple"/\o.data=.seq aH.toArray n:=by
 rcases q with q|⟨o,aH,n,e,hc,hd,_,hv⟩
 ·obtain⟨_,aH,hv,o,e,hc,n,hd⟩:=(show df P w H h a (.tup xs) from q.ok aU);exact⟨aH,o,n,hv,e,hc,hd⟩
 ·exact⟨aH.toList,o,n,hv,KX _ _ e,hc,by simp[hd]⟩
mutual
theorem Dw.reads(aU:c9 P w H h)(KX:K.In h):∀(d:WData) (v:V) (u:ah),Dw K H v d->b8 v u->∃as,ReadsW R cl h u d as
 | .none,_,_,x,r=>by
   cases x;cases r;exact⟨_,ReadsW.none⟩
 | .bool b,_,_,x,r=>by
   cases x;cases r;exact⟨_,ReadsW.bool b⟩
 | .int i,_,_,x,r=>by
   cases x;obtain⟨t,rfl⟩:=r;exact⟨_,ReadsW.int i t⟩
 | .str s,_,_,x,r=>by
   cases x;obtain⟨t,rfl⟩:=r;exact⟨_,ReadsW.str s t⟩
 | .bytes b,_,_,x,r=>by
   cases x;obtain⟨t,rfl⟩:=r;exact⟨_,ReadsW.bytes _ t⟩
 | .list ds,_,_,x,r=>by
   cases x with
   |lst hs ha=>
    cases r;obtain⟨aH,o,n,rv,ho,hc,hd⟩:=S1 aU KX hs;obtain⟨as,hr⟩:=Dw.readsAll aU KX ds _ aH ha rv;exact⟨_,ReadsW.list ho hc hd hr⟩
 | .tuple ds,_,_,x,r=>by
   cases x with
   |tup hs ha=>
    cases r;obtain⟨aH,o,n,rv,ho,hc,hd⟩:=S2 aU KX hs;obtain⟨as,hr⟩:=Dw.readsAll aU KX ds _ aH ha rv;exact⟨_,ReadsW.tuple ho hc hd hr⟩
 | .float _,_,_,x,_=>by cases x
 | .dict _,_,_,x,_=>by cases x
 | .bytearray _,_,_,x,_=>by cases x
 | .set _,_,_,x,_=>by cases x
 | .frozenset _,_,_,x,_=>by cases x
 | .obj _ _,_,_,x,_=>by cases x
theorem Dw.readsAll(aU:c9 P w H h)(KX:K.In h):∀(ds:List WData) (vs:List V) (us:List ah),lN K H vs ds->Vals vs us->∃as,ReadsAllW R cl h us ds as
 |[],_,_,x,r=>by
  cases x;cases r;exact⟨_,ReadsAllW.nil⟩
 |d::ds,_,_,x,r=>by
  cases x with
  |cons h1 h2=>
   cases r with
   |cons r1 r2=>
    obtain⟨as,q1⟩:=Dw.reads aU KX d _ _ h1 r1;obtain⟨bs,q2⟩:=Dw.readsAll aU KX ds _ _ h2 r2;exact⟨_,ReadsAllW.cons q1 q2⟩
end
end
mutual
def jK:WData->Bool
 | .none=>true
 | .bool _=>true
 | .int _=>true
 | .str _=>true
 | .bytes _=>true
 | .list xs=>kP xs
 | .tuple xs=>kP xs
 |_=>false
def kP:List WData->Bool
 |[]=>true
 |x::r=>jK x&&kP r
end
theorem K7{α:Type}{f:α->WData}(h:∀a,jK (f a)=true):∀l:List α,kP (l.map f)=true
 |[]=>rfl
 |x::r=>by
  show(jK (f x)&&kP (r.map f))=true;rw[h x,K7 h r]<;>rfl
theorem qh:∀(c:Codec) (a:c.denote),jK (c.enc a)=true
 | .unit,_=>rfl
 | .bool,_=>rfl
 | .int _ _,_=>rfl
 | .nat _ _,_=>rfl
 | .u8,_=>rfl
 | .bytes _ _,_=>rfl
 | .text _ _ _ _,_=>rfl
 | .list _ _ c,a=>K7 (λx=>qh c x) a
 | .pair c d,a=>by
   show(jK (c.enc a.1)&&(jK (d.enc a.2)&&true))=true;rw[qh c a.1,qh d a.2]<;>rfl
 | .triple c d e,a=>by
   show(jK (c.enc a.1)&&(jK (d.enc a.2.1)&&(jK (e.enc a.2.2)&&true)))=true;rw[qh c a.1,qh d a.2.1,qh e a.2.2]<;>rfl
 | .option c,none=>rfl
 | .option c,some x=>qh c x
theorem K8:∀(cs:List Codec) (a:PY cs),kP (BW cs a)=true
 |[],_=>rfl
 |c::cs,a=>by
  show(jK (c.enc a.1)&&kP (BW cs a.2))=true;rw[qh c a.1,K8 cs a.2]<;>rfl
theorem Dv:∀{xs:List WData} {d:WData},d∈xs->d.weight<=Jc xs
 |[],d,h=>absurd h (by simp)
 |x::r,d,h=>by
  show d.weight<=x.weight+1+Jc r;rcases cC.mp h with e|m
  ·rw[e];omega
  ·have z:=Dv m;omega
def toV:ah->V
 | .none=>.aO
 | .bool b=>.bl b
 | .int i _=>.int i
 | .str x _=>.str x
 | .bytes b _=>.iP b
 | .ref a=>.ref a
 |_=>.aO
def kg(A:List ae):ah->Prop
 | .none=>True
 | .bool _=>True
 | .int _ _=>True
 | .str _ _=>True
 | .bytes _ _=>True
 | .ref a=>a∈A
 |_=>False
theorem kg.mono{A B:List ae}(h:∀a∈A,a∈B):∀{u:ah},kg A u->kg B u:=λ{u} x=>by
 cases u with
 |ref a=>exact h a x
 |none=>trivial
 |bool b=>trivial
 |int i t=>trivial
 |str s t=>trivial
 |bytes b t=>trivial
 |_=>exact gw x
theorem S3{A:List ae}{u:ah}(x:kg A u):b8 (toV u) u:=by
 cases u with
 |ref a=>rfl
 |none=>rfl
 |bool b=>rfl
 |int i t=>exact⟨t,rfl⟩
 |str s t=>exact⟨t,rfl⟩
 |bytes b t=>exact⟨t,rfl⟩
 |_=>exact gw x
theorem tZ{A:List ae}:∀{vs:List ah},(∀u∈vs,kg A u)->Vals (vs.map toV) vs
 |[],_=>.nil
 |u::r,h=>.cons (S3 (h u (iL ..))) (tZ λx hx=>h x (fD _ hx))
def lO(h:aC)(A:List ae)(a:ae):Prop:=∃vs:List ah,vs.length<=sizeLine/\ (∀u∈vs,kg A u)/\
 (h.get? a=some {cls:=.type "list",data:=.seq vs.toArray}\/h.get? a=some {cls:=.type "tuple",data:=.seq vs.toArray})
theorem lO.mono{h:aC}{A B:List ae}{a:ae}(k:∀a∈A,a∈B)(x:lO h A a):lO h B a:=by
 obtain⟨vs,h1,h2,h3⟩:=x;exact⟨vs,h1,λu hu=>(h2 u hu).mono k,h3⟩
theorem yQ{P:Params}{h:aC}:∀{vs:List ah} {ds:List WData},sW P h vs ds->vs.length=ds.length
 |_,_,.nil=>rfl
 |_,_,.cons _ b=>by
  show _+1=_+1;rw[yQ b]
theorem K9{P:Params}{h:aC}{v:ah}{ds:List WData}(x:Well P h v (.list ds)):∃(a:ae) (vs:List ah),v=.ref a/\h.get? a=some {cls:=.type "list",data:=.seq vs.toArray}/\sW P h vs ds:=by
 cases x with
 |list ho kh=>exact⟨_,_,rfl,ho,kh⟩
theorem K_{P:Params}{h:aC}{v:ah}{ds:List WData}(x:Well P h v (.tuple ds)):∃(a:ae) (vs:List ah),v=.ref a/\h.get? a=some {cls:=.type "tuple",data:=.seq vs.toArray}/\sW P h vs ds:=by
 cases x with
 |tuple ho kh=>exact⟨_,_,rfl,ho,kh⟩
theorem K'{P:Params}{h:aC}{us:List ah}{d:WData}{ds:List WData}(x:sW P h us (d::ds)):∃(v:ah) (vs:List ah),us=v::vs/\Well P h v d/\sW P h vs ds:=by
 cases x with
 |cons a b=>exact⟨_,_,rfl,a,b⟩
theorem La{n:Nat}(h:n<=1048576):n<=sizeLine:=dw h (by decide)
section
variable{P:Params}{h:aC}
mutual
theorem S4:∀(d:WData) (v:ah),Well P h v d->jK d=true->d.weight<=1048576->∃A:List ae,kg A v/\ ∀a∈A,lO h A a
 | .none,_,x,_,_=>by
   cases x;exact⟨[],trivial,λa m=>absurd m (by simp)⟩
 | .bool b,_,x,_,_=>by
   cases x;exact⟨[],trivial,λa m=>absurd m (by simp)⟩
 | .int i,_,x,_,_=>by
   cases x;exact⟨[],trivial,λa m=>absurd m (by simp)⟩
 | .str s,_,x,_,_=>by
   cases x;exact⟨[],trivial,λa m=>absurd m (by simp)⟩
 | .bytes b,_,x,_,_=>by
   cases x;exact⟨[],trivial,λa m=>absurd m (by simp)⟩
 | .list ds,_,x,p,z=>by
   obtain⟨a,vs,rfl,ho,kh⟩:=K9 x;have z2:Jc ds<=1048576:=z;obtain⟨A,h1,h2⟩:=yR ds _ kh p λd hd=>dw (Dv hd) z2;have k:∀b∈A,b∈a::A:=λb hb=>fD _ hb;refine⟨a::A,iL ..,λb hb=> ?_⟩;rcases cC.mp hb with e|m
   ·rw[e];exact⟨vs,La (by rw[yQ kh];exact dw (afh ds) z2),λu hu=>(h1 u hu).mono k,.inl ho⟩
   ·exact(h2 b m).mono k
 | .tuple ds,_,x,p,z=>by
   obtain⟨a,vs,rfl,ho,kh⟩:=K_ x;have z2:Jc ds<=1048576:=z;obtain⟨A,h1,h2⟩:=yR ds _ kh p λd hd=>dw (Dv hd) z2;have k:∀b∈A,b∈a::A:=λb hb=>fD _ hb;refine⟨a::A,iL ..,λb hb=> ?_⟩;rcases cC.mp hb with e|m
   ·rw[e];exact⟨vs,La (by rw[yQ kh];exact dw (afh ds) z2),λu hu=>(h1 u hu).mono k,.inr ho⟩
   ·exact(h2 b m).mono k
 | .float _,_,_,p,_=>kG (show false=true from p)
 | .dict _,_,_,p,_=>kG (show false=true from p)
 | .bytearray _,_,_,p,_=>kG (show false=true from p)
 | .set _,_,_,p,_=>kG (show false=true from p)
 | .frozenset _,_,_,p,_=>kG (show false=true from p)
 | .obj _ _,_,_,p,_=>kG (show false=true from p)
theorem yR:∀(ds:List WData) (vs:List ah),sW P h vs ds->kP ds=true->(∀d∈ds,d.weight<=1048576)->∃A:List ae,(∀u∈vs,kg A u)/\ ∀a∈A,lO h A a
 |[],_,x,_,_=>by
  cases x;exact⟨[],λu m=>absurd m (by simp),λa m=>absurd m (by simp)⟩
 |d::ds,_,x,p,z=>by
  obtain⟨v,vs,rfl,x1,x2⟩:=K' x;have q:jK d=true/\kP ds=true:=Bool.and_eq_true_iff.mp p;obtain⟨A,a1,a2⟩:=S4 d v x1 q.1 (z d (iL ..));obtain⟨B,b1,b2⟩:=yR ds vs x2 q.2 λe he=>z e (fD _ he);have kA:∀b∈A,b∈A++B:=λb hb=>gO.mpr (.inl hb);have kB:∀b∈B,b∈A++B:=λb hb=>gO.mpr (.inr hb);refine⟨A++B,λu hu=> ?_,λb hb=> ?_⟩
  ·rcases cC.mp hu with e|m
   ·rw[e];exact a1.mono kA
   ·exact(b1 u m).mono kB
  ·rcases gO.mp hb with m|m
   ·exact(a2 b m).mono kA
   ·exact(b2 b m).mono kB
end
end
def yS(o:Obj):Option HO:=match o.data with
 | .seq vs _=>if(o.cls==uR "list")=true then some (.gX o (.lst (vs.toList.map toV))) else some (.gX o (.tup (vs.toList.map toV)))
 |_=>none
def gK(K:az)(h:aC)(A:List ae):Hp:=λb=>if b∈A then(if(K.lookup b).isNone=true then(h.get? b).bind yS else none) else none
def vC(H:Hp):Prop:=∀b,H b=none\/∃o u,H b=some (.gX o u)
theorem Lb(vs:List ah):yS {cls:=.type "list",data:=.seq vs.toArray}=some (.gX {cls:=.type "list",data:=.seq vs.toArray} (.lst (vs.map toV))):=by
 show(if(uR "list"==uR "list")=true then some (HO.gX {cls:=.type "list",data:=.seq vs.toArray} (.lst (vs.toArray.toList.map toV))) else some (HO.gX {cls:=.type "list",data:=.seq vs.toArray} (.tup (vs.toArray.toList.map toV))))=_
 rw[if_pos (beq_self_eq_true _)]
theorem Lc(vs:List ah):yS {cls:=.type "tuple",data:=.seq vs.toArray}=some (.gX {cls:=.type "tuple",data:=.seq vs.toArray} (.tup (vs.map toV))):=by
 show(if(uR "tuple"==uR "list")=true then some (HO.gX {cls:=.type "tuple",data:=.seq vs.toArray} (.lst (vs.toArray.toList.map toV))) else some (HO.gX {cls:=.type "tuple",data:=.seq vs.toArray} (.tup (vs.toArray.toList.map toV))))=_
 rw[if_neg (by decide)]
section
variable{P:aS}{w:aL}{K:az}{h:aC}{A:List ae}
theorem yT{b:ae}{o:Obj}(hb:b∈A)(hk:K.lookup b=none)(e:h.get? b=some o):gK K h A b=yS o:=by
 unfold gK;rw[if_pos hb,hk,if_pos (show(none:Option Obj).isNone=true from rfl),e]<;>rfl
theorem S5{b:ae}{u:HO}(q:gK K h A b=some u):b∈A/\K.lookup b=none:=by
 unfold gK at q;by_cases hb:b∈A
 ·rw[if_pos hb] at q;cases hk:K.lookup b with
  |none=>exact⟨hb,rfl⟩
  |some o=>
   rw[hk,if_neg (by simp)] at q
   cases q
 ·rw[if_neg hb] at q;cases q
theorem vD(ar:∀a∈A,lO h A a){b:ae}{u:HO}(q:gK K h A b=some u):K.lookup b=none/\ ∃vs:List ah,vs.length<=sizeLine/\ (∀u∈vs,kg A u)/\
 ((h.get? b=some {cls:=.type "list",data:=.seq vs.toArray}/\u=.gX {cls:=.type "list",data:=.seq vs.toArray} (.lst (vs.map toV)))\/
  (h.get? b=some {cls:=.type "tuple",data:=.seq vs.toArray}/\u=.gX {cls:=.type "tuple",data:=.seq vs.toArray} (.tup (vs.map toV)))):=by
 obtain⟨hb,hk⟩:=S5 q;obtain⟨vs,h1,h2,h3⟩:=ar b hb;refine⟨hk,vs,h1,h2,?_⟩;rcases h3 with e|e
 ·rw[yT hb hk e,Lb] at q;exact .inl ⟨e,(f9 q).symm⟩
 ·rw[yT hb hk e,Lc] at q;exact .inr ⟨e,(f9 q).symm⟩
theorem S6(ar:∀a∈A,lO h A a):vC (gK K h A):=λb=>by
 cases q:gK K h A b with
 |none=>exact .inl rfl
 |some u=>
  obtain⟨_,vs,_,_,⟨_,e⟩|⟨_,e⟩⟩:=vD ar q
  ·exact .inr ⟨_,_,by rw[e]⟩
  ·exact .inr ⟨_,_,by rw[e]⟩
theorem yU{c c':ah}{vs us:List ah}(e:(some {cls:=c,data:=.seq vs.toArray}:Option Obj)=some {cls:=c',data:=.seq us.toArray}):c=c'/\vs=us:=by
 have e1:=f9 e;have e2:c=c':=congrArg Obj.cls e1;have e3:Data.seq vs.toArray=Data.seq us.toArray:=congrArg Obj.data e1;injection e3 with e4
 refine⟨e2,?_⟩;have e5:=congrArg Array.toList e4;simpa using e5
theorem S7(KX:K.In h)(ar:∀a∈A,lO h A a){a:ae}{vs:List ah}(ha:a∈A)(e:h.get? a=some {cls:=.type "list",data:=.seq vs.toArray}):(∀u∈vs,kg A u)/\aI K (gK K h A) a (vs.map toV):=by
 obtain⟨us,h1,h2,h3⟩:=ar a ha;have hu:us=vs:=by
  rcases h3 with q|q
  ·rw[e] at q;exact(yU q).2.symm
  ·rw[e] at q;exact absurd (uR.inj (yU q).1) (by decide)
 subst hu;refine⟨h2,?_⟩;cases hk:K.lookup a with
 |none=>exact .inl (.inr ⟨_,by rw[yT ha hk e,Lb]⟩)
 |some o=>
  have e2:=KX a o hk;rw[e] at e2;obtain rfl:=f9 e2;exact .inr ⟨_,us.toArray,_,hk,rfl,rfl,rfl,by rw[fN];exact h1,by simpa using tZ h2⟩
theorem S8(KX:K.In h)(ar:∀a∈A,lO h A a){a:ae}{vs:List ah}(ha:a∈A)(e:h.get? a=some {cls:=.type "tuple",data:=.seq vs.toArray}):(∀u∈vs,kg A u)/\fQ K (gK K h A) a (vs.map toV):=by
 obtain⟨us,h1,h2,h3⟩:=ar a ha;have hu:us=vs:=by
  rcases h3 with q|q
  ·rw[e] at q;exact absurd (uR.inj (yU q).1) (by decide)
  ·rw[e] at q;exact(yU q).2.symm
 subst hu;refine⟨h2,?_⟩;cases hk:K.lookup a with
 |none=>exact .inl (.inr ⟨_,by rw[yT ha hk e,Lc]⟩)
 |some o=>
  have e2:=KX a o hk;rw[e] at e2;obtain rfl:=f9 e2;exact .inr ⟨_,us.toArray,_,hk,rfl,rfl,by rw[fN];exact h1,by simpa using tZ h2⟩
mutual
theorem S9{Pm:Params}(KX:K.In h)(ar:∀a∈A,lO h A a):∀(d:WData) (v:ah),Well Pm h v d->jK d=true->kg A v->Dw K (gK K h A) (toV v) d
 | .none,_,x,_,_=>by
   cases x;exact .aO
 | .bool b,_,x,_,_=>by
   cases x;exact .bl b
 | .int i,_,x,_,_=>by
   cases x;exact .int i
 | .str s,_,x,_,_=>by
   cases x;exact .str s
 | .bytes b,_,x,_,_=>by
   cases x;have z:=Dw.iP (K:=K) (H:=gK K h A) b.toArray;exact z
 | .list ds,_,x,p,hu=>by
   obtain⟨a,vs,rfl,ho,kh⟩:=K9 x;obtain⟨h2,hs⟩:=S7 KX ar hu ho;exact .lst hs (yV KX ar ds _ kh p h2)
 | .tuple ds,_,x,p,hu=>by
   obtain⟨a,vs,rfl,ho,kh⟩:=K_ x;obtain⟨h2,hs⟩:=S8 KX ar hu ho;exact .tup hs (yV KX ar ds _ kh p h2)
 | .float _,_,_,p,_=>kG (show false=true from p)
 | .dict _,_,_,p,_=>kG (show false=true from p)
 | .bytearray _,_,_,p,_=>kG (show false=true from p)
 | .set _,_,_,p,_=>kG (show false=true from p)
 | .frozenset _,_,_,p,_=>kG (show false=true from p)
 | .obj _ _,_,_,p,_=>kG (show false=true from p)
theorem yV{Pm:Params}(KX:K.In h)(ar:∀a∈A,lO h A a):∀(ds:List WData) (vs:List ah),sW Pm h vs ds->kP ds=true->(∀u∈vs,kg A u)->lN K (gK K h A) (vs.map toV) ds
 |[],_,x,_,_=>by
  cases x;exact .nil
 |d::ds,_,x,p,hu=>by
  obtain⟨v,vs,rfl,x1,x2⟩:=K' x;have q:jK d=true/\kP ds=true:=Bool.and_eq_true_iff.mp p;exact .cons (S9 KX ar d v x1 q.1 (hu _ (iL ..))) (yV KX ar ds vs x2 q.2 λu m=>hu u (fD _ m))
end
end
theorem S_{ds:List WData}(h:WData.layableAll ds=true):∀d∈ds,d.weight<=1048576:=λd hd=>
 (PySem.W.layableW_iff.mp (kH.mp h d hd)).2.2
theorem Ld:∀(cs:List Codec) (a:PY cs),(BW cs a).length=cs.length
 |[],_=>rfl
 |c::cs,a=>by
  show(BW cs a.2).length+1=cs.length+1;rw[Ld cs a.2]
end L2
end
namespace MT
open Vaarrj
theorem Le{α:Type}(f:α->Bool):∀l:List α,(l.dropWhile f).length<=l.length
 |[]=>bE _
 |a::l=>by
  rw[PZ]
  split
  ·exact dw (Le f l) (BP _)
  ·exact bE _
theorem fuel(w:Nat):∀(k j:Nat) (t:aM),t.length<k->t.length<j->je w k t=je w j t
 |0,_,_,h,_=>absurd h (Jd _)
 |_+1,0,_,_,h=>absurd h (Jd _)
 |k+1,j+1,[],_,_=>rfl
 |k+1,j+1,c::r,h1,h2=>by
  have h1:r.length<k:=Nat.lt_of_succ_lt_succ h1;have h2:r.length<j:=Nat.lt_of_succ_lt_succ h2;have go:∀q:aM,q.length<=r.length->je w k q=je w j q:=λq hq=>fuel w k j q (BX hq h1) (BX hq h2);unfold je;simp only[go r (bE _),go _ (Le _ r)]
def T(t:aM)(p:Nat):aX:=je t.length (t.length-p+1) (t.drop p)
theorem Lf(t:aM):T t 0=tokens t:=rfl
theorem yW{t r:aM}{p:Nat}(h:t.drop p=r){k:Nat}(hk:r.length<k):je t.length k r=T t p:=by
 subst h;unfold T;exact fuel _ _ _ _ hk (by rw[kF];omega)
theorem S'(t:aM):T t t.length=[(t.length,.none)]:=by
 unfold T;rw[BY,Nat.sub_self];rfl
theorem t9{t:aM}{p c:Nat}(h:t[p]? =some c):
 T t p=(if blank c=true then T t (p+1)
 else if c=35 then je t.length (t.length-p) ((t.drop (p+1)).dropWhile λx=>x !=10)
 else if letter c=true then(p,.word (c::(t.drop (p+1)).takeWhile inner))::je t.length (t.length-p) ((t.drop (p+1)).dropWhile inner)
 else if digit c=true then
  if oneWay (c::(t.drop (p+1)).takeWhile digit)=true/\ (c::(t.drop (p+1)).takeWhile digit).length<=19/\ ((valueOf (c::(t.drop (p+1)).takeWhile digit):Nat):Int)<=GREAT then
   (p,.num (valueOf (c::(t.drop (p+1)).takeWhile digit)))::je t.length (t.length-p) ((t.drop (p+1)).dropWhile digit) else[(p,.none)]
 else if(str ";{}@?_").contains c=true then(p,.sign c)::T t (p+1)
 else[(p,.none)]):=by
 obtain⟨hp,hc⟩:=dy.mp h;have hd:t.drop p=c::t.drop (p+1):=by rw[qO hp,hc]
 have e:T t p=je t.length (t.length-p+1) (c::t.drop (p+1)):=by unfold T;rw[hd]
 have hl:(t.drop (p+1)).length+1=t.length-p:=by rw[kF];omega
 have e2:je t.length (t.length-p) (t.drop (p+1))=T t (p+1):=yW rfl (by omega)
 have e3:t.length-((t.drop (p+1)).length+1)=p:=by omega
 rw[e]
 conv=>lhs;unfold je
 simp only[e2,e3]
theorem Dx{t:aM}{p e:Nat}(f:Nat->Bool)(h0:p<=e)(h1:e<=t.length)(h2:∀i c,p<=i->i<e->t[i]? =some c->f c=true)(h3:∀c,t[e]? =some c->f c=false):
 (t.drop p).takeWhile f=(t.drop p).take (e-p)/\ (t.drop p).dropWhile f=t.drop e:=by
 induction hk:e-p generalizing p with
 |zero=>
  have ep:p=e:=by omega
  subst ep;rw[List.take_zero];cases hd:t.drop p with
  |nil=>exact⟨rfl,rfl⟩
  |cons c r=>
   have hp:t[p]? =some c:=by
    have q:=List.getElem?_drop (xs:=t) (i:=p) (j:=0);rw[hd] at q;simpa using q.symm
   have fc:=h3 c hp;rw[List.takeWhile_cons,PZ,fc];exact⟨rfl,rfl⟩
 |succ k ih=>
  have hp:p<t.length:=by omega
  have fc:f t[p]=true:=h2 p t[p] (bE _) (by omega) (eI hp)
  rw[qO hp,List.takeWhile_cons,PZ,fc];obtain⟨i1,i2⟩:=ih (p:=p+1) (by omega) (λi c a b d=>h2 i c (by omega) b d) (by omega)
  simp only[if_true];rw[i1,i2,xY];exact⟨rfl,rfl⟩
theorem Tc{t:aM}{p c:Nat}(h:t[p]? =some c)(hb:blank c=true):T t p=T t (p+1):=by
 rw[t9 h,if_pos hb]
theorem Td{t:aM}{p e:Nat}(h:t[p]? =some 35)(h0:p<e)(h1:e<=t.length)(h2:∀i c,p<=i->i<e->t[i]? =some c->c≠10)(h3:∀c,t[e]? =some c->c=10):T t p=T t e:=by
 have s:=Dx (t:=t) (p:=p+1) (e:=e) (λx=>x !=10) (by omega) h1 (λi c a b d=>by simpa using h2 i c (by omega) b d) (λc d=>by simpa using h3 c d)
 rw[t9 h,if_neg (by decide),if_pos rfl,s.2]
 exact yW rfl (by rw[kF];omega)
theorem Te{t:aM}{p e c:Nat}(h:t[p]? =some c)(hc:letter c=true)(h0:p<e)(h1:e<=t.length)(h2:∀i c,p<=i->i<e->t[i]? =some c->inner c=true)(h3:∀c,t[e]? =some c->inner c=false):
 T t p=(p,.word ((t.drop p).take (e-p)))::T t e:=by
 obtain⟨hp,nB⟩:=dy.mp h;have nb:blank c=false:=by
  simp only[letter,decide_eq_true_eq] at hc;simp only[blank,P0,beq_eq_false_iff_ne];omega
 have nh: ¬c=35:=by simp only[letter,decide_eq_true_eq] at hc;omega
 have s:=Dx (t:=t) (p:=p+1) (e:=e) inner (by omega) h1 (λi c a b d=>h2 i c (by omega) b d) h3
 rw[t9 h,nb,if_neg cW,if_neg nh,if_pos hc,s.1,s.2,yW rfl (by rw[kF];omega)]
 rw[qO hp,nB,show e-p=(e-(p+1))+1 by omega,xY]
theorem Tf{t:aM}{p e c:Nat}(h:t[p]? =some c)(hc:digit c=true)(h0:p<e)(h1:e<=t.length)(h2:∀i c,p<=i->i<e->t[i]? =some c->digit c=true)(h3:∀c,t[e]? =some c->digit c=false):
 T t p=if oneWay ((t.drop p).take (e-p))=true/\ ((t.drop p).take (e-p)).length<=19/\ ((valueOf ((t.drop p).take (e-p)):Nat):Int)<=GREAT then(p,.num (valueOf ((t.drop p).take (e-p))))::T t e else[(p,.none)]:=by
 obtain⟨hp,nB⟩:=dy.mp h;have nb:blank c=false:=by
  simp only[digit,decide_eq_true_eq] at hc;simp only[blank,P0,beq_eq_false_iff_ne];omega
 have nh: ¬c=35:=by simp only[digit,decide_eq_true_eq] at hc;omega
 have nl:letter c=false:=by
  simp only[digit,decide_eq_true_eq] at hc;simp only[letter,decide_eq_false_iff_not];omega
 have s:=Dx (t:=t) (p:=p+1) (e:=e) digit (by omega) h1 (λi c a b d=>h2 i c (by omega) b d) h3
 have ed:c::(t.drop (p+1)).take (e-(p+1))=(t.drop p).take (e-p):=by
  rw[qO hp,nB,show e-p=(e-(p+1))+1 by omega,xY]
 rw[t9 h,nb,if_neg cW,if_neg nh,nl,if_neg cW,if_pos hc,s.1,s.2,yW rfl (by rw[kF];omega),ed]
def isSign(c:Nat):Bool:=c==59||c==123||c==125||c==64||c==63||c==95
theorem sign_is(c:Nat):(str ";{}@?_").contains c=isSign c:=by
 have e:str ";{}@?_"=[59,123,125,64,63,95]:=by decide+kernel
 rw[e];simp only[P1,List.contains_nil,isSign,sT,Bool.or_assoc]
theorem Tg{t:aM}{p c:Nat}(h:t[p]? =some c)(hc:isSign c=true):T t p=(p,.sign c)::T t (p+1):=by
 have d8:=hc;simp only[isSign,pK,beq_iff_eq] at hc;have nb:blank c=false:=by
  simp only[blank,P0,beq_eq_false_iff_ne];omega
 have nl:letter c=false:=by
  simp only[letter,decide_eq_false_iff_not];omega
 have nd:digit c=false:=by
  simp only[digit,decide_eq_false_iff_not];omega
 rw[t9 h,nb,if_neg cW,if_neg (by omega),nl,if_neg cW,nd,if_neg cW,sign_is,if_pos d8]
theorem Th{t:aM}{p c:Nat}(h:t[p]? =some c)(h1:blank c=false)(h2: ¬c=35)(h3:letter c=false)(h4:digit c=false)(h5:isSign c=false):T t p=[(p,.none)]:=by
 rw[t9 h,h1,if_neg cW,if_neg h2,h3,if_neg cW,h4,if_neg cW,sign_is,h5,if_neg cW]
end MT
namespace MP
open Vaarrj
def bad(n:Nat)(u:aX):Prop:=next u=.none/\here u≠n
instance(n:Nat)(u:aX):Decidable (bad n u):=by unfold bad;exact inferInstance
def aJ{A:Type}(n:Nat)(r:Except Nat (A×aX)):Except Nat (A×aX):=match r with
 | .error p=>.error p
 | .ok x=>if bad n x.2 then .error (here x.2) else .ok x
def Wk{A:Type}(n:Nat)(g:Read A):Prop:=∀u,bad n u->aJ n (g u)=.error (here u)
variable{A B:Type}{n:Nat}
theorem i_{x:A×aX}(h: ¬bad n x.2):aJ n (.ok x)=.ok x:=by simp[aJ,h]
theorem jL{x:A×aX}(h:bad n x.2):aJ n (.ok x)=.error (here x.2):=by simp[aJ,h]
theorem kQ(r:Except Nat (A×aX))(g:A->Read B)(hg:∀a,Wk n (g a)):
 aJ n (r.bind λx=>g x.1 x.2)=(aJ n r).bind λx=>aJ n (g x.1 x.2):=by
 cases r with
 |error p=>rfl
 |ok x=>
  by_cases h:bad n x.2
  ·show aJ n (g x.1 x.2)=_;rw[hg x.1 x.2 h,jL h];rfl
  ·rw[i_ h];rfl
theorem gk(f:A->B)(r:Except Nat (A×aX)):aJ n (also f r)=also f (aJ n r):=by
 cases r with
 |error p=>rfl
 |ok x=>
  by_cases h:bad n x.2
  ·rw[jL h];show aJ n (.ok (f x.1,x.2))=_;rw[jL (show bad n (f x.1,x.2).2 from h)];rfl
  ·rw[i_ h];show aJ n (.ok (f x.1,x.2))=_;rw[i_ (show¬bad n (f x.1,x.2).2 from h)];rfl
theorem Wk.also{g:Read A}(f:A->B)(h:Wk n g):Wk n (λts=>also f (g ts)):=λu hu=>by
 show aJ n (j3 f (g u))=_;rw[gk,h u hu];rfl
theorem Wk.bind{f:Read A}{g:A->Read B}(hf:Wk n f)(hg:∀a,Wk n (g a)):Wk n (λts=>(f ts).bind λx=>g x.1 x.2):=λu hu=>by
 show aJ n ((f u).bind λx=>g x.1 x.2)=_;rw[kQ _ _ hg,hf u hu];rfl
theorem Wk.oR{g:Read A}(h:∀u,next u=.none->g u=.error (here u)):Wk n g:=λu hu=>by rw[h u hu.1];rfl
theorem Ti(c:Nat):Wk n (sign c):=.oR λu h=>by simp[sign,h]
theorem Dy(c k:Nat):Wk n (reg c k):=.oR λu h=>by simp[reg,h]
theorem Dz:Wk n sca:=Dy _ _
theorem Tj:Wk n mas:=Dy _ _
theorem Lg:Wk n number:=.oR λu h=>by simp[number,h]
theorem Tn:Wk n signed:=.oR λu h=>by simp[signed,h,number,also,Except.map]
theorem To:Wk n place:=.oR λu h=>by simp[place,sign,h,i4]
theorem Tp:Wk n operator2:=.oR λu h=>by simp[operator2,h]
theorem Tq{f:Read A}{g:Read B}(hf:Wk n f)(hg:Wk n g):Wk n (two f g):=
 Wk.bind (g:=λa ts=>also (λy=>(a,y)) (g ts)) hf λa=>hg.also _
end MP
namespace MP
open Vaarrj
structure Told where
 act:aM
 op:aM
 parts:List aM
 args:List Int
 place:Nat
 mask:Option Nat
def i':Read (Option Nat):=λts=>if next ts=.sign 63 then also some (mas (ts.drop 1)) else .ok (none,ts)
def countOf(n c:Nat):Nat:=if c=118 then 16 else if c=115 then 16 else if c=109 then 8 else n
def Told.arg(τ:Told)(x:aM)(k:Int):Told:={τ with parts:=τ.parts++[x],args:=τ.args++[k]}
def Told.vE(τ:Told)(x:aM):Told:={τ with op:=x,parts:=τ.parts++[x]}
def Told.vF(τ:Told)(p:Nat):Told:={τ with place:=p,parts:=τ.parts++[at_ p]}
def Told.jM(τ:Told)(k:Option Nat):Told:={τ with mask:=k,parts:=τ.parts++kI k}
def dX(n c:Nat)(τ:Told):Read Told:=λts=>
 if c=111 then also (λo=>τ.vE (opName ops2 o)) (operator2 ts)
 else if c=110 then also (λk=>τ.arg (signedText k) k) (signed ts)
 else if c=64 then also τ.vF (place ts)
 else if c=63 then also τ.jM (i' ts)
 else also (λk=>τ.arg (c::dec k) (k:Nat)) (reg c (countOf n c) ts)
def fG(n:Nat):List Nat->Told->Read Told
 |[],τ,ts=>.ok (τ,ts)
 |c::cs,τ,ts=>(dX n c τ ts).bind λx=>fG n cs x.1 x.2
def jq(n:Nat)(sh:List Nat)(τ:Told):Read Told:=λts=>(fG n sh τ ts).bind λx=>(sign 59 x.2).bind λu=>.ok (x.1,u.2)
theorem Tr{n:Nat}:Wk n i':=λu hu=>by
 have e:i' u=.ok (none,u):=by simp[i',hu.1]
 rw[e,jL (show bad n (none,u).2 from hu)]
theorem Ts{N:Nat}(n c:Nat)(τ:Told):Wk N (dX n c τ):=λu hu=>by
 unfold dX
 split
 ·exact Tp.also _ u hu
 ·split
  ·exact Tn.also _ u hu
  ·split
   ·exact To.also _ u hu
   ·split
    ·exact Tr.also _ u hu
    ·exact(Dy _ _).also _ u hu
theorem Tt{A:Type}{N:Nat}(a:A):Wk N (λts=>.ok (a,ts)):=λu hu=>jL (show bad N (a,u).2 from hu)
theorem DB{N:Nat}(n:Nat):∀(sh:List Nat) (τ:Told),Wk N (fG n sh τ)
 |[],τ=>Tt τ
 |c::cs,τ=>Wk.bind (g:=λa ts=>fG n cs a ts) (Ts n c τ) λa=>DB n cs a
theorem Lh{N:Nat}(n c:Nat)(cs:List Nat)(τ:Told)(ts:aX):aJ N (fG n (c::cs) τ ts)=(aJ N (dX n c τ ts)).bind λx=>aJ N (fG n cs x.1 x.2):=
 kQ (g:=λa ts=>fG n cs a ts) _ λa=>DB n cs a
theorem yX{A:Type}{N:Nat}(a:A):Wk N (λts=>(sign 59 ts).bind λu=>.ok (a,u.2)):=Wk.oR λu h=>by simp[sign,h,i4]
theorem Li{N:Nat}(n:Nat)(sh:List Nat)(τ:Told):Wk N (jq n sh τ):=Wk.bind (g:=λa ts=>(sign 59 ts).bind λu=>.ok (a,u.2)) (DB n sh τ) λa=>yX a
theorem Tu{N:Nat}(n:Nat)(sh:List Nat)(τ:Told)(ts:aX):aJ N (jq n sh τ ts)=(aJ N (fG n sh τ ts)).bind λx=>aJ N ((sign 59 x.2).bind λu=>.ok (x.1,u.2)):=
 kQ (g:=λa ts=>(sign 59 ts).bind λu=>.ok (a,u.2)) _ λa=>yX a
def t0(w:aM):Told:=⟨w,[],[w],[],0,none⟩
def t1(w:aM):Told:=⟨str "one",w,[w],[],0,none⟩
def t2(w:aM):Told:=⟨str "two",w,[w],[],0,none⟩
def toldOf:cw->Told
 | .lanes d k=>⟨str "lanes",[],[str "lanes",v d]++kI k,[(d:Int)],0,k⟩
 | .const d n k=>⟨str "const",[],[str "const",v d,signedText n]++kI k,[(d:Int),n],0,k⟩
 | .fill d x k=>⟨str "fill",[],[str "fill",v d,s x]++kI k,[(d:Int),(x:Int)],0,k⟩
 | .copy d x k=>⟨str "copy",[],[str "copy",v d,v x]++kI k,[(d:Int),(x:Int)],0,k⟩
 | .one o d x p k=>⟨str "one",opName ops1 o,[opName ops1 o,v d,v x,at_ p]++kI k,[(d:Int),(x:Int)],p,k⟩
 | .two o d x y p k=>⟨str "two",opName ops2 o,[opName ops2 o,v d,v x,v y,at_ p]++kI k,[(d:Int),(x:Int),(y:Int)],p,k⟩
 | .read d r x k=>⟨str "read",[],[str "read",v d,a r,v x]++kI k,[(d:Int),(r:Int),(x:Int)],0,k⟩
 | .pick d r x p k=>⟨str "pick",[],[str "pick",v d,a r,v x,at_ p]++kI k,[(d:Int),(r:Int),(x:Int)],p,k⟩
 | .write r x y k=>⟨str "write",[],[str "write",a r,v x,v y]++kI k,[(r:Int),(x:Int),(y:Int)],0,k⟩
 | .test d x k=>⟨str "test",[],[str "test",m d,v x]++kI k,[(d:Int),(x:Int)],0,k⟩
 | .tail d x=>⟨str "tail",[],[str "tail",m d,s x],[(d:Int),(x:Int)],0,none⟩
 | .both d x y=>⟨str "both",[],[str "both",m d,m x,m y],[(d:Int),(x:Int),(y:Int)],0,none⟩
 | .less d x y=>⟨str "less",[],[str "less",m d,m x,m y],[(d:Int),(x:Int),(y:Int)],0,none⟩
 | .either d x y=>⟨str "either",[],[str "either",m d,m x,m y],[(d:Int),(x:Int),(y:Int)],0,none⟩
 | .count d x=>⟨str "count",[],[str "count",s d,m x],[(d:Int),(x:Int)],0,none⟩
 | .num d n=>⟨str "num",[],[str "num",s d,signedText n],[(d:Int),n],0,none⟩
 | .width d=>⟨str "width",[],[str "width",s d],[(d:Int)],0,none⟩
 | .calc o d x y p=>⟨str "calc",opName ops2 o,[str "calc",opName ops2 o,s d,s x,s y,at_ p],[(d:Int),(x:Int),(y:Int)],p,none⟩
 | .get d x y=>⟨str "get",[],[str "get",s d,v x,s y],[(d:Int),(x:Int),(y:Int)],0,none⟩
 | .put x y z=>⟨str "put",[],[str "put",v x,s y,s z],[(x:Int),(y:Int),(z:Int)],0,none⟩
 | .for_ d n _=>⟨str "for",[],[str "for",s d,s n],[(d:Int),(n:Int)],0,none⟩
 | .when x _ _=>⟨str "when",[],[str "when",s x],[(x:Int)],0,none⟩
 | .raise=>⟨str "raise",[],[str "raise"],[],0,none⟩
def shapes:List (aM×aM):=[("lanes","v?"),("const","vn?"),("fill","vs?"),("copy","vv?"),("read","vav?"),("pick","vav@?"),("write","avv?"),("test","mv?"),("tail","ms"),("both","mmm"),("less","mmm"),("either","mmm"),
 ("count","sm"),("num","sn"),("width","s"),("calc","osss@"),("get","svs"),("put","vss"),("raise","")].map λp=>(str p.1,str p.2)
theorem vG{A B C:Type}(f:A->B)(r:Except Nat (A×aX))(g:B×aX->Except Nat C):(also f r).bind g=r.bind λx=>g (f x.1,x.2):=by cases r<;>rfl
theorem DC{A B C:Type}(f:B->C)(r:Except Nat A)(g:A->Except Nat (B×aX)):also f (r.bind g)=r.bind λx=>also f (g x):=by cases r<;>rfl
theorem DD{A B C:Type}(f:A->B)(g:B->C)(r:Except Nat (A×aX)):also g (also f r)=also (λx=>g (f x)) r:=by cases r<;>rfl
theorem hZ{A B C:Type}(r:Except Nat A)(f:A->Except Nat B)(g:B->Except Nat C):(r.bind f).bind g=r.bind λx=>(f x).bind g:=by cases r<;>rfl
theorem fz{A B:Type}(a:A)(g:A->Except Nat B):(BZ a:Except Nat A).bind g=g a:=rfl
theorem gL{A B:Type}(f:A->B)(r:Except Nat (A×aX)):also f r=r.bind λx=>.ok (f x.1,x.2):=by cases r<;>rfl
theorem yY(ts:aX):masked ts=(i' ts).bind λk=>(sign 59 k.2).bind λu=>.ok (k.1,u.2):=by
 unfold masked i'
 split
 ·rw[vG]
 ·rfl
theorem DE{A:Type}(f:Read A)(ts:aX):ended f ts=(f ts).bind λx=>(sign 59 x.2).bind λu=>.ok (x.1,u.2):=rfl
theorem yZ{A B:Type}(f:Read A)(g:Read B)(ts:aX):two f g ts=(f ts).bind λx=>(g x.2).bind λy=>.ok ((x.1,y.1),y.2):=by
 unfold two;simp only[gL]
theorem DF(n:Nat)(τ:Told)(ts:aX):dX n 118 τ ts=(vec ts).bind λx=>.ok (τ.arg (v x.1) (x.1:Nat),x.2):=by
 unfold dX;simp only[show¬(118=111) by decide,show¬(118=110) by decide,show¬(118=64) by decide,show¬(118=63) by decide,if_false,gL];rfl
theorem vH(n:Nat)(τ:Told)(ts:aX):dX n 115 τ ts=(sca ts).bind λx=>.ok (τ.arg (s x.1) (x.1:Nat),x.2):=by
 unfold dX;simp only[show¬(115=111) by decide,show¬(115=110) by decide,show¬(115=64) by decide,show¬(115=63) by decide,if_false,gL];rfl
theorem DG(n:Nat)(τ:Told)(ts:aX):dX n 109 τ ts=(mas ts).bind λx=>.ok (τ.arg (m x.1) (x.1:Nat),x.2):=by
 unfold dX;simp only[show¬(109=111) by decide,show¬(109=110) by decide,show¬(109=64) by decide,show¬(109=63) by decide,if_false,gL];rfl
theorem DH(n:Nat)(τ:Told)(ts:aX):dX n 97 τ ts=(reg 97 n ts).bind λx=>.ok (τ.arg (a x.1) (x.1:Nat),x.2):=by
 unfold dX;simp only[show¬(97=111) by decide,show¬(97=110) by decide,show¬(97=64) by decide,show¬(97=63) by decide,if_false,gL];rfl
theorem DI(n:Nat)(τ:Told)(ts:aX):dX n 111 τ ts=(operator2 ts).bind λx=>.ok (τ.vE (opName ops2 x.1),x.2):=by
 unfold dX;simp only[if_true,gL]
theorem DJ(n:Nat)(τ:Told)(ts:aX):dX n 110 τ ts=(signed ts).bind λx=>.ok (τ.arg (signedText x.1) x.1,x.2):=by
 unfold dX;simp only[show¬(110=111) by decide,if_false,if_true,gL]
theorem DK(n:Nat)(τ:Told)(ts:aX):dX n 64 τ ts=(place ts).bind λx=>.ok (τ.vF x.1,x.2):=by
 unfold dX;simp only[show¬(64=111) by decide,show¬(64=110) by decide,if_false,if_true,gL]
theorem DM(n:Nat)(τ:Told)(ts:aX):dX n 63 τ ts=(i' ts).bind λx=>.ok (τ.jM x.1,x.2):=by
 unfold dX;simp only[show¬(63=111) by decide,show¬(63=110) by decide,show¬(63=64) by decide,if_false,if_true,gL]
theorem bind_congr{A B:Type}{r:Except Nat A}{f g:A->Except Nat B}(h:∀x,f x=g x):r.bind f=r.bind g:=by cases r<;>simp[i4,h]
theorem Tv(n p:Nat)(ts:aX)(o:Nat)(h:o<4):jq n [118,118,64,63] (t1 (opName ops1 o)) ts=also toldOf (gG n (opName ops1 o) p ts):=by
 have e:=(by decide+kernel:∀d:Fin 4,opAt ops1 (opName ops1 d.val)=some d.val) ⟨o,h⟩
 dsimp only at e;unfold gG;rw[e];rcases(by omega:o=0\/o=1\/o=2\/o=3) with rfl|rfl|rfl|rfl<;>(
  repeat rw[if_neg (by decide+kernel)]
  simp only[jq,fG,DF,vH,DG,DH,DI,DJ,DK,DM,hZ,fz,gL,yZ,yY,DE,maskOp];rfl)
theorem Tw(n p:Nat)(ts:aX)(o:Nat)(h:o<13):jq n [118,118,118,64,63] (t2 (opName ops2 o)) ts=also toldOf (gG n (opName ops2 o) p ts):=by
 have e:=(by decide+kernel:∀d:Fin 13,opAt ops1 (opName ops2 d.val)=none/\opAt ops2 (opName ops2 d.val)=some d.val) ⟨o,h⟩
 dsimp only at e;unfold gG;rw[e.1,e.2];rcases(by omega:o=0\/o=1\/o=2\/o=3\/o=4\/o=5\/o=6\/o=7\/o=8\/o=9\/o=10\/o=11\/o=12) with rfl|rfl|rfl|rfl|rfl|rfl|rfl|rfl|rfl|rfl|rfl|rfl|rfl<;>(
  repeat rw[if_neg (by decide+kernel)]
  simp only[jq,fG,DF,vH,DG,DH,DI,DJ,DK,DM,hZ,fz,gL,yZ,yY,DE,maskOp];rfl)
def shapeOf(w:aM):Option aM:=if(opAt ops1 w).isSome=true then some [118,118,64,63] else if(opAt ops2 w).isSome=true then some [118,118,118,64,63]
 else if w=str "lanes" then some [118,63]
 else if w=str "const" then some [118,110,63]
 else if w=str "fill" then some [118,115,63]
 else if w=str "copy" then some [118,118,63]
 else if w=str "read" then some [118,97,118,63]
 else if w=str "pick" then some [118,97,118,64,63]
 else if w=str "write" then some [97,118,118,63]
 else if w=str "test" then some [109,118,63]
 else if w=str "tail" then some [109,115]
 else if w=str "both" then some [109,109,109]
 else if w=str "less" then some [109,109,109]
 else if w=str "either" then some [109,109,109]
 else if w=str "count" then some [115,109]
 else if w=str "num" then some [115,110]
 else if w=str "width" then some [115]
 else if w=str "calc" then some [111,115,115,115,64]
 else if w=str "get" then some [115,118,115]
 else if w=str "put" then some [118,115,115]
 else if w=str "raise" then some []
 else if w=str "for" then some [115,115]
 else if w=str "when" then some [115]
 else none
def dN(w:aM):Told:=if(opAt ops1 w).isSome=true then t1 w else if(opAt ops2 w).isSome=true then t2 w else t0 w
theorem rE{l:List aM}{w:aM}{o:Nat}(h:opAt l w=some o):o<l.length/\opName l o=w:=by
 unfold opAt at h;obtain⟨h1,h2,h3⟩:=List.findIdx?_eq_some_iff_getElem.mp h;refine⟨h1,?_⟩;unfold opName;rw[eI h1];simpa using h2
theorem qi{α:Type}{p:Prop}[Decidable p]{a b c:α}(h:(if p then a else b)=c):(p/\a=c)\/(¬p/\b=c):=by
 by_cases q:p
 ·rw[if_pos q] at h;exact .inl ⟨q,h⟩
 ·rw[if_neg q] at h;exact .inr ⟨q,h⟩
theorem y0{n p:Nat}{ts:aX}{w sh:aM}(h:shapeOf w=some sh)(h1:w≠str "for")(h2:w≠str "when"):jq n sh (dN w) ts=also toldOf (gG n w p ts):=by
 unfold shapeOf at h;unfold dN;by_cases o1:(opAt ops1 w).isSome=true
 ·rw[if_pos o1] at h⊢;cases h;obtain⟨o,ho⟩:=xS.mp o1;obtain⟨hl,rfl⟩:=rE ho;exact Tv n p ts o hl
 rw[if_neg o1] at h⊢;by_cases o2:(opAt ops2 w).isSome=true
 ·rw[if_pos o2] at h⊢;cases h;obtain⟨o,ho⟩:=xS.mp o2;obtain⟨hl,rfl⟩:=rE ho;exact Tw n p ts o hl
 rw[if_neg o2] at h⊢
 iterate 19
  rcases qi h with⟨q,h⟩|⟨_,h⟩
  ·cases h;subst q;unfold gG
   repeat rw[if_neg (by decide+kernel)]
   rw[if_pos rfl];simp only[jq,fG,DF,vH,DG,DH,DI,DJ,DK,DM,hZ,fz,gL,yZ,yY,DE,maskOp];rfl
 rw[if_neg h1,if_neg h2] at h;cases h
theorem Lj{n p:Nat}{ts:aX}{w:aM}(h:shapeOf w=none):gG n w p ts=.error p:=by
 unfold shapeOf at h;rcases qi h with⟨_,h⟩|⟨o1,h⟩
 ·cases h
 rcases qi h with⟨_,h⟩|⟨o2,h⟩
 ·cases h
 have e1:opAt ops1 w=none:=by simpa using o1
 have e2:opAt ops2 w=none:=by simpa using o2
 unfold gG
 iterate 19
  rcases qi h with⟨_,h⟩|⟨q,h⟩
  ·cases h
  rw[if_neg q];clear q
 rw[e1,e2]
theorem Lk:shapeOf (str "for")=some [115,115]:=by decide+kernel
theorem Ll:shapeOf (str "when")=some [115]:=by decide+kernel
theorem Tx:dN (str "for")=t0 (str "for"):=by unfold dN;rw[if_neg (by decide+kernel),if_neg (by decide+kernel)]
theorem Tz:dN (str "when")=t0 (str "when"):=by unfold dN;rw[if_neg (by decide+kernel),if_neg (by decide+kernel)]
theorem afs{N:Nat}(n:Nat)(w:aM)(p:Nat)(sh:aM)(h:shapeOf w=some sh)(h1:w≠str "for")(h2:w≠str "when"):Wk N (gG n w p):=λu hu=>by
 have q:=Li (N:=N) n sh (dN w) u hu;rw[y0 (p:=p) h h1 h2,gk] at q;cases e:aJ N (gG n w p u) with
 |error z=>
  rw[e] at q;have q:(Except.error z:Except Nat (Told×aX))=.error (here u):=q;cases q;rfl
 |ok z=>rw[e] at q;cases q
def c7(n:Nat)(sub:gH)(left:Nat):Read (cw×Nat):=λts=>match next ts with
 | .word w=>if left=0 then .error (here ts) else
   if w=str "for" then(two sca sca (ts.drop 1)).bind λh=>(sub (left-1) h.2).bind λb=>.ok ((.for_ h.1.1 h.1.2 b.1.1,b.1.2),b.2)
   else if w=str "when" then(sca (ts.drop 1)).bind λs=>(sub (left-1) s.2).bind λb=>
    if next b.2=.word (str "else") then(sub b.1.2 (b.2.drop 1)).bind λc=>.ok ((.when s.1 b.1.1 c.1.1,c.1.2),c.2)
    else .ok ((.when s.1 b.1.1 .nil,b.1.2),b.2)
   else(gG n w (here ts) (ts.drop 1)).bind λi=>.ok ((i.1,left-1),i.2)
 |_=>.error (here ts)
theorem rF{n:Nat}{sub:gH}{k left:Nat}{ts:aX}{w:aM}(h:next ts=.word w):
 instrs n sub (k+1) left ts=(c7 n sub left ts).bind λi=>also (λx=>(.cons i.1.1 x.1,x.2)) (instrs n sub k i.1.2 i.2):=by
 conv=>lhs;unfold instrs
 unfold c7;simp only[h];by_cases h0:left=0
 ·simp only[h0,if_true];rfl
 simp only[h0,if_false];by_cases h1:w=str "for"
 ·simp only[h1,if_true,hZ,fz]
 simp only[h1,if_false];by_cases h2:w=str "when"
 ·simp only[h2,if_true,hZ];refine bind_congr λx=>bind_congr λb=> ?_;by_cases h3:next b.2=.word (str "else")
  ·simp only[h3,if_true,hZ,fz]
  ·simp only[h3,if_false,fz]
 simp only[h2,if_false,hZ,fz]
theorem kR{n:Nat}{sub:gH}{k left:Nat}{ts:aX}(h:∀w,next ts≠ .word w):instrs n sub k left ts=.ok ((.nil,left),ts):=by
 cases k with
 |zero=>rfl
 |succ k=>
  unfold instrs;cases e:next ts with
  |word w=>exact absurd e (h w)
  |num _=>rfl
  |sign _=>rfl
  |none=>rfl
theorem DN{n:Nat}{sub:gH}{left:Nat}{ts:aX}(h:∀w,next ts≠ .word w):c7 n sub left ts=.error (here ts):=by
 unfold c7;cases e:next ts with
 |word w=>exact absurd e (h w)
 |num _=>rfl
 |sign _=>rfl
 |none=>rfl
def cz{A:Type}(f:Read A):Prop:=∀ts x,f ts=.ok x->x.2.length<=ts.length
theorem TF{ts:aX}(h:next ts≠ .none):0<ts.length:=by
 cases ts with
 |nil=>exact absurd rfl h
 |cons a r=>exact Nat.succ_pos _
theorem Lm{ts:aX}(h:next ts≠ .none):(ts.drop 1).length<ts.length:=by
 have:=TF h;rw[kF];omega
section
variable{A B:Type}
theorem cz.bind{f:Read A}{g:A->Read B}(hf:cz f)(hg:∀a,cz (g a)):cz (λts=>(f ts).bind λx=>g x.1 x.2):=λts x h=>by
 dsimp only at h;cases e:f ts with
 |error p=>rw[e] at h;cases h
 |ok y=>
  rw[e] at h;exact dw (hg y.1 y.2 x h) (hf ts y e)
theorem cz.ok(a:A):cz (λts=>.ok (a,ts)):=λts x h=>by cases h;exact bE _
theorem cz.also{f:Read A}(hf:cz f)(g:A->B):cz (λts=>also g (f ts)):=λts x h=>by
 dsimp only at h;cases e:f ts with
 |error p=>rw[e] at h;cases h
 |ok y=>
  rw[e] at h;cases h;exact hf ts y e
theorem qj(ts:aX):(ts.drop 1).length<=ts.length:=by rw[kF];omega
theorem vI(c:Nat):cz (sign c):=λts x h=>by
 unfold sign at h
 split at h
 ·cases h;exact qj ts
 ·cases h
theorem vJ(c k:Nat):cz (reg c k):=λts x h=>by
 unfold reg at h
 split at h
 ·split at h
  ·cases h;exact qj ts
  ·cases h
 ·cases h
theorem DO:cz number:=λts x h=>by
 unfold number at h
 split at h
 ·cases h;exact qj ts
 ·cases h
theorem TH:cz signed:=λts x h=>by
 unfold signed at h
 split at h
 ·exact dw ((DO.also _) _ x h) (qj ts)
 ·exact(DO.also _) _ x h
theorem TJ:cz operator2:=λts x h=>by
 unfold operator2 at h
 split at h
 ·split at h
  ·cases h;exact qj ts
  ·cases h
 ·cases h
theorem TK:cz place:=cz.bind (g:=λ_ ts=>number ts) (vI 64) λ_=>DO
theorem TM:cz i':=λts x h=>by
 unfold i' at h
 split at h
 ·exact dw (((vJ 109 8).also _) _ x h) (qj ts)
 ·cases h;exact bE _
theorem TQ(n c:Nat)(τ:Told):cz (dX n c τ):=λts x h=>by
 unfold dX at h
 split at h
 ·exact(TJ.also _) ts x h
 ·split at h
  ·exact(TH.also _) ts x h
  ·split at h
   ·exact(TK.also _) ts x h
   ·split at h
    ·exact(TM.also _) ts x h
    ·exact((vJ _ _).also _) ts x h
theorem Ln(n:Nat):∀(sh:List Nat) (τ:Told),cz (fG n sh τ)
 |[],τ=>cz.ok τ
 |c::cs,τ=>cz.bind (g:=λa ts=>fG n cs a ts) (TQ n c τ) λa=>Ln n cs a
theorem TR(a:A):cz (λts=>(sign 59 ts).bind λu=>.ok (a,u.2)):=cz.bind (g:=λ_ ts=>.ok (a,ts)) (vI 59) λ_=>cz.ok a
theorem TU(n:Nat)(sh:List Nat)(τ:Told):cz (jq n sh τ):=cz.bind (g:=λa ts=>(sign 59 ts).bind λu=>.ok (a,u.2)) (Ln n sh τ) λa=>TR a
theorem TV(n:Nat)(w:aM)(p:Nat)(h1:w≠str "for")(h2:w≠str "when"):cz (gG n w p):=λts x h=>by
 cases e:shapeOf w with
 |none=>rw[Lj e] at h;cases h
 |some sh=>
  have q:=y0 (n:=n) (p:=p) (ts:=ts) e h1 h2;rw[h] at q;exact TU n sh (dN w) ts _ q
theorem TX{f:Read A}{g:Read B}(hf:cz f)(hg:cz g):cz (two f g):=cz.bind (g:=λa ts=>also (λy=>(a,y)) (g ts)) hf λa=>hg.also _
end
theorem t_{n:Nat}{sub:gH}(hs:∀left,cz (sub left)){left:Nat}{ts:aX}{x:(cw×Nat)×aX}(h:c7 n sub left ts=.ok x):x.2.length<ts.length:=by
 unfold c7 at h;cases e:next ts with
 |num _=>rw[e] at h;cases h
 |sign _=>rw[e] at h;cases h
 |none=>rw[e] at h;cases h
 |word w=>
  have hd:(ts.drop 1).length<ts.length:=Lm (by rw[e];intro z;cases z)
  rw[e] at h;simp only at h;refine BX ?_ hd
  split at h
  ·cases h
  ·split at h
   ·exact cz.bind (g:=λ(a:Nat×Nat) ts=>(sub (left-1) ts).bind λb=>.ok ((xZ a.1 a.2 b.1.1,b.1.2),b.2)) (TX (vJ _ _) (vJ _ _))
     (λa=>cz.bind (g:=λ(b:c6×Nat) ts=>.ok ((xZ a.1 a.2 b.1,b.2),ts)) (hs _) λb=>cz.ok _) _ x h
   ·split at h
    ·refine cz.bind (g:=λ(a:Nat) ts=>(sub (left-1) ts).bind λb=>if next b.2=.word (str "else") then(sub b.1.2 (b.2.drop 1)).bind λc=>.ok ((j5 a b.1.1 c.1.1,c.1.2),c.2) else .ok ((j5 a b.1.1 .nil,b.1.2),b.2)) (vJ _ _)
      (λa=>cz.bind (g:=λ(b:c6×Nat) ts=>if next ts=.word (str "else") then(sub b.2 (ts.drop 1)).bind λc=>.ok ((j5 a b.1 c.1.1,c.1.2),c.2) else .ok ((j5 a b.1 .nil,b.2),ts)) (hs _) λb=> ?_) _ x h
     intro us y hy;simp only at hy
     split at hy
     ·exact dw (cz.bind (g:=λ(c:c6×Nat) ts=>.ok ((j5 a b.1 c.1,c.2),ts)) (hs _) (λc=>cz.ok _) _ y hy) (qj us)
     ·cases hy;exact bE _
    ·rename_i h1 h2;exact cz.bind (g:=λ(i:cw) ts=>.ok ((i,left-1),ts)) (TV n w _ h1 h2) (λi=>cz.ok _) _ x h
theorem Lo{n:Nat}{sub:gH}(hs:∀left,cz (sub left)):∀(k left:Nat),cz (instrs n sub k left)
 |0,left=>λts x h=>by
  have e:instrs n sub 0 left ts=.ok ((.nil,left),ts):=rfl;rw[e] at h;cases h;exact bE _
 |k+1,left=>λts x h=>by
  by_cases hw:∃w,next ts=.word w
  ·obtain⟨w,hw⟩:=hw;rw[rF hw] at h;cases e:c7 n sub left ts with
   |error p=>rw[e] at h;cases h
   |ok y=>
    rw[e] at h;rw[fz] at h;exact dw (cz.also (Lo hs k y.1.2) (λx=>(x4 y.1.1 x.1,x.2)) y.2 x h) (xO (t_ hs e))
  ·rw[kR λw z=>hw ⟨w,z⟩] at h;cases h;exact bE _
theorem DP(n:Nat):∀(k left:Nat),cz (braces n k left)
 |0,left=>λts x h=>by cases h
 |k+1,left=>by
  have q:cz λts=>(sign 123 ts).bind λu=>(instrs n (braces n k) (u.2.length+1) left u.2).bind λb=>(sign 125 b.2).bind λz=>.ok (b.1,z.2):=
   cz.bind (g:=λ(_:Unit) ts=>(instrs n (braces n k) (ts.length+1) left ts).bind λb=>(sign 125 b.2).bind λz=>.ok (b.1,z.2)) (vI 123) λ_ us x h=>by
    cases e:instrs n (braces n k) (us.length+1) left us with
    |error p=>simp only[e] at h;cases h
    |ok y=>
     simp only[e] at h;exact dw (cz.bind (g:=λ(_:Unit) ts=>.ok (y.1,ts)) (vI 125) (λ_=>cz.ok _) _ x h) (Lo (DP n k) _ _ us y e)
  exact q
theorem DQ{n:Nat}{sub:gH}(hs:∀left,cz (sub left)):∀(k j left:Nat) (ts:aX),ts.length<k->ts.length<j->instrs n sub k left ts=instrs n sub j left ts
 |0,_,_,_,h,_=>absurd h (Jd _)
 |_+1,0,_,_,_,h=>absurd h (Jd _)
 |k+1,j+1,left,ts,h1,h2=>by
  by_cases hw:∃w,next ts=.word w
  ·obtain⟨w,hw⟩:=hw;rw[rF hw,rF hw];cases e:c7 n sub left ts with
   |error p=>rfl
   |ok y=>
    have hl:=t_ hs e;rw[fz,fz,DQ hs k j y.1.2 y.2 (by omega) (by omega)]
  ·rw[kR λw z=>hw ⟨w,z⟩,kR λw z=>hw ⟨w,z⟩]
section
variable{N n:Nat}{sub:gH}
def bt(n:Nat)(sub:gH)(left:Nat):Read (c6×Nat):=λts=>(instrs n sub (ts.length+1) left ts).bind λb=>(sign 125 b.2).bind λz=>.ok (b.1,z.2)
theorem DR(left:Nat):Wk N (bt n sub left):=Wk.oR λu h=>by
 unfold bt;rw[kR λw z=>by rw[h] at z;cases z]
 show(sign 125 u).bind _=_;simp[sign,h,i4]
theorem TY{left:Nat}{ts:aX}(h:next ts=.sign 125):bt n sub left ts=.ok ((.nil,left),ts.drop 1):=by
 unfold bt;rw[kR λw z=>by rw[h] at z;cases z]
 show(sign 125 ts).bind _=_;simp[sign,h,i4]
theorem TZ(hs:∀left,cz (sub left)){left:Nat}{ts:aX}(h:next ts≠ .sign 125):bt n sub left ts=(c7 n sub left ts).bind λi=>also (λx=>(.cons i.1.1 x.1,x.2)) (bt n sub i.1.2 i.2):=by
 by_cases hw:∃w,next ts=.word w
 ·obtain⟨w,hw⟩:=hw;unfold bt;rw[rF hw,hZ];cases e:c7 n sub left ts with
  |error p=>rfl
  |ok y=>
   have hl:=t_ hs e;rw[fz,fz,DQ hs ts.length (y.2.length+1) y.1.2 y.2 hl (BN _),vG,DC];refine bind_congr λb=> ?_;rw[DC];rfl
 ·have vK:∀w,next ts≠ .word w:=λw z=>hw ⟨w,z⟩
  rw[DN vK];unfold bt;rw[kR vK];show(sign 125 ts).bind _=_;simp[sign,h,i4]
theorem T4(left:Nat)(i:cw):Wk N (λts=>also (λ(x:c6×Nat)=>(x4 i x.1,x.2)) (bt n sub left ts)):=(DR left).also _
theorem Lp(hs:∀left,cz (sub left)){left:Nat}{ts:aX}(h:next ts≠ .sign 125):
 aJ N (bt n sub left ts)=(aJ N (c7 n sub left ts)).bind λi=>also (λx=>(.cons i.1.1 x.1,x.2)) (aJ N (bt n sub i.1.2 i.2)):=by
 rw[TZ hs h,kQ (g:=λ(i:cw×Nat) ts=>also (λ(x:c6×Nat)=>(x4 i.1 x.1,x.2)) (bt n sub i.2 ts)) _ λi=>T4 i.2 i.1];refine bind_congr λi=> ?_;rw[gk]
theorem Lq(k left:Nat)(ts:aX):braces n (k+1) left ts=(sign 123 ts).bind λu=>bt n (braces n k) left u.2:=rfl
theorem T5(k left:Nat)(ts:aX):aJ N (braces n (k+1) left ts)=(aJ N (sign 123 ts)).bind λu=>aJ N (bt n (braces n k) left u.2):=by
 rw[Lq,kQ (g:=λ(_:Unit) ts=>bt n (braces n k) left ts) _ λ_=>DR left]
theorem T6(k left:Nat):Wk N (braces n k left):=by
 cases k with
 |zero=>exactλu _=>rfl
 |succ k=>exact Wk.bind (g:=λ(_:Unit) ts=>bt n (braces n k) left ts) (Ti 123) λ_=>DR left
def tt(N n:Nat)(sub:gH)(left:Nat):Read (c6×Nat):=λts=>(instrs n sub (ts.length+1) left ts).bind λb=>if here b.2=N/\next b.2=.none then .ok (b.1,b.2) else .error (here b.2)
theorem T7{left:Nat}{ts:aX}(h:next ts=.none)(h2:here ts=N):tt N n sub left ts=.ok ((.nil,left),ts):=by
 unfold tt;rw[kR λw z=>by rw[h] at z;cases z]
 show(if here ts=N/\next ts=.none then _ else _)=_
 rw[if_pos ⟨h2,h⟩]
theorem Lr(left:Nat):Wk N (tt N n sub left):=λu hu=>by
 unfold tt;rw[kR λw z=>by rw[hu.1] at z;cases z]
 show aJ N (if here u=N/\next u=.none then _ else _)=_
 rw[if_neg λz=>hu.2 z.1];rfl
theorem T8(hs:∀left,cz (sub left)){left:Nat}{ts:aX}(h:next ts≠ .none):tt N n sub left ts=(c7 n sub left ts).bind λi=>also (λx=>(.cons i.1.1 x.1,x.2)) (tt N n sub i.1.2 i.2):=by
 by_cases hw:∃w,next ts=.word w
 ·obtain⟨w,hw⟩:=hw;unfold tt;rw[rF hw,hZ];cases e:c7 n sub left ts with
  |error p=>rfl
  |ok y=>
   have hl:=t_ hs e;rw[fz,fz,DQ hs ts.length (y.2.length+1) y.1.2 y.2 hl (BN _),vG,DC];refine bind_congr λb=> ?_;by_cases hb:here b.2=N/\next b.2=.none
   ·rw[if_pos hb,if_pos hb];rfl
   ·rw[if_neg hb,if_neg hb];rfl
 ·have vK:∀w,next ts≠ .word w:=λw z=>hw ⟨w,z⟩
  rw[DN vK];unfold tt;rw[kR vK];show(if here ts=N/\next ts=.none then _ else _)=_
  rw[if_neg λz=>h z.2];rfl
theorem Ls(hs:∀left,cz (sub left)){left:Nat}{ts:aX}(h:next ts≠ .none):
 aJ N (tt N n sub left ts)=(aJ N (c7 n sub left ts)).bind λi=>also (λx=>(.cons i.1.1 x.1,x.2)) (aJ N (tt N n sub i.1.2 i.2)):=by
 rw[T8 hs h,kQ (g:=λ(i:cw×Nat) ts=>also (λ(x:c6×Nat)=>(x4 i.1 x.1,x.2)) (tt N n sub i.2 ts)) _ λi=>(Lr i.2).also _];refine bind_congr λi=> ?_;rw[gk]
end
section
variable{A B:Type}{N n:Nat}{sub:gH}
def c_(N:Nat)(ts:aX):Except Nat (Unit×aX):=aJ N (.ok ((),ts.drop 1))
theorem vL{ts:aX}(h:bad N (ts.drop 1)):c_ N ts=.error (here (ts.drop 1)):=jL (x:=((),ts.drop 1)) h
theorem vM{ts:aX}(h: ¬bad N (ts.drop 1)):c_ N ts=.ok ((),ts.drop 1):=i_ (x:=((),ts.drop 1)) h
theorem rG{g:Read A}(hg:Wk N g)(ts:aX):aJ N (g (ts.drop 1))=(c_ N ts).bind λu=>aJ N (g u.2):=by
 by_cases h:bad N (ts.drop 1)
 ·rw[vL h,hg _ h];rfl
 ·rw[vM h];rfl
theorem vN(a:A)(ts:aX):aJ N (.ok (a,ts.drop 1))=also (λ_=>a) (c_ N ts):=by
 by_cases h:bad N (ts.drop 1)
 ·rw[vL h,jL (show bad N (a,ts.drop 1).2 from h)];rfl
 ·rw[vM h,i_ (show¬bad N (a,ts.drop 1).2 from h)];rfl
theorem T9{ts:aX}:c7 n sub 0 ts=.error (here ts):=by
 unfold c7;cases next ts<;>rfl
theorem T_{left:Nat}{ts:aX}{w:aM}(h:next ts=.word w)(hs:shapeOf w=none):c7 n sub left ts=.error (here ts):=by
 unfold c7;rw[h];simp only
 split
 ·rfl
 ·rw[if_neg λz=>(by rw[z,Lk] at hs;cases hs),if_neg λz=>(by rw[z,Ll] at hs;cases hs),Lj hs]
  rfl
theorem Lu{left:Nat}{ts:aX}{w:aM}(h:next ts=.word w)(h0:left≠0)(h1:w≠str "for")(h2:w≠str "when"):
 c7 n sub left ts=also (λi=>(i,left-1)) (gG n w (here ts) (ts.drop 1)):=by
 unfold c7;rw[h];simp only[h0,h1,h2,if_false,gL]
theorem Ua{left:Nat}{ts:aX}{w sh:aM}{p:Nat}(h:next ts=.word w)(h0:left≠0)(h1:w≠str "for")(h2:w≠str "when")(hs:shapeOf w=some sh)
 (e:aJ N (jq n sh (dN w) (ts.drop 1))=.error p):aJ N (c7 n sub left ts)=.error p:=by
 rw[y0 (p:=here ts) hs h1 h2,gk] at e;rw[Lu h h0 h1 h2,gk];cases q:aJ N (gG n w (here ts) (ts.drop 1)) with
 |error z=>rw[q] at e;cases e;rfl
 |ok z=>rw[q] at e;cases e
theorem Ub{left:Nat}{ts u:aX}{w sh:aM}{τ:Told}(h:next ts=.word w)(h0:left≠0)(h1:w≠str "for")(h2:w≠str "when")(hs:shapeOf w=some sh)
 (e:aJ N (jq n sh (dN w) (ts.drop 1))=.ok (τ,u)):∃i,aJ N (c7 n sub left ts)=.ok ((i,left-1),u)/\toldOf i=τ/\gG n w (here ts) (ts.drop 1)=.ok (i,u):=by
 rw[y0 (p:=here ts) hs h1 h2,gk] at e;rw[Lu h h0 h1 h2,gk];cases q:aJ N (gG n w (here ts) (ts.drop 1)) with
 |error z=>rw[q] at e;cases e
 |ok z=>
  rw[q] at e;cases e;refine⟨z.1,rfl,rfl,?_⟩;cases q2:gG n w (here ts) (ts.drop 1) with
  |error y=>rw[q2] at q;cases q
  |ok y=>
   rw[q2] at q;by_cases hb:bad N y.2
   ·rw[jL hb] at q;cases q
   ·rw[i_ hb] at q;cases q;rfl
theorem Uc(u:aX):fG n [115,115] (t0 (str "for")) u=also (λh=>toldOf (.for_ h.1 h.2 .nil)) (two sca sca u):=by
 simp only[fG,vH,hZ,fz,gL,yZ];rfl
theorem Ud(u:aX):fG n [115] (t0 (str "when")) u=also (λh=>toldOf (.when h .nil .nil)) (sca u):=by
 simp only[fG,vH,hZ,fz,gL];rfl
theorem Ue(oS:∀l,Wk N (sub l)){left:Nat}{ts:aX}(h:next ts=.word (str "for"))(h0:left≠0):
 aJ N (c7 n sub left ts)=(aJ N (two sca sca (ts.drop 1))).bind λh=>(aJ N (sub (left-1) h.2)).bind λb=>.ok ((.for_ h.1.1 h.1.2 b.1.1,b.1.2),b.2):=by
 have e:c7 n sub left ts=(two sca sca (ts.drop 1)).bind λh=>also (λ(b:c6×Nat)=>(xZ h.1.1 h.1.2 b.1,b.2)) (sub (left-1) h.2):=by
  unfold c7;rw[h];simp only[h0,if_false,if_true,gL]
 rw[e,kQ (g:=λ(a:Nat×Nat) ts=>also (λ(b:c6×Nat)=>(xZ a.1 a.2 b.1,b.2)) (sub (left-1) ts)) _ λa=>(oS _).also _];refine bind_congr λx=> ?_;rw[gk,gL]
def lQ(sub:gH)(s:Nat)(b:c6)(l:Nat):Read (cw×Nat):=λts=>
 if next ts=.word (str "else") then(sub l (ts.drop 1)).bind λc=>.ok ((.when s b c.1.1,c.1.2),c.2) else .ok ((.when s b .nil,l),ts)
theorem Lv(s:Nat)(b:c6)(l:Nat):Wk N (lQ sub s b l):=λu hu=>by
 unfold lQ;rw[if_neg λz=>(by rw[hu.1] at z;cases z),jL (x:=((j5 s b .nil,l),u)) hu]
theorem Ug(oS:∀l,Wk N (sub l)){left:Nat}{ts:aX}(h:next ts=.word (str "when"))(h0:left≠0):
 aJ N (c7 n sub left ts)=(aJ N (sca (ts.drop 1))).bind λs=>(aJ N (sub (left-1) s.2)).bind λb=>aJ N (lQ sub s.1 b.1.1 b.1.2 b.2):=by
 have e:c7 n sub left ts=(sca (ts.drop 1)).bind λs=>(sub (left-1) s.2).bind λb=>lQ sub s.1 b.1.1 b.1.2 b.2:=by
  unfold c7;rw[h];simp only[h0,if_false,if_true,show¬str "when"=str "for" by decide+kernel]
  rfl
 rw[e,kQ (g:=λ(a:Nat) ts=>(sub (left-1) ts).bind λb=>lQ sub a b.1.1 b.1.2 b.2) _ λa=>Wk.bind (g:=λ(b:c6×Nat) ts=>lQ sub a b.1 b.2 ts) (oS _) λb=>Lv _ _ _];refine bind_congr λx=> ?_;rw[kQ (g:=λ(b:c6×Nat) ts=>lQ sub x.1 b.1 b.2 ts) _ λb=>Lv _ _ _]
theorem Uh{s:Nat}{b:c6}{l:Nat}{ts:aX}(hb: ¬bad N ts)(h:next ts≠ .word (str "else")):aJ N (lQ sub s b l ts)=.ok ((.when s b .nil,l),ts):=by
 unfold lQ;rw[if_neg h,i_ (x:=((j5 s b .nil,l),ts)) hb]
theorem Ui(oS:∀l,Wk N (sub l)){s:Nat}{b:c6}{l:Nat}{ts:aX}(h:next ts=.word (str "else")):aJ N (lQ sub s b l ts)=(c_ N ts).bind λu=>(aJ N (sub l u.2)).bind λc=>.ok ((.when s b c.1.1,c.1.2),c.2):=by
 unfold lQ;rw[if_pos h];have e:((sub l (ts.drop 1)).bind λc=>.ok ((j5 s b c.1.1,c.1.2),c.2))=also (λ(c:c6×Nat)=>(j5 s b c.1,c.2)) (sub l (ts.drop 1)):=by rw[gL]
 rw[e,rG (g:=λts=>also (λ(c:c6×Nat)=>(j5 s b c.1,c.2)) (sub l ts)) ((oS l).also _)];refine bind_congr λx=> ?_;rw[gk,gL]
def fT(most:Nat):Read Nat:=λts=>match next ts with
 | .num k=>if most<k then .error (here ts) else .ok (k,ts.drop 1)
 |_=>.error (here ts)
theorem Uj(m:Nat):Wk N (fT m):=.oR λu h=>by simp[fT,h]
def lR:Read Nat:=λts=>(fT 1024 (ts.drop 1)).bind λx=>(sign 59 x.2).bind λu=>.ok (x.1,u.2)
theorem Lw{ts:aX}(h:next ts=.word (str "array")):lengths 0 ts=.error (here ts):=by unfold lengths;rw[if_pos h]
theorem y4{k:Nat}{ts:aX}(h:next ts≠ .word (str "array")):lengths k ts=.ok ([],ts):=by unfold lengths;rw[if_neg h]
theorem Lx{k:Nat}{ts:aX}(h:next ts=.word (str "array")):lengths (k+1) ts=(lR ts).bind λx=>also (λl=>x.1::l) (lengths k x.2):=by
 conv=>lhs;unfold lengths
 rw[if_pos h];unfold lR fT number;cases next (ts.drop 1) with
 |num j=>
  simp only[fz];by_cases hj:1024<j
  ·simp only[hj,if_true];rfl
  ·simp only[hj,if_false,fz,hZ]
 |word _=>rfl
 |sign _=>rfl
 |none=>rfl
theorem Ly(k:Nat):Wk N (lengths k):=λu hu=>by
 rw[y4 (k:=k) λz=>(by rw[hu.1] at z;cases z),jL (x:=(([]:List Nat),u)) hu]
theorem Lz{k:Nat}{ts:aX}(h:next ts=.word (str "array")):aJ N (lengths (k+1) ts)=(aJ N (lR ts)).bind λx=>also (λl=>x.1::l) (aJ N (lengths k x.2)):=by
 rw[Lx h,kQ (g:=λ(a:Nat) ts=>also (λl=>a::l) (lengths k ts)) _ λa=>(Ly k).also _];refine bind_congr λx=> ?_;rw[gk]
theorem Uk(ts:aX):aJ N (lR ts)=(c_ N ts).bind λu=>(aJ N (fT 1024 u.2)).bind λx=>aJ N ((sign 59 x.2).bind λu=>.ok (x.1,u.2)):=by
 have e:lR ts=(λts=>(fT 1024 ts).bind λx=>(sign 59 x.2).bind λu=>.ok (x.1,u.2)) (ts.drop 1):=rfl;rw[e,rG (Wk.bind (g:=λa ts=>(sign 59 ts).bind λu=>.ok (a,u.2)) (Uj 1024) λa=>yX a)];refine bind_congr λu=> ?_;rw[kQ (g:=λa ts=>(sign 59 ts).bind λu=>.ok (a,u.2)) _ λa=>yX a]
theorem Ul(t:aM):readCode t=(aJ t.length (lengths 32 (tokens t))).bind λl=>(aJ t.length (tt t.length l.1.length (braces l.1.length 8) 512 l.2)).bind λb=>.ok {lengths:=l.1,body:=b.1.1}:=by
 have e1:readCode t=((lengths 32 (tokens t)).bind λl=>tt t.length l.1.length (braces l.1.length 8) 512 l.2|>.bind λb=>.ok (({lengths:=l.1,body:=b.1.1}:Code),b.2)).bind λx=>.ok x.1:=by
  unfold readCode tt;rw[hZ];refine bind_congr λl=> ?_;rw[hZ,hZ];refine bind_congr λb=> ?_
  split<;>rfl
 rw[e1];cases h1:lengths 32 (tokens t) with
 |error p=>rfl
 |ok l=>
  rw[fz];by_cases hb:bad t.length l.2
  ·rw[jL hb];have q:=Lr (N:=t.length) (n:=l.1.length) (sub:=braces l.1.length 8) 512 l.2 hb;cases h2:tt t.length l.1.length (braces l.1.length 8) 512 l.2 with
   |error p=>rw[h2] at q;exact congrArg _ (Except.error.inj q)
   |ok b=>
    exfalso;unfold tt at h2;rw[kR λw z=>(by rw[hb.1] at z;cases z),fz,if_neg λz=>hb.2 z.1] at h2
    cases h2
  ·rw[i_ hb,fz];cases h2:tt t.length l.1.length (braces l.1.length 8) 512 l.2 with
   |error p=>rfl
   |ok b=>
    have hn: ¬bad t.length b.2:=by
     unfold tt at h2;cases h3:instrs l.1.length (braces l.1.length 8) (l.2.length+1) 512 l.2 with
     |error p=>rw[h3] at h2;cases h2
     |ok y=>
      rw[h3,fz] at h2
      split at h2
      ·rename_i hy;cases h2;exactλz=>z.2 hy.1
      ·cases h2
    rw[i_ hn];rfl
end
def qk(ts:aX):Prop:=∀x∈ts,∀k,x.2=.num k->(k:Int)<=GREAT
theorem qk.drop{ts:aX}(h:qk ts)(i:Nat):qk (ts.drop i):=λx hx=>h x (List.mem_of_mem_drop hx)
theorem qk.next{ts:aX}(h:qk ts){k:Nat}(e:next ts=.num k):(k:Int)<=GREAT:=by
 cases ts with
 |nil=>cases e
 |cons a r=>exact h a iL k e
theorem ua(w:Nat):∀(k:Nat) (t:aM),qk (je w k t)
 |0,t=>λx hx j e=>by
  have q:x=(w-t.length,Token.none):=by simpa[je] using hx
  rw[q] at e;cases e
 |k+1,[]=>λx hx j e=>by
  have q:x=(w,Token.none):=by simpa[je] using hx
  rw[q] at e;cases e
 |k+1,c::r=>by
  unfold je;simp only
  split
  ·exact ua w k _
  ·split
   ·exact ua w k _
   ·split
    ·intro x hx j e;rcases cC.mp hx with q|q
     ·rw[q] at e;cases e
     ·exact ua w k _ x q j e
    ·split
     ·split
      ·rename_i hb;intro x hx j e;rcases cC.mp hx with q|q
       ·rw[q] at e;cases e;exact hb.2.2
       ·exact ua w k _ x q j e
      ·intro x hx j e;rw[oA.mp hx] at e;cases e
     ·split
      ·intro x hx j e;rcases cC.mp hx with q|q
       ·rw[q] at e;cases e
       ·exact ua w k _ x q j e
      ·intro x hx j e;rw[oA.mp hx] at e;cases e
def bN{A:Type}(f:Read A)(P:A->Prop):Prop:=∀ts x,qk ts->f ts=.ok x->P x.1/\qk x.2
section
variable{A B:Type}{P:A->Prop}{Q:B->Prop}
theorem bN.bind{f:Read A}{g:A->Read B}(hf:bN f P)(hg:∀a,P a->bN (g a) Q):bN (λts=>(f ts).bind λx=>g x.1 x.2) Q:=λts x ht h=>by
 dsimp only at h;cases e:f ts with
 |error p=>rw[e] at h;cases h
 |ok y=>
  rw[e,fz] at h;obtain⟨h1,h2⟩:=hf ts y ht e;exact hg y.1 h1 y.2 x h2 h
theorem bN.ok{a:A}(h:P a):bN (λts=>.ok (a,ts)) P:=λts x ht e=>by cases e;exact⟨h,ht⟩
theorem bN.also{f:Read A}{g:A->B}(hf:bN f P)(hg:∀a,P a->Q (g a)):bN (λts=>also g (f ts)) Q:=λts x ht h=>by
 dsimp only at h;cases e:f ts with
 |error p=>rw[e] at h;cases h
 |ok y=>
  rw[e] at h;cases h;obtain⟨h1,h2⟩:=hf ts y ht e;exact⟨hg _ h1,h2⟩
theorem bN.two{f:Read A}{g:Read B}(hf:bN f P)(hg:bN g Q):bN (two f g) λx=>P x.1/\Q x.2:=
 bN.bind (g:=λa ts=>j3 (λy=>(a,y)) (g ts)) hf λa ha=>hg.also λb hb=>⟨ha,hb⟩
theorem rH(c:Nat):bN (sign c) λ_=>True:=λts x ht h=>by
 unfold sign at h
 split at h
 ·cases h;exact⟨trivial,ht.drop 1⟩
 ·cases h
theorem bN.ended{f:Read A}(hf:bN f P):bN (ended f) P:=
 bN.bind (g:=λa ts=>(sign 59 ts).bind λu=>.ok (a,u.2)) hf λa ha=>bN.bind (g:=λ_ ts=>.ok (a,ts)) (rH 59) λ_ _=>bN.ok ha
theorem nO(c k:Nat):bN (reg c k) λj=>j<k:=λts x ht h=>by
 unfold reg at h
 split at h
 ·split at h
  ·rename_i hh;cases h;exact⟨hh.2.2.2,ht.drop 1⟩
  ·cases h
 ·cases h
theorem DS:bN number λj=>(j:Int)<=GREAT:=λts x ht h=>by
 unfold number at h
 split at h
 ·rename_i k e;cases h;exact⟨ht.next e,ht.drop 1⟩
 ·cases h
theorem Um:bN signed λj=> -GREAT<=j/\j<=GREAT:=λts x ht h=>by
 have g0:(0:Int)<=GREAT:=by decide
 unfold signed at h
 split at h
 ·exact bN.also (Q:=λj=> -GREAT<=j/\j<=GREAT) DS (λa ha=>⟨by omega,by omega⟩) _ x (ht.drop 1) h
 ·exact bN.also (Q:=λj=> -GREAT<=j/\j<=GREAT) DS (λa ha=>⟨by omega,by omega⟩) _ x ht h
theorem DT:bN place λj=>(j:Int)<=GREAT:=bN.bind (g:=λ_ ts=>number ts) (rH 64) λ_ _=>DS
theorem DU:bN masked λm=>∀k,m=some k->k<8:=λts x ht h=>by
 rw[yY] at h;refine bN.bind (f:=i') (g:=λa ts=>(sign 59 ts).bind λu=>.ok (a,u.2)) (P:=λm=>∀k,m=some k->k<8) ?_ (λa ha=>bN.bind (g:=λ_ ts=>.ok (a,ts)) (rH 59) λ_ _=>bN.ok ha) ts x ht h;intro us y hu e;unfold i' at e
 split at e
 ·exact bN.also (Q:=λm:Option Nat=>∀k,m=some k->k<8) (nO 109 8) (λa ha k q=>by cases q;exact ha) _ y (hu.drop 1) e
 ·cases e;exact⟨λk q=>(by cases q),hu⟩
theorem Uo:bN operator2 λo=>o<13:=λts x ht h=>by
 unfold operator2 at h
 split at h
 ·split at h
  ·rename_i o e;cases h;exact⟨(rE e).1,ht.drop 1⟩
  ·cases h
 ·cases h
end
def nP(m:Option Nat):Prop:=∀k,m=some k->k<8
def lU(n:Nat):cw->Prop
 | .lanes d m=>d<16/\nP m
 | .const d k m=>d<16/\ (-GREAT<=k/\k<=GREAT)/\nP m
 | .fill d s m=>d<16/\s<16/\nP m
 | .copy d a m=>d<16/\a<16/\nP m
 | .one o d a p m=>o<4/\d<16/\a<16/\ (p:Int)<=GREAT/\nP m
 | .two o d a b p m=>o<13/\d<16/\a<16/\b<16/\ (p:Int)<=GREAT/\nP m
 | .read d r a m=>d<16/\r<n/\a<16/\nP m
 | .pick d r a p m=>d<16/\r<n/\a<16/\ (p:Int)<=GREAT/\nP m
 | .write r a b m=>r<n/\a<16/\b<16/\nP m
 | .test d a m=>d<8/\a<16/\nP m
 | .tail d s=>d<8/\s<16
 | .both d a b=>d<8/\a<8/\b<8
 | .less d a b=>d<8/\a<8/\b<8
 | .either d a b=>d<8/\a<8/\b<8
 | .count d a=>d<16/\a<8
 | .num d k=>d<16/\ (-GREAT<=k/\k<=GREAT)
 | .width d=>d<16
 | .calc o d a b p=>o<13/\d<16/\a<16/\b<16/\ (p:Int)<=GREAT
 | .get d v s=>d<16/\v<16/\s<16
 | .put v s t=>v<16/\s<16/\t<16
 | .for_ _ _ _=>False
 | .when _ _ _=>False
 | .raise=>True
theorem Up(n:Nat)(w:aM)(p:Nat):bN (gG n w p) (lU n):=λts x ht h=>by
 unfold gG at h;dsimp only[maskOp] at h
 iterate 19
  rcases qi h with⟨_,h⟩|⟨_,h⟩
  ·exact bN.also (by repeat' first|exact DU|exact Um|exact DT|exact Uo|exact nO _ _|exact rH 59|apply bN.two|apply bN.ended) (λa ha=>by exact ha) ts x ht h
 cases e:opAt ops1 w with
 |some o=>
  rw[e] at h;exact bN.also (bN.two (nO _ _) (bN.two (nO _ _) (bN.two DT DU))) (λa ha=>⟨(rE e).1,ha⟩) ts x ht h
 |none=>
  rw[e] at h;cases e2:opAt ops2 w with
  |some o=>
   rw[e2] at h;exact bN.also (bN.two (nO _ _) (bN.two (nO _ _) (bN.two (nO _ _) (bN.two DT DU)))) (λa ha=>⟨(rE e2).1,ha⟩) ts x ht h
  |none=>
   rw[e2] at h;cases h
mutual
def d_(n:Nat)(i:cw)(h:Nat):Prop:=match i with
 | .for_ d c b=>d<16/\c<16/\ ∃k,h=k+1/\fI n b k
 | .when s b c=>s<16/\ ∃k,h=k+1/\fI n b k/\fI n c k
 |i=>lU n i
def fI(n:Nat)(b:c6)(h:Nat):Prop:=match b with
 | .nil=>True
 | .cons i r=>d_ n i h/\fI n r h
end
theorem Uq{n h:Nat}{i:cw}(q:lU n i):d_ n i h:=by
 cases i<;>first|exact gw q|(simp only[d_];exact q)
theorem size_of{n:Nat}{i:cw}(q:lU n i):i.size=1:=by
 cases i<;>first|exact gw q|rfl
def vO(n:Nat)(sub:gH)(h:Nat):Prop:=∀left,bN (sub left) λx=>(∃j,h=j+1/\fI n x.1 j)/\x.1.size+x.2=left
abbrev IQ(n h left:Nat):cw×Nat->Prop:=λx=>d_ n x.1 h/\x.1.size+x.2=left
abbrev BQ(n h left:Nat):c6×Nat->Prop:=λx=>fI n x.1 h/\x.1.size+x.2=left
theorem Ur{n h:Nat}{sub:gH}(hs:vO n sub h)(left:Nat):bN (c7 n sub left) λx=>d_ n x.1 h/\x.1.size+x.2=left:=λts x ht e=>by
 unfold c7 at e
 split at e
 ·rename_i w hw;by_cases hl:left=0
  ·rw[if_pos hl] at e;cases e
  rw[if_neg hl] at e;by_cases h1:w=str "for"
  ·rw[if_pos h1] at e;refine bN.bind (Q:=IQ n h left) (f:=two sca sca) (g:=λa us=>(sub (left-1) us).bind λb=>.ok ((xZ a.1 a.2 b.1.1,b.1.2),b.2)) (bN.two (nO _ _) (nO _ _)) (λa ha=>bN.bind (g:=λ(b:c6×Nat) us=>.ok ((xZ a.1 a.2 b.1,b.2),us)) (hs (left-1)) λb hb=>bN.ok ?_) _ x (ht.drop 1) e;obtain⟨⟨j,hj,hB⟩,hz⟩:=hb;refine⟨by simp only[d_];exact⟨ha.1,ha.2,j,hj,hB⟩,?_⟩
   simp only[eB];omega
  rw[if_neg h1] at e;by_cases h2:w=str "when"
  ·rw[if_pos h2] at e;refine bN.bind (Q:=IQ n h left) (f:=sca) (g:=λa us=>(sub (left-1) us).bind λb=>if next b.2=.word (str "else") then(sub b.1.2 (b.2.drop 1)).bind λc=>.ok ((j5 a b.1.1 c.1.1,c.1.2),c.2) else .ok ((j5 a b.1.1 .nil,b.1.2),b.2)) (nO _ _) (λa ha=>bN.bind (g:=λ(b:c6×Nat) us=>if next us=.word (str "else") then(sub b.2 (us.drop 1)).bind λc=>.ok ((j5 a b.1 c.1.1,c.1.2),c.2) else .ok ((j5 a b.1 .nil,b.2),us)) (hs (left-1)) λb hb=> ?_) _ x (ht.drop 1) e
   obtain⟨⟨j,hj,hB⟩,hz⟩:=hb;intro us y hu ey;dsimp only at ey;by_cases q:next us=.word (str "else")
   ·rw[if_pos q] at ey;refine bN.bind (Q:=IQ n h left) (f:=sub b.2) (g:=λ(c:c6×Nat) us=>.ok ((j5 a b.1 c.1,c.2),us)) (hs b.2) (λc hc=>bN.ok ?_) _ y (hu.drop 1) ey;obtain⟨⟨j2,hj2,hC⟩,hz2⟩:=hc;obtain rfl:j=j2:=by omega
    refine⟨by simp only[d_];exact⟨ha,j,hj,hB,hC⟩,?_⟩
    simp only[eB];omega
   ·rw[if_neg q] at ey;cases ey;refine⟨⟨by simp only[d_,fI];exact⟨ha,j,hj,hB,trivial⟩,?_⟩,hu⟩
    simp only[eB,lA];omega
  rw[if_neg h2] at e;refine bN.bind (Q:=IQ n h left) (f:=gG n w (here ts)) (g:=λi us=>.ok ((i,left-1),us)) (Up n w _) (λi hi=>bN.ok ⟨Uq hi,?_⟩) _ x (ht.drop 1) e;show i.size+(left-1)=left;rw[size_of hi];omega
 ·cases e
theorem DV{n h:Nat}{sub:gH}(hs:vO n sub h):∀(k left:Nat),bN (instrs n sub k left) λx=>fI n x.1 h/\x.1.size+x.2=left
 |0,left=>λts x ht e=>by cases e;exact⟨⟨by simp only[fI],by simp only[lA];omega⟩,ht⟩
 |k+1,left=>λts x ht e=>by
  by_cases q:∃w,next ts=.word w
  ·obtain⟨w,hw⟩:=q;rw[rF hw] at e;refine bN.bind (Q:=BQ n h left) (f:=c7 n sub left) (g:=λ(i:cw×Nat) us=>also (λ(x:c6×Nat)=>(x4 i.1 x.1,x.2)) (instrs n sub k i.2 us)) (Ur hs left) (λi hi=>bN.also (DV hs k i.2) λb hb=> ?_) _ x ht e;refine⟨by simp only[fI];exact⟨hi.1,hb.1⟩,?_⟩
   have h1:=hi.2;have h2:=hb.2;simp only[lA];omega
  ·rw[kR λw hw=>q ⟨w,hw⟩] at e;cases e;exact⟨⟨by simp only[fI],by simp only[lA];omega⟩,ht⟩
theorem Us{n h:Nat}{sub:gH}(hs:vO n sub h)(left:Nat):bN (bt n sub left) λx=>fI n x.1 h/\x.1.size+x.2=left:=λts x ht e=>
 bN.bind (Q:=BQ n h left) (f:=instrs n sub (ts.length+1) left) (g:=λb us=>(sign 125 us).bind λz=>.ok (b,z.2)) (DV hs _ left) (λb hb=>bN.bind (g:=λ_ us=>.ok (b,us)) (rH 125) λ_ _=>bN.ok hb) ts x ht e
theorem LA(n:Nat):∀k,vO n (braces n k) k
 |0=>λleft ts x ht e=>by cases e
 |k+1=>λleft ts x ht e=>by
  rw[Lq] at e;exact bN.bind (Q:=λx=>(∃j,k+1=j+1/\fI n x.1 j)/\x.1.size+x.2=left) (f:=sign 123) (g:=λ_ us=>bt n (braces n k) left us) (rH 123) (λ_ _ us y hu ey=>by
   obtain⟨⟨h1,h2⟩,h3⟩:=Us (LA n k) left us y hu ey;exact⟨⟨⟨k,rfl,h1⟩,h2⟩,h3⟩) ts x ht e
theorem Ut{N n h:Nat}{sub:gH}(hs:vO n sub h)(left:Nat):bN (tt N n sub left) λx=>fI n x.1 h/\x.1.size+x.2=left:=λts x ht e=>by
 unfold tt at e;refine bN.bind (Q:=BQ n h left) (f:=instrs n sub (ts.length+1) left) (g:=λb us=>if here us=N/\next us=.none then .ok (b,us) else .error (here us)) (DV hs _ left) (λb hb us y hu ey=> ?_) ts x ht e
 dsimp only at ey
 split at ey
 ·cases ey;exact⟨hb,hu⟩
 ·cases ey
mutual
def bG(i:cw):List aM:=match i with
 | .for_ d c b=>(spaced [str "for",s d,s c]++str " {")::(du b++[str "}"])
 | .when x b c=>(spaced [str "when",s x]++str " {")::(du b++((match c with| .nil=>[]| .cons i r=>str "} else {"::(bG i++du r))++[str "}"]))
 |i=>[spaced (toldOf i).parts++str ";"]
def du(b:c6):List aM:=match b with
 | .nil=>[]
 | .cons i r=>bG i++du r
end
def joined(l:List aM):aM:=(l.map λx=>x++[10]).flatten
theorem jN(l r:List aM):joined (l++r)=joined l++joined r:=by unfold joined;rw[iw,List.flatten_append]
theorem dY(x:aM)(r:List aM):joined (x::r)=(x++[10])++joined r:=rfl
theorem gA:joined []=[]:=rfl
theorem semi(x:aM):(x++str ";")++[10]=x++str ";\n":=by rw[lq];rfl
theorem gQ(x:aM):joined [x++str ";"]=x++str ";\n":=by rw[dY,gA,dz,semi]
theorem DW:joined [str "}"]=str "}\n":=rfl
theorem Uu:str "} else {"++[10]=str "} else {\n":=rfl
theorem Uv(d n:Nat):(spaced [str "for",s d,s n]++str " {")++[10]=spaced [str "for",s d,s n,str "{\n"]:=by
 simp only[spaced,lq,B0];rfl
theorem LB(x:Nat):(spaced [str "when",s x]++str " {")++[10]=spaced [str "when",s x,str "{\n"]:=by
 simp only[spaced,lq,B0];rfl
mutual
theorem LC:∀i:cw,gf i=joined (bG i)
 | .lanes d k=>by rw[gf];simp only[bG];rw[gQ];rfl
 | .const d n k=>by rw[gf];simp only[bG];rw[gQ];rfl
 | .fill d x k=>by rw[gf];simp only[bG];rw[gQ];rfl
 | .copy d x k=>by rw[gf];simp only[bG];rw[gQ];rfl
 | .one o d x p k=>by rw[gf];simp only[bG];rw[gQ];rfl
 | .two o d x y p k=>by rw[gf];simp only[bG];rw[gQ];rfl
 | .read d r x k=>by rw[gf];simp only[bG];rw[gQ];rfl
 | .pick d r x p k=>by rw[gf];simp only[bG];rw[gQ];rfl
 | .write r x y k=>by rw[gf];simp only[bG];rw[gQ];rfl
 | .test d x k=>by rw[gf];simp only[bG];rw[gQ];rfl
 | .tail d x=>by rw[gf];simp only[bG];rw[gQ];rfl
 | .both d x y=>by rw[gf];simp only[bG];rw[gQ];rfl
 | .less d x y=>by rw[gf];simp only[bG];rw[gQ];rfl
 | .either d x y=>by rw[gf];simp only[bG];rw[gQ];rfl
 | .count d x=>by rw[gf];simp only[bG];rw[gQ];rfl
 | .num d n=>by rw[gf];simp only[bG];rw[gQ];rfl
 | .width d=>by rw[gf];simp only[bG];rw[gQ];rfl
 | .calc o d x y p=>by rw[gf];simp only[bG];rw[gQ];rfl
 | .get d x y=>by rw[gf];simp only[bG];rw[gQ];rfl
 | .put x y z=>by rw[gf];simp only[bG];rw[gQ];rfl
 | .for_ d n b=>by
   rw[gf,bG,dY,jN,<-ub b,Uv,DW]
 | .when x b .nil=>by
   rw[gf,bG,dY,jN,<-ub b,LB,sU,DW]
 | .when x b (.cons i r)=>by
   rw[gf,bG,dY,jN,jN,dY,jN,<-ub b,<-LC i,<-ub r,LB,DW,Uu];simp only[lq]
 | .raise=>by rw[gf];simp only[bG];rw[gQ];rfl
theorem ub:∀b:c6,blockText b=joined (du b)
 | .nil=>by rw[blockText,du];rfl
 | .cons i r=>by rw[blockText,du,jN,<-LC i,<-ub r]
end
def iT(c:Code):List aM:=c.lengths.map (λn=>(str "array "++dec n)++str ";")++du c.body
theorem DX(c:Code):codeText c=joined (iT c):=by
 unfold codeText iT;rw[jN,<-ub]
 congr 1
 induction c.lengths with
 |nil=>rfl
 |cons n r ih=>
  rw[P2,i0,dY,ih,semi]
  congr 1
theorem Uw(k n:Nat):(x5 k n).length<=k:=by
 induction k generalizing n with
 |zero=>exact bE _
 |succ k ih=>
  rw[x5]
  split
  ·simp
  ·rw[bU];have:=ih (n/10);simp;omega
theorem iU(n:Nat):(dec n).length<=40:=Uw 40 n
theorem Ux(n:Int):(signedText n).length<=41:=by
 unfold signedText
 split
 ·have:=iU n.natAbs;simp only[cI];omega
 ·have:=iU n.toNat;omega
theorem Uy(o:Nat):(opName ops1 o).length<=4:=by
 unfold opName;by_cases h:o<ops1.length
 ·rw[eI h];exact(by decide+kernel:∀x∈ops1,x.length<=4) _ (x6 h)
 ·rw[pG (by omega)];exact eV _
theorem DY(o:Nat):(opName ops2 o).length<=4:=by
 unfold opName;by_cases h:o<ops2.length
 ·rw[eI h];exact(by decide+kernel:∀x∈ops2,x.length<=4) _ (x6 h)
 ·rw[pG (by omega)];exact eV _
theorem LD:∀l:List aM,(spaced l).length<=(l.map λx=>x.length+1).sum
 |[]=>bE _
 |[x]=>by simp[spaced]
 |x::y::r=>by
  have:=LD (y::r);simp only[spaced,bU,cI,i0,u5] at this⊢;omega
theorem Uz(k:Option Nat):((kI k).map λx=>x.length+1).sum<=43:=by
 cases k with
 |none=>exact eV _
 |some k=>have:=iU k;simp only[kI,m,i0,IU,u5,List.sum_nil,cI];omega
theorem DZ(i:cw):((toldOf i).parts.map λx=>x.length+1).sum<=300:=by
 have d:=iU;have sg:=Ux;have o1:=Uy;have o2:=DY;have mk:=Uz;have w:∀x:String,(str x).length=x.length:=λx=>by unfold str;rw[bx];rfl
 cases i<;>simp only[toldOf,iw,i0,IU,List.sum_append,u5,List.sum_nil,cI,v,s,m,a,at_]
 case lanes x k=>have:=mk k;have:=d x;have:(str "lanes").length=5:=rfl;omega
 case const x n k=>have:=mk k;have:=d x;have:=sg n;have:(str "const").length=5:=rfl;omega
 case fill x y k=>have:=mk k;have:=d x;have:=d y;have:(str "fill").length=4:=rfl;omega
 case copy x y k=>have:=mk k;have:=d x;have:=d y;have:(str "copy").length=4:=rfl;omega
 case one o x y p k=>have:=mk k;have:=d x;have:=d y;have:=d p;have:=o1 o;omega
 case two o x y z p k=>have:=mk k;have:=d x;have:=d y;have:=d z;have:=d p;have:=o2 o;omega
 case read x y z k=>have:=mk k;have:=d x;have:=d y;have:=d z;have:(str "read").length=4:=rfl;omega
 case pick x y z p k=>have:=mk k;have:=d x;have:=d y;have:=d z;have:=d p;have:(str "pick").length=4:=rfl;omega
 case write x y z k=>have:=mk k;have:=d x;have:=d y;have:=d z;have:(str "write").length=5:=rfl;omega
 case test x y k=>have:=mk k;have:=d x;have:=d y;have:(str "test").length=4:=rfl;omega
 case tail x y=>have:=d x;have:=d y;have:(str "tail").length=4:=rfl;omega
 case both x y z=>have:=d x;have:=d y;have:=d z;have:(str "both").length=4:=rfl;omega
 case less x y z=>have:=d x;have:=d y;have:=d z;have:(str "less").length=4:=rfl;omega
 case either x y z=>have:=d x;have:=d y;have:=d z;have:(str "either").length=6:=rfl;omega
 case count x y=>have:=d x;have:=d y;have:(str "count").length=5:=rfl;omega
 case num x n=>have:=d x;have:=sg n;have:(str "num").length=3:=rfl;omega
 case width x=>have:=d x;have:(str "width").length=5:=rfl;omega
 case «calc» o x y z p=>have:=d x;have:=d y;have:=d z;have:=d p;have:=o2 o;have:(str "calc").length=4:=rfl;omega
 case get x y z=>have:=d x;have:=d y;have:=d z;have:(str "get").length=3:=rfl;omega
 case put x y z=>have:=d x;have:=d y;have:=d z;have:(str "put").length=3:=rfl;omega
 case for_ x y b=>have:=d x;have:=d y;have:(str "for").length=3:=rfl;omega
 case when x b c=>have:=d x;have:(str "when").length=4:=rfl;omega
 case raise=>have:(str "raise").length=5:=rfl;omega
theorem oU(i:cw):(spaced (toldOf i).parts).length<=300:=dw (LD _) (DZ i)
theorem gB(i:cw):(spaced (toldOf i).parts++str ";").length<=302:=by
 have:=oU i;rw[bU];have:(str ";").length=1:=rfl;omega
theorem gM{i:cw}(h:bG i=[spaced (toldOf i).parts++str ";"])(hs:i.size=1:=by rfl):(bG i).length<=3*i.size/\ ∀l∈bG i,l.length<=302:=by
 rw[h,hs];exact⟨by show 1<=3*1;decide,λl hl=>by rw[oA.mp hl];exact gB _⟩
mutual
theorem D0:∀i:cw,(bG i).length<=3*i.size/\ ∀l∈bG i,l.length<=302
 | .for_ d n b=>by
   obtain⟨h1,h2⟩:=oV b;simp only[bG,eB,cI,bU,eJ];refine⟨by omega,λl hl=> ?_⟩
   have e2:(str " {").length=2:=rfl;have e3:(str "}").length=1:=rfl;rcases cC.mp hl with z|z
   ·rw[z,bU];have:=oU (.for_ d n b);simp only[toldOf] at this;omega
   ·rcases gO.mp z with z|z
    ·exact h2 l z
    ·rw[oA.mp z];omega
 | .when x b .nil=>by
   obtain⟨h1,h2⟩:=oV b;simp only[bG,eB,lA,cI,bU,eJ,sU];refine⟨by omega,λl hl=> ?_⟩
   have e2:(str " {").length=2:=rfl;have e3:(str "}").length=1:=rfl;rcases cC.mp hl with z|z
   ·rw[z,bU];have:=oU (.when x b .nil);simp only[toldOf] at this;omega
   ·rcases gO.mp z with z|z
    ·exact h2 l z
    ·rw[oA.mp z];omega
 | .when x b (.cons i r)=>by
   obtain⟨h1,h2⟩:=oV b;obtain⟨h3,h4⟩:=D0 i;obtain⟨h5,h6⟩:=oV r;simp only[bG,eB,lA,cI,bU,eJ];refine⟨by omega,λl hl=> ?_⟩
   have e2:(str " {").length=2:=rfl;have e3:(str "}").length=1:=rfl;have e4:(str "} else {").length=8:=rfl;rcases cC.mp hl with z|z
   ·rw[z,bU];have:=oU (.when x b .nil);simp only[toldOf] at this;omega
   ·rcases gO.mp z with z|z
    ·exact h2 l z
    ·rcases gO.mp z with z|z
     ·rcases cC.mp z with z|z
      ·rw[z];omega
      ·rcases gO.mp z with z|z
       ·exact h4 l z
       ·exact h6 l z
     ·rw[oA.mp z];omega
 | .lanes _ _=>gM (by simp only[bG])
 | .const _ _ _=>gM (by simp only[bG])
 | .fill _ _ _=>gM (by simp only[bG])
 | .copy _ _ _=>gM (by simp only[bG])
 | .one _ _ _ _ _=>gM (by simp only[bG])
 | .two _ _ _ _ _ _=>gM (by simp only[bG])
 | .read _ _ _ _=>gM (by simp only[bG])
 | .pick _ _ _ _ _=>gM (by simp only[bG])
 | .write _ _ _ _=>gM (by simp only[bG])
 | .test _ _ _=>gM (by simp only[bG])
 | .tail _ _=>gM (by simp only[bG])
 | .both _ _ _=>gM (by simp only[bG])
 | .less _ _ _=>gM (by simp only[bG])
 | .either _ _ _=>gM (by simp only[bG])
 | .count _ _=>gM (by simp only[bG])
 | .num _ _=>gM (by simp only[bG])
 | .width _=>gM (by simp only[bG])
 | .calc _ _ _ _ _=>gM (by simp only[bG])
 | .get _ _ _=>gM (by simp only[bG])
 | .put _ _ _=>gM (by simp only[bG])
 | .raise=>gM (by simp only[bG])
theorem oV:∀b:c6,(du b).length<=3*b.size/\ ∀l∈du b,l.length<=302
 | .nil=>by simp only[du,lA];exact⟨by decide,λl hl=>by cases hl⟩
 | .cons i r=>by
   obtain⟨h3,h4⟩:=D0 i;obtain⟨h5,h6⟩:=oV r;simp only[du,lA,bU];refine⟨by omega,λl hl=> ?_⟩
   rcases gO.mp hl with z|z
   ·exact h4 l z
   ·exact h6 l z
end
theorem y6{k:Nat}:∀l:List aM,(∀x∈l,x.length<=k)->(joined l).length<=(k+1)*l.length
 |[],_=>eV _
 |x::r,h=>by
  have h1:=h x (by simp)
  have h2:=y6 r λy hy=>h y (by simp[hy])
  rw[dY,bU,bU];simp only[cI,eJ,Nat.mul_add];omega
def dZ(ds:aM)(most:Int):Option Nat:=if ds.all digit=true/\oneWay ds=true/\ ((valueOf ds:Nat):Int)<=most then some (valueOf ds) else none
theorem UA(ds:aM):∀a:Nat,ds.foldl (λn c=>10*n+(c-48)) a=10^ds.length*a+valueOf ds:=by
 induction ds with
 |nil=>intro a;show a=10^0*a+0;rw[Nat.pow_zero];omega
 |cons c r ih=>
  intro a;unfold valueOf;rw[uZ,uZ,ih,ih (10*0+(c-48)),cI,Je];generalize 10^r.length=k;rw[Nat.mul_add,Nat.mul_zero,Nat.zero_add,<-Nat.mul_assoc,Nat.add_assoc]
theorem UB(c:Nat)(r:aM):valueOf (c::r)=10^r.length*(c-48)+valueOf r:=by
 conv=>lhs;unfold valueOf
 rw[uZ,UA,Nat.mul_zero,Nat.zero_add]
theorem UC{c:Nat}{r:aM}(h:digit c=true)(h0:c≠48):10^r.length<=valueOf (c::r):=by
 unfold digit at h;have h:=of_decide_eq_true h;rw[UB];have:10^r.length*1<=10^r.length*(c-48):=Nat.mul_le_mul_left _ (by omega)
 omega
theorem LF:∀(k n:Nat),n<10^k->n<10^(x5 k n).length
 |0,n,h=>h
 |k+1,n,h=>by
  rw[x5];by_cases q:n<10
  ·rw[if_pos q];exact q
  ·rw[if_neg q,bU];have ih:=LF k (n/10) (by rw[Je] at h;omega)
   show n<10^(_+1);rw[Je];omega
theorem dec_lt{n:Nat}(h:n<10^40):n<10^(dec n).length:=LF 40 n h
theorem LG{ds:aM}{m:Nat}(hm:m<10^40)(h:(dec m).length<ds.length):dZ ds (m:Nat)=none:=by
 unfold dZ;rw[if_neg];rintro⟨h1,h2,h3⟩;cases ds with
 |nil=>cases h
 |cons c r=>
  unfold oneWay at h2;rw[cI] at h h2;have hr:r.length≠0:=by
   have:0<(dec m).length:=by
    rcases Nat.eq_zero_or_pos (dec m).length with z|z
    ·have:=dec_lt hm;rw[z] at this;have h0:m=0:=by simpa using this
     rw[h0] at z;cases z
    ·exact z
   omega
  have hc:c≠48:=by
   intro z;subst z;simp at h2;exact hr (by rw[h2];rfl)
  rw[lj,eQ] at h1;have a1:=UC (r:=r) h1.1 hc;have a2:=dec_lt hm;have a3:10^(dec m).length<=10^r.length:=Nat.pow_le_pow_right (by decide) (by omega)
  have a4:valueOf (c::r)<=m:=by omega
  omega
theorem UD{ds:aM}{m:Int}(hm:m<0):dZ ds m=none:=by
 unfold dZ;rw[if_neg];rintro⟨_,_,h3⟩;omega
theorem y8{ds:aM}{m:Int}(h: ¬(ds≠[]/\ds.all digit=true)):dZ ds m=none:=by
 unfold dZ;rw[if_neg];rintro⟨h1,h2,_⟩;refine h ⟨λz=> ?_,h1⟩;subst z;cases h2
theorem UE{c:Nat}{r:aM}{m:Int}(h:c=48)(hr:r≠[]):dZ (c::r) m=none:=by
 unfold dZ;rw[if_neg];rintro⟨_,h2,_⟩;subst h;unfold oneWay at h2;simp at h2;exact hr h2
theorem LH{c:Nat}{r:aM}(h: ¬(c=48/\r≠[])):oneWay (c::r)=true:=by
 unfold oneWay;simp;by_cases q:r=[]
 ·exact .inl q
 ·exact .inr λz=>h ⟨z,q⟩
theorem D3{ds:aM}{m:Int}(h1:ds.all digit=true)(h2:oneWay ds=true)(h3:((valueOf ds:Nat):Int)<=m):dZ ds m=some (valueOf ds):=by
 unfold dZ;rw[if_pos ⟨h1,h2,h3⟩]
theorem D4{ds:aM}{m:Int}(h3: ¬((valueOf ds:Nat):Int)<=m):dZ ds m=none:=by
 unfold dZ;rw[if_neg λz=>h3 z.2.2]
theorem UG{ds:aM}:dZ ds GREAT=(if ds.all digit=true/\ (oneWay ds=true/\ds.length<=19/\ ((valueOf ds:Nat):Int)<=GREAT) then some (valueOf ds) else none):=by
 unfold dZ;by_cases h:ds.all digit=true/\oneWay ds=true/\ ((valueOf ds:Nat):Int)<=GREAT
 ·have hl:ds.length<=19:=by
   refine Nat.le_of_not_lt λz=> ?_;have e:GREAT=((1000000000000000000:Nat):Int):=rfl;have:=LG (ds:=ds) (m:=1000000000000000000) (by decide) (by rw[show(dec 1000000000000000000).length=19 by decide+kernel];exact z)
   unfold dZ at this;rw[if_pos ⟨h.1,h.2.1,by rw[<-e];exact h.2.2⟩] at this
   cases this
  rw[if_pos h,if_pos ⟨h.1,h.2.1,hl,h.2.2⟩]
 ·rw[if_neg h,if_neg];rintro⟨h1,h2,_,h4⟩;exact h ⟨h1,h2,h4⟩
def Tk(N:Nat)(ts:aX)(x:aM):Prop:=match next ts with
 | .word w=>x=w/\ ∃c r,w=c::r/\letter c=true/\r.all inner=true
 | .num n=>x.all digit=true/\oneWay x=true/\valueOf x=n/\ ((n:Nat):Int)<=GREAT
 | .sign c=>x=[c]/\ (c=59\/c=123\/c=125\/c=64\/c=63\/c=95)
 | .none=>x=[]/\here ts=N
theorem ql{c:Nat}(h:letter c=true):97<=c/\c<=122:=of_decide_eq_true (by unfold letter at h;exact h)
theorem kS{c:Nat}(h:digit c=true):48<=c/\c<=57:=of_decide_eq_true (by unfold digit at h;exact h)
theorem UH{c:Nat}(h:inner c=true):(97<=c/\c<=122)\/(48<=c/\c<=57):=by
 unfold inner at h;rcases Bool.or_eq_true_iff.mp h with h|h
 ·exact .inl (ql h)
 ·exact .inr (kS h)
theorem Tk.word{N:Nat}{ts:aX}{x:aM}{c:Nat}{r:aM}(h:Tk N ts x)(hx:x=c::r)(hc:letter c=true):next ts=.word x:=by
 have lc:=ql hc;unfold Tk at h;cases e:next ts with
 |word w=>rw[e] at h;rw[h.1]
 |num n=>
  rw[e] at h;have:=h.1;rw[hx,lj,eQ] at this;have:=kS this.1;omega
 |sign d=>
  rw[e] at h;have:=h.1;rw[hx] at this;obtain⟨rfl,_⟩:=oB this;omega
 |none=>rw[e] at h;rw[hx] at h;cases h.1
theorem Tk.sign{N:Nat}{ts:aX}{x:aM}{c:Nat}(h:Tk N ts x)(hc:c=59\/c=123\/c=125\/c=64\/c=63\/c=95):x=[c]↔next ts=.sign c:=by
 unfold Tk at h;cases e:next ts with
 |word w=>
  rw[e] at h;obtain⟨rfl,d,r,rfl,h1,_⟩:=h;have:=ql h1
  constructor
  ·intro z;obtain⟨rfl,_⟩:=oB z;omega
  ·intro z;cases z
 |num n=>
  rw[e] at h
  constructor
  ·intro z;have:=h.1;rw[z,lj,eQ] at this;have:=kS this.1;omega
  ·intro z;cases z
 |sign d=>
  rw[e] at h;rw[h.1]
  constructor
  ·intro z;obtain⟨rfl,_⟩:=oB z;rfl
  ·intro z;cases z;rfl
 |none=>
  rw[e] at h;rw[h.1]
  constructor
  ·intro z;cases z
  ·intro z;cases z
theorem Tk.LJ{N:Nat}{ts:aX}{x w:aM}{c:Nat}{r:aM}(h:Tk N ts x)(hw:w=c::r)(hc:letter c=true):x=w↔next ts=.word w:=by
 constructor
 ·intro z;subst z;exact h.word hw hc
 ·intro z;unfold Tk at h;rw[z] at h;exact h.1
theorem Tk.none{N:Nat}{ts:aX}{x:aM}(h:Tk N ts x):x=[]↔next ts=.none:=by
 unfold Tk at h;cases e:next ts with
 |word w=>
  rw[e] at h;obtain⟨rfl,d,r,rfl,_⟩:=h;exact⟨(λz=>nomatch z),(λz=>nomatch z)⟩
 |num n=>
  rw[e] at h;refine⟨λz=> ?_,λz=>nomatch z⟩;have:=h.2.1;rw[z] at this;cases this
 |sign d=>
  rw[e] at h;rw[h.1];exact⟨(λz=>nomatch z),(λz=>nomatch z)⟩
 |none=>rw[e] at h;exact⟨λ_=>rfl,λ_=>h.1⟩
theorem Tk.ascii{N:Nat}{ts:aX}{x:aM}(h:Tk N ts x):∀c∈x,c<128:=by
 unfold Tk at h;intro c hc;cases e:next ts with
 |word w=>
  rw[e] at h;obtain⟨rfl,d,r,rfl,h1,h2⟩:=h;rcases cC.mp hc with z|z
  ·have:=ql h1;omega
  ·have:=UH (kH.mp h2 c z);omega
 |num n=>rw[e] at h;have:=kS (kH.mp h.1 c hc);omega
 |sign d=>rw[e] at h;rw[h.1] at hc;rw[oA.mp hc];omega
 |none=>rw[e] at h;rw[h.1] at hc;cases hc
theorem Tk.number{N:Nat}{ts:aX}{x:aM}(h:Tk N ts x){m:Nat}(hm:((m:Nat):Int)<=GREAT):fT m ts=match dZ x (m:Nat) with|some k=>.ok (k,ts.drop 1)|none=>.error (here ts):=by
 unfold fT;unfold Tk at h;cases e:next ts with
 |word w=>
  rw[e] at h;obtain⟨rfl,d,r,rfl,h1,_⟩:=h;rw[y8];rintro⟨_,z⟩;rw[lj,eQ] at z;have:=kS z.1;have:=ql h1;omega
 |num n=>
  rw[e] at h;obtain⟨h1,h2,rfl,h4⟩:=h;by_cases q:m<valueOf x
  ·rw[D4 (by omega)]
   simp only[q,if_true]
  ·rw[D3 h1 h2 (by omega)]
   simp only[q,if_false]
 |sign d=>
  rw[e] at h;obtain⟨rfl,h1⟩:=h;rw[y8];rintro⟨_,z⟩;rw[lj,eQ] at z;have:=kS z.1;omega
 |none=>rw[e] at h;rw[h.1,y8 λz=>z.1 rfl]
theorem Tk.reg{N:Nat}{ts:aX}{x:aM}(h:Tk N ts x){c n:Nat}(hc:letter c=true):reg c n ts=match dZ (x.drop 1) ((n:Int)-1) with|some k=>if x.take 1=[c] then .ok (k,ts.drop 1) else .error (here ts)|none=>.error (here ts):=by
 unfold qP;have lc:=ql hc;unfold Tk at h;have other:x.take 1≠[c]->(match dZ (x.drop 1) ((n:Int)-1) with|some k=>if x.take 1=[c] then BZ (k,ts.drop 1) else .error (here ts)|none=>.error (here ts))=(Except.error (here ts):Except Nat (Nat×aX)):=λz=>by
  cases dZ (x.drop 1) ((n:Int)-1) with
  |none=>rfl
  |some k=>simp only[z,if_false]
 cases e:next ts with
 |word w=>
  rw[e] at h;obtain⟨rfl,d,r,rfl,h1,h2⟩:=h;by_cases q:d=c
  ·subst q;simp only[xY,List.take_zero,List.drop_succ_cons,List.drop_zero,if_true,true_and];unfold dZ;by_cases z:r.all digit=true/\oneWay r=true/\valueOf r<n
   ·rw[if_pos z,if_pos ⟨z.1,z.2.1,by have:=z.2.2;omega⟩]
   ·rw[if_neg z,if_neg λy=>z ⟨y.1,y.2.1,by have:=y.2.2;omega⟩]
  ·rw[other λz=>q (oB z).1];simp only[q,false_and,if_false]
 |num k=>
  rw[e] at h;rw[other];intro z;cases x with
  |nil=>cases z
  |cons d r=>
   have e1:d=c:=(oB z).1;have:=h.1;rw[lj,eQ] at this;have:=kS this.1;omega
 |sign d=>
  rw[e] at h;rw[other];intro z;rw[h.1] at z;have e1:d=c:=(oB z).1;omega
 |none=>
  rw[e] at h;rw[other];intro z;rw[h.1] at z;cases z
section
variable{N n:Nat}{ts:aX}{x:aM}
theorem D6:∀w∈ops2,∃c r,w=c::r/\letter c=true:=by
 intro w hw;have:(ops2.all λw=>match w with|c::_=>letter c|[]=>false)=true:=by decide+kernel
 have:=kH.mp this w hw;cases w with
 |nil=>cases this
 |cons c r=>exact⟨c,r,rfl,this⟩
theorem UI:∀w∈ops1,∃c r,w=c::r/\letter c=true:=by
 intro w hw;have:(ops1.all λw=>match w with|c::_=>letter c|[]=>false)=true:=by decide+kernel
 have:=kH.mp this w hw;cases w with
 |nil=>cases this
 |cons c r=>exact⟨c,r,rfl,this⟩
theorem vP{l:List aM}{w:aM}{o:Nat}(h:opAt l w=some o):w∈l:=by
 obtain⟨h1,h2⟩:=rE h;unfold opName at h2;rw[eI h1] at h2;rw[<-h2];exact x6 h1
theorem Tk.UJ(h:Tk N ts x):operator2 ts=match opAt ops2 x with|some o=>.ok (o,ts.drop 1)|none=>.error (here ts):=by
 unfold operator2;cases e:opAt ops2 x with
 |some o=>
  obtain⟨c,r,hx,hc⟩:=D6 x (vP e);rw[h.word hx hc];simp only[e]
 |none=>
  unfold Tk at h;cases q:next ts with
  |word w=>rw[q] at h;rw[<-h.1];simp only[e]
  |num _=>rfl
  |sign _=>rfl
  |none=>rfl
theorem UK{x sh:aM}(h:shapeOf x=some sh):∃c r,x=c::r/\letter c=true:=by
 unfold shapeOf at h;by_cases o1:(opAt ops1 x).isSome=true
 ·obtain⟨o,ho⟩:=xS.mp o1;exact UI x (vP ho)
 rw[if_neg o1] at h;by_cases o2:(opAt ops2 x).isSome=true
 ·obtain⟨o,ho⟩:=xS.mp o2;exact D6 x (vP ho)
 rw[if_neg o2] at h;have all:∀s:String,x=str s->(match str s with|c::_=>letter c|[]=>false)=true->∃c r,x=c::r/\letter c=true:=λs e q=>by
  rw[<-e] at q;cases x with
  |nil=>cases q
  |cons c r=>exact⟨c,r,rfl,q⟩
 iterate 21
  rcases qi h with⟨q,h⟩|⟨_,h⟩
  ·exact all _ q (by decide+kernel)
 cases h
theorem Tk.shape(h:Tk N ts x){sh:aM}(hs:shapeOf x=some sh):next ts=.word x:=by
 obtain⟨c,r,hx,hc⟩:=UK hs;exact h.word hx hc
theorem Tk.y9(h:Tk N ts x):Vaarrj.number ts=fT 1000000000000000000 ts:=by
 unfold Vaarrj.number fT;unfold Tk at h;cases e:next ts with
 |num k=>
  rw[e] at h;have:=h.2.2.2;have e2:GREAT=1000000000000000000:=rfl;rw[e2] at this;have q: ¬1000000000000000000<k:=by omega
  simp only[q,if_false]
 |word _=>rfl
 |sign _=>rfl
 |none=>rfl
theorem UL{c:Nat}:aJ N (sign c ts)=if next ts=.sign c then c_ N ts else .error (here ts):=by
 unfold sign;by_cases h:next ts=.sign c
 ·rw[if_pos h,if_pos h,vN];unfold c_;cases aJ N (BZ ((),ts.drop 1))<;>rfl
 ·rw[if_neg h,if_neg h];rfl
theorem LK(h:Tk N ts x){m:Nat}(hm:((m:Nat):Int)<=GREAT):aJ N (fT m ts)=match dZ x (m:Nat) with|some k=>also (λ_=>k) (c_ N ts)|none=>.error (here ts):=by
 rw[h.number hm];cases dZ x (m:Nat) with
 |some k=>exact vN k ts
 |none=>rfl
theorem aft(h:Tk N ts x):aJ N (number ts)=match dZ x GREAT with|some k=>also (λ_=>k) (c_ N ts)|none=>.error (here ts):=by
 rw[h.y9];exact LK h (by decide)
theorem UM(h:Tk N ts x){c k:Nat}(hc:letter c=true):aJ N (reg c k ts)=match dZ (x.drop 1) ((k:Int)-1) with|some j=>if x.take 1=[c] then also (λ_=>j) (c_ N ts) else .error (here ts)|none=>.error (here ts):=by
 rw[h.reg hc];cases dZ (x.drop 1) ((k:Int)-1) with
 |some j=>
  by_cases z:x.take 1=[c]
  ·simp only[z,if_true];exact vN j ts
  ·simp only[z,if_false];rfl
 |none=>rfl
theorem UN(h:Tk N ts x):aJ N (operator2 ts)=match opAt ops2 x with|some o=>also (λ_=>o) (c_ N ts)|none=>.error (here ts):=by
 rw[h.UJ];cases opAt ops2 x with
 |some o=>exact vN o ts
 |none=>rfl
theorem UO(h:next ts=.sign 95):aJ N (signed ts)=(c_ N ts).bind λu=>also (λ(k:Nat)=> -(k:Int)) (aJ N (number u.2)):=by
 unfold signed;rw[if_pos h,gk,rG Lg];cases c_ N ts<;>rfl
theorem UP(h: ¬next ts=.sign 95):aJ N (signed ts)=also (λ(k:Nat)=>(k:Int)) (aJ N (number ts)):=by
 unfold signed;rw[if_neg h,gk]
theorem UQ:aJ N (place ts)=(aJ N (sign 64 ts)).bind λu=>aJ N (number u.2):=
 kQ (g:=λ_ ts=>number ts) _ λ_=>Lg
theorem UR(h:next ts=.sign 63):aJ N (i' ts)=(c_ N ts).bind λu=>also some (aJ N (mas u.2)):=by
 unfold i';rw[if_pos h,gk,rG Tj];cases c_ N ts<;>rfl
theorem US(hb: ¬bad N ts)(h: ¬next ts=.sign 63):aJ N (i' ts)=.ok (none,ts):=by
 unfold i';rw[if_neg h,i_ hb]
theorem afu{u:Unit×aX}(h:c_ N ts=.ok u):u.2=ts.drop 1/\ ¬bad N (ts.drop 1):=by
 by_cases b:bad N (ts.drop 1)
 ·rw[vL b] at h;cases h
 ·rw[vM b] at h;cases h;exact⟨rfl,b⟩
theorem afv:(bad N (ts.drop 1)/\c_ N ts=.error (here (ts.drop 1)))\/(¬bad N (ts.drop 1)/\c_ N ts=.ok ((),ts.drop 1)):=by
 by_cases b:bad N (ts.drop 1)
 ·exact .inl ⟨b,vL b⟩
 ·exact .inr ⟨b,vM b⟩
end
inductive End where
 |plain
 |one (b:c6)
 |two (b c:c6)
def oW(N:Nat)(sub:gH)(act:aM)(left:Nat)(ts:aX):Except Nat ((End×Nat)×aX):=
 if act=str "for" then(aJ N (sub left ts)).bind λb=>.ok ((.one b.1.1,b.1.2),b.2)
 else if act=str "when" then(aJ N (sub left ts)).bind λb=>if next b.2=.word (str "else") then(c_ N b.2).bind λu=>(aJ N (sub b.1.2 u.2)).bind λc=>.ok ((.two b.1.1 c.1.1,c.1.2),c.2) else .ok ((.two b.1.1 .nil,b.1.2),b.2)
 else(aJ N (sign 59 ts)).bind λu=>.ok ((.plain,left),u.2)
def LL(τ:Told)(e:End)(i:cw):Prop:=toldOf i=τ/\match e with
 | .plain=>(∀d c b,i≠ .for_ d c b)/\ (∀s b c,i≠ .when s b c)
 | .one b=>∃d c,i=.for_ d c b
 | .two b c=>∃s,i=.when s b c
theorem LM{n c:Nat}{τ:Told}{ts:aX}{x:Told×aX}(h:dX n c τ ts=.ok x):x.1.act=τ.act/\x.1.parts.length<=τ.parts.length+1/\x.1.args.length<=τ.args.length+1:=by
 unfold dX at h;have al:∀{A:Type} {f:A->Told} {r:Except Nat (A×aX)},also f r=.ok x->∃y,x.1=f y:=λ{A f r} h=>by
  cases r with
  |error p=>cases h
  |ok y=>cases h;exact⟨y.1,rfl⟩
 split at h
 ·obtain⟨y,e⟩:=al h;rw[e];exact⟨rfl,by simp[Told.vE],by simp[Told.vE]⟩
 split at h
 ·obtain⟨y,e⟩:=al h;rw[e];exact⟨rfl,by simp[Told.arg],by simp[Told.arg]⟩
 split at h
 ·obtain⟨y,e⟩:=al h;rw[e];exact⟨rfl,by simp[Told.vF],by simp[Told.vF]⟩
 split at h
 ·obtain⟨y,e⟩:=al h;rw[e];exact⟨rfl,by cases y<;>simp[Told.jM,kI],by simp[Told.jM]⟩
 ·obtain⟨y,e⟩:=al h;rw[e];exact⟨rfl,by simp[Told.arg],by simp[Told.arg]⟩
theorem UT{n c:Nat}{τ:Told}{ts:aX}{x:Told×aX}(hc:c≠63)(h:dX n c τ ts=.ok x):x.1.mask=τ.mask:=by
 unfold dX at h;have al:∀{A:Type} {f:A->Told} {r:Except Nat (A×aX)},also f r=.ok x->∃y,x.1=f y:=λ{A f r} h=>by
  cases r with
  |error p=>cases h
  |ok y=>cases h;exact⟨y.1,rfl⟩
 split at h
 ·obtain⟨y,e⟩:=al h;rw[e];rfl
 split at h
 ·obtain⟨y,e⟩:=al h;rw[e];rfl
 split at h
 ·obtain⟨y,e⟩:=al h;rw[e];rfl
 obtain⟨y,e⟩:=al h;rw[e];rfl
theorem nQ{A:Type}{N:Nat}{r:Except Nat (A×aX)}{x:A×aX}(h:aJ N r=.ok x):r=.ok x/\ ¬bad N x.2:=by
 cases r with
 |error p=>cases h
 |ok y=>
  by_cases b:bad N y.2
  ·rw[jL b] at h;cases h
  ·rw[i_ b] at h;cases h;exact⟨rfl,b⟩
theorem UU{n:Nat}:∀{sh:List Nat} {τ:Told} {ts:aX} {x:Told×aX},fG n sh τ ts=.ok x->x.1.act=τ.act
 |[],τ,ts,x,h=>by cases h;rfl
 |c::cs,τ,ts,x,h=>by
  rw[fG] at h;cases e:dX n c τ ts with
  |error p=>rw[e] at h;cases h
  |ok y=>
   rw[e] at h;rw[UU (sh:=cs) h,(LM e).1]
def way(N n:Nat)(sub:gH)(w sh:aM)(left:Nat)(ts:aX):Except Nat (Told×((End×Nat)×aX)):=
 (c_ N ts).bind λa=>(aJ N (fG n sh (dN w) a.2)).bind λτ=>(oW N sub (dN w).act (left-1) τ.2).bind λe=>.ok (τ.1,e)
theorem UW{w:aM}(h1:w≠str "for")(h2:w≠str "when"):(dN w).act≠str "for"/\ (dN w).act≠str "when":=by
 unfold dN
 split
 ·exact⟨by show str "one"≠_;decide+kernel,by show str "one"≠_;decide+kernel⟩
 split
 ·exact⟨by show str "two"≠_;decide+kernel,by show str "two"≠_;decide+kernel⟩
 ·exact⟨h1,h2⟩
theorem UX{n p:Nat}{w:aM}{ts:aX}{x:cw×aX}(h:gG n w p ts=.ok x):(∀d c b,x.1≠ .for_ d c b)/\ (∀s b c,x.1≠ .when s b c):=by
 have al:∀{A:Type} {f:A->cw} {r:Except Nat (A×aX)},(∀a,(∀d c b,f a≠ .for_ d c b)/\ (∀s b c,f a≠ .when s b c))->also f r=.ok x->(∀d c b,x.1≠ .for_ d c b)/\ (∀s b c,x.1≠ .when s b c):=λ{A f r} hf h=>by
  cases r with
  |error p=>cases h
  |ok y=>cases h;exact hf y.1
 unfold gG at h;dsimp only[maskOp] at h
 iterate 19
  rcases qi h with⟨_,h⟩|⟨_,h⟩
  ·exact al (by intro a;constructor<;>(intro _ _ _ z;cases z)) h
 cases e:opAt ops1 w with
 |some o=>rw[e] at h;exact al (by intro a;constructor<;>(intro _ _ _ z;cases z)) h
 |none=>
  rw[e] at h;cases e2:opAt ops2 w with
  |some o=>rw[e2] at h;exact al (by intro a;constructor<;>(intro _ _ _ z;cases z)) h
  |none=>rw[e2] at h;cases h
theorem UY{N n:Nat}{sub:gH}{w sh:aM}{left:Nat}{ts:aX}(oS:∀l,Wk N (sub l))(h:next ts=.word w)(h0:left≠0)(hs:shapeOf w=some sh):match way N n sub w sh left ts with
 | .error p=>aJ N (c7 n sub left ts)=.error p
 | .ok x=>∃i,aJ N (c7 n sub left ts)=.ok ((i,x.2.1.2),x.2.2)/\LL x.1 x.2.1.1 i:=by
 by_cases w1:w=str "for"
 ·subst w1;rw[Lk] at hs;cases hs;have e1:way N n sub (str "for") [115,115] left ts=(aJ N (two sca sca (ts.drop 1))).bind λh=>(aJ N (sub (left-1) h.2)).bind λb=>.ok (toldOf (.for_ h.1.1 h.1.2 .nil),((.one b.1.1,b.1.2),b.2)):=by
   unfold way;rw[rG (g:=two sca sca) (Tq Dz Dz),hZ];refine bind_congr λa=> ?_;rw[Tx,Uc,gk,vG];refine bind_congr λx=> ?_;have ea:(t0 (str "for")).act=str "for":=rfl;rw[ea];unfold oW;rw[if_pos rfl,hZ];rfl
  rw[e1,Ue oS h h0];cases aJ N (two sca sca (ts.drop 1)) with
  |error p=>rfl
  |ok x=>
   cases e2:aJ N (sub (left-1) x.2) with
   |error p=>simp only[i4,e2]
   |ok b=>
    simp only[i4,e2];exact⟨_,rfl,rfl,_,_,rfl⟩
 by_cases w2:w=str "when"
 ·subst w2;rw[Ll] at hs;cases hs;have e1:way N n sub (str "when") [115] left ts=(aJ N (sca (ts.drop 1))).bind λs=>(aJ N (sub (left-1) s.2)).bind λb=>(if next b.2=.word (str "else") then(c_ N b.2).bind λu=>(aJ N (sub b.1.2 u.2)).bind λc=>.ok ((End.two b.1.1 c.1.1,c.1.2),c.2) else .ok ((End.two b.1.1 .nil,b.1.2),b.2)).bind λe=>.ok (toldOf (.when s.1 .nil .nil),e):=by
   unfold way;rw[rG (g:=sca) Dz,hZ];refine bind_congr λa=> ?_;rw[Tz,Ud,gk,vG];refine bind_congr λx=> ?_;have ea:(t0 (str "when")).act=str "when":=rfl;rw[ea];unfold oW;rw[if_neg (by decide+kernel),if_pos rfl,hZ]
  rw[e1,Ug oS h h0];cases aJ N (sca (ts.drop 1)) with
  |error p=>rfl
  |ok x=>
   cases e2:aJ N (sub (left-1) x.2) with
   |error p=>simp only[i4,e2]
   |ok b=>
    have gb:=(nQ e2).2;by_cases el:next b.2=.word (str "else")
    ·have ey:=Ui oS (s:=x.1) (b:=b.1.1) (l:=b.1.2) el;simp only[i4,e2,el,if_true];rw[ey];cases e3:c_ N b.2 with
     |error p=>simp only[i4]
     |ok u=>
      simp only[i4];cases e4:aJ N (sub b.1.2 u.2) with
      |error p=>simp only
      |ok c=>exact⟨_,rfl,rfl,_,rfl⟩
    ·simp only[i4,e2,el,if_false];exact⟨_,Uh gb el,rfl,_,rfl⟩
 ·have a:=UW w1 w2;have e1:way N n sub w sh left ts=(aJ N (jq n sh (dN w) (ts.drop 1))).bind λτ=>.ok (τ.1,((.plain,left-1),τ.2)):=by
   unfold way;rw[rG (g:=jq n sh (dN w)) (Li n sh _)];cases c_ N ts with
   |error p=>rfl
   |ok u=>
    show((aJ N (fG n sh (dN w) u.2)).bind _)=(aJ N (jq n sh (dN w) u.2)).bind _;rw[Tu];cases aJ N (fG n sh (dN w) u.2) with
    |error p=>rfl
    |ok τ=>
     show(oW N sub (dN w).act (left-1) τ.2).bind _=(aJ N ((sign 59 τ.2).bind _)).bind _;unfold oW;rw[if_neg a.1,if_neg a.2];have e2:aJ N ((sign 59 τ.2).bind λu=>BZ (τ.1,u.2))=also (λ_=>τ.1) (aJ N (sign 59 τ.2)):=by
      rw[<-gk,gL]
     rw[e2];cases aJ N (sign 59 τ.2)<;>rfl
  rw[e1];cases e2:aJ N (jq n sh (dN w) (ts.drop 1)) with
  |error p=>exact Ua h h0 w1 w2 hs e2
  |ok x=>
   obtain⟨i,h1,h2,h3⟩:=Ub (sub:=sub) (τ:=x.1) (u:=x.2) h h0 w1 w2 hs e2;exact⟨i,h1,h2,UX h3⟩
def Dn(sub:gH):Prop:=∀l ts y,sub l ts=.ok y->y.1.2<=l
theorem D7{n:Nat}{sub:gH}(hs:Dn sub){left:Nat}{ts:aX}{x:(cw×Nat)×aX}(h:c7 n sub left ts=.ok x):x.1.2<left:=by
 unfold c7 at h
 split at h
 ·by_cases hl:left=0
  ·rw[if_pos hl] at h;cases h
  rw[if_neg hl] at h
  split at h
  ·cases e:two sca sca (ts.drop 1) with
   |error p=>rw[e] at h;cases h
   |ok a=>
    rw[e] at h;simp only[i4] at h;cases e2:sub (left-1) a.2 with
    |error p=>rw[e2] at h;cases h
    |ok b=>rw[e2] at h;cases h;have:=hs _ _ _ e2;show b.1.2<left;omega
  ·split at h
   ·cases e:sca (ts.drop 1) with
    |error p=>rw[e] at h;cases h
    |ok a=>
     rw[e] at h;simp only[i4] at h;cases e2:sub (left-1) a.2 with
     |error p=>rw[e2] at h;cases h
     |ok b=>
      rw[e2] at h;simp only at h;have h1:=hs _ _ _ e2
      split at h
      ·cases e3:sub b.1.2 (b.2.drop 1) with
       |error p=>rw[e3] at h;cases h
       |ok c=>rw[e3] at h;cases h;have:=hs _ _ _ e3;show c.1.2<left;omega
      ·cases h;show b.1.2<left;omega
   ·rename_i w _ _ _;cases e:gG n w (here ts) (ts.drop 1) with
    |error p=>rw[e] at h;cases h
    |ok i=>rw[e] at h;cases h;show left-1<left;omega
 ·cases h
theorem LN{n:Nat}{sub:gH}(hs:Dn sub):∀(k left:Nat) (ts:aX) (x:(c6×Nat)×aX),instrs n sub k left ts=.ok x->x.1.2<=left
 |0,left,ts,x,h=>by cases h;exact bE _
 |k+1,left,ts,x,h=>by
  by_cases q:∃w,next ts=.word w
  ·obtain⟨w,hw⟩:=q;rw[rF hw] at h;cases e:c7 n sub left ts with
   |error p=>rw[e] at h;cases h
   |ok i=>
    rw[e] at h;have h1:=D7 hs e;simp only[i4] at h;cases e2:instrs n sub k i.1.2 i.2 with
    |error p=>rw[e2] at h;cases h
    |ok b=>rw[e2] at h;cases h;have:=LN hs k _ _ _ e2;show b.1.2<=left;omega
  ·rw[kR λw hw=>q ⟨w,hw⟩] at h;cases h;exact bE _
theorem D8(n:Nat):∀k,Dn (braces n k)
 |0=>λl ts y h=>by cases h
 |k+1=>λl ts y h=>by
  rw[braces] at h;cases e:sign 123 ts with
  |error p=>rw[e] at h;cases h
  |ok u=>
   rw[e] at h;simp only[i4] at h;cases e2:instrs n (braces n k) (u.2.length+1) l u.2 with
   |error p=>rw[e2] at h;cases h
   |ok b=>
    rw[e2] at h;simp only at h;cases e3:sign 125 b.2 with
    |error p=>rw[e3] at h;cases h
    |ok z=>rw[e3] at h;cases h;have:=LN (D8 n k) _ _ _ _ e2;exact this
def pre(is:List cw)(b:c6):c6:=is.foldr x4 b
theorem LO(is:List cw)(i:cw)(b:c6):pre (is++[i]) b=pre is (.cons i b):=by unfold pre;rw[List.foldr_append];rfl
def vQ(sh:aM):Bool:=decide (sh.length<=5)&&sh.all (λc=>c==111||c==110||c==64||c==63||c==118||c==115||c==109||c==97)&&sh.dropLast.all (λc=>c !=63)
theorem UZ{x sh:aM}(h:shapeOf x=some sh):vQ sh=true:=by
 unfold shapeOf at h
 iterate 23
  rcases qi h with⟨_,h⟩|⟨_,h⟩
  ·cases h;decide
 cases h
theorem U0{sh:aM}(h:vQ sh=true):sh.length<=5:=by
 unfold vQ at h;simp only[eQ,decide_eq_true_eq] at h;exact h.1.1
theorem U1{sh:aM}(h:vQ sh=true){i c:Nat}(hi:sh[i]? =some c):(c=111\/c=110\/c=64\/c=63\/c=118\/c=115\/c=109\/c=97)/\ (c=63->i+1=sh.length):=by
 unfold vQ at h;simp only[eQ,decide_eq_true_eq,kH] at h
 constructor
 ·have:=h.1.2 c (d7 hi);simp only[pK,beq_iff_eq] at this;omega
 ·intro z;subst z;have hl:=(dy.mp hi).1;rcases B1 (i+1) sh.length with l|l
  ·have:sh.dropLast[i]? =some 63:=by rw[List.getElem?_dropLast,if_pos (by omega)];exact hi
   have:=h.2 63 (d7 this);cases this
  ·omega
theorem U2(m:Nat):bN (fT m) λk=>k<=m:=λts x ht h=>by
 unfold fT at h
 split at h
 ·split at h
  ·cases h
  ·cases h;exact⟨by show _<=_;omega,ht.drop 1⟩
 ·cases h
theorem U3:bN lR λk=>k<=1024:=λts x ht h=>
 bN.bind (f:=fT 1024) (g:=λk us=>(sign 59 us).bind λu=>.ok (k,u.2)) (U2 1024) (λk hk=>bN.bind (g:=λ_ us=>.ok (k,us)) (rH 59) λ_ _=>bN.ok hk) (ts.drop 1) x (ht.drop 1) h
theorem U4(k:Nat):bN (lengths k) λl=>l.length<=k/\ ∀n∈l,n<=1024:=by
 induction k with
 |zero=>
  intro ts x ht h;by_cases q:next ts=.word (str "array")
  ·rw[Lw q] at h;cases h
  ·rw[y4 q] at h;cases h;exact⟨⟨eV _,λn hn=>by cases hn⟩,ht⟩
 |succ k ih=>
  intro ts x ht h;by_cases q:next ts=.word (str "array")
  ·rw[Lx q] at h;refine bN.bind (Q:=λl:List Nat=>l.length<=k+1/\ ∀n∈l,n<=1024) (f:=lR) (g:=λa us=>also (λl=>a::l) (lengths k us)) U3 (λa ha=>bN.also ih λl hl=>⟨by rw[cI];omega,λn hn=> ?_⟩) ts x ht h
   rcases cC.mp hn with z|z
   ·rw[z];exact ha
   ·exact hl.2 n z
  ·rw[y4 q] at h;cases h;exact⟨⟨eV _,λn hn=>by cases hn⟩,ht⟩
structure Good(c:Code):Prop where
 ln:c.lengths.length<=32
 le:∀n∈c.lengths,n<=1024
 ok:fI c.lengths.length c.body 8
 size:c.body.size<=512
theorem U5{t:aM}{l:List Nat×aX}{b:(c6×Nat)×aX}(h1:aJ t.length (lengths 32 (tokens t))=.ok l)(h2:aJ t.length (tt t.length l.1.length (braces l.1.length 8) 512 l.2)=.ok b):Good ⟨l.1,b.1.1⟩/\b.1.1.size+b.1.2=512:=by
 obtain⟨⟨a1,a2⟩,a3⟩:=U4 32 _ l (ua _ _ _) (nQ h1).1;obtain⟨⟨b1,b2⟩,_⟩:=Ut (N:=t.length) (LA l.1.length 8) 512 _ b a3 (nQ h2).1;exact⟨⟨a1,a2,b1,by show b.1.1.size<=512;omega⟩,b2⟩
mutual
theorem LP:∀i:cw,(joined (bG i)).length<=320*i.size
 | .for_ d n b=>by
   have h:=uc b;have hd:=oU (.for_ d n b);simp only[toldOf] at hd;rw[bG,dY,jN];have e1:(str " {").length=2:=rfl;have e2:(joined [str "}"]).length=2:=rfl;simp only[bU,cI,eJ,eB];omega
 | .when x b .nil=>by
   have h:=uc b;have hd:=oU (.when x b .nil);simp only[toldOf] at hd;rw[bG,dY,jN,sU];have e1:(str " {").length=2:=rfl;have e2:(joined [str "}"]).length=2:=rfl;simp only[bU,cI,eJ,eB,lA];omega
 | .when x b (.cons i r)=>by
   have h:=uc b;have h2:=LP i;have h3:=uc r;have hd:=oU (.when x b .nil);simp only[toldOf] at hd;rw[bG,dY,jN,jN,dY,jN];have e1:(str " {").length=2:=rfl;have e2:(joined [str "}"]).length=2:=rfl;have e3:(str "} else {").length=8:=rfl;simp only[bU,cI,eJ,eB,lA];omega
 | .lanes d k=>by simp only[bG];rw[dY,gA,dz,bU];have:=gB (.lanes d k);simp only[eB,cI,eJ];omega
 | .const d n k=>by simp only[bG];rw[dY,gA,dz,bU];have:=gB (.const d n k);simp only[eB,cI,eJ];omega
 | .fill d x k=>by simp only[bG];rw[dY,gA,dz,bU];have:=gB (.fill d x k);simp only[eB,cI,eJ];omega
 | .copy d x k=>by simp only[bG];rw[dY,gA,dz,bU];have:=gB (.copy d x k);simp only[eB,cI,eJ];omega
 | .one o d x p k=>by simp only[bG];rw[dY,gA,dz,bU];have:=gB (.one o d x p k);simp only[eB,cI,eJ];omega
 | .two o d x y p k=>by simp only[bG];rw[dY,gA,dz,bU];have:=gB (.two o d x y p k);simp only[eB,cI,eJ];omega
 | .read d r x k=>by simp only[bG];rw[dY,gA,dz,bU];have:=gB (.read d r x k);simp only[eB,cI,eJ];omega
 | .pick d r x p k=>by simp only[bG];rw[dY,gA,dz,bU];have:=gB (.pick d r x p k);simp only[eB,cI,eJ];omega
 | .write r x y k=>by simp only[bG];rw[dY,gA,dz,bU];have:=gB (.write r x y k);simp only[eB,cI,eJ];omega
 | .test d x k=>by simp only[bG];rw[dY,gA,dz,bU];have:=gB (.test d x k);simp only[eB,cI,eJ];omega
 | .tail d x=>by simp only[bG];rw[dY,gA,dz,bU];have:=gB (.tail d x);simp only[eB,cI,eJ];omega
 | .both d x y=>by simp only[bG];rw[dY,gA,dz,bU];have:=gB (.both d x y);simp only[eB,cI,eJ];omega
 | .less d x y=>by simp only[bG];rw[dY,gA,dz,bU];have:=gB (.less d x y);simp only[eB,cI,eJ];omega
 | .either d x y=>by simp only[bG];rw[dY,gA,dz,bU];have:=gB (.either d x y);simp only[eB,cI,eJ];omega
 | .count d x=>by simp only[bG];rw[dY,gA,dz,bU];have:=gB (.count d x);simp only[eB,cI,eJ];omega
 | .num d n=>by simp only[bG];rw[dY,gA,dz,bU];have:=gB (.num d n);simp only[eB,cI,eJ];omega
 | .width d=>by simp only[bG];rw[dY,gA,dz,bU];have:=gB (.width d);simp only[eB,cI,eJ];omega
 | .calc o d x y p=>by simp only[bG];rw[dY,gA,dz,bU];have:=gB (.calc o d x y p);simp only[eB,cI,eJ];omega
 | .get d x y=>by simp only[bG];rw[dY,gA,dz,bU];have:=gB (.get d x y);simp only[eB,cI,eJ];omega
 | .put x y z=>by simp only[bG];rw[dY,gA,dz,bU];have:=gB (.put x y z);simp only[eB,cI,eJ];omega
 | .raise=>by simp only[bG];rw[dY,gA,dz,bU];have:=gB (.raise);simp only[eB,cI,eJ];omega
theorem uc:∀b:c6,(joined (du b)).length<=320*b.size
 | .nil=>by rw[du];exact eV _
 | .cons i r=>by
   have h:=LP i;have h2:=uc r;rw[du,jN,bU];simp only[lA];omega
end
theorem D9{c:Code}(g:Good c):(codeText c).length<=166000:=by
 rw[DX];unfold iT;rw[jN,bU];have h:=uc c.body;have s:=g.size;have a:(joined (c.lengths.map λn=>(str "array "++dec n)++str ";")).length<=(47+1)*(c.lengths.map λn=>(str "array "++dec n)++str ";").length:=y6 _ λx hx=>by
  obtain⟨n,_,rfl⟩:=mY.mp hx;have:=iU n;have e1:(str "array ").length=6:=rfl;have e2:(str ";").length=1:=rfl;rw[bU,bU];omega
 rw[bx] at a;have l:=g.ln;omega
end MP
namespace MR
open Vaarrj
structure WF(x:bj):Prop where
 w1:1<=x.width
 fA:x.width<=16
 vs:x.vs.length=16
 vl:∀v∈x.vs,v.length=x.width
 ss:x.ss.length=16
 ms:x.ms.length=8
 ml:∀v∈x.ms,v.length=x.width
 fl:x.faults.length=x.width
def Num(n:Int):Prop:= -GREAT<=n/\n<=GREAT
structure Nums(x:bj):Prop where
 vs:∀v∈x.vs,∀n∈v,Num n
 ss:∀n∈x.ss,Num n
 ar:∀a∈x.arrays,∀n∈a,Num n
def oY(x:bj)(d l:Nat)(n:Int):bj:=setVec x d ((c8 x d).set l n)
def gC(x:bj)(l:Nat)(e:Fault):bj:={x with faults:=x.faults.set l (some e)}
def ki(x:bj)(d l:Nat)(b:Bool):bj:=setMask x d ((maskOf x d).set l b)
def eF(d:Nat)(f:Nat->Except Fault Int)(y:bj)(l:Nat):bj:=match f l with
 | .ok n=>oY y d l n
 | .error e=>gC y l e
def cU(x:bj)(m:Option Nat):List Nat:=(cB x.width).filter (active x m)
def dk(x:bj):List Nat:=(cB x.width).filter λl=>((x.faults[l]?).getD none).isNone
theorem oZ{α:Type}(l:List α)(i j:Nat)(a d:α):((l.set i a)[j]?).getD d=if i=j/\i<l.length then a else(l[j]?).getD d:=by
 by_cases h:i=j
 ·subst h;by_cases hl:i<l.length
  ·rw[uS hl,if_pos ⟨rfl,hl⟩];rfl
  ·rw[if_neg λz=>hl z.2,pG (by rw[gV];omega),pG (by omega)]
 ·rw[uT h,if_neg λz=>h z.1]
theorem ud{α:Type}{l r:List α}(d:α)(h:l.length=r.length)(hg:∀i,i<l.length->(l[i]?).getD d=(r[i]?).getD d):l=r:=by
 refine List.ext_getElem h λi h1 h2=> ?_;have q:=hg i h1;rw[eI h1,eI h2] at q;exact q
theorem D_{α:Type}(l:List α)(i:Nat)(d:α):l.set i ((l[i]?).getD d)=l:=by
 by_cases h:i<l.length
 ·rw[eI h];exact List.set_getElem_self h
 ·exact afi (by omega)
section
variable{x y:bj}{d k l:Nat}{n:Int}
theorem LQ(x:bj)(d k:Nat)(v:List Int):c8 (setVec x d v) k=if d=k/\d<x.vs.length then v else c8 x k:=oZ _ _ _ _ _
theorem U6(x:bj)(d l k j:Nat)(n:Int):bP (oY x d l n) k j=if d=k/\d<x.vs.length/\l=j/\l<(c8 x d).length then n else bP x k j:=by
 unfold bP oY;rw[LQ];by_cases h:d=k/\d<x.vs.length
 ·obtain⟨rfl,h2⟩:=h;rw[if_pos ⟨rfl,h2⟩,oZ];by_cases h3:l=j/\l<(c8 x d).length
  ·rw[if_pos h3,if_pos ⟨rfl,h2,h3⟩]
  ·rw[if_neg h3,if_neg λz=>h3 z.2.2]
 ·rw[if_neg h,if_neg λz=>h ⟨z.1,z.2.1⟩]
theorem LR(x:bj)(d k:Nat)(v:List Bool):maskOf (setMask x d v) k=if d=k/\d<x.ms.length then v else maskOf x k:=oZ _ _ _ _ _
theorem U7(x:bj)(d l k j:Nat)(b:Bool):fk (ki x d l b) k j=if d=k/\d<x.ms.length/\l=j/\l<(maskOf x d).length then b else fk x k j:=by
 unfold fk ki;rw[LR];by_cases h:d=k/\d<x.ms.length
 ·obtain⟨rfl,h2⟩:=h;rw[if_pos ⟨rfl,h2⟩,oZ];by_cases h3:l=j/\l<(maskOf x d).length
  ·rw[if_pos h3,if_pos ⟨rfl,h2,h3⟩]
  ·rw[if_neg h3,if_neg λz=>h3 z.2.2]
 ·rw[if_neg h,if_neg λz=>h ⟨z.1,z.2.1⟩]
theorem WF.vec(W:WF x)(h:k<16):(c8 x k).length=x.width:=by
 have hk:k<x.vs.length:=by rw[W.vs];exact h
 unfold c8;rw[eI hk];exact W.vl _ (x6 hk)
theorem WF.mask(W:WF x)(h:k<8):(maskOf x k).length=x.width:=by
 have hk:k<x.ms.length:=by rw[W.ms];exact h
 unfold maskOf;rw[eI hk];exact W.ml _ (x6 hk)
theorem U8(h:k<x.ss.length):x.ss[k]? =some (dI x k):=by
 unfold dI;rw[eI h];rfl
theorem y_(h:l<(c8 x k).length):(c8 x k)[l]? =some (bP x k l):=by
 unfold bP;rw[eI h];rfl
theorem LS(h:l<(maskOf x k).length):(maskOf x k)[l]? =some (fk x k l):=by
 unfold fk;rw[eI h];rfl
theorem mem_set{α:Type}{l:List α}{i:Nat}{a b:α}(h:b∈l.set i a):b=a\/b∈l:=by
 rcases List.mem_or_eq_of_mem_set h with q|q
 ·exact .inr q
 ·exact .inl q
theorem WF.setVec(W:WF x){v:List Int}(hv:v.length=x.width)(d:Nat):WF (setVec x d v):=
 ⟨W.w1,W.fA,by show(x.vs.set d v).length=16;rw[gV];exact W.vs,λu hu=>by
   rcases mem_set hu with q|q
   ·rw[q];exact hv
   ·exact W.vl u q,W.ss,W.ms,W.ml,W.fl⟩
theorem WF.setMask(W:WF x){v:List Bool}(hv:v.length=x.width)(d:Nat):WF (setMask x d v):=
 ⟨W.w1,W.fA,W.vs,W.vl,W.ss,by show(x.ms.set d v).length=8;rw[gV];exact W.ms,λu hu=>by
   rcases mem_set hu with q|q
   ·rw[q];exact hv
   ·exact W.ml u q,W.fl⟩
theorem WF.oY(W:WF x)(hd:d<16)(l:Nat)(n:Int):WF (oY x d l n):=WF.setVec W (by rw[gV];exact W.vec hd) d
theorem WF.gC(W:WF x)(l:Nat)(e:Fault):WF (gC x l e):=⟨W.w1,W.fA,W.vs,W.vl,W.ss,W.ms,W.ml,by show(x.faults.set l _).length=_;rw[gV];exact W.fl⟩
theorem WF.ki(W:WF x)(hd:d<8)(l:Nat)(b:Bool):WF (ki x d l b):=WF.setMask W (by rw[gV];exact W.mask hd) d
theorem WF.setScalar(W:WF x)(d:Nat)(n:Int):WF (setScalar x d n):=⟨W.w1,W.fA,W.vs,W.vl,by show(x.ss.set d n).length=16;rw[gV];exact W.ss,W.ms,W.ml,W.fl⟩
theorem WF.arrays(W:WF x)(a:List (List Int)):WF {x with arrays:=a}:=⟨W.w1,W.fA,W.vs,W.vl,W.ss,W.ms,W.ml,W.fl⟩
theorem WF.eF(W:WF x)(hd:d<16)(f:Nat->Except Fault Int)(l:Nat):WF (eF d f x l):=by
 unfold MR.eF;cases f l with
 |ok n=>exact W.oY hd l n
 |error e=>exact W.gC l e
end
def part(x:bj)(d:Nat)(f:Nat->Except Fault Int)(q:List Nat):bj:=
 {setVec x d ((cB x.width).map λl=>if l∈q then(match f l with| .ok n=>n| .error _=>bP x d l) else bP x d l) with
  faults:=(cB x.width).map λl=>if l∈q then(match f l with| .ok _=>(x.faults[l]?).getD none| .error e=>some e) else(x.faults[l]?).getD none}
theorem U9{x:bj}{d:Nat}(h:(c8 x d).length=x.width):(cB x.width).map (λl=>bP x d l)=c8 x d:=by
 refine ud 0 (by rw[bx,iy,h]) λi hi=> ?_
 rw[bx,iy] at hi;rw[dH,qQ hi];rfl
theorem U_(x:bj)(d:Nat):setVec x d (c8 x d)=x:=by
 have e:x.vs.set d (c8 x d)=x.vs:=D_ _ _ _;unfold setVec;rw[e]
theorem U'{x:bj}(h:x.faults.length=x.width):(cB x.width).map (λl=>(x.faults[l]?).getD none)=x.faults:=by
 refine ud none (by rw[bx,iy,h]) λi hi=> ?_
 rw[bx,iy] at hi;rw[dH,qQ hi];rfl
theorem Va{x:bj}(W:WF x){d:Nat}(hd:d<16)(f:Nat->Except Fault Int):part x d f []=x:=by
 unfold part;simp only[List.not_mem_nil,if_false];rw[U9 (W.vec hd),U' W.fl,U_]
theorem Vb{x:bj}(W:WF x){d:Nat}(hd:d<16)(f:Nat->Except Fault Int)(q:List Nat)(l:Nat)(hl:l<x.width)(hn:l∉q):eF d f (part x d f q) l=part x d f (q++[l]):=by
 have Ea:d<x.vs.length:=by rw[W.vs];exact hd
 have key:∀j:Nat,(j∈q++[l])↔(j∈q\/j=l):=λj=>by simp
 unfold eF;cases hf:f l with
 |ok n=>
  show oY (part x d f q) d l n=_;unfold oY part;have e1:c8 {setVec x d ((cB x.width).map λl=>if l∈q then(match f l with| .ok n=>n| .error _=>bP x d l) else bP x d l) with
   faults:=(cB x.width).map λl=>if l∈q then(match f l with| .ok _=>(x.faults[l]?).getD none| .error e=>some e) else(x.faults[l]?).getD none} d=((cB x.width).map λl=>if l∈q then(match f l with| .ok n=>n| .error _=>bP x d l) else bP x d l):=by
   have q:=LQ x d d ((cB x.width).map λl=>if l∈q then(match f l with| .ok n=>n| .error _=>bP x d l) else bP x d l)
   rw[if_pos ⟨rfl,Ea⟩] at q;exact q
  rw[e1];unfold setVec;simp only[List.set_set];have ev:((cB x.width).map λl=>if l∈q then(match f l with| .ok n=>n| .error _=>bP x d l) else bP x d l).set l n=(cB x.width).map λj=>if j∈q++[l] then(match f j with| .ok n=>n| .error _=>bP x d j) else bP x d j:=by
   refine ud 0 (by simp) λi hi=> ?_
   simp only[gV,bx,iy] at hi;rw[oZ];simp only[dH,qQ hi,P4,P5,bx,iy,key];by_cases lV:l=i
   ·subst lV;simp[hl,hf]
   ·have vR: ¬i=l:=λz=>lV z.symm;simp[lV,vR]
  have ef:((cB x.width).map λl=>if l∈q then(match f l with| .ok _=>(x.faults[l]?).getD none| .error e=>some e) else(x.faults[l]?).getD none)=(cB x.width).map λj=>if j∈q++[l] then(match f j with| .ok _=>(x.faults[j]?).getD none| .error e=>some e) else(x.faults[j]?).getD none:=by
   refine pJ λj _=> ?_;simp only[key];by_cases vS:j=l
   ·subst vS;simp[hn,hf]
   ·simp[vS]
  rw[ev,ef]
 |error e=>
  show gC (part x d f q) l e=_;unfold gC part;have ev:((cB x.width).map λl=>if l∈q then(match f l with| .ok n=>n| .error _=>bP x d l) else bP x d l)=(cB x.width).map λj=>if j∈q++[l] then(match f j with| .ok n=>n| .error _=>bP x d j) else bP x d j:=by
   refine pJ λj _=> ?_;simp only[key];by_cases vS:j=l
   ·subst vS;simp[hn,hf]
   ·simp[vS]
  have ef:((cB x.width).map λl=>if l∈q then(match f l with| .ok _=>(x.faults[l]?).getD none| .error e=>some e) else(x.faults[l]?).getD none).set l (some e)=(cB x.width).map λj=>if j∈q++[l] then(match f j with| .ok _=>(x.faults[j]?).getD none| .error e=>some e) else(x.faults[j]?).getD none:=by
   refine ud none (by simp) λi hi=> ?_
   simp only[gV,bx,iy] at hi;rw[oZ];simp only[dH,qQ hi,P4,P5,bx,iy,key];by_cases lV:l=i
   ·subst lV;simp[hl,hf]
   ·have vR: ¬i=l:=λz=>lV z.symm;simp[lV,vR]
  rw[ev];show({(setVec x d _) with faults:=_}:bj)=_
  rw[ef]
theorem LU{x:bj}(W:WF x){d:Nat}(hd:d<16)(f:Nat->Except Fault Int):∀(r q:List Nat),(∀l∈r,l<x.width)->(q++r).Nodup->r.foldl (eF d f) (part x d f q)=part x d f (q++r)
 |[],q,_,_=>by rw[dz];rfl
 |l::r,q,h1,h2=>by
  have hn:l∉q:=λz=>by
   have:=(u6.mp h2).2.2 l z l iL;exact this rfl
  rw[uZ,Vb W hd f q l (h1 l iL) hn,LU W hd f r (q++[l]) (λj hj=>h1 j (fD _ hj)) (by simpa using h2)]
  simp
theorem LV(x:bj)(m:Option Nat):(cU x m).Nodup:=List.nodup_range.sublist List.filter_sublist
theorem vT{x:bj}{m:Option Nat}{l:Nat}(h:l∈cU x m):l<x.width:=qG.mp (BF.mp h).1
theorem ue{x:bj}{m:Option Nat}{l:Nat}:l∈cU x m↔l<x.width/\active x m l=true:=by
 unfold cU;rw[BF,qG]
theorem Vc{x:bj}{m:Option Nat}{l:Nat}(h:active x m l=true):(x.faults[l]?).getD none=none:=by
 unfold active at h;rw[eQ] at h;exact Option.isNone_iff_eq_none.mp h.1
def vf(x:bj)(d:Nat)(A:List Int)(B:List (Option Fault)):bj:={setVec x d A with faults:=B}
theorem Vd{x:bj}{d:Nat}{A A':List Int}{B B':List (Option Fault)}(h:A=A')(h':B=B'):vf x d A B=vf x d A' B':=by rw[h,h']
theorem Ve{x:bj}(m:Option Nat)(d:Nat)(f:Nat->Except Fault Int):inLanes x m d f=part x d f (cU x m):=by
 unfold inLanes part;simp only[iO];show vf x d _ _=vf x d _ _;refine Vd ?_ ?_
 ·refine pJ λl hl=> ?_;have hw:l<x.width:=qG.mp hl;by_cases h:active x m l=true
  ·have hm:l∈cU x m:=ue.mpr ⟨hw,h⟩;simp only[Jf,h,if_true,hm];cases f l<;>rfl
  ·have hm: ¬l∈cU x m:=λz=>h (ue.mp z).2;simp only[Jf,h,if_false,hm];rfl
 ·refine pJ λl hl=> ?_;have hw:l<x.width:=qG.mp hl;by_cases h:active x m l=true
  ·have hm:l∈cU x m:=ue.mpr ⟨hw,h⟩;simp only[Jf,h,if_true,hm,Vc h];cases f l<;>rfl
  ·have hm: ¬l∈cU x m:=λz=>h (ue.mp z).2;simp only[Jf,h,if_false,hm];rfl
theorem Vf{x:bj}(W:WF x)(m:Option Nat){d:Nat}(hd:d<16)(f:Nat->Except Fault Int):(cU x m).foldl (eF d f) x=inLanes x m d f:=by
 have q:=LU W hd f (cU x m) [] (λl=>vT) (by simpa using LV x m)
 rw[Va W hd] at q;rw[q,Ve];rfl
section
variable{d:Nat}{f:Nat->Except Fault Int}
theorem Vg(y:bj)(l:Nat):(eF d f y l).width=y.width:=by unfold eF;cases f l<;>rfl
theorem Vh(y:bj)(l:Nat):(eF d f y l).ss=y.ss:=by unfold eF;cases f l<;>rfl
theorem Vi(y:bj)(l:Nat):(eF d f y l).ms=y.ms:=by unfold eF;cases f l<;>rfl
theorem Vj(y:bj)(l:Nat):(eF d f y l).arrays=y.arrays:=by unfold eF;cases f l<;>rfl
theorem Vk(y:bj){l k:Nat}(a:Nat)(h:l≠k):bP (eF d f y l) a k=bP y a k:=by
 unfold eF;cases f l with
 |ok n=>show bP (oY y d l n) a k=_;rw[U6,if_neg λz=>h z.2.2.1]
 |error e=>rfl
theorem Vl(y:bj){l k:Nat}(h:l≠k):((eF d f y l).faults[k]?).getD none=(y.faults[k]?).getD none:=by
 unfold eF;cases f l with
 |ok n=>rfl
 |error e=>show((y.faults.set l (some e))[k]?).getD none=_;rw[oZ,if_neg λz=>h z.1]
structure rJ(x y:bj)(q:List Nat):Prop where
 wf:WF y
 w:y.width=x.width
 ss:y.ss=x.ss
 ms:y.ms=x.ms
 ar:y.arrays=x.arrays
 iB:∀a l,l∉q->bP y a l=bP x a l
 fault:∀l,l∉q->(y.faults[l]?).getD none=(x.faults[l]?).getD none
theorem rJ.start{x:bj}(W:WF x):rJ x x []:=⟨W,rfl,rfl,rfl,rfl,λ_ _ _=>rfl,λ_ _=>rfl⟩
theorem rJ.step{x y:bj}{q:List Nat}{l:Nat}(M:rJ x y q)(hd:d<16):rJ x (eF d f y l) (q++[l]):=
 ⟨M.wf.eF hd f l,by rw[Vg,M.w],by rw[Vh,M.ss],by rw[Vi,M.ms],by rw[Vj,M.ar],
  λa k hk=>by
   have h1:k∉q:=λz=>hk (by simp[z])
   have h2:l≠k:=λz=>hk (by simp[z])
   rw[Vk y a h2,M.iB a k h1],
  λk hk=>by
   have h1:k∉q:=λz=>hk (by simp[z])
   have h2:l≠k:=λz=>hk (by simp[z])
   rw[Vl y h2,M.fault k h1]⟩
end
theorem take_snoc{α:Type}{l:List α}{i:Nat}{x:α}(h:l[i]? =some x):l.take (i+1)=l.take i++[x]:=by
 obtain⟨hi,e⟩:=dy.mp h;rw[List.take_succ,h];rfl
theorem LW{α:Type}{l:List α}(hn:l.Nodup){i:Nat}{x:α}(h:l[i]? =some x):x∉l.take i:=by
 have hs:l.take (i+1)=l.take i++[x]:=take_snoc h;have y':(l.take (i+1)).Nodup:=hn.sublist (List.take_sublist _ _);rw[hs] at y';intro z;exact(u6.mp y').2.2 x z x (by simp) rfl
theorem Vm{y:bj}(W:WF y){l:Nat}(hl:l<y.width)(e:Fault):dk (gC y l e)=(dk y).filter λk=>k !=l:=by
 unfold dk gC;rw[List.filter_filter];refine P6 λk hk=> ?_;have hk:k<y.width:=qG.mp hk;show(((y.faults.set l (some e))[k]?).getD none).isNone=_;rw[oZ];by_cases h:l=k
 ·subst h;rw[if_pos ⟨rfl,by rw[W.fl];exact hl⟩]
  simp
 ·rw[if_neg λz=>h z.1];have:(k !=l)=true:=by simpa usingλz=>h z.symm
  rw[this,Bool.true_and]
theorem Vn(x:bj):cU x none=dk x:=by
 unfold cU dk;refine P6 λl _=> ?_;simp[active]
theorem Vo(x:bj)(k:Nat):cU x (some k)=(dk x).filter (fk x k):=by
 unfold cU dk;rw[List.filter_filter];refine P6 λl _=> ?_;simp[active,Bool.and_comm]
def rK(x:bj)(r a b:Nat)(y:bj)(l:Nat):bj:=
 if 0<=bP x a l/\bP x a l<((dJ x r).length:Int) then{y with arrays:=y.arrays.set r ((dJ y r).set (bP x a l).toNat (bP x b l))}
 else gC y l (OUT,0)
theorem za(x:bj)(m:Option Nat)(r a b:Nat):∀(q:List Nat) (y:bj),B2 x m r a b q y=(q.filter (active x m)).foldl (rK x r a b) y
 |[],_=>rfl
 |l::q,y=>by
  unfold B2;rw[Jg];by_cases h:active x m l=true
  ·rw[if_pos h,if_pos h,uZ];unfold rK;by_cases h2:0<=bP x a l/\bP x a l<((dJ x r).length:Int)
   ·simp only[h2,and_self,if_true];exact za x m r a b q _
   ·simp only[h2,if_false];exact za x m r a b q _
  ·rw[if_neg h,if_neg h];exact za x m r a b q y
theorem LX{x:bj}{d:Nat}(h:(maskOf x d).length=x.width):(cB x.width).map (λl=>fk x d l)=maskOf x d:=by
 refine ud false (by rw[bx,iy,h]) λi hi=> ?_
 rw[bx,iy] at hi;rw[dH,qQ hi];rfl
theorem Vp(x:bj)(d:Nat):setMask x d (maskOf x d)=x:=by
 have e:x.ms.set d (maskOf x d)=x.ms:=D_ _ _ _;unfold setMask;rw[e]
def o3(x:bj)(d:Nat)(f:Nat->Bool)(q:List Nat):bj:=setMask x d ((cB x.width).map λl=>if l∈q then f l else fk x d l)
theorem LY{x:bj}(W:WF x){d:Nat}(hd:d<8)(f:Nat->Bool):o3 x d f []=x:=by
 unfold o3;simp only[List.not_mem_nil,if_false];rw[LX (W.mask hd),Vp]
theorem Vq{x:bj}(W:WF x){d:Nat}(hd:d<8)(f:Nat->Bool)(q:List Nat)(l:Nat)(hl:l<x.width):ki (o3 x d f q) d l (f l)=o3 x d f (q++[l]):=by
 have Ea:d<x.ms.length:=by rw[W.ms];exact hd
 unfold ki o3;rw[LR,if_pos ⟨rfl,Ea⟩];unfold setMask;simp only[List.set_set];have ev:((cB x.width).map λl=>if l∈q then f l else fk x d l).set l (f l)=(cB x.width).map λj=>if j∈q++[l] then f j else fk x d j:=by
  refine ud false (by simp) λi hi=> ?_
  simp only[gV,bx,iy] at hi;rw[oZ];simp only[dH,qQ hi,P4,P5,bx,iy];by_cases lV:l=i
  ·subst lV;simp[hl]
  ·have vR: ¬i=l:=λz=>lV z.symm;simp[lV,vR]
 rw[ev]
theorem Eb{x:bj}(W:WF x){d:Nat}(hd:d<8)(f:Nat->Bool):∀(r q:List Nat),(∀l∈r,l<x.width)->r.foldl (λy l=>ki y d l (f l)) (o3 x d f q)=o3 x d f (q++r)
 |[],q,_=>by rw[dz];rfl
 |l::r,q,h1=>by
  rw[uZ,Vq W hd f q l (h1 l iL),Eb W hd f r (q++[l]) (λj hj=>h1 j (fD _ hj))];simp
theorem LZ{x:bj}(W:WF x){d:Nat}(hd:d<8)(f:Nat->Bool):(cB x.width).foldl (λy l=>ki y d l (f l)) x=maskLanes x d f:=by
 have q:=Eb W hd f (cB x.width) [] (λl h=>qG.mp h);rw[LY W hd] at q;rw[q];unfold o3 maskLanes
 congr 1
 refine pJ λl hl=> ?_;rw[sU,if_pos hl]
theorem Vr{x:bj}(W:WF x){d:Nat}(hd:d<8)(m:Option Nat)(f:Nat->Bool):(cU x m).foldl (λy l=>ki y d l (f l)) x=maskLanes x d λl=>if active x m l=true then f l else fk x d l:=by
 have q:=Eb W hd f (cU x m) [] (λl h=>vT h);rw[LY W hd] at q;rw[q];unfold o3 maskLanes
 congr 1
 refine pJ λl hl=> ?_;have hw:l<x.width:=qG.mp hl;rw[sU];by_cases h:active x m l=true
 ·rw[if_pos (ue.mpr ⟨hw,h⟩),if_pos h]
 ·rw[if_neg λz=>h (ue.mp z).2,if_neg h]
structure rL(x y:bj)(d:Nat)(q:List Nat):Prop where
 wf:WF y
 w:y.width=x.width
 vs:y.vs=x.vs
 ss:y.ss=x.ss
 ar:y.arrays=x.arrays
 fl:y.faults=x.faults
 on:∀a l,l∉q->fk y a l=fk x a l
theorem rL.start{x:bj}(W:WF x)(d:Nat):rL x x d []:=⟨W,rfl,rfl,rfl,rfl,rfl,λ_ _ _=>rfl⟩
theorem rL.step{x y:bj}{d l:Nat}{q:List Nat}(M:rL x y d q)(hd:d<8)(b:Bool):rL x (ki y d l b) d (q++[l]):=
 ⟨M.wf.ki hd l b,M.w,M.vs,M.ss,M.ar,M.fl,λa k hk=>by
   have h1:k∉q:=λz=>hk (by simp[z])
   have h2:l≠k:=λz=>hk (by simp[z])
   rw[U7,if_neg λz=>h2 z.2.2.1,M.on a k h1]⟩
theorem L0:∀(q:List Nat) (g:Nat->Bool),((q.filter g).length:Int)=(q.map λl=>if g l=true then(1:Int) else 0).sum
 |[],_=>rfl
 |l::q,g=>by
  rw[Jg,i0,u5,<-L0 q g];by_cases h:g l=true
  ·rw[if_pos h,if_pos h,cI];omega
  ·rw[if_neg h,if_neg h];omega
theorem Vs{x:bj}{a:Nat}(h:(maskOf x a).length=x.width):((((cB x.width).filter (fk x a)).length:Nat):Int)=((maskOf x a).map λb=>if b=true then(1:Int) else 0).sum:=by
 rw[L0,<-LX h,iO];rfl
theorem great:GREAT=1000000000000000000:=rfl
theorem zb:Num 0:=⟨by rw[great];decide,by rw[great];decide⟩
theorem Ec(b:Bool):Num (if b=true then 1 else 0):=by cases b<;>exact⟨by rw[great];decide,by rw[great];decide⟩
theorem uf{n k:Int}(h:small n=.ok k):k=n/\Num n:=by
 unfold small at h
 split at h
 ·rename_i hg;unfold good at hg;rw[eQ,decide_eq_true_eq,decide_eq_true_eq] at hg;exact⟨(BZ.inj h).symm,hg⟩
 ·cases h
theorem Vt{o:Nat}{a n:Int}(ha:Num a)(h:work1 o a=.ok n):Num n:=by
 obtain⟨h1,h2⟩:=ha;rw[great] at h1 h2;unfold work1 at h
 split at h
 ·cases h;exact⟨by rw[great];omega,by rw[great];omega⟩
 ·cases h;exact⟨by rw[great];omega,by rw[great];omega⟩
 ·cases h;refine⟨?_,?_⟩<;>rw[great]<;>split<;>(try split)<;>decide
 ·split at h
  ·unfold truth at h;cases h;exact Ec _
  ·cases h
theorem L1{o:Nat}{a b n:Int}(ha:Num a)(hb:Num b)(h:work2 o a b=.ok n):Num n:=by
 obtain⟨h1,h2⟩:=id ha;obtain⟨h3,h4⟩:=id hb;rw[great] at h1 h2 h3 h4;unfold work2 at h
 split at h
 ·exact(uf h).1▸(uf h).2
 ·exact(uf h).1▸(uf h).2
 ·exact(uf h).1▸(uf h).2
 ·split at h
  ·cases h
  ·cases h;have q:=Int.natAbs_fdiv_le_natAbs a b;exact⟨by rw[great];omega,by rw[great];omega⟩
 ·split at h
  ·cases h
  ·rename_i rM;cases h;rw[<-Jh];rcases Int.lt_or_gt_of_ne rM with afw|ug
   ·have e:a.fmod b= -((-a).fmod (-b)):=by
     rw[Jh,Jh,Int.neg_fdiv_neg,Int.neg_mul];omega
    have p1:=Int.fmod_nonneg_of_pos (-a) (b:= -b) (by omega)
    have p2:=Int.fmod_lt_of_pos (-a) (b:= -b) (by omega)
    exact⟨by rw[great];omega,by rw[great];omega⟩
   ·have p1:=Int.fmod_nonneg_of_pos a ug;have p2:=Int.fmod_lt_of_pos a ug;exact⟨by rw[great];omega,by rw[great];omega⟩
 ·cases h;split<;>assumption
 ·cases h;split<;>assumption
 all_goals first
  |(unfold truth at h;cases h;exact Ec _)
  |(split at h
    ·unfold truth at h;cases h;exact Ec _
    ·cases h)
section
variable{x:bj}
theorem L4{l:List Int}(h:∀n∈l,Num n)(i:Nat):Num ((l[i]?).getD 0):=by
 cases e:l[i]? with
 |none=>exact zb
 |some n=>exact h n (d7 e)
theorem Nums.vec(N:Nums x)(k:Nat):∀n∈c8 x k,Num n:=by
 unfold c8;cases e:x.vs[k]? with
 |none=>intro n hn;simp at hn
 |some v=>exact N.vs v (d7 e)
theorem Nums.iB(N:Nums x)(k l:Nat):Num (bP x k l):=L4 (N.vec k) l
theorem Nums.scalar(N:Nums x)(k:Nat):Num (dI x k):=L4 N.ss k
theorem Nums.array(N:Nums x)(r:Nat):∀n∈dJ x r,Num n:=by
 unfold dJ;cases e:x.arrays[r]? with
 |none=>intro n hn;simp at hn
 |some v=>exact N.ar v (d7 e)
theorem Nums.setVec(N:Nums x){v:List Int}(h:∀n∈v,Num n)(d:Nat):Nums (setVec x d v):=
 ⟨λu hu=>by
   rcases mem_set hu with q|q
   ·rw[q];exact h
   ·exact N.vs u q,N.ss,N.ar⟩
theorem Nums.gC(N:Nums x)(l:Nat)(e:Fault):Nums (gC x l e):=⟨N.vs,N.ss,N.ar⟩
theorem Nums.setScalar(N:Nums x){n:Int}(h:Num n)(d:Nat):Nums (setScalar x d n):=⟨N.vs,λk hk=>by
 rcases mem_set hk with q|q
 ·rw[q];exact h
 ·exact N.ss k q,N.ar⟩
theorem Nums.zd(N:Nums x){v:List Int}(h:∀n∈v,Num n)(r:Nat):Nums {x with arrays:=x.arrays.set r v}:=⟨N.vs,N.ss,λu hu=>by
 rcases mem_set hu with q|q
 ·rw[q];exact h
 ·exact N.ar u q⟩
theorem Vu{n:Int}(h:Num n): -1000000000000000000<=n/\n<=1000000000000000000:=h
theorem Ed{n:Nat}(h:n<=1000000):Num (n:Int):=⟨by rw[great];omega,by rw[great];omega⟩
theorem WF.fresh{w:Nat}(h1:1<=w)(h2:w<=16)(a:List (List Int)):WF (fresh w a):=
 ⟨h1,h2,qK,λv hv=>by rw[(x8.mp hv).2];exact qK,qK,qK,
  λv hv=>by rw[(x8.mp hv).2];exact qK,qK⟩
theorem Nums.fresh(w:Nat){a:List (List Int)}(h:∀v∈a,∀n∈v,Num n):Nums (fresh w a):=
 ⟨λv hv n hn=>by rw[(x8.mp hv).2] at hn;rw[(x8.mp hn).2];exact zb,λn hn=>by rw[(x8.mp hn).2];exact zb,h⟩
end
def lW(x:bj):List Nat:=x.arrays.map jX
theorem L5(x:bj)(r:Nat)(v:List Int)(h:v.length=(dJ x r).length):({x with arrays:=x.arrays.set r v}:bj).arrays.map jX=x.arrays.map jX:=by
 show(x.arrays.set r v).map jX=_;rw[u7,h];unfold dJ;have q:=D_ (x.arrays.map jX) r 0;rw[dH] at q;cases e:x.arrays[r]? with
 |none=>rw[afi (by rw[bx];exact List.getElem?_eq_none_iff.mp e)]
 |some u=>rw[e] at q;exact q
theorem ze(x:bj)(m:Option Nat)(r a b:Nat):∀(q:List Nat) (y:bj),lW (B2 x m r a b q y)=lW y
 |[],y=>rfl
 |l::q,y=>by
  rw[B2];by_cases h:active x m l=true
  ·simp only[h,if_true];by_cases h2:0<=bP x a l/\bP x a l<((dJ x r).length:Int)
   ·rw[if_pos h2,ze x m r a b q];exact L5 y r _ gV
   ·rw[if_neg h2,ze x m r a b q];rfl
  ·simp only[h];exact ze x m r a b q y
def zg(f:bj->Nat->Run):Prop:=∀x n y,f x n=.ok y->lW y.1=lW x
theorem L8{f:bj->Nat->Run}(hf:zg f)(d:Nat):∀(k i:Nat),zg (rounds f d k i)
 |0,i=>λx n y h=>by rw[rounds] at h;cases h;rfl
 |k+1,i=>λx n y h=>by
  cases n with
  |zero=>rw[rounds] at h;cases h
  |succ n=>
   rw[rounds] at h;cases e:f (setScalar x d ((i:Nat):Int)) n with
   |error z=>simp only[e] at h;cases h
   |ok z=>
    simp only[e] at h;rw[L8 hf d k (i+1) _ _ _ h,hf _ _ _ e];rfl
mutual
theorem Vv:∀(i:cw),zg (cx i)
 | .lanes d m=>λx n y h=>by rw[cx] at h;cases h;rfl
 | .const d k m=>λx n y h=>by rw[cx] at h;cases h;rfl
 | .fill d s m=>λx n y h=>by rw[cx] at h;cases h;rfl
 | .copy d a m=>λx n y h=>by rw[cx] at h;cases h;rfl
 | .one o d a p m=>λx n y h=>by rw[cx] at h;cases h;rfl
 | .two o d a b p m=>λx n y h=>by rw[cx] at h;cases h;rfl
 | .read d r a m=>λx n y h=>by rw[cx] at h;cases h;rfl
 | .pick d r a p m=>λx n y h=>by rw[cx] at h;cases h;rfl
 | .write r a b m=>λx n y h=>by rw[cx] at h;cases h;exact ze x m r a b _ x
 | .test d a m=>λx n y h=>by rw[cx] at h;cases h;rfl
 | .tail d s=>λx n y h=>by rw[cx] at h;cases h;rfl
 | .both d a b=>λx n y h=>by rw[cx] at h;cases h;rfl
 | .less d a b=>λx n y h=>by rw[cx] at h;cases h;rfl
 | .either d a b=>λx n y h=>by rw[cx] at h;cases h;rfl
 | .count d a=>λx n y h=>by rw[cx] at h;cases h;rfl
 | .num d k=>λx n y h=>by rw[cx] at h;cases h;rfl
 | .width d=>λx n y h=>by rw[cx] at h;cases h;rfl
 | .calc o d a b p=>λx n y h=>by
   rw[cx] at h;cases e:work2 o (dI x a) (dI x b) with
   |ok k=>simp only[e] at h;cases h;rfl
   |error k=>simp only[e] at h;cases h
 | .get d v s=>λx n y h=>by
   rw[cx] at h;cases e:sX x s with
   |some k=>simp only[e] at h;cases h;rfl
   |none=>simp only[e] at h;cases h
 | .put v s t=>λx n y h=>by
   rw[cx] at h;cases e:sX x s with
   |some k=>simp only[e] at h;cases h;rfl
   |none=>simp only[e] at h;cases h
 | .for_ d c b=>λx n y h=>by
   rw[cx] at h;exact L8 (vU b) d _ _ x n y h
 | .when s b c=>λx n y h=>by
   rw[cx] at h;by_cases q:dI x s≠0
   ·rw[if_pos q] at h;exact vU b x n y h
   ·rw[if_neg q] at h;exact vU c x n y h
 | .raise=>λx n y h=>by
   rw[cx] at h;unfold raised at h
   split at h<;>cases h
   rfl
theorem vU:∀(b:c6),zg (eW b)
 | .nil=>λx n y h=>by rw[eW] at h;cases h;rfl
 | .cons i r=>λx n y h=>by
   cases n with
   |zero=>rw[eW] at h;cases h
   |succ n=>
    rw[eW] at h;cases e:cx i x n with
    |error z=>simp only[e] at h;cases h
    |ok z=>
     simp only[e] at h;rw[vU r _ _ _ h,Vv i _ _ _ e]
end
theorem Vw{c:Code}{w b:Nat}{ar:List (List Int)}{y:bj×Nat}(h:runCode c w ar b=.ok y):lW y.1=ar.map jX:=by
 unfold runCode at h;cases e:eW c.body (fresh w ar) b with
 |error z=>simp only[e] at h;cases h
 |ok z=>
  simp only[e] at h;unfold raised at h
  split at h<;>cases h
  exact vU _ _ _ _ e
def zh(f:bj->Nat->Run):Prop:=∀x n y,f x n=.ok y->y.2<=n
theorem L9{f:bj->Nat->Run}(hf:zh f)(d:Nat):∀(k i:Nat),zh (rounds f d k i)
 |0,i=>λx n y h=>by rw[rounds] at h;cases h;exact bE _
 |k+1,i=>λx n y h=>by
  cases n with
  |zero=>rw[rounds] at h;cases h
  |succ n=>
   rw[rounds] at h;cases e:f (setScalar x d ((i:Nat):Int)) n with
   |error z=>simp only[e] at h;cases h
   |ok z=>
    simp only[e] at h;have a:=L9 hf d k (i+1) _ _ _ h;have b:=hf _ _ _ e;omega
mutual
theorem Vx:∀(i:cw),zh (cx i)
 | .lanes d m=>λx n y h=>by rw[cx] at h;cases h;exact bE _
 | .const d k m=>λx n y h=>by rw[cx] at h;cases h;exact bE _
 | .fill d s m=>λx n y h=>by rw[cx] at h;cases h;exact bE _
 | .copy d a m=>λx n y h=>by rw[cx] at h;cases h;exact bE _
 | .one o d a p m=>λx n y h=>by rw[cx] at h;cases h;exact bE _
 | .two o d a b p m=>λx n y h=>by rw[cx] at h;cases h;exact bE _
 | .read d r a m=>λx n y h=>by rw[cx] at h;cases h;exact bE _
 | .pick d r a p m=>λx n y h=>by rw[cx] at h;cases h;exact bE _
 | .write r a b m=>λx n y h=>by rw[cx] at h;cases h;exact bE _
 | .test d a m=>λx n y h=>by rw[cx] at h;cases h;exact bE _
 | .tail d s=>λx n y h=>by rw[cx] at h;cases h;exact bE _
 | .both d a b=>λx n y h=>by rw[cx] at h;cases h;exact bE _
 | .less d a b=>λx n y h=>by rw[cx] at h;cases h;exact bE _
 | .either d a b=>λx n y h=>by rw[cx] at h;cases h;exact bE _
 | .count d a=>λx n y h=>by rw[cx] at h;cases h;exact bE _
 | .num d k=>λx n y h=>by rw[cx] at h;cases h;exact bE _
 | .width d=>λx n y h=>by rw[cx] at h;cases h;exact bE _
 | .calc o d a b p=>λx n y h=>by
   rw[cx] at h;cases e:work2 o (dI x a) (dI x b) with
   |ok k=>simp only[e] at h;cases h;exact bE _
   |error k=>simp only[e] at h;cases h
 | .get d v s=>λx n y h=>by
   rw[cx] at h;cases e:sX x s with
   |some k=>simp only[e] at h;cases h;exact bE _
   |none=>simp only[e] at h;cases h
 | .put v s t=>λx n y h=>by
   rw[cx] at h;cases e:sX x s with
   |some k=>simp only[e] at h;cases h;exact bE _
   |none=>simp only[e] at h;cases h
 | .for_ d c b=>λx n y h=>by
   rw[cx] at h;exact L9 (vV b) d _ _ x n y h
 | .when s b c=>λx n y h=>by
   rw[cx] at h;by_cases q:dI x s≠0
   ·rw[if_pos q] at h;exact vV b x n y h
   ·rw[if_neg q] at h;exact vV c x n y h
 | .raise=>λx n y h=>by
   rw[cx] at h;unfold raised at h
   split at h<;>cases h
   exact bE _
theorem vV:∀(b:c6),zh (eW b)
 | .nil=>λx n y h=>by rw[eW] at h;cases h;exact bE _
 | .cons i r=>λx n y h=>by
   cases n with
   |zero=>rw[eW] at h;cases h
   |succ n=>
    rw[eW] at h;cases e:cx i x n with
    |error z=>simp only[e] at h;cases h
    |ok z=>
     simp only[e] at h;have a:=vV r _ _ _ h;have b:=Vx i _ _ _ e;omega
end
theorem Vy{c:Code}{w b:Nat}{ar:List (List Int)}{y:bj×Nat}(h:runCode c w ar b=.ok y):y.2<=b:=by
 unfold runCode at h;cases e:eW c.body (fresh w ar) b with
 |error z=>simp only[e] at h;cases h
 |ok z=>
  simp only[e] at h;unfold raised at h
  split at h<;>cases h
  exact vV _ _ _ _ e
end MR
namespace MC
open Vaarrj
theorem Vz(c:List (List Int)):P7 c=c:=by unfold P7;split<;>rfl
theorem L_(cs:List (List (List Int))):cs.map P7=cs:=by
 induction cs with
 |nil=>rfl
 |cons c r ih=>rw[i0,ih,Vz]
def dP:Nat->Nat
 |3=>1|4=>1|5=>1|6=>1|7=>1|8=>1|9=>1|10=>3|_=>0
def kT:Nat->Bool
 |0=>true|1=>true|4=>true|_=>false
theorem VA{p:Int}{x:Nat×Nat}(h:mZ p=some x):∃q:Nat,p=q/\q<=10/\x=(dP q,if kT q=true then 1 else 0):=by
 unfold mZ at h;by_cases e:p=0
 ·rw[if_pos e] at h;cases h;exact⟨0,e,by decide,rfl⟩
 rw[if_neg e] at h;clear e;by_cases e:p=1
 ·rw[if_pos e] at h;cases h;exact⟨1,e,by decide,rfl⟩
 rw[if_neg e] at h;clear e;by_cases e:p=2
 ·rw[if_pos e] at h;cases h;exact⟨2,e,by decide,rfl⟩
 rw[if_neg e] at h;clear e;by_cases e:p=3
 ·rw[if_pos e] at h;cases h;exact⟨3,e,by decide,rfl⟩
 rw[if_neg e] at h;clear e;by_cases e:p=4
 ·rw[if_pos e] at h;cases h;exact⟨4,e,by decide,rfl⟩
 rw[if_neg e] at h;clear e;by_cases e:p=5
 ·rw[if_pos e] at h;cases h;exact⟨5,e,by decide,rfl⟩
 rw[if_neg e] at h;clear e;by_cases e:p=6
 ·rw[if_pos e] at h;cases h;exact⟨6,e,by decide,rfl⟩
 rw[if_neg e] at h;clear e;by_cases e:p=7
 ·rw[if_pos e] at h;cases h;exact⟨7,e,by decide,rfl⟩
 rw[if_neg e] at h;clear e;by_cases e:p=8
 ·rw[if_pos e] at h;cases h;exact⟨8,e,by decide,rfl⟩
 rw[if_neg e] at h;clear e;by_cases e:p=9
 ·rw[if_pos e] at h;cases h;exact⟨9,e,by decide,rfl⟩
 rw[if_neg e] at h;clear e;by_cases e:p=10
 ·rw[if_pos e] at h;cases h;exact⟨10,e,by decide,rfl⟩
 rw[if_neg e] at h;cases h
theorem VB{p:Int}{r t:List Int}{c:List (List Int)}(h:Ji mZ (p::r)=some (c,t)):∃q:Nat,p=q/\q<=10/\ ∃nums,nums.length=dP q/\
 ((kT q=false/\r=nums++t/\c=[p::nums])\/(kT q=true/\ ∃row,r=nums++((row.length:Int)::(row++t))/\c=[p::nums,row])):=by
 unfold Ji at h;cases e:mZ p with
 |none=>simp only[e] at h;cases h
 |some x=>
  obtain⟨q,hp,hq,rfl⟩:=VA e;simp only[e] at h;by_cases hl:r.length<dP q
  ·rw[if_pos hl] at h;cases h
  rw[if_neg hl] at h;refine⟨q,hp,hq,r.take (dP q),by rw[jY];omega,?_⟩
  cases hr:kT q with
  |false=>
   rw[hr] at h;simp only[IZ,if_false,PyFlat.rows] at h;cases h;exact .inl ⟨rfl,(P8 _ _).symm,rfl⟩
  |true=>
   rw[hr] at h;simp only[if_true,PyFlat.rows] at h;cases ed:r.drop (dP q) with
   |nil=>rw[ed] at h;simp only[PyFlat.row] at h;cases h
   |cons n u=>
    rw[ed] at h;simp only[PyFlat.row] at h;by_cases hn:0<=n/\n.toNat<=u.length
    ·rw[if_pos hn] at h;cases h;refine .inr ⟨rfl,u.take n.toNat,?_,rfl⟩;rw[jY,show((min n.toNat u.length:Nat):Int)=n by omega,P8,<-ed,P8]
    ·rw[if_neg hn] at h;cases h
theorem VC{f:Nat}{p:Int}{r:List Int}{cs:List (List (List Int))}(h:sY mZ f (p::r)=some cs):∃f' c t o4,Ji mZ (p::r)=some (c,t)/\sY mZ f' t=some o4/\cs=c::o4:=by
 cases f with
 |zero=>cases h
 |succ f=>
  unfold sY at h;cases e:Ji mZ (p::r) with
  |none=>simp only[e] at h;cases h
  |some x=>
   simp only[e] at h;cases e2:sY mZ f x.2 with
   |none=>simp only[e2] at h;cases h
   |some o4=>simp only[e2] at h;cases h;exact⟨f,x.1,x.2,o4,rfl,e2,rfl⟩
theorem VD{f:Nat}{cs:List (List (List Int))}(h:sY mZ f []=some cs):cs=[]:=by
 cases f<;>(unfold sY at h;cases h;rfl)
inductive Is:Nat->List Int->List Int->Call->Prop
 |load {row:List Int} {t:aM}:row=t.map (λ(c:Nat)=>(c:Int))->(∀c∈t,c<256)->t.length<=20000->Is 0 [] row (.load t)
 |where_ {row:List Int} {t:aM}:row=t.map (λ(c:Nat)=>(c:Int))->(∀c∈t,c<256)->t.length<=20000->Is 1 [] row (.where_ t)
 |plain:Is 2 [] [] .plain
 |width (n:Int): -1000000000000000000<=n/\n<=1000000000000000000->Is 3 [n] [] (.width n)
 |set (n:Int) (d:List Int): -1000000000000000000<=n/\n<=1000000000000000000->(∀k∈d,-1000000000000000000<=k/\k<=1000000000000000000)->d.length<=3000->Is 4 [n] d (.set n d)
 |run (n:Int): -1000000000000000000<=n/\n<=1000000000000000000->Is 5 [n] [] (.run n)
 |array (n:Int): -1000000000000000000<=n/\n<=1000000000000000000->Is 6 [n] [] (.array n)
 |vector (n:Int): -1000000000000000000<=n/\n<=1000000000000000000->Is 7 [n] [] (.vector n)
 |scalar (n:Int): -1000000000000000000<=n/\n<=1000000000000000000->Is 8 [n] [] (.scalar n)
 |mask (n:Int): -1000000000000000000<=n/\n<=1000000000000000000->Is 9 [n] [] (.mask n)
 |map (o n p:Int):(-1000000000000000000<=o/\o<=1000000000000000000)->(-1000000000000000000<=n/\n<=1000000000000000000)->(-1000000000000000000<=p/\p<=1000000000000000000)->Is 10 [o,n,p] [] (.map o n p)
theorem lX{z:Int}(h:u9 z=true): -1000000000000000000<=z/\z<=1000000000000000000:=by
 unfold u9 at h;rw[eQ,decide_eq_true_iff,decide_eq_true_iff] at h;exact⟨by have:=h.1;omega,by have:=h.2;omega⟩
theorem L'{a:List Int}(h:((a.all (λ(z:Int)=>afj z 8))&&decide (a.length<=20000))=true):∃t:aM,Jj a=some t/\a=t.map (λ(c:Nat)=>(c:Int))/\ (∀c∈t,c<256)/\t.length<=20000:=by
 rw[eQ,kH,decide_eq_true_iff] at h;have h8:∀z∈a,0<=z/\z<256:=λz hz=>by
  have:=h.1 z hz;unfold afj at this;rw[eQ,decide_eq_true_iff,decide_eq_true_iff] at this;exact⟨this.1,by have:=this.2;omega⟩
 refine⟨a.map λb=>b.toNat,?_,?_,λc hc=> ?_,by rw[bx];exact h.2⟩
 ·unfold Jj;rw[if_pos];unfold NeutralIO.bytes;rw[kH];intro z hz;have:=h8 z hz;simp only[eQ,decide_eq_true_iff];omega
 ·rw[iO]
  conv=>lhs;rw[<-Jk a]
  refine pJ λz hz=> ?_;have:=h8 z hz;show z=((z.toNat:Nat):Int);omega
 ·obtain⟨z,hz,rfl⟩:=mY.mp hc;have:=h8 z hz;omega
theorem rN{nums:List Int}(h:nums.length=1):∃n,nums=[n]:=by
 match nums,h with
 |[n],_=>exact⟨n,rfl⟩
theorem VE{nums:List Int}(h:nums.length=3):∃x y z,nums=[x,y,z]:=by
 match nums,h with
 |[x,y,z],_=>exact⟨x,y,z,rfl⟩
theorem Ma{q:Nat}{nums row:List Int}(hq:q<=10)(hl:nums.length=dP q)(h:afk (if kT q=true then[((q:Nat):Int)::nums,row] else[((q:Nat):Int)::nums])=true):
 ∃k,Is q nums (if kT q=true then row else[]) k/\VaarrjNeutral.callOf (if kT q=true then[((q:Nat):Int)::nums,row] else[((q:Nat):Int)::nums])=some k:=by
 match q,hq with
 |0,_=>
  obtain rfl:=P9.mp hl;obtain⟨t,e1,e2,e3,e4⟩:=L' (a:=row) h;exact⟨.load t,.load e2 e3 e4,by show(Jj row).map Call.load=_;rw[e1];rfl⟩
 |1,_=>
  obtain rfl:=P9.mp hl;obtain⟨t,e1,e2,e3,e4⟩:=L' (a:=row) h;exact⟨.where_ t,.where_ e2 e3 e4,by show(Jj row).map Call.where_=_;rw[e1];rfl⟩
 |2,_=>
  obtain rfl:=P9.mp hl;exact⟨_,.plain,rfl⟩
 |3,_=>obtain⟨n,rfl⟩:=rN hl;exact⟨_,.width n (lX h),rfl⟩
 |4,_=>
  obtain⟨n,rfl⟩:=rN hl;have h:(u9 n&&(((row.all (λ(z:Int)=>u9 z))&&decide (row.length<=3000))))=true:=h;rw[eQ,eQ,kH,decide_eq_true_iff] at h;exact⟨_,.set n row (lX h.1) (λk hk=>lX (h.2.1 k hk)) h.2.2,rfl⟩
 |5,_=>obtain⟨n,rfl⟩:=rN hl;exact⟨_,.run n (lX h),rfl⟩
 |6,_=>obtain⟨n,rfl⟩:=rN hl;exact⟨_,.array n (lX h),rfl⟩
 |7,_=>obtain⟨n,rfl⟩:=rN hl;exact⟨_,.vector n (lX h),rfl⟩
 |8,_=>obtain⟨n,rfl⟩:=rN hl;exact⟨_,.scalar n (lX h),rfl⟩
 |9,_=>obtain⟨n,rfl⟩:=rN hl;exact⟨_,.mask n (lX h),rfl⟩
 |10,_=>
  obtain⟨x,y,z,rfl⟩:=VE hl;have h:(u9 x&&(u9 y&&(u9 z)))=true:=h;rw[eQ,eQ] at h;exact⟨_,.map x y z (lX h.1) (lX h.2.1) (lX h.2.2),rfl⟩
structure Rest(l:List Int)(at_:Nat)(s:State)(done:List Int)(left:Nat):Prop where
 le:at_<=l.length
 ex:∃f cs,sY mZ f (l.drop at_)=some cs/\cs.all afk=true/\cs.length<=left/\Jl l=done++B3 (P_ qR s cs)
theorem VF{l:List Int}(h:P' l=true):Rest l 0 start [] 40:=by
 unfold P' at h;unfold PyVaarrj.calls at h;refine⟨eV _,?_⟩;cases e:sY mZ l.length l with
 |none=>simp only[e] at h;cases h
 |some cs=>
  simp only[e] at h;rw[L_,eQ] at h;have h2:=h.2;unfold VaarrjNeutral.asked at h2;rw[eQ] at h2;have h1:=h.1;unfold PyFlat.atMost at h1;refine⟨l.length,cs,e,h2.1,by simpa using h1,?_⟩
  unfold Jl PyVaarrj.calls;simp only[e,L_];rfl
theorem VG{l:List Int}{s:State}{done:List Int}{left:Nat}(h:Rest l l.length s done left):Jl l=done:=by
 obtain⟨f,cs,e,_,_,q⟩:=h.ex;rw[BY] at e;rw[VD e] at q;rw[q];exact dz _
theorem VH{l:List Int}{i:Nat}{s:State}{done:List Int}{left:Nat}(h:Rest l i s done left)(hi:i<l.length):∃(q:Nat) (nums row:List Int) (k:Call) (eK:Nat),left=eK+1/\q<=10/\l[i]? =some (q:Int)/\nums.length=dP q/\Is q nums row k/\nums=(l.drop (i+1)).take (dP q)/\i+1+dP q<=l.length/\
 (kT q=true->l[i+1+dP q]? =some (row.length:Int)/\row=(l.drop (i+1+dP q+1)).take row.length/\i+1+dP q+1+row.length<=l.length)/\ (kT q=false->row=[])/\
 Rest l (if kT q=true then i+1+dP q+1+row.length else i+1+dP q) (step s k).1 (done++(((kJ (step s k).2).length:Int)::kJ (step s k).2)) eK:=by
 obtain⟨f,cs,e,ha,hl,hq⟩:=h.ex;have ed:l.drop i=l[i]::l.drop (i+1):=qO hi;have ei:l[i]? =some l[i]:=eI hi;generalize l[i]=p at ed ei;rw[ed] at e;obtain⟨f',c,t,o4,e1,e2,rfl⟩:=VC e;obtain⟨q,rfl,zi,nums,hn,alt⟩:=VB e1;rw[lj,eQ] at ha;rw[cI] at hl;have dl:(l.drop (i+1)).length=l.length-(i+1):=kF;rcases alt with⟨hr,er,rfl⟩|⟨hr,row,er,rfl⟩
 ·obtain⟨k,hk,hc⟩:=Ma (row:=[]) zi hn (by rw[hr];exact ha.1)
  rw[hr] at hk hc;simp only[IZ,if_false] at hk hc;rw[er,bU] at dl;refine⟨q,nums,[],k,left-1,by omega,zi,ei,hn,hk,by rw[er,<-hn,Qa];rfl,by omega,(λz=>by rw[hr] at z;cases z),λ_=>rfl,?_⟩
  rw[hr];simp only[IZ,if_false];refine⟨by omega,f',o4,?_,ha.2,by omega,?_⟩
  ·rw[<-Jm,er,<-hn,Qb];exact e2;rfl
  ·rw[hq];show _++B3 ((qR s _).2::P_ qR (qR s _).1 o4)=_;unfold qR;rw[hc];unfold B3;rw[P2,lq]
 ·obtain⟨k,hk,hc⟩:=Ma (row:=row) zi hn (by rw[hr];exact ha.1)
  rw[hr] at hk hc;simp only[if_true] at hk hc;rw[er,bU,cI,bU] at dl;have e3:l.drop (i+1+dP q)=(row.length:Int)::(row++t):=by rw[<-Jm,er,<-hn,Qb];rfl
  have e4:l.drop (i+1+dP q+1)=row++t:=by rw[<-Jm,e3];rfl
  refine⟨q,nums,row,k,left-1,by omega,zi,ei,hn,hk,by rw[er,<-hn,Qa];rfl,by omega,λ_=>⟨?_,by rw[e4,Qa];rfl,by omega⟩,(λz=>by rw[hr] at z;cases z),?_⟩
  ·have:=congrArg List.head? e3;rw[List.head?_drop] at this;exact this
  rw[hr];simp only[if_true];refine⟨by omega,f',o4,?_,ha.2,by omega,?_⟩
  ·rw[<-Jm,e4,Qb];exact e2;rfl
  ·rw[hq];show _++B3 ((qR s _).2::P_ qR (qR s _).1 o4)=_;unfold qR;rw[hc];unfold B3;rw[P2,lq]
end MC
namespace MX
open Vaarrj TL
open PySem (Str)
def S(t:aM):Str:=⟨t.toArray⟩
theorem kU(t:aM):tl (S t)=t:=rfl
theorem Mb(x:Str):S (tl x)=x:=Sx x
theorem lY{t u:aM}(h:S t=S u):t=u:=by have:=congrArg tl h;exact this
theorem dF(t u:aM):S t++S u=S (t++u):=rq (by rw[Ds,kU,kU,kU])
theorem cM(t:aM):(S t).length=t.length:=by rw[Sw,kU]
theorem lZ(s:String):bV s=S (str s):=rq (by rw[Sy,kU];rfl)
theorem Me:∀(k n:Nat),n<10^k->0<k->x5 k n=rz n
 |0,_,_,h=>absurd h (iK _)
 |k+1,n,h,_=>by
  unfold x5;by_cases hn:n<10
  ·rw[if_pos hn,SA hn]
  ·rw[if_neg hn,SD (by omega)]
   have h2:n/10<10^k:=by
    rw[Je] at h;omega
   have hk:0<k:=by
    cases k with
    |zero=>simp at h;omega
    |succ k=>exact Nat.succ_pos _
   rw[Me k (n/10) h2 hk]
theorem VI{n:Nat}(h:n<10^40):dec n=rz n:=Me 40 n h (by decide)
theorem gq{n:Nat}(h:n<10^40):bV (toString ((n:Nat):Int))=S (dec n):=rq (by rw[Sz,kU,VI h])
theorem VJ(t:aM):valueOf t=afl t:=by
 unfold valueOf afl
 congr 1
 funext n c
 rw[Nat.mul_comm]
end MX
namespace XR
open PySem PySem.W PyProof.Rows
section
variable{prog:aS}{w:aL}{A:cQ}{E:ah->aq->Prop}{h:aC}{g:Array GenState}{d:Drawn}{t:Nat}{os:OsState}
variable{nm q:Str}{C N:ae}{bs bm:List ah}{hdct:Bool}{sn:List Str}{sub:List ah}{ab:Bool}{col:Option Bool}{dd:Option ae}{k0 k1 k2 k3 k5:Option ah}{B newId VL:String}
abbrev VM(C:ae)(t:ae):Obj:={cls:=.ref C,data:=.fields #[.ref t,.none,.none,.none,.bool false,.none]}
abbrev VN(rest:List ah):Obj:={cls:=.type "tuple",data:=.seq rest.toArray}
theorem VO(F:ExcBaseFacts B newId VL bm){mN:Str->Option ah}{rest:List ah}{f:ae}{K:Frag}{R:Result->aq->Prop}(X:K.In h)
 (hC:h.get? C=some (m_ nm q C N bs bm hdct sn sub ab col dd k0 k1 k2 k3 k5 newId)) (hn:h.Ns N mN) (VP:mN "__init__"=some (.ref f)) (hf:typeIn K (.ref f)=some (.type "function")) (VQ:rest.length<=sizeLine)
 (hq:pF (model prog w) (A.under (.builtin "type.__call__" ⟨.ref C::rest,[]⟩)) (.call (.ref f) ⟨.ref (h.objs.size+1)::rest,[]⟩) (InitBack (h.objs.size+1) R) ⟨(h.push (VN rest)).push (VM C h.objs.size),g,d,t,os⟩):
 pF (model prog w) A (.call (.ref C) ⟨rest,[]⟩) R ⟨h,g,d,t,os⟩:=by
 have f1:=tc_lookup;have f2:=tc_bind (.ref C);have hT:(⟨h,g,d,t,os⟩:aq).TypeIs (.ref C) "type":=⟨_,hC,rfl⟩;refine codeAny_of_tree ?_;show aW _ _ (callAny (.ref C) _) _ _ _
 repeat (any_goals (first|assumption|with_reducible refine pL hC ?_|wp_step))
 refine⟨rfl,?_⟩;refine codeAny_call_builtin_at (Code.quiet_builtin _ (by decide+kernel)) entry_typeCall (wpAny_check_type_call_sub hC ?_)
 repeat (first|with_reducible refine pL hC ?_|with_reducible refine wpAny_madeBy_exc hC ?_|wp_step)
 refine codeAny_call_builtin_code (Code.quiet_builtin _ F.quiet) (wpAny_check_new_sub F hC ?_);refine codeAny_exc_new_sub F hC ?_ VQ;show aW _ _ _ _ _ (⟨(h.push {cls:=.type "tuple",data:=.seq rest.toArray}).push {cls:=.ref C,data:=.fields #[.ref h.objs.size,.none,.none,.none,.bool false,.none]},g,d,t,os⟩:aq);have k:∀b o,h.get? b=some o->((h.push {cls:=.type "tuple",data:=.seq rest.toArray}).push {cls:=.ref C,data:=.fields #[.ref h.objs.size,.none,.none,.none,.bool false,.none]}).get? b=some o:=λb o e=>eO _ (eO _ e);have hC₁:=k _ _ hC;have hn₁:((h.push {cls:=.type "tuple",data:=.seq rest.toArray}).push {cls:=.ref C,data:=.fields #[.ref h.objs.size,.none,.none,.none,.bool false,.none]}).Ns N mN:=
  let ⟨o,es,ep,e,r⟩:=hn;⟨o,es,ep,k _ _ e,r⟩
 have VR:((h.push {cls:=.type "tuple",data:=.seq rest.toArray}).push {cls:=.ref C,data:=.fields #[.ref h.objs.size,.none,.none,.none,.bool false,.none]}).get? (h.objs.size+1)=some {cls:=.ref C,data:=.fields #[.ref h.objs.size,.none,.none,.none,.bool false,.none]}:=by heap_get
 have VS:(di C::bm).contains (.ref C)=true:=by simp
 have X₁:K.In ((h.push {cls:=.type "tuple",data:=.seq rest.toArray}).push {cls:=.ref C,data:=.fields #[.ref h.objs.size,.none,.none,.none,.bool false,.none]}):=λb o e=>k b o (X b o e);unfold isInstance
 repeat (first|with_reducible refine pL VR ?_|(with_reducible refine Qc hC₁ ?_;rw[VS])|wp_step)
 show aW _ _ (qL (.ref C) _) _ _ _;refine x9 hC₁ hn₁ F.mroIs F.init.lookup ?_;rw[VP];refine II (cg ((bind_fn X₁ (.ref (h.objs.size+1)) hf).here ?_));refine cg (BO (xQ hq λr s' z=> ?_));rcases r with e|(v|_|_|_)<;>first|exact z|exact z.elim|skip
 obtain⟨rfl,z⟩:=z
 repeat (first|exact z|wp_step)
end
section
variable{prog:aS}{w:aL}{A:cQ}{E:ah->aq->Prop}{h:aC}{g:Array GenState}{d:Drawn}{t:Nat}{os:OsState}{a dx:ae}{o:Obj}{vs:Array ah}
variable{nm q:Str}{C N:ae}{bs bm:List ah}{sn:List Str}{sub:List ah}{ab:Bool}{col:Option Bool}{dd:Option ae}{k0 k1 k2 k3 k5:Option ah}{B newId:String}{mN mD:Str->Option ah}
theorem VT{M:Model}{Mf:ah}{Q:Unit->aq->Prop}(FB:ExcAttrBase B bm)(hC:h.get? C=some (m_ nm q C N bs bm true sn sub ab col dd k0 k1 k2 k3 k5 newId))
 (hx:h.get? a=some o) (hc:o.cls=.ref C) (hq:Q () ⟨h,g,d,t,os⟩):aW M A (checkBuiltinCall "BaseException.__getattribute__" ⟨[.ref a,Mf],[]⟩) Q E ⟨h,g,d,t,os⟩:=by
 have hk:builtinKind "BaseException.__getattribute__"=some .slot:=by decide+kernel
 have VU:splitId "BaseException.__getattribute__"=some ("BaseException","__getattribute__"):=by decide+kernel
 have Ee:(di C::bm).contains (.type "BaseException")=true:=by rw[P1,FB.hasBase];rfl
 have ha:=F.args_bexc_ga (.ref a) Mf;simp only[checkBuiltinCall,hk,VU];refine cg ?_
 ·unfold isInstance
  repeat (first|(with_reducible refine pL hx ?_;rw[hc])|(with_reducible refine Qc hC ?_;rw[Ee])|wp_step)
  exact hq
theorem VV{jO:Str}{tk:Tok}{v:ah}{Q:Fin->aq->Prop}(FB:ExcAttrBase B bm)(hC:h.get? C=some (m_ nm q C N bs bm true sn sub ab col dd k0 k1 k2 k3 k5 newId))(hN:h.Ns N mN)
 (hL:qL (.type B) jO=pure none) (vW:mN jO=none) (hx:h.get? a=some o) (hc:o.cls=.ref C) (hd:o.data=.fields vs) (jr:o.dict=some dx) (hD:h.Ns dx mD) (hv:mD jO=some v) (hq:Q (.done (.ret v)) ⟨h,g,d,t,os⟩):
 aW (model prog w) A (Builtin.«object.__getattribute__» ⟨[.ref a,.str jO tk],[]⟩) Q E ⟨h,g,d,t,os⟩:=by
 repeat (any_goals (first|assumption|(with_reducible refine pL hx ?_;first|rw[hc]|rw[hd])|(with_reducible refine x9 hC hN FB.mro hL ?_;rw[vW])|wp_step))
 rw[jr]
 repeat (any_goals (first|assumption|(with_reducible refine wpAny_nsGet hD ?_;rw[hv])|wp_step))
theorem VW{jO:Str}{tk:Tok}{v:ah}{R:Result->aq->Prop}(FB:ExcAttrBase B bm)(hC:h.get? C=some (m_ nm q C N bs bm true sn sub ab col dd k0 k1 k2 k3 k5 newId))(hN:h.Ns N mN)
 (hL:qL (.type B) jO=pure none) (vW:mN jO=none) (hx:h.get? a=some o) (hc:o.cls=.ref C) (hd:o.data=.fields vs) (jr:o.dict=some dx) (hD:h.Ns dx mD) (hv:mD jO=some v) (hq:R (.ok (.ret v)) ⟨h,g,d,t,os⟩):
 pF (model prog w) A (.call (.builtin "BaseException.__getattribute__") ⟨[.ref a,.str jO tk],[]⟩) R ⟨h,g,d,t,os⟩:=
 codeAny_call_builtin FB.ga.plain F.entry_bexc_ga (VT FB hC hx hc (VV FB hC hN hL vW hx hc hd jr hD hv hq))
theorem VX{jO:Str}{i:Int}{ti:Tok}{expr:Bool}{Q:ah->aq->Prop}(FB:ExcAttrBase B bm)(hC:h.get? C=some (m_ nm q C N bs bm true sn sub ab col dd k0 k1 k2 k3 k5 newId))(hN:h.Ns N mN)
 (VY:mN "__getattribute__"=none/\mN "__getattr__"=none)
 (hL:qL (.type B) jO=pure none) (vW:mN jO=none) (hx:h.get? a=some o) (hc:o.cls=.ref C) (hd:o.data=.fields vs) (jr:o.dict=some dx) (hD:h.Ns dx mD) (hv:mD jO=some (.int i ti)) (hq:Q (.int i ti) ⟨h,g,d,t+1,os⟩):
 aW (model prog w) A (getAttr (.ref a) jO expr) Q E ⟨h,g,d,t,os⟩:=by
 obtain⟨Ef,zj⟩:=VY;have f3:=FB.ga.bind (.ref a);have hx0:(expr&&onTheHeap (B4 "BaseException.__getattribute__"))=false:=by cases expr<;>rfl
 have VZ:(B4 "BaseException.__getattribute__"==B4 "object.__getattribute__")=false:=by decide+kernel
 have hx1:(onTheHeap (di C)&&B4 "BaseException.__getattribute__"==B4 "object.__getattribute__")=false:=by rw[VZ];rfl
 unfold getAttr
 repeat (any_goals (first|assumption|(with_reducible refine pL hx ?_;rw[hc])|(with_reducible refine x9 hC hN FB.mro FB.ga.lookup ?_;rw[Ef])|(with_reducible refine x9 hC hN FB.mro FB.noGetattr ?_;rw[zj])|wp_step))
 refine VW FB hC hN hL vW hx hc hd jr hD hv ?_
 repeat (any_goals (first|assumption|wp_step))
end
section
variable{M:Model}{A:cQ}{E:ah->aq->Prop}{env:Env}
variable{nm q:Str}{C N:ae}{bs bm:List ah}{hdct:Bool}{sn:List Str}{sub:List ah}{ab:Bool}{col:Option Bool}{dd:Option ae}{k0 k1 k2 k3 k5:Option ah}{newId:String}
theorem V0{s:aq}{x:Sem ah}{Q:Flow->aq->Prop}(jm:bm.contains (.type "BaseException")=true)(hh:A.handled=none)
 (h:aW M A x (λv s₁=>∃e t dx,v=.ref e/\s₁.heap.get? C=some (m_ nm q C N bs bm hdct sn sub ab col dd k0 k1 k2 k3 k5 newId)/\
   s₁.heap.get? e=some {cls:=.ref C,dict:=dx,data:=.fields #[.ref t,.none,.none,.none,.bool false,.none]}/\E (.ref e) s₁) E s):
 aW M A (raiseStmt env (some x) none) Q E s:=by
 have Ee:(di C::bm).contains (.type "BaseException")=true:=by rw[P1,jm,Bool.or_true]
 unfold raiseStmt;refine cg (fM h (λv s₁ h₁=> ?_) λ_ _ x=>x);obtain⟨e,t,dx,rfl,hC,he,hE⟩:=h₁;obtain⟨hp,g,d,tk,os⟩:=s₁
 repeat (first|with_reducible refine pL he ?_|with_reducible refine pL hC ?_|(with_reducible refine Qc hC ?_;rw[Ee])|wp_step)
 exact wpAny_raiseNew_none hh hE
end
def fU(lo:Nat)(x T:ae)(cls:ah)(dx:Option ae)(fl:ah)(h:aC):Prop:=
 ∃oe vs oT ts,h.get? x=some oe/\oe.cls=cls/\oe.dict=dx/\oe.data=.fields vs/\vs[1]? =some (.ref T)/\T≠x/\h.get? T=some oT/\oT.data=.fields ts/\ts[3]? =some fl/\lo<=x/\lo<=T
structure gu(l:List Env)(x T:ae)(h h':aC):Prop where
 keep:∀b o,h.get? b=some o->b≠x->b≠T->b∉l.filterMap (·.frame)->h'.get? b=some o
 slot:∀b o,h.get? b=some o->b≠x->b≠T->∃sl,h'.get? b=some {o with slots:=sl}
section
variable{M:Model}{A:cQ}{E:ah->aq->Prop}{s:aq}
theorem Mg{base:aC}{env:Env}{outer:List Env}{L e:ae}{oe:Obj}{vs:Array ah}{head:ah}{V1:Bool}{lo:Nat}{Q:Unit->aq->Prop}
 (hG:A.frames=some (env::outer)) (hl:s.heap.FunFrames base (env::outer)) (hf:env.frame=some L)
 (he:s.heap.get? e=some oe) (hd:oe.data=.fields vs) (hsz:1<vs.size) (l8:lo<=e)
 (h:∀h' T,s.heap.objs.size<=T->fU lo e T oe.cls oe.dict (gF L) h'->gu (env::outer) e e s.heap h'->Q () {s with heap:=h'}):
 aW M A (do let a <-frameOf env;let pl <-entryPlaceOf L V1;let b <-afm head a .none (gF L) .none pl;setField (.ref e) 1 b) Q E s:=by
 have V2:e∉(env::outer).filterMap (·.frame):=λhm=>by
  obtain⟨_,o,ho,o5⟩:=hl.mem hm;rw[he] at ho;injection ho with ho;subst ho;exact o5 vs hd
 refine cg (wpAny_frameOf_fun hG hl hf λh₁ hs₁=> ?_);refine cg (wpAny_entryPlaceOf λpl dE=> ?_);unfold afm newFields;refine cg (wpAny_newObj_type ?_ (dE.sizeOk5 _ _ _ _ _));have he₁:h₁.get? e=some oe:=(hs₁.2.1 e V2).trans he;have he₂:=eO (h:=h₁) {cls:=.type "traceback",dict:=none,data:=.fields ([head,.ref L,.none,gF L,.none]++(if pl.isEmpty then cZ 6 iZ else pl)).toArray} he₁
 have Mh:h₁.objs.size=s.heap.objs.size:=hs₁.1;have l9:h₁.objs.size≠e:=IJ (cY he₁);have V3:e<s.heap.objs.size:=cY he;refine Jn he₂ hd hsz (h _ h₁.objs.size (BL Mh.symm) ?_ ?_)
 ·have hd₃:=B5 hd (·.setIfInBounds 1 (di h₁.objs.size));have he₃:=BV (x_ (·.setIfInBounds 1 (di h₁.objs.size))) he₂ (Qe hd₃);have hT₃:=(uW (h₁.push {cls:=.type "traceback",dict:=none,data:=.fields ([head,.ref L,.none,gF L,.none]++(if pl.isEmpty then cZ 6 iZ else pl)).toArray})
   (x_ (·.setIfInBounds 1 (di h₁.objs.size))) (Ne.symm l9)).trans (iM h₁ rfl)
  exact⟨_,_,_,_,he₃,Obj.cls_mapFields _ _,by obtain⟨c,dd,dt,sl⟩:=oe;obtain rfl:dt=.fields vs:=hd;rfl,hd₃,by simp[hsz],l9,hT₃,rfl,by first|(simp;done)|(rcases dE with rfl|⟨_,_,_,_,_,_,_,rfl⟩<;>simp),l8,by rw[Mh];exact xO (BX l8 V3)⟩
 ·have keep:∀b o,b≠e->h₁.get? b=some o->
   ((h₁.push {cls:=.type "traceback",dict:=none,data:=.fields ([head,.ref L,.none,gF L,.none]++(if pl.isEmpty then cZ 6 iZ else pl)).toArray}).update e (x_ (·.setIfInBounds 1 (di h₁.objs.size)))).get? b=some o:=
   λb o j9 hb=>by
    rw[uW _ _ (Ne.symm j9)];exact eO _ hb
  refine⟨λb o hb j9 _ o5=>keep b o j9 ((hs₁.2.1 b o5).trans hb),λb o hb j9 _=> ?_⟩;obtain⟨sl,hs⟩:=hs₁.2.2 b o hb;exact⟨sl,keep b _ j9 hs⟩
theorem rO{lo:Nat}{x T:ae}{cls:ah}{dx:Option ae}{fl:ah}{Q:Unit->aq->Prop}(hf:fU lo x T cls dx fl s.heap)
 (h:∀h',fU lo x T cls dx .none h'->gu [] x T s.heap h'->Q () {s with heap:=h'}):aW M A (ya (.ref x) none) Q E s:=by
 obtain⟨oe,vs,oT,ts,he,hc,jr,hd,h1,l9,hT,kj,h3,l1,l2⟩:=hf;have rP:3<ts.size:=(Array.getElem?_eq_some_iff.mp h3).1;have other:∀b,b≠T->(s.heap.update T (x_ (·.setIfInBounds 3 ((none:Option ae).elim iZ λf=>gF f)))).get? b=s.heap.get? b:=
  λb hb=>uW _ _ (Ne.symm hb)
 unfold ya;refine cg (sZ he hd h1 ?_);rw[if_pos (show(di T !=iZ)=true from by simp)]
 refine Jn hT kj rP (h _ ?_ ?_)
 ·exact⟨oe,vs,_,_,(other x (Ne.symm l9)).trans he,hc,jr,hd,h1,l9,BV _ hT (Qe (B5 kj _)),B5 kj _,by simp[rP],l1,l2⟩
 ·exact⟨λb o hb _ l_ _=>(other b l_).trans hb,λb o hb _ l_=>⟨o.slots,(other b l_).trans hb⟩⟩
theorem Mj{base:aC}{env:Env}{outer:List Env}{L e t:ae}{cls:ah}{dx:Option ae}{lo:Nat}{Q:Unit->aq->Prop}
 (hG:A.frames=some (env::outer)) (hl:s.heap.FunFrames base (env::outer)) (hf:env.frame=some L)
 (he:s.heap.get? e=some {cls:=cls,dict:=dx,data:=.fields #[.ref t,.none,.none,.none,.bool false,.none]}) (l8:lo<=e) (Ml:lo<=s.heap.objs.size)
 (h:∀h' T,s.heap.objs.size<=T->fU lo e T cls dx (gF L) h'->gu (env::outer) e e s.heap h'->Q () {s with heap:=h'}):aW M A (u4 (.ref e) env) Q E s:=by
 unfold u4;simp only[hf];refine cg (sZ he rfl (x:=.none) rfl ?_);rw[if_neg (by decide)]
 exact Mg (oe:={cls:=cls,dict:=dx,data:=.fields #[.ref t,.none,.none,.none,.bool false,.none]}) hG hl hf he rfl (by simp) l8 h
theorem zk{base:aC}{env:Env}{outer:List Env}{L x T:ae}{cls:ah}{dx:Option ae}{lo:Nat}{Q:Unit->aq->Prop}
 (hG:A.frames=some (env::outer)) (hl:s.heap.FunFrames base (env::outer)) (hf:env.frame=some L) (o6:fU lo x T cls dx .none s.heap)
 (h:∀h' T',s.heap.objs.size<=T'->fU lo x T' cls dx (gF L) h'->gu (env::outer) x T s.heap h'->Q () {s with heap:=h'}):aW M A (u4 (.ref x) env) Q E s:=by
 obtain⟨oe,vs,oT,ts,he,hc,jr,hd,h1,l9,hT,kj,h3,l1,l2⟩:=o6;subst hc jr;have rP:3<ts.size:=(Array.getElem?_eq_some_iff.mp h3).1;unfold u4;simp only[hf];refine cg (sZ he hd h1 ?_);rw[if_pos (show(di T !=iZ)=true from by simp)]
 refine cg (sZ hT kj h3 ?_);rw[if_neg (show¬((iZ==gF L)=true) from by simp[gF])]
 refine cg (Jn hT kj rP ?_);have other:∀b,b≠T->(s.heap.update T (x_ (·.setIfInBounds 3 iZ))).get? b=s.heap.get? b:=λb hb=>uW _ _ (Ne.symm hb);have V4:∀b o,s.heap.get? b=some o->(∀vs,o.data≠ .fields vs)->b≠T:=λb o hb o5 q=>by
  rw[q,hT] at hb;injection hb with hb;subst hb;exact o5 ts kj
 refine Mg hG (hl.of_keeps λb o hb o5=>⟨o,(other b (V4 b o hb o5)).trans hb,rfl⟩) hf ((other x (Ne.symm l9)).trans he) hd (Array.getElem?_eq_some_iff.mp h1).1 l1
  λh' T' iC fl ⟨k1,k2⟩=>h h' T' (by simpa[aC.update] using iC) fl ⟨λb o hb vX l_ o5=>k1 b o ((other b l_).trans hb) vX vX o5,λb o hb vX l_=>k2 b o ((other b l_).trans hb) vX vX⟩
theorem gu.trans{l l':List Env}{x T T':ae}{h h' tX:aC}(a:gu l x T h h')(b:gu l' x T' h' tX)(hs:∀b∈l'.filterMap (·.frame),b∈l.filterMap (·.frame))(hT:∀b o,h.get? b=some o->b≠T'):gu l x T h tX:=
 ⟨λc o q h1 h2 h3=>b.keep c o (a.keep c o q h1 h2 h3) h1 (hT c o q) (λz=>h3 (hs c z)),λc o q h1 h2=>by
   obtain⟨sl,e1⟩:=a.slot c o q h1 h2;obtain⟨tH,e2⟩:=b.slot c _ e1 h1 (hT c o q);exact⟨tH,e2⟩⟩
theorem Mn{base:aC}{env:Env}{outer:List Env}{L x T:ae}{cls:ah}{dx:Option ae}{lo:Nat}{Q:Unit->aq->Prop}
 (hG:A.frames=some (env::outer)) (hl:s.heap.FunFrames base (env::outer)) (hf:env.frame=some L) (o6:fU lo x T cls dx .none s.heap)
 (h:∀h' T',s.heap.objs.size<=T'->fU lo x T' cls dx .none h'->gu (env::outer) x T s.heap h'->Q () {s with heap:=h'}):aW M A (leaving env (.ref x)) Q E s:=by
 unfold leaving;refine cg (zk hG hl hf o6 λh1 T' iC f1 k1=> ?_);refine rO (s:={s with heap:=h1}) f1 λh2 f2 k2=>h h2 T' iC f2 (k1.trans k2 (λb z=>nomatch z) λb o q z=> ?_)
 exact absurd (ej (cY q) (by rw[z];exact iC)) (iK _)
theorem V5{base:aC}{env:Env}{outer:List Env}{L e t:ae}{cls:ah}{dx:Option ae}{lo:Nat}{Q:Unit->aq->Prop}
 (hG:A.frames=some (env::outer)) (hl:s.heap.FunFrames base (env::outer)) (hf:env.frame=some L)
 (he:s.heap.get? e=some {cls:=cls,dict:=dx,data:=.fields #[.ref t,.none,.none,.none,.bool false,.none]}) (l8:lo<=e) (Ml:lo<=s.heap.objs.size)
 (h:∀h' T',s.heap.objs.size<=T'->fU lo e T' cls dx .none h'->gu (env::outer) e e s.heap h'->Q () {s with heap:=h'}):aW M A (leaving env (.ref e)) Q E s:=by
 unfold leaving;refine cg (Mj hG hl hf he l8 Ml λh1 T' iC f1 k1=> ?_);refine rO (s:={s with heap:=h1}) f1 λh2 f2 k2=>h h2 T' iC f2 (k1.trans k2 (λb z=>nomatch z) λb o q z=> ?_)
 exact absurd (ej (cY q) (by rw[z];exact iC)) (iK _)
end
section
variable{prog:aS}{w:aL}{A:cQ}{E:ah->aq->Prop}{s:aq}{env:Env}
variable{nm q:Str}{C N:ae}{bs bm:List ah}{hdct:Bool}{sn:List Str}{sub:List ah}{ab:Bool}{col:Option Bool}{dd:Option ae}{k0 k1 k2 k3 k5:Option ah}{newId:String}
theorem V6{e:ae}{t:bz}{b₀:cD}{me:List cD}{pos:Pos}{rest:List ExceptHandler}{Q:Flow->aq->Prop}(jm:bm.contains (.type "BaseException")=true)
 (h:aW (model prog w) (A.mark (some (.ref e))) (eval t env) (λc s₁=>c=.ref C/\s₁.heap.get? C=some (m_ nm q C N bs bm hdct sn sub ab col dd k0 k1 k2 k3 k5 newId)/\ (∃oe,s₁.heap.get? e=some oe/\oe.cls=.ref C)/\
   aW (model prog w) (A.mark (some (.ref e))) (ya (.ref e) none) (λ_ s₂=>aW (model prog w) (A.mark (some (.ref e))) (execs (b₀::me) env) Q (λ_ _=>False) s₂) (λ_ _=>False) s₁) (λ_ _=>False) s):
 aW (model prog w) A (handleBy (.ref e) env (.ExceptHandler (some t) none (b₀::me) pos::rest)) Q E s:=by
 refine wpAny_handleBy_cons (codeAny_handlers_test (fM h (λc s₁ h₁=> ?_) λ_ _ x=>x.elim)) (by intro q;cases q)
 obtain⟨rfl,hC,⟨oe,he,hc⟩,hk⟩:=h₁;obtain⟨hp,g,d,tk,os⟩:=s₁;refine wpAny_excMatches_sub_self hC he hc jm ?_;refine codeAny_handlers_suite (fM hk (λ_ s₂ h₂=> ?_) λ_ _ x=>x.elim);exact fM h₂ (λ_ _ x=>x) λ_ _ x=>x.elim
theorem V7{e:ae}{t:bz}{n:Str}{b₀:cD}{me:List cD}{pos:Pos}{rest:List ExceptHandler}{Q:Flow->aq->Prop}(jm:bm.contains (.type "BaseException")=true)
 (h:aW (model prog w) (A.mark (some (.ref e))) (eval t env) (λc s₁=>c=.ref C/\s₁.heap.get? C=some (m_ nm q C N bs bm hdct sn sub ab col dd k0 k1 k2 k3 k5 newId)/\ (∃oe,s₁.heap.get? e=some oe/\oe.cls=.ref C)/\
   aW (model prog w) (A.mark (some (.ref e))) (ya (.ref e) none) (λ_ s₂=>
    aW (model prog w) (A.mark (some (.ref e))) (storeName env n (.ref e)) (λ_ s₃=>
     aW (model prog w) (A.mark (some (.ref e))) (execs (b₀::me) env)
      (λf s₄=>aW (model prog w) A (do bindName env n .none;unbindBehindTheSuite env n pos) (λ_ s₅=>Q f s₅) E s₄) (λ_ _=>False) s₃) (λ_ _=>False) s₂) (λ_ _=>False) s₁) (λ_ _=>False) s):
 aW (model prog w) A (handleBy (.ref e) env (.ExceptHandler (some t) (some n) (b₀::me) pos::rest)) Q E s:=by
 refine wpAny_handleBy_cons (codeAny_handlers_test (fM h (λc s₁ h₁=> ?_) λ_ _ x=>x.elim)) (by intro q;cases q)
 obtain⟨rfl,hC,⟨oe,he,hc⟩,hk⟩:=h₁;obtain⟨hp,g,d,tk,os⟩:=s₁;refine wpAny_excMatches_sub_self hC he hc jm ?_;refine codeAny_handlers_suite_as (fM hk (λ_ s₂ h₂=> ?_) λ_ _ x=>x.elim);refine fM h₂ (λ_ s₃ h₃=> ?_) λ_ _ x=>x.elim;exact fM h₃ (λ_ _ x=>x) λ_ _ x=>x.elim
end
open Builtin Builtin.ObjectAttr
section
variable{prog:aS}{w:aL}{A:cQ}{E:ah->aq->Prop}{h:aC}{g:Array GenState}{d:Drawn}{t:Nat}{os:OsState}
variable{nm q:Str}{C N x t0:ae}{bs bm:List ah}{sn:List Str}{sub:List ah}{ab:Bool}{col:Option Bool}{dd:Option ae}{k0 k1 k2 k3 k5:Option ah}{B newId sa owner:String}
 {mN:Str->Option ah} {name:Str} {v:ah}
abbrev xo(C:ae)(dx:Option ae)(t0:ae):Obj:={cls:=.ref C,dict:=dx,data:=.fields #[.ref t0,.none,.none,.none,.bool false,.none]}
abbrev uh(h:aC)(x:ae):aC:=(h.push {cls:=.type "dict",data:=.dict #[]}).update x λo=>{cls:=o.cls,dict:=some h.objs.size,data:=o.data,slots:=o.slots}
theorem V8{tk:Tok}{Q:Fin->aq->Prop}(SF:StoreFacts B bm sa owner)
 (hC:h.get? C=some (m_ nm q C N bs bm true sn sub ab col dd k0 k1 k2 k3 k5 newId)) (hn:h.Ns N mN) (Eg:mN name=none)
 (hB:qL (.type B) name=pure none) (hx:h.get? x=some (xo C none t0))
 (hq:∀h' kl,h'.Ns1 h.objs.size (λy=>if y=name then some v else none)->xP h.objs.size (uh h x) h'->Q (.done (.ret .none)) ⟨h',g,d,kl,os⟩):
 aW (model prog w) A (Builtin.«object.__setattr__» ⟨[.ref x,.str name tk,v],[]⟩) Q E ⟨h,g,d,t,os⟩:=by
 obtain⟨o,ho⟩:∃o,o=xo C none t0:=⟨_,rfl⟩;rw[<-ho] at hx;have hc:o.cls=.ref C:=by rw[ho]
 have V9:o.dict=none:=by rw[ho]
 have V_:∀c,o.data≠ .cls c:=λc z=>by rw[ho] at z;cases z
 have V':=SF.passes (.ref x);unfold Builtin.«object.__setattr__»
 repeat (first|rw[refuse_eq]|(rw[refuseLoop_ref,V'])|(with_reducible refine pL hx ?_;rw[hc])|with_reducible refine wpAny_mroOf_exc hC ?_|(with_reducible refine x9 hC hn SF.mro hB ?_;rw[Eg])|wp_step)
 rw[V9,if_neg (by simp[typeHasDict])]
 split
 ·rename_i fq;cases fq
 split
 ·rename_i c fq;exact absurd fq (V_ c)
 have hx₁:(h.push {cls:=.type "dict",data:=.dict #[]}).get? x=some o:=eO _ hx;have ui:x≠h.objs.size:=iu (cY hx);refine cg (wpAny_alloc' ?_);refine cg (wpAny_update' hx₁ ?_);refine gc ?_;have Wa:(uh h x).get? h.objs.size=some {cls:=.type "dict",data:=.dict #[]}:=
  (aC.get?_update_ne _ _ _ _ ui.symm).trans (aC.get?_push_at rfl rfl)
 have y':(uh h x).Ns h.objs.size (λ_=>none):=⟨_,#[],_,Wa,rfl,λe he=>absurd he (by simp),λ_=>rfl⟩
 show aW _ _ (storeInDict h.objs.size (.str name tk) name v) _ _ _;unfold storeInDict newKeyGuard;refine cg (gc (cg (wpAny_nsSet1 (PB y') λh' qX hs=> ?_)));obtain⟨oD,Ri,Rj,CF,CG,CH⟩:=qX.count (Within.cons name v Within.nil);refine cg (wpAny_lookBehind CF (by rw[CG];exact pastItsLine_dict (dw CH (by rw[cI,eJ,aR];omega))) ?_)
 wp_walk
 exact hq h' _ qX hs
theorem Wb{Q:Unit->aq->Prop}(SF:StoreFacts B bm sa owner)
 (hC:h.get? C=some (m_ nm q C N bs bm true sn sub ab col dd k0 k1 k2 k3 k5 newId)) (hn:h.Ns N mN) (zl:mN "__setattr__"=none) (Eg:mN name=none)
 (hB:qL (.type B) name=pure none) (hx:h.get? x=some (xo C none t0))
 (hq:∀h' kl,h'.Ns1 h.objs.size (λy=>if y=name then some v else none)->xP h.objs.size (uh h x) h'->Q () ⟨h',g,d,kl,os⟩):
 aW (model prog w) A (setAttr (.ref x) name v) Q E ⟨h,g,d,t,os⟩:=by
 have f3:=SF.slot.bind (.ref x);have hc:(xo C none t0).cls=.ref C:=rfl;unfold setAttr callSpecial? specialOf
 repeat (any_goals (first|assumption|(with_reducible refine pL hx ?_;rw[hc])|(with_reducible refine x9 hC hn SF.mro SF.slot.lookup ?_;rw[zl])|wp_step))
 refine codeAny_call_builtin SF.slot.plain SF.entry (wpAny_check_sa SF hC hx hc (V8 SF hC hn Eg hB hx λh' kl I' hk=> ?_))
 repeat (any_goals (first|assumption|wp_step))
 exact hq h' kl I' hk
end
end XR
namespace L2
open PySem PySem.Spec PyProof.Rows
open XR (fU gu)
def km(C x:ae):HO:=.ext λh=>∃t,h.get? x=some {cls:=.ref C,data:=.fields #[.ref t,.none,.none,.none,.bool false,.none]}
def gD(C x d:ae):HO:=.ext λh=>∃t,h.get? x=some {cls:=.ref C,dict:=some d,data:=.fields #[.ref t,.none,.none,.none,.bool false,.none]}
def qm(C x d:ae):HO:=.ext λh=>∃o vs,h.get? x=some o/\o.cls=.ref C/\o.dict=some d/\o.data=.fields vs
def fJ(d:ae)(fs:List (Str×V)):HO:=.ext λh=>∃mA,h.Ns1 d mA/\ (∀f,gx (fs.lookup f) (mA f))/\xN mA (fs.map (·.1))
section
variable{P:aS}{w:aL}{H:Hp}{h:aC}{C x d:ae}{fs:List (Str×V)}
theorem Wc{t:ae}(e:h.get? x=some {cls:=.ref C,data:=.fields #[.ref t,.none,.none,.none,.bool false,.none]}):df P w H h x (km C x):=
 ⟨⟨t,e⟩,⟨_,e⟩,λ_ _ ⟨t,e⟩ k=>⟨t,k _ e⟩⟩
theorem Wd{t:ae}(e:h.get? x=some {cls:=.ref C,dict:=some d,data:=.fields #[.ref t,.none,.none,.none,.bool false,.none]}):df P w H h x (gD C x d):=
 ⟨⟨t,e⟩,⟨_,e⟩,λ_ _ ⟨t,e⟩ k=>⟨t,k _ e⟩⟩
theorem We{o:Obj}{vs:Array ah}(e:h.get? x=some o)(hc:o.cls=.ref C)(hd:o.dict=some d)(hf:o.data=.fields vs):df P w H h x (qm C x d):=
 ⟨⟨o,vs,e,hc,hd,hf⟩,⟨_,e⟩,λ_ _ ⟨o,vs,e,r⟩ k=>⟨o,vs,k _ e,r⟩⟩
theorem Eh{mA:Str->Option ah}(hn:h.Ns1 d mA)(r:∀f,gx (fs.lookup f) (mA f))(wi:xN mA (fs.map (·.1))):df P w H h d (fJ d fs):=
 ⟨⟨mA,hn,r,wi⟩,let ⟨o,_,_,e,_⟩:=hn;⟨o,e⟩,λ_ _ ⟨mA,hn,r⟩ k=>⟨mA,hn.at k,r⟩⟩
end
def del(H:Hp)(x:ae):Hp:=λb=>if b=x then none else H b
theorem qo{H:Hp}{x:ae}:del H x x=none:=by unfold del;rw[if_pos rfl]
theorem js{H:Hp}{x b:ae}(h:b≠x):del H x b=H b:=by unfold del;rw[if_neg h]
theorem Wf{H:Hp}{x b:ae}{o:HO}(h:del H x b=some o):b≠x/\H b=some o:=by
 by_cases e:b=x
 ·rw[e,qo] at h;cases h
 ·rw[js e] at h;exact⟨e,h⟩
theorem c9.del{P:aS}{w:aL}{H:Hp}{h:aC}{x:ae}{φ:aC->Prop}(ok:c9 P w H h)(hx:H x=some (.ext φ)):c9 P w (del H x) h:=λb u q=>by
 obtain⟨hb,q⟩:=Wf q;refine(ok b u q).nq (λ_ _ _ e=>e) (λc r=> ?_) λc xs r=> ?_
 ·rw[js (λe=>by rw[e,hx] at r;cases r)];exact r
 ·rw[js (λe=>by rw[e,hx] at r;cases r)];exact r
theorem _root_.XR.fU.mono{lo Mo:Nat}{x T:ae}{cls:ah}{dx:Option ae}{fl:ah}{h:aC}(f:fU lo x T cls dx fl h)(hl:Mo<=lo):fU Mo x T cls dx fl h:=by
 obtain⟨oe,vs,oT,ts,a1,a2,a3,a4,a5,a6,a7,a8,a9,l1,l2⟩:=f;exact⟨oe,vs,oT,ts,a1,a2,a3,a4,a5,a6,a7,a8,a9,dw hl l1,dw hl l2⟩
theorem _root_.XR.fU.lx{lo:Nat}{x T:ae}{cls:ah}{dx:Option ae}{fl:ah}{h:aC}(f:fU lo x T cls dx fl h):lo<=x:=let ⟨_,_,_,_,_,_,_,_,_,_,_,_,_,l,_⟩:=f;l
theorem _root_.XR.fU.lT{lo:Nat}{x T:ae}{cls:ah}{dx:Option ae}{fl:ah}{h:aC}(f:fU lo x T cls dx fl h):lo<=T:=let ⟨_,_,_,_,_,_,_,_,_,_,_,_,_,_,l⟩:=f;l
def bq(P:aS)(w:aL):jG:=λouter H s E e s'=>∃(x T:ae) (cls:ah) (dx:Option ae) (H':Hp),e=.ref x/\s'.os=s.os/\sL s'.gens/\Un (jA outer) [] H H' s.heap s'.heap/\c9 P w H' s'.heap/\
 fU s.heap.objs.size x T cls dx .none s'.heap/\H' x=none/\H' T=none/\E cls dx H'
section
variable{X:Cx}{pins:List (ae×Obj)}{σ:St}{H H':Hp}{s:aq}{h':aC}
theorem Inv.leave{x T:ae}{base:aC}(I:Inv X pins σ H s)(d9:X.stack=X.env::X.outer/\X.env.frame=some X.env.locals)(hex:X.ex=[])(k:gu X.stack x T s.heap h')(lx:X.dB.heap.objs.size<=x)(lT:X.dB.heap.objs.size<=T):
 Un X.fs [] X.tE H X.dB.heap h':=by
 have nx:X.dB.heap.get? x=none:=Pt lx;have nT:X.dB.heap.get? T=none:=Pt lT;have vY:∀b,b∉X.ex:=λb=>by rw[hex];simp
 have fr:X.stack.filterMap (·.frame)=X.env.locals::X.fs:=by rw[d9.1,IG,d9.2];rfl
 have pT:∀b o,X.dB.heap.get? b=some o->b≠X.env.locals:=λb o e=>iu (ej (cY e) I.ok.above);have uj:∀b o,X.dB.heap.get? b=some o->b≠x/\b≠T:=λb o e=>⟨λz=>(by rw[z,nx] at e;cases e),λz=>(by rw[z,nT] at e;cases e)⟩
 refine⟨λb o e n hb _=> ?_,λb o e n hb _=> ?_,λb o e n _=>I.base.free b o e n (vY b),λb o e _=> ?_,I.base.jy,I.base.jf,I.base.jz⟩
 ·refine k.keep b o (I.base.keep b o e n hb (vY b)) (uj b o e).1 (uj b o e).2 λz=> ?_;rw[fr] at z;rcases cC.mp z with z|z
  ·exact pT b o e z
  ·exact hb z
 ·obtain⟨sl,e1⟩:=I.base.slot b o e n hb (vY b);obtain⟨tH,e2⟩:=k.slot b _ e1 (uj b o e).1 (uj b o e).2;exact⟨tH,e2⟩
 ·obtain⟨o',e1⟩:=I.base.there b o e (vY b);obtain⟨tH,e2⟩:=k.slot b _ e1 (uj b o e).1 (uj b o e).2;exact⟨_,e2⟩
theorem c9.kn{P:aS}{w:aL}{x T:ae}{l:List Env}(ok:c9 P w H s.heap)(k:gu l x T s.heap h')(hx:H x=none)(hT:H T=none)(hl:∀b∈jA l,H b=none):c9 P w H h':=λb u q=>by
 have ne:∀c v,H c=some v->c≠x/\c≠T/\c∉l.filterMap (·.frame):=λc v e=>⟨λz=>(by rw[z,hx] at e;cases e),λz=>(by rw[z,hT] at e;cases e),λz=>(by rw[hl c z] at e;cases e)⟩
 refine(ok b u q).nq (λc v hc e=> ?_) (λ_ r=>r) λ_ _ r=>r;have nc:c≠x/\c≠T/\c∉l.filterMap (·.frame):=by
  rcases hc with z|z
  ·rw[z];exact ne b u q
  ·exact ne c _ z
 exact k.keep c v e nc.1 nc.2.1 nc.2.2
end
theorem Un.del{fs ex:List ae}{H H':Hp}{h h':aC}{x:ae}{φ:aC->Prop}(u:Un fs ex H H' h h')(hx:H' x=some (.ext φ)):Un fs ex H (del H' x) h h' where
 keep:=u.keep
 slot:=u.slot
 free:=λb o e n he=>by
  by_cases z:b=x
  ·rw[z];exact qo
  ·rw[js z];exact u.free b o e n he
 there:=u.there
 jy:=λb xs e=>by rw[js λz=>by have:=u.jy b xs e;rw[z,hx] at this;cases this];exact u.jy b xs e
 jf:=λb o v e=>by rw[js λz=>by have:=u.jf b o v e;rw[z,hx] at this;cases this];exact u.jf b o v e
 jz:=λb ps e=>by
  obtain⟨m,q⟩:=u.jz b ps e;exact⟨m,by rw[js λz=>by rw[z,hx] at q;cases q];exact q⟩
section
variable{P:aS}{w:aL}{K:az}{mg:Str->Option ah}{base:aC}{N:List Str}{qual:Str}{scope:d6}{f:ae}{cd:ah}{A:cQ}{outer:List Env}{s0:aq}{H0:Hp}{E:XK}
theorem cS:Passes (bq P w) (i9 (bq P w) P w K mg base N qual scope f cd A outer s0 H0 E) E:=by
 intro pins σ H s e s' I h;obtain⟨x,T,cls,dx,H',rfl,os,bare,un,aU,eZ,hx,hT,q⟩:=h;have I':Inv (i9 (bq P w) P w K mg base N qual scope f cd A outer s0 H0 E) pins σ H' s':=I.vh (ch:=[]) os un aU bare (λb z=>nomatch z);have eZ:=eZ.mono (show s0.heap.objs.size<=s.heap.objs.size from I.sz);have lx:=eZ.lx;have lT:=eZ.lT;refine XR.Mn (base:=base) I'.ok.frames I'.stack rfl eZ λtX T' iC kq k=> ?_;exact⟨x,T',cls,dx,H',rfl,I'.os,I'.bare,I'.leave (base:=base) ⟨rfl,rfl⟩ rfl k lx lT,aU.kn k hx hT I'.pS,kq,hx,I'.aU.fresh iC,q⟩
end
def Lets(X:Cx)(E:XK):Prop:=∀(pins:List (ae×Obj)) (σ:St) (H:Hp) (s:aq) (x C d:ae),Inv X pins σ H s->H x=some (gD C x d)->X.dB.heap.objs.size<=x->E (.ref C) (some d) (del H x)->X.xe (.ref x) s
section
variable{P:aS}{w:aL}{K:az}{mg:Str->Option ah}{base:aC}{N:List Str}{qual:Str}{scope:d6}{f:ae}{cd:ah}{A:cQ}{outer:List Env}{s0:aq}{H0:Hp}{E:XK}
theorem rQ:Lets (i9 (bq P w) P w K mg base N qual scope f cd A outer s0 H0 E) E:=by
 intro pins σ H s x C d I hx lx q;obtain⟨⟨t,ex⟩,_⟩:df P w H s.heap x (gD C x d):=I.aU x _ hx;refine XR.V5 (base:=base) I.ok.frames I.stack rfl ex (lo:=s0.heap.objs.size) lx I.sz λtX T' iC kq k=> ?_;have hf:∀b∈jA (envOfC qual scope s0.heap.objs.size f cd::outer),del H x b=none:=λb hb=>by
  by_cases z:b=x
  ·rw[z];exact qo
  ·rw[js z];exact I.pS b hb
 have hT:T'≠x:=λz=>absurd (ej (cY ex) (by rw[<-z];exact iC)) (iK _)
 exact⟨x,T',.ref C,some d,del H x,rfl,I.os,I.bare,(I.leave (base:=base) ⟨rfl,rfl⟩ rfl k lx lx).del hx,c9.kn (I.aU.del hx) k qo qo hf,kq,qo,by rw[js hT];exact I.aU.fresh iC,q⟩
end
abbrev vZ:List ah:=[.type "Exception",.type "BaseException",.type "object"]
structure jb(K:az)(C N f:ae):Prop where
 cls:∃nm q bs sn sub ab col dd k0 k1 k2 k3 k5,K.lookup C=some (m_ nm q C N bs vZ true sn sub ab col dd k0 k1 k2 k3 k5 "Exception.__new__")
 ok:PySem.W.nsOkIn K N=true
 init:lB K N "__init__"=some (some (.ref f))
 fn:uV K (.ref f)=true
 kp:iN K (.ref C)=true
 sa:lB K N "__setattr__"=some none
 ga:lB K N "__getattribute__"=some none
 gh:lB K N "__getattr__"=some none
structure mh(K:az)(N:ae)(n:Str):Prop where
 own:lB K N n=some none
 base:qL (.type "Exception") n=pure none
theorem Wg{K:az}{h:aC}{N:ae}{mN:Str->Option ah}{n:Str}{v:ah}(X:K.In h)(G:h.Ns N mN)(e:lB K N n=some (some v)):mN n=some v:=by
 obtain⟨o,es,ep,ho,hd,_,hf⟩:=G;unfold lB at e
 split at e
 ·rename_i c d yp n' sl q;have:=X _ _ q;rw[ho] at this;cases this;cases hd
  split at e
  ·rename_i y he;rw[<-hf];unfold nsFind findBy;rw[<-Array.find?_toList,he];exact f9 e
  ·split at e<;>cases e
 ·cases e
theorem jb.ns{K:az}{C N f:ae}{h:aC}(T:jb K C N f)(X:K.In h):h.Ns N (h.nsMap N):=.of_isNs (PySem.W.isNs_of_in X T.ok)
section
variable{X:Cx}{CX:jG}{k:Nat}{C N f:ae}{fd:bK}{ps:List Str}{sp:Sp}{E:XK}{x:Str}{p pos dS:Pos}{e:bz}{es:List bz}{t:TA}
abbrev Ei(us:List ah):Obj:={cls:=.type "tuple",data:=.seq us.toArray}
abbrev excOf(C t:ae):Obj:={cls:=.ref C,data:=.fields #[.ref t,.none,.none,.none,.bool false,.none]}
theorem Wh{pins:List (ae×Obj)}{σ:St}{H:Hp}{s:aq}{Q:VK}{us:List ah}{vs:List V}(M:jb X.K C N f)(F:aD X.prog X.w X.K X.mg X.base CX k f fd ps sp)(hr:dD (k+1) X.A)(hb:Binds X.K fd ps [])
 (hx:Passes CX X E) (hex:X.ex=[]) (I:Inv X pins σ H s) (r:Vals vs us) (hz:us.length<=sizeLine)
 (h:∀x,H x=none->sp (.ref x::vs) (upd H x (km C x)) (λv H2=>v=.aO/\Q (.ref x) H2) E):
 aW (model X.prog X.w) X.A (call (.ref C) us) (EP X pins σ λv H2=>Q v H2/\ ∃x,v=.ref x/\X.dB.heap.objs.size<=x) X.xe s:=by
 have nw:X.dB.heap.objs.size<=s.heap.objs.size+1:=dw I.sz (BP _);have hq:=h (s.heap.objs.size+1) (I.aU.fresh (BP _));have e2:((s.heap.push (Ei us)).push (excOf C s.heap.objs.size)).get? (s.heap.objs.size+1)=some (excOf C s.heap.objs.size):=by
  have:=iM (s.heap.push (Ei us)) (o:=excOf C s.heap.objs.size) rfl
  rwa [lh] at this
 have I2:Inv X pins σ (upd H (s.heap.objs.size+1) (km C (s.heap.objs.size+1))) {s with heap:=(s.heap.push (Ei us)).push (excOf C s.heap.objs.size)}:=
  I.laid (t':=s.toks) (λb u q=>eO _ (eO _ q)) (BP _) (Wc e2)
 have r2:Vals (V.ref (s.heap.objs.size+1)::vs) (di (s.heap.objs.size+1)::us):=.cons rfl r;have hl:(di (s.heap.objs.size+1)::us++[]).length=ps.length:=by
  have e:=r2.length;rw[F.len _ _ _ _ hq] at e;rw[dz];exact e.symm
 have bd:=hb _ (di (s.heap.objs.size+1)::us) I2.dm hl;rw[dz] at bd;obtain⟨nm,q,bs,sn,sub,ab,col,dd,k0,k1,k2,k3,k5,lk⟩:=M.cls;have step:=F.run _ X.stack _ _ ⟨di (s.heap.objs.size+1)::us,[]⟩ (di (s.heap.objs.size+1)::us) _ _ E (hr.make C us []) (I2.yI.make C us []) bd r2 hq;obtain⟨hh,g,d,tk,os⟩:=s;refine BO (XR.VO (K:=X.K) PySem.F.excBase_Exception I.dm (I.dm _ _ lk) (M.ns I.dm) (Wg I.dm (M.ns I.dm) M.init) (beq_iff_eq.mp M.fn) hz (xQ step λr s' jH=> ?_));cases r with
 |error e=>exact hx pins σ _ _ e s' I2 jH
 |ok fl=>
  cases fl with
  |ret u=>
   obtain⟨v,H',I3,rv,ev,q3⟩:=I2.after jH;subst ev;exact⟨rv,⟨V.ref (hh.objs.size+1),H',I3,rfl,q3,_,rfl,nw⟩⟩
  |next=>exact gw jH
  |brk=>exact gw jH
  |cont=>exact gw jH
def Wi(C:ae)(sp:Sp)(E:XK)(t:TA):TS:=λ_ σ H=>t σ H λvs H1=>vs.length<=sizeLine/\ ∀x,H1 x=none->sp (.ref x::vs) (upd H1 x (km C x)) (λv H2=>v=.aO/\ ∃x' d,V.ref x=.ref x'/\H2 x'=some (gD C x' d)/\E (.ref C) (some d) (del H2 x')) E0
theorem rR(M:jb X.K C N f)(F:aD X.prog X.w X.K X.mg X.base au k f fd ps sp)(hr:dD (k+1) X.A)(hb:Binds X.K fd ps [])(hc:X.calm=true)(hex:X.ex=[])(hL:Lets X E)(hg:Gl X x)(hm:X.mg x=some (.ref C))
 (ha:PA X (e::es) t) (g9:(x==("__debug__":Str))=false:=by decide) (he:cG (e::es) X.env=(false,eval e X.env)::cG es X.env:=by rfl) (dE:(f_ dS (cG es X.env)).any (·.1)=false:=by rfl)
 (hv:(evalOpt (some (.Call (.Name x p) (e::es) [] dS)) X.env)=some (eval (.Call (.Name x p) (e::es) [] dS) X.env):=by rfl) (hn:evalOpt none X.env=none:=by rfl):
 PS X (.Raise (some (.Call (.Name x p) (e::es) [] dS)) none pos) (Wi C sp E t):=by
 intro pins s σ H D I h;obtain⟨nm,q,bs,sn,sub,ab,col,dd,k0,k1,k2,k3,k5,lk⟩:=M.cls;rw[arm_exec_Raise,hv,hn];refine cg (BH (XR.V0 (C:=C) (nm:=nm) (q:=q) (N:=N) (bs:=bs) (bm:=vZ) (hdct:=true) (sn:=sn) (sub:=sub) (ab:=ab) (col:=col) (dd:=dd) (k0:=k0) (k1:=k1) (k2:=k2) (k3:=k3) (k5:=k5) (newId:="Exception.__new__") (by decide+kernel) (I.ok.hd hc) ?_))
 refine cg ?_;refine qJ (qY I hg hm ?_ g9);refine xR (h₀:=X.base) I.ok.mod.dA M.kp (bf (ha dS pins s σ H _ I h) λus s1 ⟨vs,H1,I1,r,hz,q⟩=>⟨I1.dm,?_⟩) he dE;refine bf (Wh (Q:=λv H2=>∃x d,v=.ref x/\H2 x=some (gD C x d)/\E (.ref C) (some d) (del H2 x)) (E:=E0) M F hr hb a_ hex I1 r (by show us.length<=sizeLine;rw[<-r.length];exact hz) λx n1=>q x n1) λu s2 ⟨v,H2,I2,rv,⟨x,d,ev,hx,q2⟩,x',Wj,nx⟩=> ?_
 ·subst ev;obtain rfl:x=x':=by injection Wj
  obtain rfl:u=di x:=rv;obtain⟨⟨t0,ex⟩,_⟩:df X.prog X.w H2 s2.heap x (gD C x d):=I2.aU x _ hx;refine cg (BH (gc ⟨x,t0,some d,rfl,I2.dm _ _ lk,ex,?_⟩));exact hL pins σ H2 s2 x C d I2 hx nx q2
end
section
variable{X:Cx}{pins:List (ae×Obj)}{σ:St}{H:Hp}{s:aq}{A:cQ}{E:ah->aq->Prop}{C N fi x d:ae}{f:Str}{y:V}{u:ah}{fs:List (Str×V)}
theorem Wl(f:Str)(u:ah):xN (λy=>if y=f then some u else none) [f]:=λg hg=>by
 by_cases q:g=f
 ·rw[q];exact oA.mpr rfl
 ·exact absurd (show(if g=f then some u else none)=none by rw[if_neg q]) hg
theorem Wm{Q:Unit->aq->Prop}(I:Inv X pins σ H s)(T:jb X.K C N fi)(e:H x=some (km C x))(n:mh X.K N f)(ry:b8 y u)
 (h:∀d s',H d=none->d≠x->Inv X pins σ (upd (upd H d (fJ d [(f,y)])) x (gD C x d)) s'->Q () s'):aW (model X.prog X.w) A (setAttr (.ref x) f u) Q E s:=by
 obtain⟨⟨t0,ex⟩,_⟩:df X.prog X.w H s.heap x (km C x):=I.aU x _ e;obtain⟨nm,q,bs,sn,sub,ab,col,dd,k0,k1,k2,k3,k5,lk⟩:=T.cls;have dA:=I.dm;have hN:=T.ns dA;obtain⟨hh,g,dr,tk,os⟩:=s;refine XR.Wb (t0:=t0) afn (dA _ _ lk) hN (u_ dA hN T.sa) (u_ dA hN n.own) n.base ex λh' kl hn sb=> ?_;have ui:x≠hh.objs.size:=iu (cY ex);have Ej:H hh.objs.size=none:=I.aU.fresh (bE _);refine h hh.objs.size _ Ej ui.symm ?_;have e1:(hh.push jW).get? hh.objs.size=some jW:=iM hh rfl;have n1:(hh.push jW).Ns hh.objs.size (λ_=>none):=⟨jW,#[],_,e1,rfl,(λe he=>absurd he (by simp)),λ_=>rfl⟩
 have I1:Inv X pins σ (upd H hh.objs.size (fJ hh.objs.size [])) ⟨hh.push jW,g,dr,kl,os⟩:=
  I.laid (t':=kl) (λb u q=>eO _ q) (bE _) (Eh (PB n1) (λ_=>True.intro) λy hy=>absurd rfl hy)
 have zm:(hh.push jW).get? x=some (XR.xo C none t0):=eO _ ex;have v_:(XR.uh hh x).get? x=some (XR.xo C (some hh.objs.size) t0):=BV _ zm rfl;have I2:Inv X pins σ (upd (upd H hh.objs.size (fJ hh.objs.size [])) x (gD C x hh.objs.size)) ⟨XR.uh hh x,g,dr,kl,os⟩:=by
  refine I1.write (t':=kl) (x:=x) (e:=x) (by rw[ak ui,e];exact True.intro) (.inl rfl) (λb u hb q=>(aC.get?_update_ne _ _ _ _ hb).trans q) ⟨_,v_⟩ (Wd v_)
 have I3:=I2.write (t':=kl) (h':=h') (x:=hh.objs.size) (e:=hh.objs.size) (o:=fJ hh.objs.size [(f,y)]) (by rw[ak ui.symm,aB];exact True.intro) (.inl rfl) (λb u hb q=>(sb.2 b hb).trans q) (let ⟨o,_,_,e,_⟩:=hn;⟨o,e⟩)
  (Eh hn (λg=>by
    show gx (oy g [(f,y)]) (if g=f then some u else none)
    by_cases q:g=f
    ·subst q;rw[if_pos rfl];simp[oy];exact ry
    ·rw[if_neg q];simp[oy,q,show(g==f)=false by simpa using q];exact True.intro) (Wl f u))
 have e3:upd (upd (upd H hh.objs.size (fJ hh.objs.size [])) x (gD C x hh.objs.size)) hh.objs.size (fJ hh.objs.size [(f,y)])=upd (upd H hh.objs.size (fJ hh.objs.size [(f,y)])) x (gD C x hh.objs.size):=by
  funext b
  unfold upd;by_cases h1:b=hh.objs.size
  ·rw[if_pos h1,if_neg (λz=>ui.symm (h1.symm.trans z)),if_pos h1]
  ·rw[if_neg h1,if_neg h1,if_neg h1]
 rw[e3] at I3;exact I3
theorem Wn{Q:Unit->aq->Prop}(I:Inv X pins σ H s)(T:jb X.K C N fi)(e:H x=some (gD C x d))(ed:H d=some (fJ d fs))(n:mh X.K N f)(hl:fs.length<1000)(ry:b8 y u)
 (h:∀s',Inv X pins σ (upd H d (fJ d (aA f y fs))) s'->Q () s'):aW (model X.prog X.w) A (setAttr (.ref x) f u) Q E s:=by
 obtain⟨⟨t0,ex⟩,_⟩:df X.prog X.w H s.heap x (gD C x d):=I.aU x _ e;obtain⟨⟨mA,hn,r,wi⟩,_⟩:df X.prog X.w H s.heap d (fJ d fs):=I.aU d _ ed;obtain⟨nm,q,bs,sn,sub,ab,col,dd,k0,k1,k2,k3,k5,lk⟩:=T.cls;have dA:=I.dm;have hN:=T.ns dA;have jr:d≠x:=λz=>by
  subst z;obtain⟨o,es,ep,e1,e2,_⟩:=hn;rw[ex] at e1;cases e1;cases e2
 have Wo:x≠C:=λz=>by
  subst z;have:=dA _ _ lk;rw[ex] at this;cases this
 have hz:(fs.map (·.1)).length<=sizeLine:=by rw[bx,aR];omega
 obtain⟨hh,g,dr,tk,os⟩:=s;refine store_attr afn (dA _ _ lk) hN (u_ dA hN T.sa) (u_ dA hN n.own) n.base Wo (mA:=mA) ⟨_,ex,rfl,(λc z=>by cases z),.inr ⟨d,rfl,jr,hn⟩⟩ (λh' kl I' kk ox=> ?_) wi hz
 obtain⟨o1,zm,c1,c2,c3,c4⟩:=ox _ ex;have e1:o1=XR.xo C (some d) t0:=by
  obtain⟨a1,a2,a3,a4⟩:=o1;have b1:a1=.ref C:=c1;have b2:a3=.fields #[.ref t0,.none,.none,.none,.bool false,.none]:=c2;have b3:a4= #[]:=c3;have b4:a2=some d:=c4 d rfl;subst b1 b2 b3 b4;rfl
 obtain⟨o2,v_,_,_,q2⟩:=I';have qX:h'.Ns1 d (λy=>if y=f then some u else mA y):=by
  rcases q2 with⟨_,z⟩|⟨d',tG,_,z⟩
  ·have z1:(if f=f then some u else mA f)=none:=z f
   rw[if_pos rfl] at z1;cases z1
  ·rw[zm] at v_;cases v_;rw[e1] at tG;have:d=d':=f9 tG;subst this;exact z
 refine h _ (I.write (t':=kl) (x:=d) (e:=d) (by rw[ed];exact True.intro) (.inl rfl) (λb v hb q=> ?_) (let ⟨o,_,_,e,_⟩:=qX;⟨o,e⟩) (Eh qX (λg=> ?_) λg hg=> ?_))
 ·by_cases z:b=x
  ·subst z;rw[ex] at q;cases q;rw[zm,e1]
  ·refine kk b v z (λo₀ dx h0 h1=> ?_) q;rw[ex] at h0;cases h0;have:d=dx:=f9 h1;rw[<-this];exact hb
 ·show gx ((aA f y fs).lookup g) (if g=f then some u else mA g)
  rw[CI];by_cases q:g=f
  ·rw[if_pos q,if_pos q];exact ry
  ·rw[if_neg q,if_neg q];exact r g
 ·by_cases q:g=f
  ·rw[q];exact(vo f y fs).1
  ·refine(vo f y fs).2 g (wi g λz=>hg ?_);show(if g=f then some u else mA g)=none
   rw[if_neg q];exact z
end
section
variable{X:Cx}{o e value:bz}{f:Str}{pos pos':Pos}{ta tv:TE}{C N fi:ae}
def Wq(C:ae)(ta tv:TE)(f:Str):TS:=λD σ H=>tv σ H λy H1=>ta σ H1 λv H2=>∃x,v=.ref x/\H2 x=some (km C x)/\ ∀d,H2 d=none->d≠x->D.nx σ (upd (upd H2 d (fJ d [(f,y)])) x (gD C x d))
theorem Mp(T:jb X.K C N fi)(n:mh X.K N f)(ha:PE X o ta)(hv:PE X value tv)(hs:sO value (some (.Attribute o f pos')) pos.line X.env=pure false):PS X (.Assign [.Attribute o f pos'] value pos) (Wq C ta tv f):=by
 intro pins s σ H D I h;refine PD (bf (hv pins s σ H _ I h) λu s1 ⟨y,H1,I1,ry,q⟩=>bf (ha pins s1 σ H1 _ I1 q) λov s2 ⟨v,H2,I2,rx,x,ex,ea,q2⟩=> ?_) hs;subst ex;obtain rfl:ov=di x:=rx;exact Wm I2 T ea n ry λd s3 h1 h2 I3=>⟨σ,_,I3,q2 d h1 h2⟩
def Wr(C:ae)(ta tv:TE)(f:Str):TS:=λD σ H=>tv σ H λy H1=>ta σ H1 λv H2=>∃x d fs,v=.ref x/\H2 x=some (gD C x d)/\H2 d=some (fJ d fs)/\fs.length<1000/\D.nx σ (upd H2 d (fJ d (aA f y fs)))
theorem Ws(T:jb X.K C N fi)(n:mh X.K N f)(ha:PE X o ta)(hv:PE X value tv)(hs:sO value (some (.Attribute o f pos')) pos.line X.env=pure false):PS X (.Assign [.Attribute o f pos'] value pos) (Wr C ta tv f):=by
 intro pins s σ H D I h;refine PD (bf (hv pins s σ H _ I h) λu s1 ⟨y,H1,I1,ry,q⟩=>bf (ha pins s1 σ H1 _ I1 q) λov s2 ⟨v,H2,I2,rx,x,d,fs,ex,ea,ed,hl,q2⟩=> ?_) hs;subst ex;obtain rfl:ov=di x:=rx;exact Wn I2 T ea ed n hl ry λs3 I3=>⟨σ,_,I3,q2⟩
def Wt(C:ae)(ta:TE)(f:Str):TE:=λσ H Q=>ta σ H λv H1=>∃x d fs i,v=.ref x/\H1 x=some (qm C x d)/\H1 d=some (fJ d fs)/\fs.lookup f=some (.int i)/\Q (.int i) H1
theorem Ek(T:jb X.K C N fi)(n:mh X.K N f)(he:PE X e ta)(hb:oz e f X.env (eval e X.env)=eval e X.env):PE X (.Attribute e f pos) (Wt C ta f):=by
 intro pins s σ H Q I h;refine J0 hb (bf (he pins s σ H _ I h) λu s1 ⟨v,H1,I1,rx,x,d,fs,i,ev,ex,ed,l,q⟩=> ?_);subst ev;obtain rfl:u=di x:=rx;obtain⟨⟨ob,vs,hx,hc,hd,hf⟩,_⟩:df X.prog X.w H1 s1.heap x (qm C x d):=I1.aU x _ ex;obtain⟨⟨mA,hn,r,wi⟩,_⟩:df X.prog X.w H1 s1.heap d (fJ d fs):=I1.aU d _ ed;obtain⟨nm,q',bs,sn,sub,ab,col,dd,k0,k1,k2,k3,k5,lk⟩:=T.cls;obtain⟨u',hu,ti,rfl⟩:=gx.some_of (v:=.int i) (o:=mA f) (by rw[<-l];exact r f)
 have dA:=I1.dm;have hN:=T.ns dA;obtain⟨hh,g,dr,tk,os⟩:=s1;exact XR.VX (mN:=hh.nsMap N) PySem.F.attrBase_Exception (dA _ _ lk) hN ⟨u_ dA hN T.ga,u_ dA hN T.gh⟩ n.base (u_ dA hN n.own) hx hc hf hd hn.ns hu ⟨.int i,H1,I1.tok _,⟨ti,rfl⟩,q⟩
end
abbrev Cx.gR(X:Cx)(pn:List (ae×Obj))(xe:ah->aq->Prop):Cx:={X with pn:=X.pn++pn,xe:=xe}
abbrev Cx.hand(X:Cx)(e:ah):Cx:={X with A:=X.A.mark (some e),calm:=false,xe:=λ_ _=>False}
section
variable{X:Cx}{pins pn:List (ae×Obj)}{σ:St}{H:Hp}{s:aq}{xe:ah->aq->Prop}{e:ah}{h':aC}
theorem Cx.Ok.gR(ok:X.Ok):(X.gR pn xe).Ok:=⟨ok.mod,ok.kind,ok.glob,ok.blt,ok.above,ok.inj,ok.has,ok.pO,ok.hd,ok.frames,ok.qV,ok.qW,ok.bs,ok.j_,ok.pP,ok.pQ,ok.jg,ok.nz⟩
theorem Cx.Ok.fV(ok:(X.gR pn xe).Ok):X.Ok:=⟨ok.mod,ok.kind,ok.glob,ok.blt,ok.above,ok.inj,ok.has,ok.pO,ok.hd,ok.frames,ok.qV,ok.qW,ok.bs,ok.j_,ok.pP,ok.pQ,ok.jg,ok.nz⟩
theorem Inv.gR(I:Inv X pins σ H s):Inv (X.gR pins xe) [] σ H s:=⟨I.ok.gR,I.os,I.bare,I.base,I.loc,I.cell,I.free,I.gY,λp hp=>I.pin p (by simpa using hp),I.aU,I.len⟩
theorem Inv.fV(I:Inv (X.gR pn xe) pins σ H s):Inv X pn σ H s:=⟨I.ok.fV,I.os,I.bare,I.base,I.loc,I.cell,I.free,I.gY,λp hp=>I.pin p (IH _ hp),I.aU,I.len⟩
theorem Cx.Ok.hand(ok:X.Ok):(X.hand e).Ok:=⟨ok.mod,ok.kind,ok.glob,ok.blt,ok.above,ok.inj,ok.has,ok.pO,λz=>kG z,ok.frames,ok.qV,ok.qW,ok.bs,ok.j_,ok.pP,ok.pQ,ok.jg,ok.nz⟩
theorem Inv.hand(I:Inv X pins σ H s):Inv (X.hand e) pins σ H s:=⟨I.ok.hand,I.os,I.bare,I.base,I.loc,I.cell,I.free,I.gY,I.pin,I.aU,I.len⟩
theorem Inv.wa(ok:X.Ok)(I:Inv (X.hand e) pins σ H s):Inv X pins σ H s:=⟨ok,I.os,I.bare,I.base,I.loc,I.cell,I.free,I.gY,I.pin,I.aU,I.len⟩
theorem Inv.kn{x T:ae}{lo:Nat}{s0:aq}{H0:Hp}{σ0:St}(I:Inv X pins σ H s)(I0:Inv X pins σ0 H0 s0)(l8:s0.heap.objs.size<=lo)(k:gu X.stack x T s.heap h')(hx:H x=none)(hT:H T=none)(lx:lo<=x)(lT:lo<=T):
 Inv X pins σ H {s with heap:=h'}:=by
 have lx:s0.heap.objs.size<=x:=dw l8 lx;have lT:s0.heap.objs.size<=T:=dw l8 lT;have old:∀b,b<s0.heap.objs.size->b≠x/\b≠T:=λb hb=>⟨λz=>absurd (ej hb (by rw[z];exact lx)) (iK _),λz=>absurd (ej hb (by rw[z];exact lT)) (iK _)⟩
 have nl:X.env.locals≠x/\X.env.locals≠T:=old _ I0.lt;have nc:∀y c,X.env.cells.lookup y=some c->c≠x/\c≠T:=λy c e=>by
  obtain⟨v,q⟩:=I0.cell y c e;exact old c q.lt
 have np:∀p∈X.pn++pins,p.1≠x/\p.1≠T:=λp hp=>old _ (cY (I0.pin p hp).1);have El:c9 X.prog X.w H h':=c9.kn I.aU k hx hT I.pS;refine I.step (g':=s.gens) (d':=s.drawn) (t':=s.toks) (ch:=[x,T]) (λb hb=> ?_) (λb o h1 h2 h3 e n=> ?_) (λb o h1 h2 h3 e n=> ?_) (λb o _ e n=>n) (λb o h1 e=> ?_) (λ_ _ q=>q) (λ_ _ _ q=>q) (λb ps q=>⟨#[],by rw[q];simp⟩) (λm hm=> ?_) El I.bare
 ·have hb:b=x\/b=T:=by simpa using hb
  rcases hb with rfl|rfl
  ·exact⟨.inr (dw I0.sz lx),nl.1.symm,λy c e z=>(nc y c e).1 z,λp hp=>(np p hp).1⟩
  ·exact⟨.inr (dw I0.sz lT),nl.2.symm,λy c e z=>(nc y c e).2 z,λp hp=>(np p hp).2⟩
 ·have h3:b≠x/\b≠T:=by simpa using h3
  refine k.keep b o e h3.1 h3.2 λz=> ?_;rcases cC.mp (I.ve b z) with z|z
  ·exact h1 z
  ·exact h2 z
 ·have h3:b≠x/\b≠T:=by simpa using h3
  exact k.slot b o e h3.1 h3.2
 ·have h1:b≠x/\b≠T:=by simpa using h1
  obtain⟨sl,q⟩:=k.slot b o e h1.1 h1.2;exact⟨_,q⟩
 ·obtain⟨o,es,ep,ho,r⟩:=hm;obtain⟨sl,q⟩:=k.slot _ o ho nl.1 nl.2;exact⟨_,es,ep,q,r⟩
theorem Inv.adopt{x:ae}{o:HO}{s0:aq}{H0:Hp}{σ0:St}(I:Inv X pins σ H s)(I0:Inv X pins σ0 H0 s0)(hf:X.ex=[])(lx:s0.heap.objs.size<=x)(hx:H x=none)(ok:df X.prog X.w (upd H x o) s.heap x o)(Wu:x∉X.fs):Inv X pins σ (upd H x o) s:=by
 have old:∀b,b<s0.heap.objs.size->b≠x:=λb hb z=>absurd (ej hb (by rw[z];exact lx)) (iK _)
 have vY:∀b,b∉X.ex:=λb=>by rw[hf];simp
 have us:∀b v,H b=some v->upd H x o b=some v:=λb v e=>by rw[ak (bD e hx)];exact e
 refine⟨I.ok,I.os,I.bare,⟨I.base.keep,I.base.slot,λb ob e n he=> ?_,I.base.there,λb xs e=>us _ _ (I.base.jy b xs e),λb ob xs e=>us _ _ (I.base.jf b ob xs e),λb ps e=> ?_⟩,I.loc,I.cell,?_,λy c e=> ?_,λp hp=> ?_,λb v e=> ?_,I.len⟩
 ·rw[ak (old b (ej (cY e) I0.sz))];exact I.base.free b ob e n he
 ·obtain⟨m,q⟩:=I.base.jz b ps e;exact⟨m,us _ _ q⟩
 ·rw[ak (old _ I0.lt)];exact I.free
 ·obtain⟨v,q⟩:=I0.cell y c e;rw[ak (old c q.lt)];exact I.gY y c e
 ·obtain⟨e1,e2,e3⟩:=I.pin p hp;exact⟨e1,by rw[ak (old _ (cY (I0.pin p hp).1))];exact e2,e3⟩
 ·by_cases z:b=x
  ·subst z;rw[aB] at e;cases e;exact ok
  ·rw[ak z] at e;exact(I.aU b v e).nq (λ_ _ _ q=>q) (λc q=>us _ _ q) λc xs q=>us _ _ q
end
def Mq(X:Cx)(body:List cD)(tb:XK->TS):Prop:=∀(pn:List (ae×Obj)) (xe:ah->aq->Prop) (E:XK),Passes (bq X.prog X.w) (X.gR pn xe) E->gy (X.gR pn xe) body (tb E)
section
variable{X:Cx}{C N fi:ae}{cn:Str}{np ug pos:Pos}{body:List cD}{b0:cD}{me:List cD}{tb:XK->TS}{ts:TS}
def Wv(C:ae)(tb:XK->TS)(ts:TS):TS:=λD σ H=>tb (λcls dx H'=>cls=.ref C/\ ∀σ',σ'.length=σ.length->ts D σ' H') D σ H
theorem Ww(T:jb X.K C N fi)(d9:X.stack=X.env::X.outer/\X.env.frame=some X.env.locals)(hg:Gl X cn)(hm:X.mg cn=some (.ref C))(hb:Mq X body tb)(hs:∀x,gy (X.hand (.ref x)) (b0::me) ts)
 (hd:(cn==("__debug__":Str))=false:=by decide):PS X (.Try body [.ExceptHandler (some (.Name cn np)) none (b0::me) ug] [] [] pos) (Wv C tb ts):=by
 intro pins s σ H D I h;obtain⟨nm,q,bs,sn,sub,ab,col,dd,k0,k1,k2,k3,k5,lk⟩:=T.cls;refine wpAny_Try_except ?_;refine fM (hb pins _ _ ?pass [] s σ H D I.gR h) (λf s1 q1=> ?fin) (λ_ _ z=>z)
 case fin=>
  cases f with
  |next=>obtain⟨σ',H',I',q⟩:=q1;exact sN ⟨σ',H',I'.fV,q⟩
  |brk=>obtain⟨σ',H',I',q⟩:=q1;exact⟨σ',H',I'.fV,q⟩
  |cont=>obtain⟨σ',H',I',q⟩:=q1;exact⟨σ',H',I'.fV,q⟩
  |ret u=>obtain⟨v,σ',H',I',r,q⟩:=q1;exact⟨v,σ',H',I'.fV,r,q⟩
 case pass=>
  intro yq σ' H1 s1 e s2 I1 vA;obtain⟨x,Tb,cls,dx,H',rfl,os,bare,un,aU,eZ,hx,hT,rfl,rd⟩:=vA;have J1:=I1.fV;have J2:Inv X pins σ' H' s2:=(I1.vh (ch:=[]) os un aU bare (λb z=>nomatch z)).fV;have Em:σ'.length=σ.length:=I1.len.trans I.len.symm;have Eo:X.A.frames=some (X.env::X.outer):=by rw[<-d9.1];exact J2.ok.frames
  have wb:=J2.stack;rw[d9.1] at wb;refine XR.zk Eo wb d9.2 eZ λh3 T' iC kq k=> ?_;rw[<-d9.1] at k;have J3:Inv X pins σ' H' {s2 with heap:=h3}:=J2.kn J1 (bE _) k hx hT eZ.lx eZ.lT
  have wc:H' T'=none:=J2.aU.fresh iC;refine XR.rO (s:={s2 with heap:=h3}) kq λh4 o7 k4=> ?_
  have Ep:gu X.stack x T' h3 h4:=⟨λb o a1 a2 a3 _=>k4.keep b o a1 a2 a3 (λz=>nomatch z),k4.slot⟩;have J4:Inv X pins σ' H' {s2 with heap:=h4}:=J3.kn (h':=h4) J1 (bE _) Ep hx wc kq.lx kq.lT
  refine XR.V6 (C:=C) (nm:=nm) (q:=q) (N:=N) (bs:=bs) (bm:=vZ) (hdct:=true) (sn:=sn) (sub:=sub) (ab:=ab) (col:=col) (dd:=dd) (k0:=k0) (k1:=k1) (k2:=k2) (k3:=k3) (k5:=k5) (newId:="Exception.__new__") (by decide+kernel) ?_
  refine qY (X:=X.hand (.ref x)) J4.hand hg hm ?_ hd;refine⟨rfl,J4.dm _ _ lk,(let ⟨oe,_,_,_,a1,a2,_⟩:=o7;⟨oe,a1,a2⟩),?_⟩;refine XR.rO (s:={s2 with heap:=h4}) o7 λh5 Ms k5=> ?_
  have Er:gu X.stack x T' h4 h5:=⟨λb o a1 a2 a3 _=>k5.keep b o a1 a2 a3 (λz=>nomatch z),k5.slot⟩;have J5:Inv X pins σ' H' {s2 with heap:=h5}:=J4.kn (h':=h5) J1 (bE _) Er hx wc o7.lx o7.lT
  refine bf (hs x pins _ σ' H' D J5.hand (rd σ' Em)) λf s6 q6=> ?_;cases f with
  |next=>obtain⟨σ7,H7,I7,q⟩:=q6;exact⟨σ7,H7,I7.wa J5.ok,q⟩
  |brk=>obtain⟨σ7,H7,I7,q⟩:=q6;exact⟨σ7,H7,I7.wa J5.ok,q⟩
  |cont=>obtain⟨σ7,H7,I7,q⟩:=q6;exact⟨σ7,H7,I7.wa J5.ok,q⟩
  |ret u=>obtain⟨v,σ7,H7,I7,r,q⟩:=q6;exact⟨v,σ7,H7,I7.wa J5.ok,r,q⟩
end
section
variable{X:Cx}{pins:List (ae×Obj)}{σ:St}{H:Hp}{s:aq}{h':aC}
theorem Inv.forget{t':Nat}(I:Inv X pins σ H s)(sb:xP X.env.locals s.heap h')(hn:∃m,h'.Ns X.env.locals m):Inv X pins (cZ X.N.length none) H {s with heap:=h',toks:=t'}:=by
 obtain⟨m,hn⟩:=hn;have k:∀b o,b≠X.env.locals->s.heap.get? b=some o->h'.get? b=some o:=λb o hb e=>(sb.2 b hb).trans e;have pT:∀b o,X.dB.heap.get? b=some o->b≠X.env.locals:=λb o e=>iu (ej (cY e) I.ok.above);have qU:∀b u,H b=some u->b≠X.env.locals:=λb u e z=>by rw[z,I.free] at e;cases e
 refine⟨I.ok,I.os,I.bare,⟨λb o e n hb hx=>k b o (pT b o e) (I.base.keep b o e n hb hx),λb o e n hb hx=> ?_,I.base.free,λb o e hx=> ?_,I.base.jy,I.base.jf,I.base.jz⟩,⟨m,hn,λi x v _ e2 _=> ?_⟩,λx c e=> ?_,I.free,I.gY,λp hp=> ?_,λb u e=> ?_,by rw[qK]⟩
 ·obtain⟨sl,q⟩:=I.base.slot b o e n hb hx;exact⟨sl,k b _ (pT b o e) q⟩
 ·obtain⟨o',q⟩:=I.base.there b o e hx;exact⟨o',k b _ (pT b o e) q⟩
 ·rw[BR] at e2
  split at e2<;>cases e2
 ·obtain⟨v,o,ho,hd⟩:=I.cell x c e;exact⟨v,o,k c o (I.pR x c e) ho,hd⟩
 ·obtain⟨e1,e2,e3,e4⟩:=I.pin p hp;exact⟨k _ _ e3 e1,e2,e3,e4⟩
 ·refine(I.aU b u e).nq (λc v hc q=>k c v ?_ q) (λ_ q=>q) λ_ _ q=>q;rcases hc with z|z
  ·rw[z];exact qU b u e
  ·exact qU c _ z
end
section
variable{X:Cx}{C N fi:ae}{cn n:Str}{i:Nat}{np ug pos:Pos}{body:List cD}{b0:cD}{me:List cD}{tb:XK->TS}{ts:TS}
def Wx(C:ae)(i:Nat)(tb:XK->TS)(ts:TS):TS:=λD σ H=>tb (λcls dx H'=>cls=.ref C/\ ∃d,dx=some d/\ ∀(σ':St) (x:ae),σ'.length=σ.length->H' x=none->ts {nx:=λ_ _=>False,rt:=D.rt} (σ'.set i (some (.ref x))) (upd H' x (qm C x d))) D σ H
theorem Mt(T:jb X.K C N fi)(d9:X.stack=X.env::X.outer/\X.env.frame=some X.env.locals)(hex:X.ex=[])(hN:X.N.Nodup)(hi:X.N[i]? =some n)(hl:X.env.scope.names.lookup n=some .local)(hg:Gl X cn)(hm:X.mg cn=some (.ref C))(hb:Mq X body tb)(hs:∀x,gy (X.hand (.ref x)) (b0::me) ts)
 (hd:(cn==("__debug__":Str))=false:=by decide):PS X (.Try body [.ExceptHandler (some (.Name cn np)) (some n) (b0::me) ug] [] [] pos) (Wx C i tb ts):=by
 intro pins s σ H D I h;obtain⟨nm,q,bs,sn,sub,ab,col,dd,k0,k1,k2,k3,k5,lk⟩:=T.cls;refine wpAny_Try_except ?_;refine fM (hb pins _ _ ?pass [] s σ H D I.gR h) (λf s1 q1=> ?fin) (λ_ _ z=>z)
 case fin=>
  cases f with
  |next=>obtain⟨σ',H',I',q⟩:=q1;exact sN ⟨σ',H',I'.fV,q⟩
  |brk=>obtain⟨σ',H',I',q⟩:=q1;exact⟨σ',H',I'.fV,q⟩
  |cont=>obtain⟨σ',H',I',q⟩:=q1;exact⟨σ',H',I'.fV,q⟩
  |ret u=>obtain⟨v,σ',H',I',r,q⟩:=q1;exact⟨v,σ',H',I'.fV,r,q⟩
 case pass=>
  intro yq σ' H1 s1 e s2 I1 vA;obtain⟨x,Tb,cls,dx,H',rfl,os,bare,un,aU,eZ,hx,hT,rfl,d,rfl,rd⟩:=vA;have J1:=I1.fV;have J2:Inv X pins σ' H' s2:=(I1.vh (ch:=[]) os un aU bare (λb z=>nomatch z)).fV;have Em:σ'.length=σ.length:=I1.len.trans I.len.symm;have Eo:X.A.frames=some (X.env::X.outer):=by rw[<-d9.1];exact J2.ok.frames
  have wb:=J2.stack;rw[d9.1] at wb;refine XR.zk Eo wb d9.2 eZ λh3 T' iC kq k=> ?_;rw[<-d9.1] at k;have J3:Inv X pins σ' H' {s2 with heap:=h3}:=J2.kn J1 (bE _) k hx hT eZ.lx eZ.lT
  have wc:H' T'=none:=J2.aU.fresh iC;refine XR.rO (s:={s2 with heap:=h3}) kq λh4 o7 k4=> ?_
  have Ep:gu X.stack x T' h3 h4:=⟨λb o a1 a2 a3 _=>k4.keep b o a1 a2 a3 (λz=>nomatch z),k4.slot⟩;have J4:Inv X pins σ' H' {s2 with heap:=h4}:=J3.kn (h':=h4) J1 (bE _) Ep hx wc kq.lx kq.lT
  refine XR.V7 (C:=C) (nm:=nm) (q:=q) (N:=N) (bs:=bs) (bm:=vZ) (hdct:=true) (sn:=sn) (sub:=sub) (ab:=ab) (col:=col) (dd:=dd) (k0:=k0) (k1:=k1) (k2:=k2) (k3:=k3) (k5:=k5) (newId:="Exception.__new__") (by decide+kernel) ?_
  refine qY (X:=X.hand (.ref x)) J4.hand hg hm ?_ hd;refine⟨rfl,J4.dm _ _ lk,(let ⟨oe,_,_,_,a1,a2,_⟩:=o7;⟨oe,a1,a2⟩),?_⟩;refine XR.rO (s:={s2 with heap:=h4}) o7 λh5 Ms k5=> ?_
  have Er:gu X.stack x T' h4 h5:=⟨λb o a1 a2 a3 _=>k5.keep b o a1 a2 a3 (λz=>nomatch z),k5.slot⟩;have J5:Inv X pins σ' H' {s2 with heap:=h5}:=J4.kn (h':=h5) J1 (bE _) Er hx wc o7.lx o7.lT
  have J6:Inv X pins σ' (upd H' x (qm C x d)) {s2 with heap:=h5}:=by
   refine J5.adopt J1 hex eZ.lx hx ?_ (J1.Jz eZ.lx);obtain⟨oe,vs,_,_,a1,a2,a3,a4,_⟩:=Ms;exact We a1 a2 a3 a4
  refine Ck (X:=X.hand (.ref x)) (v:=V.ref x) J6.hand hN hi (.inl hl) rfl (λs6 J7=> ?_) (.inr hl);refine bf (hs x pins _ _ _ _ J7 (rd σ' x Em hx)) λf s8 q8=> ?_;cases f with
  |next=>obtain⟨_,_,_,q⟩:=q8;exact q.elim
  |brk=>obtain⟨_,_,_,q⟩:=q8;exact q.elim
  |cont=>obtain⟨_,_,_,q⟩:=q8;exact q.elim
  |ret u=>
   obtain⟨v,σ8,H8,I8,r,q⟩:=q8;have I8:=I8.wa J5.ok;obtain⟨m,hn,_⟩:=id I8.loc;refine wpAny_nameGoes hl hn (by rw[I8.ok.kind];rfl) λh9 m9 Wy sb=> ?_
   exact⟨v,_,H8,I8.forget sb ⟨m9,Wy⟩,r,q⟩
end
theorem aG.Mu{P:aS}{w:aL}{K:az}{mg:Str->Option ah}{base:aC}{x qual:Str}{st:cD}{f:ae}{fd:bK}{N ps:List Str}{k:Nat}{sp:Sp}(F:aG K x qual st f fd)(S:aV N ps (aK st))(len:∀vs H Q E,sp vs H Q E->vs.length=ps.length)
 (lM:∀(aF:ah) (A:cQ) (outer:List Env) (s:aq) (H:Hp) (vs:List V) (Q:VK) (E:XK),dD k (A.deeper (envOfC qual (aK st) s.heap.objs.size f aF))->sp vs H Q E->
   ∃t,gy (i9 (bq P w) P w K mg base N qual (aK st) f aF A outer s H E) (hX st) t/\t {nx:=λ_ H'=>Q .aO H',rt:=Q} (start N vs) H):aD P w K mg base (bq P w) (k+1) f fd ps sp:=by
 obtain⟨oc,od,kV,doc,pm,an,aF,ct,gI,rfl,lk,fq⟩:=F.ex;refine CP lk fq S len λA outer s H vs Q E hr kN=> ?_;exact lM aF A outer s H vs Q E hr kN
def Mv(X:Cx)(f:ae)(r:List V->Hp->VK->Prop):Prop:=∃(CX:jG) (k:Nat) (fd:bK) (ps:List Str) (sp:Sp) (E:XK),aD X.prog X.w X.K X.mg X.base CX k f fd ps sp/\dD k X.A/\Binds X.K fd ps []/\Passes CX X E/\ ∀vs H Q,r vs H Q->sp vs H Q E
def Wz(X:Cx)(i:Nat)(t:TA):TE:=λσ H Q=>∃f,σ[i]? =some (some (.ref f))/\iN X.K (.ref f)=true/\t σ H λvs H1=>∃r,Mv X f r/\r vs H1 Q
theorem zo{X:Cx}{i:Nat}{x:Str}{p pos:Pos}{e:bz}{es:List bz}{t:TA}(hN:X.N[i]? =some x)(hv:pN X.env.scope x)(ha:PA X (e::es) t)(g9:(x==("__debug__":Str))=false:=by decide)(fq:(x==("__classdict__":Str))=false:=by decide)
 (he:cG (e::es) X.env=(false,eval e X.env)::cG es X.env:=by rfl) (dE:(f_ pos (cG es X.env)).any (·.1)=false:=by rfl):PE X (.Call (.Name x p) (e::es) [] pos) (Wz X i t):=by
 intro pins s σ H Q I h;obtain⟨f,ef,hk,h⟩:=h;refine qJ (bf (yr (pos:=p) hN hv g9 fq pins s σ H (λv H1=>v=.ref f/\H1=H) I ⟨_,ef,rfl,rfl⟩) λu s0 ⟨v,H0,I0,ru,ev,eH⟩=> ?_);subst ev eH;obtain rfl:u=di f:=ru;refine xR (h₀:=X.base) I.ok.mod.dA hk (bf (ha pos pins s0 σ H0 _ I0 h) λus s1 ⟨vs,H1,I1,r,rr,ab,q⟩=>⟨I1.dm,?_⟩) he dE;obtain⟨CX,k,fd,ps,sp,E,F,hr,hb,hx,im⟩:=ab;exact vp (ds:=[]) (dvs:=[]) F hr hb .nil hx I1 r (by rw[dz];exact im _ _ _ q)
def Ent(w:aL)(p:Key×V)(e:yb):Prop:=qT p.1 e.key=true/\e.hash=Jw w p.1/\b8 p.2 e.val
def Tab(K:az)(w:aL)(a:ae)(D:List (Key×V)):Prop:=(a==sysModules)=false/\ ∃es n,K.lookup a=some ⟨.type "dict",none,.dict es n,#[]⟩/\Paired (Ent w) D es.toList
theorem Mw{P:aS}{w:aL}{k:Key}:∀{D:List (Key×V)} {l:List yb},Paired (Ent w) D l->gx (dU D k) ((l.find? λe=>(i7 P w).is k e.key).map (·.val))
 |_,_,.nil=>True.intro
 |p::D,e::l,.cons h t=>by
  obtain⟨h1,h2,h3⟩:=h;have q:(i7 P w).is k e.key=decide (k=p.1):=KeyKind.is_eq_decide (knd:=i7 P w) h1 k;by_cases z:p.1=k
  ·rw[Dl z,I_,q,decide_eq_true z.symm];exact h3
  ·rw[nN z,I_,q,decide_eq_false λy=>z y.symm];exact Mw t
theorem Es{P:aS}{w:aL}:∀{D:List (Key×V)} {l:List yb},Paired (Ent w) D l->∀e∈l,∃k,(i7 P w).is k e.key=true/\e.hash=(i7 P w).hash k
 |_,_,.nil,_,h=>nomatch h
 |p::D,e::l,.cons h t,e',he=>by
  rcases cC.mp he with rfl|he
  ·exact⟨p.1,h.1,h.2.1⟩
  ·exact Es t e' he
theorem Tab.mapOf{K:az}{P:aS}{w:aL}{a:ae}{D:List (Key×V)}{h:aC}(T:Tab K w a D)(X:K.In h):∃m,h.MapOf (i7 P w) a m/\ ∀k,gx (dU D k) (m k):=by
 obtain⟨_,es,n,lk,pr⟩:=T;refine⟨λk=>findBy (i7 P w).is es k,⟨_,es,n,X _ _ lk,⟨rfl,rfl,rfl⟩,rfl,λe he=>Es pr e (Array.mem_toList_iff.mpr he),λ_=>rfl⟩,λk=> ?_⟩;have q:=Mw (P:=P) (k:=k) pr;rw[Array.find?_toList] at q;exact q
theorem Tab.obj{K:az}{w:aL}{a:ae}{D:List (Key×V)}{h:aC}(T:Tab K w a D)(X:K.In h):∃es n,h.get? a=some ⟨.type "dict",none,.dict es n,#[]⟩/\Paired (Ent w) D es.toList:=by
 obtain⟨_,es,n,lk,pr⟩:=T;exact⟨es,n,X _ _ lk,pr⟩
section
variable{X:Cx}{o i e:bz}{pos apos dS:Pos}{td ty:TE}
def Mx(K:az)(w:aL)(td ty:TE):TE:=λσ H Q=>td σ H λx H1=>ty σ H1 λy H2=>∃a D k v,x=.ref a/\y=kV k/\Tab K w a D/\dU D k=some v/\Q v H2
theorem rS(ho:PE X o td)(hi:PE X i ty)(hs:Dp i):PE X (.Subscript o i pos) (Mx X.K X.w td ty):=by
 intro pins s σ H Q I h;refine Ss PySem.F.slot_dict_getitem.lookup hs (bf (ho pins s σ H _ I h) λu s1 ⟨x,H1,I1,rx,q1⟩=>bf (hi pins s1 σ H1 _ I1 q1) λiv s2 ⟨y,H2,I2,ry,a,D,k,v,ex,ey,T,l,q2⟩=> ?_);subst ex ey;obtain rfl:u=di a:=rx;obtain⟨m,hm,rel⟩:=T.mapOf (P:=X.prog) I2.dm;obtain⟨w',hw,vr⟩:=gx.some_of (v:=v) (o:=m k) (by rw[<-l];exact rel k)
 exact⟨hm.typeIs,wpAny_getItem_of (Dm ry) hm hw ⟨v,H2,I2.tok _,vr,q2⟩⟩
def WA(K:az)(w:aL)(ty td:TE):TE:=λσ H Q=>ty σ H λy H1=>td σ H1 λx H2=>∃a D k,x=.ref a/\y=kV k/\Tab K w a D/\Q (.bl (dU D k).isSome) H2
theorem uk(hi:PE X i ty)(ho:PE X o td):PC X .In i o (WA X.K X.w ty td):=by
 intro pins s σ H Q I h;refine bf (hi pins s σ H _ I h) λiv s1 ⟨y,H1,I1,ry,q1⟩=>bf (ho pins s1 σ H1 _ I1 q1) λu s2 ⟨x,H2,I2,rx,a,D,k,ex,ey,T,q2⟩=> ?_;subst ex ey;obtain rfl:u=di a:=rx;obtain⟨m,hm,rel⟩:=T.mapOf (P:=X.prog) I2.dm;refine wpAny_in_of (Dm ry) T.1 hm ?_;rw[<-(rel k).Sr];exact⟨.bl _,H2,I2.tok _,rfl,q2⟩
def WB(K:az)(w:aL)(td ty:TE):TE:=λσ H Q=>td σ H λx H1=>∃a D,x=.ref a/\Tab K w a D/\ty σ H1 λy H2=>∃k,y=kV k/\Q ((dU D k).getD .aO) H2
theorem WC(ho:PE X o td)(he:PE X e ty)(m:M1 X o "get" apos e dS):PE X (.Call (.Attribute o "get" apos) [e] [] dS) (WB X.K X.w td ty):=by
 intro pins s σ H Q I h;refine wpAny_Call_method m.base m.KU m.line PySem.F.plainAttrs_dict afo PySem.F.type_dict_get (bf (ho pins s σ H _ I h) λu s1 ⟨x,H1,I1,rx,a,D,ex,T,q1⟩=> ?_);subst ex;obtain rfl:u=di a:=rx;obtain⟨m1,Ef,_⟩:=T.mapOf (P:=X.prog) I1.dm;refine⟨Ef.typeIs,λb q=> ?_,?_⟩
 ·cases q;obtain⟨es,n,ob,_⟩:=T.obj I1.dm;exact⟨_,ob,rfl⟩
 rw[m.trees];refine IS rfl (PU (PL (bf (he pins s1 σ H1 _ I1 q1) λiv s2 ⟨y,H2,I2,ry,k,ey,q2⟩=>PK ?_)));subst ey;obtain⟨m2,zj,rel⟩:=T.mapOf (P:=X.prog) I2.dm;refine call_meetsIn afo zj.typeIs PySem.F.entry_dict_get (PySem.F.args_dict_get_2 _ _) (meets_dict_get (i7 X.prog X.w) a (Dm ry) T.1) ⟨_,zj,?_⟩;exact⟨_,H2,I2.tok _,(rel k).getD (show b8 .aO iZ from rfl),q2⟩
end
def WD(v:V)(x:Str):Prop:=(∃i:Int,v=.int i/\i.natAbs.log2<1920/\x=bV (toString i))\/(v=.str x/\x.length<=sizeLine)
def PJ(X:Cx)(es:List bz)(t:Str->TE):Prop:=∀(out:Str) (pins:List (ae×Obj)) (s:aq) (σ:St) (H:Hp) (Q:VK),Inv X pins σ H s->t out σ H Q->aW (model X.prog X.w) X.A (joinParts out (evalEach es X.env)) (EP X pins σ Q) X.xe s
section
variable{X:Cx}{e:bz}{es:List bz}{te:TE}{t:Str->TE}{pos pos':Pos}
def WE(te:TE):TE:=λσ H Q=>te σ H λv H1=>∃x,WD v x/\Q (.str x) H1
theorem rT(he:PE X e te):PE X (.FormattedValue e (-1) none pos) (WE te):=by
 intro pins s σ H Q I h;refine FormattedValue_plain (bf (he pins s σ H _ I h) λu s1 ⟨v,H1,I1,r,x,f,q⟩=> ?_);rcases f with⟨i,rfl,hd,rfl⟩|⟨rfl,hz⟩
 ·obtain⟨ti,rfl⟩:=r;exact formatField_int_small hd ⟨.str _,H1,I1.tok _,⟨_,rfl⟩,q⟩
 ·obtain⟨ti,rfl⟩:=r;exact formatField_str (λt' tk=>⟨.str _,H1,I1.tok _,⟨_,rfl⟩,q⟩) hz
def WG:Str->TE:=λout _ H Q=>out.length<=sizeLine/\Q (.str out) H
def WH(te:TE)(t:Str->TE):Str->TE:=λout σ H Q=>te σ H λv H1=>∃x,v=.str x/\ (out++x).length<=sizeLine/\t (out++x) σ H1 Q
theorem we:PJ X [] WG:=λout pins s σ H Q I h=>joinParts_nil ⟨.str out,H,I.tok _,⟨_,rfl⟩,h.2⟩ h.1
theorem jt(he:PE X e te)(hr:PJ X es t)(hs:evalEach (e::es) X.env=eval e X.env::evalEach es X.env:=by rfl):PJ X (e::es) (WH te t):=by
 intro out pins s σ H Q I h;rw[hs];refine joinParts_cons (bf (he pins s σ H _ I h) λu s1 ⟨v,H1,I1,r,x,ev,hz,q⟩=> ?_);subst ev;obtain⟨ti,rfl⟩:=r;exact⟨hz,hr _ pins s1 σ H1 Q I1 q⟩
theorem wg{e1 e2:bz}(h:PJ X (e1::e2::es) t)(hs:evalEach (e1::e2::es) X.env=eval e1 X.env::eval e2 X.env::evalEach es X.env:=by rfl):PE X (.JoinedStr (e1::e2::es) pos) (t sP):=by
 intro pins s σ H Q I hq;refine JoinedStr_many ?_;have q:=h sP pins s σ H Q I hq;rw[hs] at q;exact q
theorem WJ(h:PE X e te):PE X (.JoinedStr [e] pos) te:=λpins s σ H Q I hq=>JoinedStr_one (h pins s σ H Q I hq)
end
theorem Et:∀{xs:List V} {us:List ah},xs.length=us.length->(∀(i:Nat) x u,xs[i]? =some x->us[i]? =some u->b8 x u)->Vals xs us
 |[],[],_,_=>.nil
 |x::xs,u::us,hl,h=>.cons (h 0 x u rfl rfl) (Et (by simpa using hl) λi y v e1 e2=>h (i+1) y v (by simpa using e1) (by simpa using e2))
theorem WK{a:Int}{n:Nat}{acc:Array ah}(h:ItemsOf (λi v=>∃t,v=.int (a+i*1) t) acc n):Vals ((cB n).map λ(i:Nat)=>V.int (a+i)) acc.toList:=by
 obtain⟨hs,hg⟩:=h;refine Et (by rw[bx,iy,Array.length_toList,hs]) λi x u e1 e2=> ?_
 rw[Array.getElem?_toList] at e2;obtain⟨t,rfl⟩:=hg i u e2;rw[dH] at e1;by_cases hi:i<n
 ·rw[qQ hi] at e1;obtain rfl:V.int (a+i)=x:=f9 e1;exact⟨t,by rw[Int.mul_one]⟩
 ·rw[pG (by rw[iy];omega)] at e1
  cases e1
section
variable{X:Cx}{a:bz}{ta:TA}{p pos:Pos}
def WL(ta:TA):TE:=λσ H Q=>ta σ H λvs H1=>∃j:Int,vs=[.int j]/\ -(2^62)<=j/\j<2^62/\ ∀r,H1 r=none->Q (.ref r) (upd H1 r (.kL 0 j))
theorem WM(hg:Gl X "range")(hm:X.mg "range"=none)(ha:PA X [a] ta)(hs:cG [a] X.env=[(false,eval a X.env)]:=by rfl):PE X (.Call (.Name "range" p) [a] [] pos) (WL ta):=by
 intro pins s σ H Q I h;refine Call_ (yt I hg hm boot_range (Pu (bf (ha pos pins s σ H _ I h) λus s1 ⟨vs,H1,I1,r1,q1⟩=> ?_) hs rfl));obtain⟨j,e,q1,q2,q⟩:=q1;subst e;cases r1 with
 |cons r rr=>
  cases rr;obtain⟨t,rfl⟩:=r;refine call_range_1 ?_;exact⟨.ref s1.heap.objs.size,_,I1.laid (o:=.kL 0 j) (λb o e=>eO _ e) (bE _) ⟨_,_,_,iM _ rfl⟩,rfl,q _ (I1.aU.fresh (bE _))⟩
theorem WN(hc:X.calm=true):jF X (.type "list") (λxs H Q=>∃r j,xs=[.ref r]/\H r=some (.kL 0 j)/\0<=j/\j<=100000/\ ∀l,H l=none->Q (.ref l) (upd H l (.lst ((cB j.toNat).map λ(i:Nat)=>V.int i)))):=by
 intro pins s σ H xs us Q I r h;obtain⟨ra,j,rfl,hr,l8,hj,q⟩:=h;obtain⟨u,rfl,rx⟩:=vals1 r;cases rx;obtain⟨t,u,v,ex⟩:df X.prog X.w H s.heap ra (.kL 0 j):=I.aU ra _ hr
 ·have hn:aff 0 j 1=((j.toNat:Nat):Int):=by rw[rangeSize_one];split<;>omega
  refine call_list_range (I.ok.hd hc) ex (small_one (by omega) (by omega) (by omega) (by omega)) hn (by omega) λh' tk acc c' kp e it=> ?_
  have vs:=WK it;have ev:(cB j.toNat).map (λ(i:Nat)=>V.int (0+i))=(cB j.toNat).map λ(i:Nat)=>V.int i:=pJ λi _=>by rw[vb]
  rw[ev] at vs;refine⟨.ref s.heap.objs.size,_,I.laid (t':=tk) kp (bE _) (show df X.prog X.w _ h' _ (.lst _) from⟨?_,acc.toList,c',vs,by simpa using e⟩),rfl,q _ (I.aU.fresh (bE _))⟩
  rw[bx,iy,aR];omega
end
theorem My{P:aS}{w:aL}:∀{D:List (Key×V)} {l:List yb},Paired (Ent w) D l->∃kvs:List (Key×ah),Pairs (i7 P w) l kvs/\kvs.map (·.1)=D.map (·.1)
 |_,_,.nil=>⟨[],.nil,rfl⟩
 |p::D,e::l,.cons h t=>by
  obtain⟨kvs,h1,h2⟩:=My (P:=P) t;exact⟨(p.1,e.val)::kvs,.cons h.1 rfl h1,by simp[h2]⟩
theorem Tab.dictAt{K:az}{P:aS}{w:aL}{a:ae}{D:List (Key×V)}{h:aC}(T:Tab K w a D)(nd:(D.map (·.1)).Nodup)(X:K.In h):∃kvs ep,h.DictAt (i7 P w) a kvs ep/\kvs.map (·.1)=D.map (·.1):=by
 obtain⟨_,es,n,lk,pr⟩:=T;obtain⟨kvs,h1,h2⟩:=My (P:=P) pr;exact⟨kvs,n,⟨_,es,X _ _ lk,⟨rfl,rfl,rfl⟩,rfl,λe he=>Es pr e (Array.mem_toList_iff.mpr he),h1,by rw[h2];exact nd⟩,h2⟩
section
variable{X:Cx}
theorem WO:jF X (.builtin "len") (λxs H Q=>∃a D,xs=[V.ref a]/\Tab X.K X.w a D/\ (D.map (·.1)).Nodup/\D.length<=1000/\Q (.int D.length) H):=by
 intro pins s σ H xs us Q I r h;obtain⟨a,D,rfl,T,nd,hl,q⟩:=h;obtain⟨u,rfl,ru⟩:=vals1 r;cases ru;obtain⟨kvs,ep,da,ek⟩:=T.dictAt (P:=X.prog) nd I.dm;have el:kvs.length=D.length:=by have:=congrArg jX ek;simpa using this
 refine call_len_dict T.1 da.dictOf (by omega) ?_
 rw[el];exact⟨.int D.length,H,I.tok _,⟨_,rfl⟩,q⟩
theorem WQ(hc:X.calm=true):jF X (.type "list") (λxs H Q=>∃a D,xs=[V.ref a]/\Tab X.K X.w a D/\ (D.map (·.1)).Nodup/\D.length<=1000/\ ∀l,H l=none->Q (.ref l) (upd H l (.lst (D.map λp=>kV p.1)))):=by
 intro pins s σ H xs us Q I r h;obtain⟨a,D,rfl,T,nd,hl,q⟩:=h;obtain⟨u,rfl,ru⟩:=vals1 r;cases ru;obtain⟨kvs,ep,da,ek⟩:=T.dictAt (P:=X.prog) nd I.dm;have el:kvs.length=D.length:=by have:=congrArg jX ek;simpa using this
 have hz:D.length<=sizeLine:=by rw[aR];omega
 refine PySem.W.kdl_call (PySem.W.kdl_dict (ep:=ep) (kvs:=kvs) (knd:=i7 X.prog X.w) T.1) (I.ok.hd hc) da (by rw[el];exact hz) λh' tk acc c' kp e it=> ?_
 obtain⟨hs,hg⟩:=it;have vs:Vals (D.map λp=>kV p.1) acc.toList:=by
  refine Et (by simp[hs,el]) λi x u e1 e2=> ?_
  rw[Array.getElem?_toList] at e2;obtain⟨k,y,e3,e4⟩:=hg i u e2;have e5:(kvs.map (·.1))[i]? =some k:=by rw[dH,e3];rfl
  rw[ek,dH] at e5;rw[dH] at e1;cases e6:D[i]? with
  |none=>rw[e6] at e1;cases e1
  |some p=>
   rw[e6] at e1 e5;obtain rfl:kV p.1=x:=f9 e1;obtain rfl:p.1=k:=f9 e5;rcases nk (k:=p.1) (v:=u) e4 with⟨j,t,q1,rfl⟩|⟨z,t,q1,rfl⟩
   ·rw[q1];exact⟨t,rfl⟩
   ·rw[q1];exact⟨t,rfl⟩
 exact⟨.ref s.heap.objs.size,_,I.laid (t':=tk) kp (bE _) (show df X.prog X.w _ h' _ (.lst _) from⟨by rw[bx];exact hz,acc.toList,c',vs,by simpa using e⟩),rfl,q _ (I.aU.fresh (bE _))⟩
end
def iE(c:ae)(q:Str):HO:=.ext λh=>h.CodeRec (.ref c) q
def kW(f:ae)(qual:Str)(params:Arguments)(body:bz)(scope:d6)(c:ae):HO:=.ext λh=>∃pm gv,h.get? f=some (Qg "<lambda>" qual params body scope [] pm c gv)
section
variable{P:aS}{w:aL}{H:Hp}{h:aC}{c f:ae}{qual:Str}{params:Arguments}{body:bz}{scope:d6}
theorem WR(e:h.CodeRec (.ref c) qual):df P w H h c (iE c qual):=by
 obtain⟨c',o,vs,t,e1,e2,e3,e4⟩:=e;cases e1;refine⟨⟨c,o,vs,t,rfl,e2,e3,e4⟩,⟨o,e2⟩,λh1 h2 ⟨c',o,vs,t,e1,e2,e3,e4⟩ k=> ?_⟩;cases e1;exact⟨c,o,vs,t,rfl,k _ e2,e3,e4⟩
theorem Mz{pm gv:ah}(e:h.get? f=some (Qg "<lambda>" qual params body scope [] pm c gv)):df P w H h f (kW f qual params body scope c):=
 ⟨⟨pm,gv,e⟩,⟨_,e⟩,λ_ _ ⟨pm,gv,e⟩ k=>⟨pm,gv,k _ e⟩⟩
end
def BM(mg:Str->Option ah)(base:aC):Prop:=∃bm ob,mg "__builtins__"=some (.ref bm)/\bm≠BG/\base.get? bm=some ob/\ob.cls=.type "module"/\ob.dict=some BG/\ob.data=.plain
abbrev o8(pos:Pos)(c:ae):Array ah:= #[gF pos.line,gF pos.col,.ref c]
section
variable{X:Cx}{pins:List (ae×Obj)}{σ:St}{H:Hp}{s:aq}
theorem Inv.MA(I:Inv X pins σ H s)(b:BM X.mg X.base){Pl:ae}{ps:Array ah}(hP:H Pl=some (.dM ps)):s.heap.BuiltinsAt X.mg Pl:=by
 obtain⟨bm,ob,b1,b2,b3,b4,b5,b6⟩:=b;have Eu:=I.bk _ _ b3;have hg:=I.mod.glob.keeps I.bk;refine⟨bm,ob,b1,b2,λq=> ?_,λq=> ?_,Eu,b4,b5,b6⟩
 ·obtain⟨o,es,ep,e,hd,_⟩:=hg;rw[q,e] at Eu;cases Eu;rw[hd] at b6;cases b6
 ·have e1:=(I.bs _ _ b3).2;rw[q,hP] at e1;cases e1
theorem MB(I:Inv X pins σ H s){Pl:ae}{ps:Array ah}(hP:H Pl=some (.dM ps)):s.heap.get? Pl=some (yc ps):=I.aU Pl _ hP
theorem Inv.grown{h':aC}{t':Nat}{Pl c f:ae}{ps:Array ah}{o1 o2:HO}(I:Inv X pins σ H s)(hP:H Pl=some (.dM ps))(more:Array ah)(hc:s.heap.objs.size<=c)(hf:s.heap.objs.size<=f)(Ew:c≠f)
 (k:∀b o,b≠Pl->s.heap.get? b=some o->h'.get? b=some o) (eP:h'.get? Pl=some (yc (ps++more)))
 (k1:df X.prog X.w (upd (upd (upd H c o1) Pl (.dM (ps++more))) f o2) h' c o1) (k2:df X.prog X.w (upd (upd (upd H c o1) Pl (.dM (ps++more))) f o2) h' f o2):
 Inv X pins σ (upd (upd (upd H c o1) Pl (.dM (ps++more))) f o2) {s with heap:=h',toks:=t'}:=by
 have nc:H c=none:=I.aU.fresh hc;have nf:H f=none:=I.aU.fresh hf;have lP:Pl<s.heap.objs.size:=I.aU.lt hP;have cP:c≠Pl:=IJ (ej lP hc);have fP:f≠Pl:=IJ (ej lP hf);have old:∀b,b≠c->b≠Pl->b≠f->upd (upd (upd H c o1) Pl (.dM (ps++more))) f o2 b=H b:=λb h1 h2 h3=>by rw[ak h3,ak h2,ak h1]
 have wj:∀b u,H b=some u->b≠Pl->upd (upd (upd H c o1) Pl (.dM (ps++more))) f o2 b=some u:=λb u e hb=>by rw[old b (bD e nc) hb (bD e nf)];exact e
 have lt:∀b o,s.heap.get? b=some o->b≠c/\b≠f:=λb o e=>⟨iu (ej (cY e) hc),iu (ej (cY e) hf)⟩;refine I.un (t':=t') ⟨λb o e n _ _=>k b o (λz=>by rw[z,hP] at n;cases n) e,λb o e n _ _=>⟨o.slots,k b o (λz=>by rw[z,hP] at n;cases n) e⟩,λb o e n _=> ?_,λb o e _=> ?_,λb xs e=> ?_,λb o u e=> ?_,λb qs e=> ?_⟩ (λb u e=> ?_)
 ·rw[old b (lt b o e).1 (λz=>by rw[z,hP] at n;cases n) (lt b o e).2];exact n
 ·by_cases z:b=Pl
  ·subst z;exact⟨_,eP⟩
  ·exact⟨o,k b o z e⟩
 ·exact wj b _ e (λz=>by rw[z,hP] at e;cases e)
 ·exact wj b _ e (λz=>by rw[z,hP] at e;cases e)
 ·by_cases z:b=Pl
  ·subst z;rw[hP] at e;cases e;exact⟨more,by rw[ak fP.symm,aB]⟩
  ·exact⟨#[],by rw[wj b _ e z];simp⟩
 ·by_cases zf:b=f
  ·subst zf;rw[aB] at e;cases e;exact k2
  ·by_cases zP:b=Pl
   ·subst zP;rw[ak zf,aB] at e;cases e;exact eP
   ·by_cases zc:b=c
    ·subst zc;rw[ak zf,ak zP,aB] at e;cases e;exact k1
    ·rw[old b zc zP zf] at e;refine(I.aU b u e).nq (λx v hx q=> ?_) (λx q=>wj x _ q (λz=>by rw[z,hP] at q;cases q)) λx xs q=>wj x _ q (λz=>by rw[z,hP] at q;cases q)
     refine k x v (λz=> ?_) q;rcases hx with y|y
     ·exact zP (y.symm.trans z)
     ·rw[z,hP] at y;cases y
end
section
variable{X:Cx}{params:Arguments}{body:bz}{scope:d6}{pos:Pos}{cd Pl:ae}
def MD(Pl:ae)(qual:Str)(params:Arguments)(body:bz)(scope:d6)(pos:Pos):TE:=λ_ H Q=>
 (H Pl=some (.dM #[])/\ ∀c f,H c=none->H f=none->c≠f->Q (.ref f) (upd (upd (upd H c (iE c qual)) Pl (.dM (o8 pos c))) f (kW f qual params body scope c)))\/
 (∃c,H Pl=some (.dM (o8 pos c))/\H c=some (iE c qual)/\ ∀f,H f=none->Q (.ref f) (upd H f (kW f qual params body scope c)))
theorem WS(pos:Pos):codeAmong pos ([]:List ah)=none:=rfl
theorem Ex{qual:Str}(b:BM X.mg X.base)(ME:X.env.code=.ref cd)(C:B6 X.base cd Pl)(kO:closureFor scope X.env=pure [])(WT:defaultsOf params X.env=([],[]))(hq:X.env.qual++"<lambda>"=qual)
 (WU:∀c:ae,codeAmong pos (o8 pos c).toList=some (.ref c)) (WV:∀c:ae,TriplesOk (o8 pos c).toList):PE X (.Lambda params body scope pos) (MD Pl qual params body scope pos):=by
 intro pins s σ H Q I h;subst hq;refine PySem.W.kla_eval WT ?_;have hg:=I.mod.glob.keeps I.bk;rcases h with⟨hP,q⟩|⟨c,hP,hc,q⟩
 ·have zp:=MB I hP;have WW:mQ≠Pl:=λz=>by
   obtain⟨o,es,ep,e,hd,_⟩:=hg;rw[z,zp] at e;cases e;cases hd
  refine PySem.W.kla_makeFunction (mg:=X.mg) kO I.ok.glob hg ME (C.keeps I.bk) zp (by exact True.intro) (WS pos) WW (I.MA b hP) λc' gv h' tk hx Ey dR WX mi=> ?_
  have tT:c'≠h'.objs.size:=iu dR;have hsz:s.heap.objs.size<=h'.objs.size:=xO (BX Ey dR);have J:=I.grown (t':=tk) (h':=h'.push (Qg "<lambda>" (X.env.qual++"<lambda>") params body scope [] ((X.mg "__name__").getD .none) c' gv)) (o1:=iE c' (X.env.qual++"<lambda>")) (o2:=kW h'.objs.size (X.env.qual++"<lambda>") params body scope c') hP #[gF pos.line,gF pos.col,.ref c'] Ey hsz tT
   (λb o hb e=>eO _ (hx b o hb e)) (eO _ mi) (WR (WX.push _)) (Mz (iM _ rfl))
  exact⟨.ref h'.objs.size,_,J,rfl,q c' h'.objs.size (I.aU.fresh Ey) (I.aU.fresh hsz) tT⟩
 ·have zp:=MB I hP;refine PySem.W.kla_makeFunctionHit (mg:=X.mg) kO I.ok.glob hg ME (C.keeps I.bk) zp (WV c) (WU c) (I.MA b hP) λgv h' tk hk hsz=> ?_;have J1:Inv X pins σ H {s with heap:=h',toks:=tk}:=I.kept hk
  exact⟨.ref h'.objs.size,_,J1.laid (t':=tk) (λb o e=>eO _ e) (bE _) (Mz (iM _ rfl)),rfl,q _ (J1.aU.fresh (bE _))⟩
end
section
variable{X:Cx}{pins:List (ae×Obj)}{σ:St}{H:Hp}{s:aq}{Q:VK}{f c:ae}{qual:Str}{params:Arguments}{body:bz}{scope:d6}{N ps:List Str}{te:TE}{k:Nat}
def Ez(X:Cx)(N:List Str)(qual:Str)(scope:d6)(body:bz)(te:TE):Prop:=∀(f:ae) (cd:ah) (A:cQ) (outer:List Env) (s:aq) (H:Hp),PE (i9 au X.prog X.w X.K X.mg X.base N qual scope f cd A outer s H E0).tL body te
theorem WY{us:List ah}{vs:List V}(hr:dD 1 X.A)(I:Inv X pins σ H s)(hf:H f=some (kW f qual params body scope c))(hc:H c=some (iE c qual))(S:aV N ps scope)(hl:vs.length=ps.length)
 (EA:∀pm gv us,us.length=ps.length->qI (Qh "<lambda>" qual params body scope [] pm (.ref c) gv) ⟨us,[]⟩=pure (ps.zip us)) (he:Ez X N qual scope body te) (r:Vals vs us) (h:te (start N vs) H Q):
 aW (model X.prog X.w) X.A (call (.ref f) us) (EP X pins σ Q) X.xe s:=by
 obtain⟨⟨pm,gv,ef⟩,_⟩:df X.prog X.w H s.heap f (kW f qual params body scope c):=I.aU f _ hf;obtain⟨ec,_⟩:df X.prog X.w H s.heap c (iE c qual):=I.aU c _ hc;have e0:=I.yI;have WZ:us.length=ps.length:=by rw[<-r.length];exact hl
 have CQ:∀y∈ps.zip us,scope.names.lookup y.1=some .local\/(scope.names.lookup y.1=some .cell/\ ((gP (s.heap.objs.size+1) scope.names []).lookup y.1).isSome=true):=λ⟨n,v⟩ hy=>by
  rcases S.par n (IP hy).1 with q|q
  ·exact .inl q
  ·exact .inr ⟨q,PM _ _ _ (.inl q)⟩
 refine BO (PySem.W.kla_callFunE hr.depth ef rfl S.co S.gen rfl ec ?_);rw[EA pm gv us WZ];refine gc (wpAny_newFunctionEnv_cells S.kind CQ λenv W8 s1 x=> ?_);subst W8;refine⟨I.nolimit.keeps x.toInCall.keep,PySem.W.kla_codeExpr ?_⟩;have J:Inv (i9 au X.prog X.w X.K X.mg X.base N qual scope f (.ref c) X.A X.stack s H E0) [] (start N vs) H s1:=Kh S hr.hd e0 hl r x;refine fM (he f (.ref c) X.A X.stack s H [] s1 (start N vs) H Q (J.lG _) h) (λu s2 ⟨v,H2,J2,rv,q⟩=> ?_) λ_ _ z=>z.elim;have J2:=J2.oH;exact I.after ⟨v,H2,J2.os,J2.bare,J2.base,J2.aU,rv,q⟩
def W9(X:Cx)(i:Nat)(t:TA):TE:=λσ H Q=>∃f c qual params body scope,σ[i]? =some (some (.ref f))/\H f=some (kW f qual params body scope c)/\t σ H λvs H1=>H1 f=some (kW f qual params body scope c)/\H1 c=some (iE c qual)/\
 ∃N ps te,aV N ps scope/\vs.length=ps.length/\ (∀pm gv us,us.length=ps.length->qI (Qh "<lambda>" qual params body scope [] pm (.ref c) gv) ⟨us,[]⟩=pure (ps.zip us))/\Ez X N qual scope body te/\te (start N vs) H1 Q
theorem W_{i:Nat}{x:Str}{p pos:Pos}{e:bz}{es:List bz}{t:TA}(hr:dD 1 X.A)(hN:X.N[i]? =some x)(hv:pN X.env.scope x)(ha:PA X (e::es) t)(g9:(x==("__debug__":Str))=false:=by decide)(fq:(x==("__classdict__":Str))=false:=by decide)
 (he:cG (e::es) X.env=(false,eval e X.env)::cG es X.env:=by rfl) (dE:(f_ pos (cG es X.env)).any (·.1)=false:=by rfl):PE X (.Call (.Name x p) (e::es) [] pos) (W9 X i t):=by
 intro pins s σ H Q I h;obtain⟨f,c,qual,params,body,scope,ef,hf,h⟩:=h;refine qJ (bf (yr (pos:=p) hN hv g9 fq pins s σ H (λv H1=>v=.ref f/\H1=H) I ⟨_,ef,rfl,rfl⟩) λu s0 ⟨v,H0,I0,ru,ev,eH⟩=> ?_);subst ev eH;obtain rfl:u=di f:=ru;have fnAt:∀{H':Hp} {s':aq},Inv X pins σ H' s'->H' f=some (kW f qual params body scope c)->PySem.W.FnAt f s'.heap:=λI' Xa=>by
  obtain⟨⟨pm,gv,ef⟩,_⟩:df X.prog X.w _ _ f (kW f qual params body scope c):=I'.aU f _ Xa;exact⟨_,_,_,_,ef⟩
 refine PySem.W.callWith_F (fnAt I0 hf) (bf (ha pos pins s0 σ H0 _ I0 h) λus s1 ⟨vs,H1,I1,r,MF,zq,N,ps,te,S,hl,EA,lo,q⟩=>⟨fnAt I1 MF,?_⟩) he dE;exact WY hr I1 MF zq S hl EA lo r q
end
end L2
namespace XR
open PySem PySem.Spec PyProof.Rows
section
variable{M:Model}{A:cQ}{E:ah->aq->Prop}{s:aq}
theorem MG{env:Env}{L x T:ae}{cls:ah}{dx:Option ae}{lo:Nat}{Q:Unit->aq->Prop}(hf:env.frame=some L)(o6:fU lo x T cls dx (gF L) s.heap)(h:Q () s):aW M A (u4 (.ref x) env) Q E s:=by
 obtain⟨oe,vs,oT,ts,he,hc,jr,hd,h1,l9,hT,kj,h3,l1,l2⟩:=o6;unfold u4;simp only[hf];refine cg (sZ he hd h1 ?_);rw[if_pos (show(di T !=iZ)=true from by simp)]
 refine cg (sZ hT kj h3 ?_);rw[if_pos (show(gF L==gF L)=true from by simp)]
 exact gc h
theorem markX{lo:Nat}{x T:ae}{cls:ah}{dx:Option ae}{fl:ah}{fr:Option ae}{Q:Unit->aq->Prop}(hf:fU lo x T cls dx fl s.heap)
 (h:∀h',fU lo x T cls dx (fr.elim iZ λf=>gF f) h'->gu [] x T s.heap h'->Q () {s with heap:=h'}):aW M A (ya (.ref x) fr) Q E s:=by
 obtain⟨oe,vs,oT,ts,he,hc,jr,hd,h1,l9,hT,kj,h3,l1,l2⟩:=hf;have rP:3<ts.size:=(Array.getElem?_eq_some_iff.mp h3).1;have other:∀b,b≠T->(s.heap.update T (x_ (·.setIfInBounds 3 (fr.elim iZ λf=>gF f)))).get? b=s.heap.get? b:=
  λb hb=>uW _ _ (Ne.symm hb)
 unfold ya;refine cg (sZ he hd h1 ?_);rw[if_pos (show(di T !=iZ)=true from by simp)]
 refine Jn hT kj rP (h _ ?_ ?_)
 ·exact⟨oe,vs,_,_,(other x (Ne.symm l9)).trans he,hc,jr,hd,h1,l9,BV _ hT (Qe (B5 kj _)),B5 kj _,by simp[rP],l1,l2⟩
 ·exact⟨λb o hb _ l_ _=>(other b l_).trans hb,λb o hb _ l_=>⟨o.slots,(other b l_).trans hb⟩⟩
theorem Xb{env:Env}{L x T:ae}{cls:ah}{dx:Option ae}{fl:ah}{lo:Nat}{Q:ah->aq->Prop}(hG:env.frame=some L)(hf:fU lo x T cls dx fl s.heap)
 (h:∀h',fU lo x T cls dx (gF L) h'->gu [] x T s.heap h'->Q (.ref x) {s with heap:=h'}):yd M A env Q (.ref x) s:=by
 have Xc:=hf;obtain⟨oe,vs,oT,ts,he,hc,jr,hd,h1,_⟩:=Xc;unfold yd;refine cg (sZ he hd h1 ?_);rw[if_neg (show¬((di T==iZ)=true) from by simp)]
 refine markX hf λh' f k=>h h' ?_ k;rw[hG] at f;exact f
end
end XR
namespace L2
open PySem PySem.Spec PyProof.Rows
open XR (fU gu)
structure Apart(X:Cx)(pins:List (ae×Obj))(x:ae):Prop where
 lo:X.dB.heap.objs.size<=x
 loc:X.env.locals≠x
 EB:∀y c,X.env.cells.lookup y=some c->c≠x
 pin:∀p∈X.pn++pins,p.1≠x
section
variable{X:Cx}{pins:List (ae×Obj)}{σ:St}{H:Hp}{s:aq}{h':aC}{x T:ae}
theorem Apart.zr(I:Inv X pins σ H s)(h:s.heap.objs.size<=x):Apart X pins x:=by
 have old:∀b,b<s.heap.objs.size->b≠x:=λb hb z=>absurd (ej hb (by rw[z];exact h)) (iK _)
 refine⟨dw I.sz h,old _ I.lt,λy c e=> ?_,λp hp=>old _ (cY (I.pin p hp).1)⟩;obtain⟨v,q⟩:=I.cell y c e;exact old c q.lt
theorem Apart.tracked(I:Inv X pins σ H s){o:HO}(h:H x=some o)(lo:X.dB.heap.objs.size<=x):Apart X pins x:=by
 refine⟨lo,λz=> ?_,λy c e z=> ?_,λp hp z=> ?_⟩
 ·have:=I.free;rw[z,h] at this;cases this
 ·have:=I.gY y c e;rw[z,h] at this;cases this
 ·have:=(I.pin p hp).2.1;rw[z,h] at this;cases this
theorem Inv.EC(I:Inv X pins σ H s)(k:gu X.stack x T s.heap h')(hx:H x=none)(hT:H T=none)(ax:Apart X pins x)(aT:Apart X pins T):Inv X pins σ H {s with heap:=h'}:=by
 have El:c9 X.prog X.w H h':=c9.kn I.aU k hx hT I.pS;refine I.step (g':=s.gens) (d':=s.drawn) (t':=s.toks) (ch:=[x,T]) (λb hb=> ?_) (λb o h1 h2 h3 e n=> ?_) (λb o h1 h2 h3 e n=> ?_) (λb o _ e n=>n) (λb o h1 e=> ?_) (λ_ _ q=>q) (λ_ _ _ q=>q) (λb ps q=>⟨#[],by rw[q];simp⟩) (λm hm=> ?_) El I.bare
 ·have hb:b=x\/b=T:=by simpa using hb
  rcases hb with rfl|rfl
  ·exact⟨.inr ax.lo,ax.loc.symm,λy c e z=>ax.EB y c e z,λp hp=>ax.pin p hp⟩
  ·exact⟨.inr aT.lo,aT.loc.symm,λy c e z=>aT.EB y c e z,λp hp=>aT.pin p hp⟩
 ·have h3:b≠x/\b≠T:=by simpa using h3
  refine k.keep b o e h3.1 h3.2 λz=> ?_;rcases cC.mp (I.ve b z) with z|z
  ·exact h1 z
  ·exact h2 z
 ·have h3:b≠x/\b≠T:=by simpa using h3
  exact k.slot b o e h3.1 h3.2
 ·have h1:b≠x/\b≠T:=by simpa using h1
  obtain⟨sl,q⟩:=k.slot b o e h1.1 h1.2;exact⟨_,q⟩
 ·obtain⟨o,es,ep,ho,r⟩:=hm;obtain⟨sl,q⟩:=k.slot _ o ho ax.loc aT.loc;exact⟨_,es,ep,q,r⟩
theorem Inv.del{φ:aC->Prop}(I:Inv X pins σ H s)(hx:H x=some (.ext φ)):Inv X pins σ (del H x) s:=by
 have d:∀b,H b=none->L2.del H x b=none:=λb e=>by
  by_cases z:b=x
  ·rw[z];exact qo
  ·rw[js z];exact e
 exact⟨I.ok,I.os,I.bare,I.base.del hx,I.loc,I.cell,d _ I.free,λy c e=>d _ (I.gY y c e),λp hp=>let ⟨a,b,c⟩:=I.pin p hp;⟨a,d _ b,c⟩,c9.del I.aU hx,I.len⟩
end
def Own(X:Cx)(E:XK)(e:ah)(s:aq):Prop:=∃pins σ H x,e=.ref x/\Inv X pins σ H s/\Apart X pins x/\
 ((∃C d,H x=some (gD C x d)/\E (.ref C) (some d) (del H x))\/
  (∃T cls dx fl,(fl=.none\/∃L,X.env.frame=some L/\fl=gF L)/\fU X.dB.heap.objs.size x T cls dx fl s.heap/\Apart X pins T/\H x=none/\H T=none/\E cls dx H))
def mj(X:Cx)(E:XK):Prop:=∀e s,Own X E e s->X.xe e s
section
variable{X:Cx}{E:XK}
theorem mj.lets(t:mj X E):Lets X E:=λpins σ H s x C d I hx lx q=>t _ _ ⟨pins,σ,H,x,rfl,I,Apart.tracked I hx lx,.inl ⟨C,d,hx,q⟩⟩
theorem mj.passes(t:mj X E):Passes (bq X.prog X.w) X E:=by
 intro pins σ H s e s' I h;obtain⟨x,T,cls,dx,H',rfl,os,bare,un,aU,eZ,hx,hT,q⟩:=h;have I':Inv X pins σ H' s':=I.vh (ch:=[]) os un aU bare (λb z=>nomatch z);exact t _ _ ⟨pins,σ,H',x,rfl,I',Apart.zr I eZ.lx,.inr ⟨T,cls,dx,.none,.inl rfl,eZ.mono I.sz,Apart.zr I eZ.lT,hx,hT,q⟩⟩
theorem MH{x T:ae}{h h':aC}{l:List Env}(k:gu [] x T h h'):gu l x T h h':=⟨λb o a1 a2 a3 _=>k.keep b o a1 a2 a3 (λz=>nomatch z),k.slot⟩
theorem mj.MJ(t:mj X E)(d9:X.stack=X.env::X.outer/\X.env.frame=some X.env.locals){e:ah}{s:aq}(o:Own X E e s):pH (model X.prog X.w) X.A X.env (yd (model X.prog X.w) X.A X.env X.xe) e s:=by
 obtain⟨pins,σ,H,x,rfl,I,ax,o⟩:=o;have hG:X.A.frames=some (X.env::X.outer):=by rw[<-d9.1];exact I.ok.frames
 have fr:=I.stack;rw[d9.1] at fr;have back:∀(h1:aC) (H1:Hp) (T:ae) (cls:ah) (dx:Option ae),Inv X pins σ H1 {s with heap:=h1}->fU X.dB.heap.objs.size x T cls dx (gF X.env.locals) h1->Apart X pins T->H1 x=none->H1 T=none->E cls dx H1->
  yd (model X.prog X.w) X.A X.env X.xe (.ref x) {s with heap:=h1}:=by
  intro h1 H1 T cls dx J fl aT hx hT q;refine XR.Xb (s:={s with heap:=h1}) d9.2 fl λh2 f2 k2=>t _ _ ⟨pins,σ,H1,x,rfl,J.EC (h':=h2) (MH k2) hx hT ax aT,ax,.inr ⟨T,cls,dx,_,.inr ⟨_,d9.2,rfl⟩,f2,aT,hx,hT,q⟩⟩
 unfold pH;rcases o with⟨C,d,hx,q⟩|⟨T,cls,dx,fl,o6,eZ,aT,hx,hT,q⟩
 ·obtain⟨⟨t0,ex⟩,_⟩:df X.prog X.w H s.heap x (gD C x d):=I.aU x _ hx;refine XR.Mj hG fr d9.2 ex ax.lo I.sz λh1 T1 um f1 k1=> ?_;rw[<-d9.1] at k1;have J:=I.del hx;have hd:del H x x=none:=qo;have hT:T1≠x:=λz=>absurd (ej (cY ex) (by rw[<-z];exact um)) (iK _)
  exact back h1 _ T1 _ _ (J.EC k1 hd hd ax ax) f1 (Apart.zr I um) hd (by rw[js hT];exact I.aU.fresh um) q
 ·rcases o6 with rfl|⟨L,eL,rfl⟩
  ·refine XR.zk hG fr d9.2 eZ λh1 T1 um f1 k1=> ?_;rw[<-d9.1] at k1;exact back h1 H T1 _ _ (I.EC k1 hx hT ax aT) f1 (Apart.zr I um) hx (I.aU.fresh um) q
  ·rw[d9.2] at eL;cases eL;exact XR.MG d9.2 eZ (back s.heap H T _ _ I eZ aT hx hT q)
theorem Xd{pn:List (ae×Obj)}{xe:ah->aq->Prop}{e:ah}{s:aq}(o:Own (X.gR pn xe) E e s):Own X E e s:=by
 obtain⟨pins,σ,H,x,rfl,I,ax,o⟩:=o;have ap:∀{y:ae},Apart (X.gR pn xe) pins y->Apart X pn y:=λa=>⟨a.lo,a.loc,a.EB,λp hp=>a.pin p (IH _ hp)⟩;refine⟨pn,σ,H,x,rfl,I.fV,ap ax,o.imp id λ⟨T,cls,dx,fl,h1,h2,h3,h4⟩=>⟨T,cls,dx,fl,h1,h2,ap h3,h4⟩⟩
theorem ML{pn:List (ae×Obj)}:mj (X.gR pn (Own X E)) E:=λe s o=>Xd o
end
section
variable{P:aS}{w:aL}{K:az}{mg:Str->Option ah}{base:aC}{N:List Str}{qual:Str}{scope:d6}{f:ae}{cd:ah}{A:cQ}{outer:List Env}{s0:aq}{H0:Hp}{E:XK}
theorem qp:mj (i9 (bq P w) P w K mg base N qual scope f cd A outer s0 H0 E) E:=by
 rintro e s ⟨pins,σ,H,x,rfl,I,ax,o⟩;rcases o with⟨C,d,hx,q⟩|⟨T,cls,dx,fl,o6,eZ,aT,hx,hT,q⟩
 ·exact rQ pins σ H s x C d I hx ax.lo q
 ·rcases o6 with rfl|⟨L,eL,rfl⟩
  ·refine XR.Mn (base:=base) I.ok.frames I.stack rfl eZ λtX T' iC kq k=> ?_;exact⟨x,T',cls,dx,H,rfl,I.os,I.bare,I.leave (base:=base) ⟨rfl,rfl⟩ rfl k ax.lo aT.lo,I.aU.kn k hx hT I.pS,kq,hx,I.aU.fresh iC,q⟩
  ·have eL:some s0.heap.objs.size=some L:=eL;cases eL;show aW _ _ (leaving _ _) _ _ _;unfold leaving;refine cg (XR.MG (L:=s0.heap.objs.size) rfl eZ ?_);refine XR.rO eZ λh2 f2 k2=> ?_;have k:gu (envOfC qual scope s0.heap.objs.size f cd::outer) x T s.heap h2:=MH k2;exact⟨x,T,cls,dx,H,rfl,I.os,I.bare,I.leave (base:=base) ⟨rfl,rfl⟩ rfl k ax.lo aT.lo,I.aU.kn k hx hT I.pS,f2,hx,hT,q⟩
end
def MN(X:Cx)(body:List cD)(tb:XK->TS):Prop:=∀(pn:List (ae×Obj)) (xe:ah->aq->Prop) (E:XK),mj (X.gR pn xe) E->gy (X.gR pn xe) body (tb E)
section
variable{X:Cx}{E:XK}{pos:Pos}
theorem zt{c:bz}{body:List cD}{tc:TT}{tb:XK->TS}(ht:mj X E)(d9:X.stack=X.env::X.outer/\X.env.frame=some X.env.locals)(hc:∀pn xe,PT (X.gR pn xe) c tc)(hb:MN X body tb):PS X (.While c body [] pos) (JN tc (tb E)):=by
 intro pins s σ H D I h;obtain⟨W,⟨m0,w0⟩,turn⟩:=h;have out:∀{α:Type} {t:Sem α} {Q:α->aq->Prop} {s:aq},aW (model X.prog X.w) X.A t Q (Own X E) s->aW (model X.prog X.w) X.A t Q (pH (model X.prog X.w) X.A X.env (yd (model X.prog X.w) X.A X.env X.xe)) s:=λh=>fM h (λ_ _ z=>z) λe s o=>ht.MJ d9 o;refine wpAny_While (codeAny_whileLoop (λn s'=>∃σ' H',Inv X pins σ' H' s'/\W n σ' H') ?_ m0 ⟨σ,H,I,w0⟩);rintro n s1 ⟨σ1,H1,I1,w1⟩;refine out (bf (hc pins (Own X E) [] s1 σ1 H1 _ I1.gR (turn n σ1 H1 w1)) λb s2 ⟨H2,I2,q2⟩=> ?_);cases b with
 |true=>
  obtain⟨N,hN,q2⟩:=q2;rw[if_pos rfl];refine out (bf (hb pins (Own X E) E ML [] s2 σ1 H2 _ I2 q2) λf s3 q3=> ?_);cases f with
  |next=>
   obtain⟨σ3,H3,I3,n3⟩:=q3;obtain⟨m',hm,w3⟩:=hN σ3 H3 n3;exact⟨m',hm,σ3,H3,I3.fV,w3⟩
  |cont=>
   obtain⟨σ3,H3,I3,n3⟩:=q3;obtain⟨m',hm,w3⟩:=hN σ3 H3 n3;exact⟨m',hm,σ3,H3,I3.fV,w3⟩
  |brk=>obtain⟨σ3,H3,I3,q3⟩:=q3;exact⟨σ3,H3,I3.fV,q3⟩
  |ret v=>obtain⟨x7,σ7,H7,I7,r7,q7⟩:=q3;exact⟨x7,σ7,H7,I7.fV,r7,q7⟩
 |false=>
  rw[if_neg cW];exact sN ⟨σ1,H2,I2.fV,q2⟩
theorem zu{tg iter:bz}{body:List cD}{wi:TI}{g:TG}{tb:XK->TS}(ht:mj X E)(d9:X.stack=X.env::X.outer/\X.env.frame=some X.env.locals)(hc:X.calm=true)(hi:PI X tg iter wi)(hg:∀pn xe,PG (X.gR pn xe) tg g)(hb:MN X body tb)
 (hs:∀x,BI iter X.env x=pure x:=by intro _;rfl):PS X (.For tg iter body [] pos) (JO wi g (tb E)):=by
 intro pins s σ H D I h;have out:∀{α:Type} {t:Sem α} {Q:α->aq->Prop} {s:aq},aW (model X.prog X.w) X.A t Q (Own X E) s->aW (model X.prog X.w) X.A t Q (pH (model X.prog X.w) X.A X.env (yd (model X.prog X.w) X.A X.env X.xe)) s:=λh=>fM h (λ_ _ z=>z) λe s o=>ht.MJ d9 o;refine wpAny_For (bf (hi pins s σ H _ I h) λv s1 h1=>bf h1 λyB s2 h2=> ?_) hs;obtain⟨it,fp,tn,J,H2,e,I2,T,tM,f2,W,⟨m0,w0⟩,turn⟩:=h2;subst e;have lJ:∀{H':Hp},(∀b∈fp,H' b=none)->∀b∈fp,lH X pins H' b:=λhn b hb=>⟨hn b hb,(f2 b hb).2⟩;refine codeAny_forLoop_any (λn s'=>∃i σ' H',Inv X pins σ' H' s'/\tn i s'.heap/\ (∀b∈fp,H' b=none)/\W i n σ' H') ?_ m0 ⟨0,σ,H2,I2,tM,λb hb=>(f2 b hb).1,w0⟩;rintro n s3 ⟨i,σ3,H3,I3,q0,vk,w3⟩;rcases turn i n σ3 H3 w3 with⟨stop,qn⟩|⟨go,N,hN,step⟩
 ·refine out (bf (T.done X rfl rfl rfl hc i pins s3 σ3 H3 (Own X E) I3 (lJ vk) q0 stop) λr s4 ⟨hr,I4⟩=> ?_);subst hr;exact sN ⟨σ3,H3,I4,qn⟩
 ·refine out (bf (T.item X rfl rfl rfl hc i pins s3 σ3 H3 (Own X E) I3 (lJ vk) q0 go) λr s4 ⟨u,hr,h4⟩=> ?_);subst hr;refine out (bf h4 λ_ s5 ⟨x,H5,I5,r5,y5,nF,Cs⟩=> ?_);have Ct:=I5.pinned (lJ Cs) (T.obj _ _ nF);refine out (bf (hg (pins++pZ fp s5.heap) (Own X E) [] s5 σ3 H5 x u _ Ct.gR r5 (step x H5 y5)) λ_ s6 ⟨σ6,H6,I6,q6⟩=> ?_);refine out (bf (hb (pins++pZ fp s5.heap) (Own X E) E ML [] s6 σ6 H6 _ I6 q6) λf s7 q7=> ?_);have again:∀{σ7:St} {H7:Hp},Inv X (pins++pZ fp s5.heap) σ7 H7 s7->N σ7 H7->∃m,m<n/\ ∃i σ' H',Inv X pins σ' H' s7/\tn i s7.heap/\ (∀b∈fp,H' b=none)/\W i m σ' H':=λ{σ7 H7} I7 n7=>by
   obtain⟨m',hm,w7⟩:=hN σ7 H7 n7;refine⟨m',hm,i+1,σ7,H7,I7.qZ,T.keep _ _ _ nF λb hb o e=>(I7.pin (b,o) (mX _ (mX _ (vj hb e)))).1,λb hb=> ?_,w7⟩;obtain⟨o,e,d⟩:=T.obj _ _ nF b hb;exact(I7.pin (b,o) (mX _ (mX _ (vj hb e)))).2.1
  cases f with
  |next=>obtain⟨σ7,H7,I7,n7⟩:=q7;exact again I7.fV n7
  |cont=>obtain⟨σ7,H7,I7,n7⟩:=q7;exact again I7.fV n7
  |brk=>obtain⟨σ7,H7,I7,q7⟩:=q7;exact⟨σ7,H7,I7.fV.qZ,q7⟩
  |ret v=>obtain⟨x7,σ7,H7,I7,r7,q7⟩:=q7;exact⟨x7,σ7,H7,I7.fV.qZ,r7,q7⟩
end
end L2
namespace Lm
open PySem PySem.Spec PyProof.Rows L2
def top(i:Nat):cD:=PySem.Challenge.pw_lanemachine_s01_answers.main.body.getD i (.Pass ⟨0,0,0,0⟩)
theorem bh{N P:List Str}{sc:d6}(h:sc.kind=.function/\sc.isCoroutine=false/\sc.isGenerator=false/\N.Nodup/\N.take P.length=P/\ (∀x∈P,sc.names.lookup x=some .local\/sc.names.lookup x=some .cell)/\ ∀y∈sc.names,y.2≠ .free:=by decide+kernel):aV N P sc:=
 let ⟨a,b,c,d,e,f,g⟩:=h;⟨a,b,c,d,e,f,g⟩
theorem _root_.L2.aG.oK{P:aS}{w:aL}{K:az}{mg:Str->Option ah}{base:aC}{x qual:Str}{st:cD}{f:ae}{fd:bK}{N ps:List Str}{k:Nat}{sp:Sp}(F:aG K x qual st f fd)(S:aV N ps (aK st))
 (lM:∀(aF:ah) (A:cQ) (outer:List Env) (s:aq) (H:Hp) (vs:List V) (Q:VK) (E:XK),dD k (A.deeper (envOfC qual (aK st) s.heap.objs.size f aF))->sp vs H Q E->
   ∃t,gy (i9 au P w K mg base N qual (aK st) f aF A outer s H E).tL (hX st) t/\t {nx:=λ_ H'=>Q .aO H',rt:=Q} (start N vs) H)
 (len:∀vs H Q E,sp vs H Q E->vs.length=ps.length:=by intro _ _ _ _ h;(repeat obtain⟨_,h⟩:=h);subst_vars;rfl):aD P w K mg base au (k+1) f fd ps sp:=F.ok S len lM
theorem _root_.L2.aG.oX{P:aS}{w:aL}{K:az}{mg:Str->Option ah}{base:aC}{x qual:Str}{st:cD}{f:ae}{fd:bK}{N ps:List Str}{k:Nat}{sp:Sp}(F:aG K x qual st f fd)(S:aV N ps (aK st))
 (lM:∀(aF:ah) (A:cQ) (outer:List Env) (s:aq) (H:Hp) (vs:List V) (Q:VK) (E:XK),dD k (A.deeper (envOfC qual (aK st) s.heap.objs.size f aF))->sp vs H Q E->
   ∃t,gy (i9 (bq P w) P w K mg base N qual (aK st) f aF A outer s H E) (hX st) t/\t {nx:=λ_ H'=>Q .aO H',rt:=Q} (start N vs) H)
 (len:∀vs H Q E,sp vs H Q E->vs.length=ps.length:=by intro _ _ _ _ h;(repeat obtain⟨_,h⟩:=h);subst_vars;rfl):aD P w K mg base (bq P w) (k+1) f fd ps sp:=F.Mu S len lM
section
variable{K:az}{x l:Str}{st:cD}{f:ae}{fd:bK}
theorem _root_.L2.aG.b1(F:aG K x l st f fd)(p:Str)(h:∀(kV doc pm:ah) (an:Option ae) (aF ct a:ah),qI (j0 x l (ke st) (hX st) (aK st) .none kV doc pm an aF ct) ⟨[a],[]⟩=pure [(p,a)]:=by intros;rfl):Binds K fd [p] []:=
 F.binds λ_ _ _ _ _ _ us hl=>match us,hl with|[_],_=>h ..
theorem _root_.L2.aG.b2(F:aG K x l st f fd)(p q:Str)(h:∀(kV doc pm:ah) (an:Option ae) (aF ct a b:ah),qI (j0 x l (ke st) (hX st) (aK st) .none kV doc pm an aF ct) ⟨[a,b],[]⟩=pure [(p,a),(q,b)]:=by intros;rfl):Binds K fd [p,q] []:=
 F.binds λ_ _ _ _ _ _ us hl=>match us,hl with|[_,_],_=>h ..
theorem _root_.L2.aG.b3(F:aG K x l st f fd)(p q r:Str)(h:∀(kV doc pm:ah) (an:Option ae) (aF ct a b c:ah),qI (j0 x l (ke st) (hX st) (aK st) .none kV doc pm an aF ct) ⟨[a,b,c],[]⟩=pure [(p,a),(q,b),(r,c)]:=by intros;rfl):Binds K fd [p,q,r] []:=
 F.binds λ_ _ _ _ _ _ us hl=>match us,hl with|[_,_,_],_=>h ..
theorem _root_.L2.aG.b4(F:aG K x l st f fd)(p q r s:Str)(h:∀(kV doc pm:ah) (an:Option ae) (aF ct a b c d:ah),qI (j0 x l (ke st) (hX st) (aK st) .none kV doc pm an aF ct) ⟨[a,b,c,d],[]⟩=pure [(p,a),(q,b),(r,c),(s,d)]:=by intros;rfl):Binds K fd [p,q,r,s] []:=
 F.binds λ_ _ _ _ _ _ us hl=>match us,hl with|[_,_,_,_],_=>h ..
end
abbrev ED:=top 26
abbrev Xe:List Str:=["a","b","total"]
theorem MO:aV Xe ["a","b"] (aK ED):=bh
abbrev EE:=top 27
abbrev Xf:List Str:=["a","b","difference"]
theorem MQ:aV Xf ["a","b"] (aK EE):=bh
abbrev EF:=top 28
abbrev Xg:List Str:=["a","b","product"]
theorem MS:aV Xg ["a","b"] (aK EF):=bh
abbrev EG:=top 29
abbrev Xh:List Str:=["a","b"]
theorem Xi:aV Xh ["a","b"] (aK EG):=bh
abbrev EH:=top 30
abbrev Xj:List Str:=["a","b"]
theorem Xk:aV Xj ["a","b"] (aK EH):=bh
abbrev EI:=top 31
abbrev Xl:List Str:=["a","b"]
theorem Xm:aV Xl ["a","b"] (aK EI):=bh
abbrev uo:=top 32
abbrev Xn:List Str:=["a","b"]
theorem Xo:aV Xn ["a","b"] (aK uo):=bh
abbrev EJ:=top 33
abbrev Xp:List Str:=["a","b"]
theorem Xq:aV Xp ["a","b"] (aK EJ):=bh
abbrev EL:=top 34
abbrev Xr:List Str:=["a","b"]
theorem Xs:aV Xr ["a","b"] (aK EL):=bh
abbrev EM:=top 35
abbrev Xt:List Str:=["a","b"]
theorem Xu:aV Xt ["a","b"] (aK EM):=bh
abbrev EN:=top 36
abbrev Xv:List Str:=["a","b"]
theorem Xw:aV Xv ["a","b"] (aK EN):=bh
abbrev rV:=top 37
abbrev Xx:List Str:=["number"]
theorem Xy:aV Xx ["number"] (aK rV):=bh
abbrev EO:=top 38
abbrev Xz:List Str:=["a","b"]
theorem XA:aV Xz ["a","b"] (aK EO):=bh
abbrev ER:=top 39
abbrev XB:List Str:=["a","b"]
theorem XC:aV XB ["a","b"] (aK ER):=bh
abbrev ES:=top 40
abbrev XD:List Str:=["a"]
theorem XE:aV XD ["a"] (aK ES):=bh
abbrev ET:=top 41
abbrev XF:List Str:=["a"]
theorem XG:aV XF ["a"] (aK ET):=bh
abbrev EU:=top 42
abbrev XH:List Str:=["a"]
theorem XI:aV XH ["a"] (aK EU):=bh
abbrev EV:=top 43
abbrev XJ:List Str:=["a"]
theorem XM:aV XJ ["a"] (aK EV):=bh
abbrev wk:=top 46
abbrev XN:List Str:=["operator"]
theorem XO:aV XN ["operator"] (aK wk):=bh
abbrev EW:=inClass (top 48) 0
abbrev XQ:List Str:=["self","kind","place"]
theorem XS:aV XQ ["self","kind","place"] (aK EW):=bh
abbrev uq:=inClass (top 49) 0
abbrev EX:List Str:=["self","width","number"]
theorem wm:aV EX ["self","width"] (aK uq):=bh
abbrev wo:=inClass (top 50) 0
abbrev MU:List Str:=["self","width","arrays","budget","array"]
theorem EY:aV MU ["self","width","arrays","budget"] (aK wo):=bh
abbrev zv:=top 51
abbrev XT:List Str:=["run"]
theorem XU:aV XT ["run"] (aK zv):=bh
abbrev wq:=top 52
abbrev MV:List Str:=["run","lane","kind","place","other"]
theorem EZ:aV MV ["run","lane","kind","place"] (aK wq):=bh
abbrev wt:=top 53
abbrev MW:List Str:=["run","told","mask","lane"]
theorem zw:aV MW ["run","told"] (aK wt):=bh
abbrev zx:=top 54
abbrev XW:List Str:=["run","told","operand"]
theorem XX:aV XW ["run","told","operand"] (aK zx):=bh
abbrev zy:=top 55
abbrev XY:List Str:=["run","told","operand"]
theorem XZ:aV XY ["run","told","operand"] (aK zy):=bh
abbrev zA:=top 56
abbrev X0:List Str:=["run","told","operand"]
theorem X1:aV X0 ["run","told","operand"] (aK zA):=bh
abbrev zB:=top 57
abbrev X2:List Str:=["run","told","number"]
theorem X3:aV X2 ["run","told","number"] (aK zB):=bh
abbrev E4:=top 58
abbrev X4:List Str:=["run","told","target","lane"]
theorem E5:aV X4 ["run","told"] (aK E4):=bh
abbrev zC:=top 59
abbrev X5:List Str:=["run","told","number","target","lane"]
theorem E6:aV X5 ["run","told","number"] (aK zC):=bh
abbrev E7:=top 60
abbrev X6:List Str:=["run","told"]
theorem X7:aV X6 ["run","told"] (aK E7):=bh
abbrev E8:=top 61
abbrev X8:List Str:=["run","told"]
theorem X9:aV X8 ["run","told"] (aK E8):=bh
abbrev E9:=top 62
abbrev X_:List Str:=["run","told","target","source","lane"]
theorem zD:aV X_ ["run","told"] (aK E9):=bh
abbrev E_:=top 63
abbrev X':List Str:=["run","told","operator","target","source","lane","number"]
theorem uu:aV X' ["run","told"] (aK E_):=bh
abbrev Fb:=top 64
abbrev Ya:List Str:=["run","told","operator","target","first","second","lane","number"]
theorem rW:aV Ya ["run","told"] (aK Fb):=bh
abbrev zE:=top 65
abbrev Yb:List Str:=["run","told","kind","place","target","array","where","lane"]
theorem wu:aV Yb ["run","told","kind","place"] (aK zE):=bh
abbrev Fd:=top 66
abbrev Yc:List Str:=["run","told"]
theorem Yd:aV Yc ["run","told"] (aK Fd):=bh
abbrev Fe:=top 67
abbrev Ye:List Str:=["run","told"]
theorem Yf:aV Ye ["run","told"] (aK Fe):=bh
abbrev Ff:=top 68
abbrev Yg:List Str:=["run","told","array","where","source","lane"]
theorem wx:aV Yg ["run","told"] (aK Ff):=bh
abbrev Fg:=top 69
abbrev Yh:List Str:=["run","told","target","source","lane"]
theorem zF:aV Yh ["run","told"] (aK Fg):=bh
abbrev Fh:=top 70
abbrev Yi:List Str:=["run","told","target","bound","lane"]
theorem zG:aV Yi ["run","told"] (aK Fh):=bh
abbrev zI:=top 71
abbrev Yj:List Str:=["run","told","combined","target","first","second","lane"]
theorem wz:aV Yj ["run","told","combined"] (aK zI):=bh
abbrev wA:=top 72
abbrev Yk:List Str:=["run","told"]
theorem Yl:aV Yk ["run","told"] (aK wA):=bh
abbrev wB:=top 73
abbrev Ym:List Str:=["run","told"]
theorem Yn:aV Ym ["run","told"] (aK wB):=bh
abbrev wC:=top 74
abbrev Yo:List Str:=["run","told"]
theorem Yp:aV Yo ["run","told"] (aK wC):=bh
abbrev Fj:=top 75
abbrev Yq:List Str:=["run","told"]
theorem Yr:aV Yq ["run","told"] (aK Fj):=bh
abbrev Fl:=top 76
abbrev Ys:List Str:=["run","told"]
theorem Yt:aV Ys ["run","told"] (aK Fl):=bh
abbrev Fn:=top 77
abbrev Yu:List Str:=["run","told"]
theorem Yv:aV Yu ["run","told"] (aK Fn):=bh
abbrev Fp:=top 78
abbrev Yw:List Str:=["run","told","operator","number"]
theorem Fq:aV Yw ["run","told"] (aK Fp):=bh
abbrev zJ:=top 79
abbrev Yx:List Str:=["run","number"]
theorem Yy:aV Yx ["run","number"] (aK zJ):=bh
abbrev Fs:=top 80
abbrev Yz:List Str:=["run","told","source"]
theorem MY:aV Yz ["run","told"] (aK Fs):=bh
abbrev Ft:=top 81
abbrev YA:List Str:=["run","told","target"]
theorem MZ:aV YA ["run","told"] (aK Ft):=bh
abbrev Fu:=top 82
abbrev YB:List Str:=["run","told","number"]
theorem M0:aV YB ["run","told"] (aK Fu):=bh
abbrev Fv:=top 83
abbrev YC:List Str:=["run","told"]
theorem YD:aV YC ["run","told"] (aK Fv):=bh
abbrev zK:=top 84
abbrev YE:List Str:=["run","fault"]
theorem M4:aV YE ["run"] (aK zK):=bh
abbrev Fw:=top 85
abbrev YF:List Str:=["run","told"]
theorem YG:aV YF ["run","told"] (aK Fw):=bh
abbrev Fy:=top 87
abbrev YH:List Str:=["run","body","told","action"]
theorem Fz:aV YH ["run","body"] (aK Fy):=bh
abbrev FD:=top 88
abbrev YI:List Str:=["code","width","arrays","budget","run"]
theorem M5:aV YI ["code","width","arrays","budget"] (aK FD):=bh
abbrev FE:=inClass (top 98) 0
abbrev YJ:List Str:=["self","position"]
theorem YK:aV YJ ["self","position"] (aK FE):=bh
abbrev zL:=inClass (top 99) 0
abbrev YL:List Str:=["self","text","start","end"]
theorem YM:aV YL ["self","text","start","end"] (aK zL):=bh
abbrev zM:=top 100
abbrev YN:List Str:=["byte"]
theorem YO:aV YN ["byte"] (aK zM):=bh
abbrev zN:=top 101
abbrev YQ:List Str:=["byte"]
theorem YR:aV YQ ["byte"] (aK zN):=bh
abbrev zO:=top 102
abbrev YS:List Str:=["byte"]
theorem YT:aV YS ["byte"] (aK zO):=bh
abbrev wD:=top 103
abbrev M6:List Str:=["text","start","end","byte"]
theorem FF:aV M6 ["text","start","end"] (aK wD):=bh
abbrev zQ:=top 104
abbrev YU:List Str:=["digits","most","number"]
theorem M7:aV YU ["digits","most"] (aK zQ):=bh
abbrev zR:=top 105
abbrev YV:List Str:=["text","at","end"]
theorem FG:aV YV ["text","at"] (aK zR):=bh
abbrev zT:=top 106
abbrev YW:List Str:=["text","at","start"]
theorem zU:aV YW ["text","at"] (aK zT):=bh
abbrev zV:=top 107
abbrev YX:List Str:=["text","start","end"]
theorem FH:aV YX ["text","start"] (aK zV):=bh
abbrev zW:=top 108
abbrev YY:List Str:=["text","start","end","digits"]
theorem zX:aV YY ["text","start"] (aK zW):=bh
abbrev zY:=top 109
abbrev YZ:List Str:=["text","at","start","byte"]
theorem FI:aV YZ ["text","at"] (aK zY):=bh
abbrev zZ:=inClass (top 114) 0
abbrev Y0:List Str:=["self","action","operator","parts"]
theorem Y1:aV Y0 ["self","action","operator","parts"] (aK zZ):=bh
abbrev z7:=inClass (top 115) 0
abbrev Y2:List Str:=["self"]
theorem Y3:aV Y2 ["self"] (aK z7):=bh
abbrev z8:=inClass (top 116) 0
abbrev Y4:List Str:=["self","text"]
theorem Y5:aV Y4 ["self","text"] (aK z8):=bh
abbrev wF:=inClass (top 116) 1
abbrev Y6:List Str:=["self"]
theorem Y7:aV Y6 ["self"] (aK wF):=bh
abbrev wG:=inClass (top 116) 2
abbrev Y8:List Str:=["self","fits"]
theorem Y9:aV Y8 ["self","fits"] (aK wG):=bh
abbrev wH:=inClass (top 116) 3
abbrev Y_:List Str:=["self","text"]
theorem Y':aV Y_ ["self","text"] (aK wH):=bh
abbrev wI:=inClass (top 116) 4
abbrev Za:List Str:=["self","most","number"]
theorem M8:aV Za ["self","most"] (aK wI):=bh
abbrev z9:=top 117
abbrev Zb:List Str:=["reader","letter"]
theorem Zc:aV Zb ["reader","letter"] (aK z9):=bh
abbrev z_:=top 118
abbrev Zd:List Str:=["reader","letter","word","number"]
theorem FJ:aV Zd ["reader","letter"] (aK z_):=bh
abbrev FN:=top 119
abbrev Ze:List Str:=["reader","told"]
theorem Zf:aV Ze ["reader","told"] (aK FN):=bh
abbrev FO:=top 120
abbrev Zg:List Str:=["reader","told","below","distance","number"]
theorem Aa:aV Zg ["reader","told"] (aK FO):=bh
abbrev FP:=top 121
abbrev Zh:List Str:=["reader","told"]
theorem Zi:aV Zh ["reader","told"] (aK FP):=bh
abbrev FQ:=top 122
abbrev Zj:List Str:=["reader","told"]
theorem Zk:aV Zj ["reader","told"] (aK FQ):=bh
abbrev Ab:=top 123
abbrev Zl:List Str:=["reader","part","told","number"]
theorem M9:aV Zl ["reader","part","told"] (aK Ab):=bh
abbrev Ad:=top 124
abbrev Zm:List Str:=["word"]
theorem Zn:aV Zm ["word"] (aK Ad):=bh
abbrev Ae:=top 125
abbrev Zo:List Str:=["word"]
theorem Zp:aV Zo ["word"] (aK Ae):=bh
abbrev Af:=top 126
abbrev Zq:List Str:=["reader","around","body"]
theorem FR:aV Zq ["reader","around"] (aK Af):=bh
abbrev FU:=top 127
abbrev Zr:List Str:=["reader","told","around"]
theorem Zs:aV Zr ["reader","told","around"] (aK FU):=bh
abbrev FV:=top 128
abbrev Zt:List Str:=["reader","around","word","shape","told","part"]
theorem wJ:aV Zt ["reader","around"] (aK FV):=bh
abbrev FW:=top 129
abbrev Zu:List Str:=["reader"]
theorem Zv:aV Zu ["reader"] (aK FW):=bh
abbrev Ag:=top 130
abbrev Zw:List Str:=["text","reader"]
theorem M_:aV Zw ["text"] (aK Ag):=bh
abbrev Ah:=top 132
abbrev M':List Str:=["text","sign"]
theorem FX:aV M' ["text"] (aK Ah):=bh
abbrev FY:=top 133
abbrev Zx:List Str:=["body","lines","told"]
theorem FZ:aV Zx ["body"] (aK FY):=bh
abbrev Ai:=top 134
abbrev Zy:List Str:=["told","head","lines"]
theorem wK:aV Zy ["told"] (aK Ai):=bh
abbrev wL:=top 135
abbrev F_:List Str:=["code","lines","length","line"]
theorem wM:aV F_ ["code"] (aK wL):=bh
abbrev F':=top 136
abbrev Zz:List Str:=["operator","length","place","array","begin","each_strip"]
theorem Aj:aV Zz ["operator","length","place"] (aK F'):=bh
abbrev Ak:=inClass (top 138) 0
abbrev ZA:List Str:=["self"]
theorem ZC:aV ZA ["self"] (aK Ak):=bh
abbrev Al:=top 139
abbrev Na:List Str:=["machine","numbers","text","code","length"]
theorem Am:aV Na ["machine","numbers","text"] (aK Al):=bh
abbrev Gb:=top 140
abbrev ZD:List Str:=["machine","numbers","text","wrong"]
theorem Nb:aV ZD ["machine","numbers","text"] (aK Gb):=bh
abbrev Gd:=top 141
abbrev ZE:List Str:=["machine","numbers","row"]
theorem ZF:aV ZE ["machine","numbers","row"] (aK Gd):=bh
abbrev Ge:=top 142
abbrev ZG:List Str:=["machine","numbers","row","width"]
theorem Nc:aV ZG ["machine","numbers","row"] (aK Ge):=bh
abbrev Gf:=top 143
abbrev ZH:List Str:=["number"]
theorem ZI:aV ZH ["number"] (aK Gf):=bh
abbrev Gg:=top 144
abbrev ZJ:List Str:=["rows","wanted"]
theorem ZK:aV ZJ ["rows","wanted"] (aK Gg):=bh
abbrev An:=top 145
abbrev Nd:List Str:=["machine","numbers","data","wanted","number"]
theorem Ao:aV Nd ["machine","numbers","data"] (aK An):=bh
abbrev Gh:=top 146
abbrev ZL:List Str:=["machine","numbers","row","budget","run","stop"]
theorem Ap:aV ZL ["machine","numbers","row"] (aK Gh):=bh
abbrev Gi:=top 147
abbrev ZM:List Str:=["rows","wanted"]
theorem ZN:aV ZM ["rows","wanted"] (aK Gi):=bh
abbrev Gj:=top 148
abbrev ZO:List Str:=["machine","numbers","row"]
theorem ZP:aV ZO ["machine","numbers","row"] (aK Gj):=bh
abbrev Gk:=top 149
abbrev ZQ:List Str:=["machine","numbers","row"]
theorem ZR:aV ZQ ["machine","numbers","row"] (aK Gk):=bh
abbrev Gm:=top 150
abbrev ZS:List Str:=["machine","numbers","row","scalars"]
theorem Nf:aV ZS ["machine","numbers","row"] (aK Gm):=bh
abbrev Gs:=top 151
abbrev ZT:List Str:=["machine","numbers","row"]
theorem ZU:aV ZT ["machine","numbers","row"] (aK Gs):=bh
abbrev Gv:=top 152
abbrev ZV:List Str:=["machine","numbers","row","operator","length","place"]
theorem Aq:aV ZV ["machine","numbers","row"] (aK Gv):=bh
abbrev Ar:=top 156
abbrev ZW:List Str:=["calls","machine","answered","at","call","row_at","numbers","row","answerer","answer"]
theorem ks:aV ZW ["calls"] (aK Ar):=bh
structure GI(mg:Str->Option ah):Prop where
 qr:∃t,mg "LARGEST"=some (.int (1000000000000000000) t)
 As:∃t,mg "SMALLEST"=some (.int (-1000000000000000000) t)
 ZX:∃t,mg "FIRST_WIDTH"=some (.int (4) t)
 ZY:∃t,mg "MOST_WIDTH"=some (.int (16) t)
 Ng:∃t,mg "VECTORS"=some (.int (16) t)
 Nh:∃t,mg "SCALARS"=some (.int (16) t)
 Ni:∃t,mg "MASKS"=some (.int (8) t)
 Nj:∃t,mg "MOST_BYTES"=some (.int (16384) t)
 ZZ:∃t,mg "MOST_ARRAYS"=some (.int (32) t)
 Nk:∃t,mg "MOST_LENGTH"=some (.int (1024) t)
 Z0:∃t,mg "MOST_INSTRUCTIONS"=some (.int (512) t)
 Nl:∃t,mg "MOST_AROUND"=some (.int (7) t)
 Z1:∃t,mg "MOST_BUDGET"=some (.int (100000) t)
 Z2:∃t,mg "INDEX"=some (.int (3) t)
 Z3:∃t,mg "ZERO"=some (.int (4) t)
 Z4:∃t,mg "BIG"=some (.int (5) t)
 Z5:∃t,mg "DOMAIN"=some (.int (7) t)
 Z6:∃t,mg "STEPS"=some (.int (9) t)
 Gw:∃t,mg "OUT"=some (.int (12) t)
 Z7:∃t,mg "REFUSED_LONG"=some (.int (-1) t)
 Z8:∃t,mg "REFUSED_FORM"=some (.int (-2) t)
 Au:∃t,mg "REFUSED_NONE"=some (.int (-3) t)
 Av:∃t,mg "REFUSED_LIMIT"=some (.int (-4) t)
 Gx:∃t,mg "REFUSED_ABSENT"=some (.int (-5) t)
 Z9:∃t,mg "REFUSED_DATA"=some (.int (-6) t)
 Nm:∃t,mg "LETTERS"=some (.str "abcdefghijklmnopqrstuvwxyz" t)
 Nn:∃t,mg "DIGITS"=some (.str "0123456789" t)
 Z_:∃t,mg "REMARK_BEGINS"=some (.int (35) t)
 Z':∃t,mg "REMARK_ENDS"=some (.int (10) t)
 Gy:∃t,mg "BYTE_OF_0"=some (.int (48) t)
 Gz:∃t,mg "BYTE_OF_A"=some (.int (97) t)
 aaa:∃t,mg "SHAPE_OF_ONE"=some (.str "vv@?" t)
 aab:∃t,mg "SHAPE_OF_TWO"=some (.str "vvv@?" t)
 fW:mg "len"=none
 uv:mg "range"=none
 Aw:mg "list"=none
 aac:mg "sum"=none
 aad:mg "all"=none
 aae:mg "abs"=none
 aaf:mg "int"=none
 Ax:mg "str"=none
 aag:mg "ord"=none
open Vaarrj (work1 work2)
theorem b_{X:Cx}{x:Str}{i:Int}{pos:Pos}(hm:∃t,X.mg x=some (.int i t))(hg:Gl X x:=by rfl)(hd:(x==("__debug__":Str))=false:=by decide):PE X (.Name x pos) (tC (.int i)):=by
 obtain⟨t,hm⟩:=hm;exact Cm (v:=.int i) hg hm ⟨t,rfl⟩ hd
theorem uw{X:Cx}{x u:Str}{pos:Pos}(hm:∃t,X.mg x=some (.str u t))(hg:Gl X x:=by rfl)(hd:(x==("__debug__":Str))=false:=by decide):PE X (.Name x pos) (tC (.str u)):=by
 obtain⟨t,hm⟩:=hm;exact Cm (v:=.str u) hg hm ⟨t,rfl⟩ hd
theorem aah{X:Cx}:eY X (ou .FloorDiv) (rI (λ_ j=>j≠0/\j.natAbs<2^64) λi j=>.int (i.fdiv j)):=Cz λi j _ _ _ _ _ hc q=>by
 refine floordiv_int hc.1 q (.inl (PyProof.noPylong_of_log2 ?_));have h0:j.natAbs≠0:=λz=>hc.1 (Int.natAbs_eq_zero.mp z);have:=(Nat.log2_lt h0).mpr hc.2;omega
def opt(r:Except Nat Int):V:=match r with
 | .ok n=>.int n
 | .error _=>.aO
def h_(o:Nat):Sp:=λvs H Q _=>∃a b:Int,vs=[.int a,.int b]/\MR.Num a/\MR.Num b/\Q (opt (work2 o a b)) H
def rX(o:Nat):Sp:=λvs H Q _=>∃a:Int,vs=[.int a]/\MR.Num a/\Q (opt (work1 o a)) H
theorem bY{p:Prop}[Decidable p]{A B:Prop}(h1:p->A)(h2: ¬p->B):if decide p=true then A else B:=by
 by_cases h:p
 ·rw[decide_eq_true h];exact dq (h1 h)
 ·rw[decide_eq_false h];exact dW (h2 h)
theorem nR{p:Prop}[Decidable p]{A B:Prop}(h1: ¬p->A)(h2:p->B):if(!decide p)=true then A else B:=by
 by_cases h:p
 ·rw[decide_eq_true h];exact dW (h2 h)
 ·rw[decide_eq_false h];exact dq (h1 h)
section
variable{P:aS}{w:aL}{K:az}{mg:Str->Option ah}{base:aC}{f:ae}{fd:bK}
theorem GG{n:Int}(h1: -1000000000000000000<=n)(h2:n<=1000000000000000000):ye n=.ok n:=by
 unfold ye B7;rw[if_pos (by rw[eQ,decide_eq_true_eq,decide_eq_true_eq];exact⟨h1,h2⟩)]
theorem ux{n:Int}(h: ¬(-1000000000000000000<=n/\n<=1000000000000000000)):ye n=.error oC:=by
 unfold ye B7;rw[if_neg (by rw[eQ,decide_eq_true_eq,decide_eq_true_eq];exact h)]
theorem aai(F:aG K "plus" "plus" ED f fd)(g:GI mg):aD P w K mg base au 1 f fd ["a","b"] (h_ 0):=by
 refine F.oK MO λaF A outer s H vs Q E hr h=> ?_;obtain⟨a,b,rfl,ha,hb,q⟩:=h;refine⟨_,ay (bH (i:=2) MO.nd rfl (aZ rfl) (cy i8 (pv 0) (pv 1))) (aw (bw (ji (vn iQ iQ (b_ g.As) (pv 2) (b_ g.qr)) (pv 2) jC))),?_⟩;refine⟨_,rfl,_,rfl,_,_,rfl,rfl,_,rfl,_,_,rfl,rfl,?_⟩;refine⟨_,rfl,bY (λl1=>⟨_,_,rfl,rfl,_,rfl,bY (λl2=>⟨_,rfl,?_⟩) λl2=> ?_⟩) λl1=>⟨_,rfl,dW ?_⟩⟩
 ·have e:work2 0 a b=.ok (a+b):=GG l1 l2;rw[e] at q;exact q
 ·have e:work2 0 a b=.error oC:=ux λz=>l2 z.2;rw[e] at q;exact q
 ·have e:work2 0 a b=.error oC:=ux λz=>l1 z.1;rw[e] at q;exact q
end
section
variable{P:aS}{w:aL}{K:az}{mg:Str->Option ah}{base:aC}{f:ae}{fd:bK}
theorem num_mul{a:Int}(h:MR.Num a): -(2^64)<a/\a<2^64:=by
 obtain⟨h1,h2⟩:=h;rw[MR.great] at h1 h2;omega
theorem aaj{a:Int}(h:MR.Num a):a.natAbs<2^64:=by
 obtain⟨h1,h2⟩:=h;rw[MR.great] at h1 h2;omega
theorem w3(a b:Int):work2 3 a b=if b=0 then .error vc else .ok (a.fdiv b):=rfl
theorem w4(a b:Int):work2 4 a b=if b=0 then .error vc else .ok (a-b*a.fdiv b):=rfl
theorem w5(a b:Int):work2 5 a b=.ok (if a<b then a else b):=rfl
theorem w6(a b:Int):work2 6 a b=.ok (if a<b then b else a):=rfl
theorem w7(a b:Int):work2 7 a b=.ok (if decide (a<b)=true then 1 else 0):=rfl
theorem w8(a b:Int):work2 8 a b=.ok (if decide (a<=b)=true then 1 else 0):=rfl
theorem w9(a b:Int):work2 9 a b=.ok (if decide (a=b)=true then 1 else 0):=rfl
theorem Np(a b:Int):work2 10 a b=.ok (if decide (a≠b)=true then 1 else 0):=rfl
theorem GH(a b:Int):work2 11 a b=if(jx a&&jx b)=true then Qi (a==1&&b==1) else .error ng:=rfl
theorem GJ(a b:Int):work2 12 a b=if(jx a&&jx b)=true then Qi (a==1||b==1) else .error ng:=rfl
theorem v1(a:Int):work1 1 a=.ok ((a.natAbs:Nat):Int):=rfl
theorem v2(a:Int):work1 2 a=.ok (if a<0 then-1 else if a=0 then 0 else 1):=rfl
theorem v3(a:Int):work1 3 a=if jx a=true then Qi (a==0) else .error ng:=rfl
theorem aak(F:aG K "minus" "minus" EE f fd)(g:GI mg):aD P w K mg base au 1 f fd ["a","b"] (h_ 1):=by
 refine F.oK MQ λaF A outer s H vs Q E hr h=> ?_;obtain⟨a,b,rfl,ha,hb,q⟩:=h;refine⟨_,ay (bH (i:=2) MQ.nd rfl (aZ rfl) (cy p9 (pv 0) (pv 1))) (aw (bw (ji (vn iQ iQ (b_ g.As) (pv 2) (b_ g.qr)) (pv 2) jC))),?_⟩;refine⟨_,rfl,_,rfl,_,_,rfl,rfl,_,rfl,_,_,rfl,rfl,?_⟩;refine⟨_,rfl,bY (λl1=>⟨_,_,rfl,rfl,_,rfl,bY (λl2=>⟨_,rfl,?_⟩) λl2=> ?_⟩) λl1=>⟨_,rfl,dW ?_⟩⟩
 ·have e:work2 1 a b=.ok (a-b):=GG l1 l2;rw[e] at q;exact q
 ·have e:work2 1 a b=.error oC:=ux λz=>l2 z.2;rw[e] at q;exact q
 ·have e:work2 1 a b=.error oC:=ux λz=>l1 z.1;rw[e] at q;exact q
theorem aal(F:aG K "times" "times" EF f fd)(g:GI mg):aD P w K mg base au 1 f fd ["a","b"] (h_ 2):=by
 refine F.oK MS λaF A outer s H vs Q E hr h=> ?_;obtain⟨a,b,rfl,ha,hb,q⟩:=h;refine⟨_,ay (bH (i:=2) MS.nd rfl (aZ rfl) (cy JP (pv 0) (pv 1))) (aw (bw (ji (vn iQ iQ (b_ g.As) (pv 2) (b_ g.qr)) (pv 2) jC))),?_⟩;refine⟨_,rfl,_,rfl,_,_,rfl,rfl,.inl (num_mul ha),_,rfl,_,_,rfl,rfl,?_⟩;refine⟨_,rfl,bY (λl1=>⟨_,_,rfl,rfl,_,rfl,bY (λl2=>⟨_,rfl,?_⟩) λl2=> ?_⟩) λl1=>⟨_,rfl,dW ?_⟩⟩
 ·have e:work2 2 a b=.ok (a*b):=GG l1 l2;rw[e] at q;exact q
 ·have e:work2 2 a b=.error oC:=ux λz=>l2 z.2;rw[e] at q;exact q
 ·have e:work2 2 a b=.error oC:=ux λz=>l1 z.1;rw[e] at q;exact q
theorem aam(F:aG K "quotient" "quotient" EG f fd):aD P w K mg base au 1 f fd ["a","b"] (h_ 3):=by
 refine F.oK Xi λaF A outer s H vs Q E hr h=> ?_;obtain⟨a,b,rfl,ha,hb,q⟩:=h;refine⟨_,ay (b7 (bW fR (pv 1) aQ (bQ _)) (aw (bw jC)) cJ) (aw (bw (cy aah (pv 0) (pv 1)))),?_⟩;refine⟨_,rfl,rfl,_,rfl,bY (λz=> ?_) λz=> ?_⟩
 ·have z:b=0:=by injection z
  have e:work2 3 a b=.error vc:=by simp only[w3,z,if_true]
  rw[e] at q;exact q
 ·have z:b≠0:=λy=>z (by rw[y])
  have e:work2 3 a b=.ok (a.fdiv b):=by simp only[w3,z,if_false]
  rw[e] at q;exact⟨_,rfl,_,rfl,_,_,rfl,rfl,⟨z,aaj hb⟩,q⟩
theorem aan(F:aG K "remainder" "remainder" EH f fd):aD P w K mg base au 1 f fd ["a","b"] (h_ 4):=by
 refine F.oK Xk λaF A outer s H vs Q E hr h=> ?_;obtain⟨a,b,rfl,ha,hb,q⟩:=h;refine⟨_,ay (b7 (bW fR (pv 1) aQ (bQ _)) (aw (bw jC)) cJ) (aw (bw (cy Q4 (pv 0) (pv 1)))),?_⟩;refine⟨_,rfl,rfl,_,rfl,bY (λz=> ?_) λz=> ?_⟩
 ·have z:b=0:=by injection z
  have e:work2 4 a b=.error vc:=by simp only[w4,z,if_true]
  rw[e] at q;exact q
 ·have z:b≠0:=λy=>z (by rw[y])
  have e:work2 4 a b=.ok (a.fmod b):=by simp only[w4,z,if_false,Jh]
  rw[e] at q;exact⟨_,rfl,_,rfl,_,_,rfl,rfl,z,q⟩
theorem aao(F:aG K "smaller" "smaller" EI f fd):aD P w K mg base au 1 f fd ["a","b"] (h_ 5):=by
 refine F.oK Xm λaF A outer s H vs Q E hr h=> ?_;obtain⟨a,b,rfl,ha,hb,q⟩:=h;refine⟨_,aw (bw (ji (bW gz (pv 0) (pv 1) (bQ _)) (pv 0) (pv 1))),?_⟩;refine⟨_,rfl,_,rfl,_,_,rfl,rfl,_,rfl,bY (λz=>⟨_,rfl,?_⟩) λz=>⟨_,rfl,?_⟩⟩
 ·have e:work2 5 a b=.ok a:=by simp only[w5,z,if_true]
  rw[e] at q;exact q
 ·have e:work2 5 a b=.ok b:=by simp only[w5,z,if_false]
  rw[e] at q;exact q
theorem Nq(F:aG K "larger" "larger" uo f fd):aD P w K mg base au 1 f fd ["a","b"] (h_ 6):=by
 refine F.oK Xo λaF A outer s H vs Q E hr h=> ?_;obtain⟨a,b,rfl,ha,hb,q⟩:=h;refine⟨_,aw (bw (ji (bW lL (pv 0) (pv 1) (bQ _)) (pv 0) (pv 1))),?_⟩;refine⟨_,rfl,_,rfl,_,_,rfl,rfl,_,rfl,bY (λz=>⟨_,rfl,?_⟩) λz=>⟨_,rfl,?_⟩⟩
 ·have z:b<a:=z;have e:work2 6 a b=.ok a:=by rw[w6,if_neg (by omega)]
  rw[e] at q;exact q
 ·have z: ¬b<a:=z;have e:work2 6 a b=.ok b:=by
   rw[w6];by_cases y:a<b
   ·simp only[y,if_true]
   ·have:a=b:=by omega
    rw[if_neg y,this]
  rw[e] at q;exact q
theorem aap(F:aG K "is_less" "is_less" EJ f fd):aD P w K mg base au 1 f fd ["a","b"] (h_ 7):=by
 refine F.oK Xq λaF A outer s H vs Q E hr h=> ?_;obtain⟨a,b,rfl,ha,hb,q⟩:=h;refine⟨_,aw (bw (ji (bW gz (pv 0) (pv 1) (bQ _)) aQ aQ)),?_⟩;refine⟨_,rfl,_,rfl,_,_,rfl,rfl,_,rfl,bY (λz=> ?_) λz=> ?_⟩
 ·have e:work2 7 a b=.ok 1:=by rw[w7,decide_eq_true (show a<b from z)];rfl
  rw[e] at q;exact q
 ·have e:work2 7 a b=.ok 0:=by rw[w7,decide_eq_false (show¬a<b from z)];rfl
  rw[e] at q;exact q
theorem aaq(F:aG K "is_at_most" "is_at_most" EL f fd):aD P w K mg base au 1 f fd ["a","b"] (h_ 8):=by
 refine F.oK Xs λaF A outer s H vs Q E hr h=> ?_;obtain⟨a,b,rfl,ha,hb,q⟩:=h;refine⟨_,aw (bw (ji (bW iQ (pv 0) (pv 1) (bQ _)) aQ aQ)),?_⟩;refine⟨_,rfl,_,rfl,_,_,rfl,rfl,_,rfl,bY (λz=> ?_) λz=> ?_⟩
 ·have e:work2 8 a b=.ok 1:=by rw[w8,decide_eq_true (show a<=b from z)];rfl
  rw[e] at q;exact q
 ·have e:work2 8 a b=.ok 0:=by rw[w8,decide_eq_false (show¬a<=b from z)];rfl
  rw[e] at q;exact q
theorem aar(F:aG K "is_equal" "is_equal" EM f fd):aD P w K mg base au 1 f fd ["a","b"] (h_ 9):=by
 refine F.oK Xu λaF A outer s H vs Q E hr h=> ?_;obtain⟨a,b,rfl,ha,hb,q⟩:=h;refine⟨_,aw (bw (ji (bW fR (pv 0) (pv 1) (bQ _)) aQ aQ)),?_⟩;refine⟨_,rfl,_,rfl,rfl,_,rfl,bY (λz=> ?_) λz=> ?_⟩
 ·have z:a=b:=by injection z
  have e:work2 9 a b=.ok 1:=by rw[w9,decide_eq_true z];rfl
  rw[e] at q;exact q
 ·have z: ¬a=b:=λy=>z (by rw[y])
  have e:work2 9 a b=.ok 0:=by rw[w9,decide_eq_false z];rfl
  rw[e] at q;exact q
theorem aas(F:aG K "is_unequal" "is_unequal" EN f fd):aD P w K mg base au 1 f fd ["a","b"] (h_ 10):=by
 refine F.oK Xw λaF A outer s H vs Q E hr h=> ?_;obtain⟨a,b,rfl,ha,hb,q⟩:=h;refine⟨_,aw (bw (ji (bW jj (pv 0) (pv 1) (bQ _)) aQ aQ)),?_⟩;refine⟨_,rfl,_,rfl,rfl,_,rfl,nR (λz=> ?_) λz=> ?_⟩
 ·have z:a≠b:=λy=>z (by rw[y])
  have e:work2 10 a b=.ok 1:=by rw[Np,decide_eq_true z];rfl
  rw[e] at q;exact q
 ·have z:a=b:=by injection z
  have e:work2 10 a b=.ok 0:=by rw[Np,decide_eq_false (λy=>y z)];rfl
  rw[e] at q;exact q
def Ay:Sp:=λvs H Q _=>∃a:Int,vs=[.int a]/\Q (.bl (jx a)) H
theorem GK(F:aG K "is_truth" "is_truth" rV f fd):aD P w K mg base au 1 f fd ["number"] Ay:=by
 refine F.oK Xy λaF A outer s H vs Q E hr h=> ?_;obtain⟨a,rfl,q⟩:=h;refine⟨_,aw (bw (QM (oM fR (pv 0) aQ (bQ _)) (Cn (oM fR (pv 0) aQ (bQ _))))),?_⟩;refine⟨_,rfl,rfl,_,rfl,bY (λz=> ?_) λz=>⟨_,rfl,rfl,?_⟩⟩
 ·have z:a=0:=by injection z
  have e:jx a=true:=by rw[z];rfl
  rw[e] at q;exact q
 ·have z: ¬a=0:=λy=>z (by rw[y])
  have e:jx a=decide (V.int a=V.int 1):=by
   unfold jx;rw[CD,beq_eq_false_iff_ne.mpr z,Bool.false_or]
  rw[e] at q;exact q
theorem wN{a:Int}(h:jx a=true):a=0\/a=1:=by
 unfold jx at h;rw[pK,beq_iff_eq,beq_iff_eq] at h;exact h
theorem aat(F:aG K "both_true" "both_true" EO f fd){ft:ae}{o9:bK}(FT:aG K "is_truth" "is_truth" rV ft o9)(mT:mg "is_truth"=some (.ref ft)):aD P w K mg base au 2 f fd ["a","b"] (h_ 11):=by
 have GT:aD P w K mg base au 1 ft o9 ["number"] Ay:=GK FT;have bT:=FT.b1 "number";refine F.oK XA λaF A outer s H vs Q E hr h=> ?_;obtain⟨a,b,rfl,ha,hb,q⟩:=h;refine⟨_,ay (b7 (kM (lF (gZ (rj GT hr (by rfl) mT FT.kp bT .nil a_ (ai (pv 0) aj)))) (nE (lF (gZ (rj GT hr (by rfl) mT FT.kp bT .nil a_ (ai (pv 1) aj)))))).pt (aw (bw jC)) cJ) (aw (bw (cy JP (pv 0) (pv 1)))),?_⟩
 refine⟨_,rfl,a,rfl,_,rfl,?_⟩;cases t1:jx a with
 |false=>
  refine dq (dq ?_);have e:work2 11 a b=.error ng:=by rw[GH,if_neg (by rw[t1];simp)]
  rw[e] at q;exact q
 |true=>
  refine dW ⟨_,rfl,b,rfl,_,rfl,?_⟩;cases t2:jx b with
  |false=>
   refine dq ?_;have e:work2 11 a b=.error ng:=by rw[GH,if_neg (by rw[t2];simp)]
   rw[e] at q;exact q
  |true=>
   refine dW ⟨_,rfl,_,rfl,_,_,rfl,rfl,.inl (num_mul ha),?_⟩;have e:work2 11 a b=.ok (a*b):=by
    rw[GH];rw[if_pos (by rw[t1,t2];rfl)]
    rcases wN t1 with rfl|rfl<;>rcases wN t2 with rfl|rfl<;>rfl
   rw[e] at q;exact q
theorem aau(F:aG K "either_true" "either_true" ER f fd){ft:ae}{o9:bK}(FT:aG K "is_truth" "is_truth" rV ft o9)(mT:mg "is_truth"=some (.ref ft)){fl:ae}{GO:bK}(FL:aG K "larger" "larger" uo fl GO)(mL:mg "larger"=some (.ref fl)):aD P w K mg base au 2 f fd ["a","b"] (h_ 12):=by
 have GT:aD P w K mg base au 1 ft o9 ["number"] Ay:=GK FT;have bT:=FT.b1 "number";have GL:aD P w K mg base au 1 fl GO ["a","b"] (h_ 6):=Nq FL;have bL:=FL.b2 "a" "b";refine F.oK XC λaF A outer s H vs Q E hr h=> ?_;obtain⟨a,b,rfl,ha,hb,q⟩:=h;refine⟨_,ay (b7 (kM (lF (gZ (rj GT hr (by rfl) mT FT.kp bT .nil a_ (ai (pv 0) aj)))) (nE (lF (gZ (rj GT hr (by rfl) mT FT.kp bT .nil a_ (ai (pv 1) aj)))))).pt (aw (bw jC)) cJ) (aw (bw (rj GL (hr.mono (by decide)) (by rfl) mL FL.kp bL .nil a_ (ai (pv 0) (ai (pv 1) aj))))),?_⟩
 refine⟨_,rfl,a,rfl,_,rfl,?_⟩;cases t1:jx a with
 |false=>
  refine dq (dq ?_);have e:work2 12 a b=.error ng:=by rw[GJ,if_neg (by rw[t1];simp)]
  rw[e] at q;exact q
 |true=>
  refine dW ⟨_,rfl,b,rfl,_,rfl,?_⟩;cases t2:jx b with
  |false=>
   refine dq ?_;have e:work2 12 a b=.error ng:=by rw[GJ,if_neg (by rw[t2];simp)]
   rw[e] at q;exact q
  |true=>
   refine dW ⟨_,rfl,_,rfl,a,b,rfl,ha,hb,?_⟩;have e:work2 12 a b=work2 6 a b:=by
    rw[GJ];rw[if_pos (by rw[t1,t2];rfl)]
    rcases wN t1 with rfl|rfl<;>rcases wN t2 with rfl|rfl<;>rfl
   rw[e] at q;exact q
theorem aav(F:aG K "negative" "negative" ES f fd):aD P w K mg base au 1 f fd ["a"] (rX 0):=by
 refine F.oK XE λaF A outer s H vs Q E hr h=> ?_;obtain⟨a,rfl,ha,q⟩:=h;exact⟨_,aw (bw (Cy CB (pv 0))),_,rfl,_,rfl,q⟩
theorem aaw(F:aG K "magnitude" "magnitude" ET f fd)(g:GI mg):aD P w K mg base au 1 f fd ["a"] (rX 1):=by
 refine F.oK XG λaF A outer s H vs Q E hr h=> ?_;obtain⟨a,rfl,ha,q⟩:=h;refine⟨_,aw (bw (eS Q9 rfl g.aae (by decide+kernel) (ai (pv 0) aj))),_,rfl,_,rfl,?_⟩
 have e:work1 1 a=.ok (if a<0 then-a else a):=by
  rw[v1,show((a.natAbs:Nat):Int)=if a<0 then-a else a from by split<;>omega]
 rw[e] at q;exact q
theorem aax(F:aG K "sign_of" "sign_of" EU f fd):aD P w K mg base au 1 f fd ["a"] (rX 2):=by
 refine F.oK XI λaF A outer s H vs Q E hr h=> ?_;obtain⟨a,rfl,ha,q⟩:=h;refine⟨_,ay (b7 (bW fR (pv 0) aQ (bQ _)) (aw (bw aQ)) cJ) (aw (bw (ji (bW lL (pv 0) aQ (bQ _)) aQ (Cy CB aQ)))),?_⟩;refine⟨_,rfl,rfl,_,rfl,bY (λz=> ?_) λz=>⟨_,rfl,_,_,rfl,rfl,_,rfl,bY (λy=> ?_) λy=>⟨_,rfl,?_⟩⟩⟩
 ·have z:a=0:=by injection z
  have e:work1 2 a=.ok 0:=by rw[v2,z];rfl
  rw[e] at q;exact q
 ·have y:0<a:=y;have e:work1 2 a=.ok 1:=by rw[v2,if_neg (by omega),if_neg (by omega)]
  rw[e] at q;exact q
 ·have z: ¬a=0:=λy=>z (by rw[y])
  have y: ¬0<a:=y;have e:work1 2 a=.ok (-1):=by rw[v2,if_pos (by omega)]
  rw[e] at q;exact q
theorem aay(F:aG K "opposite" "opposite" EV f fd){ft:ae}{o9:bK}(FT:aG K "is_truth" "is_truth" rV ft o9)(mT:mg "is_truth"=some (.ref ft)):aD P w K mg base au 2 f fd ["a"] (rX 3):=by
 have GT:aD P w K mg base au 1 ft o9 ["number"] Ay:=GK FT;have bT:=FT.b1 "number";refine F.oK XM λaF A outer s H vs Q E hr h=> ?_;obtain⟨a,rfl,ha,q⟩:=h;refine⟨_,ay (b7 (lF (gZ (rj GT hr (by rfl) mT FT.kp bT .nil a_ (ai (pv 0) aj)))) (aw (bw jC)) cJ) (aw (bw (cy p9 aQ (pv 0)))),?_⟩
 refine⟨_,rfl,a,rfl,_,rfl,?_⟩;cases t1:jx a with
 |false=>
  refine dq ?_;have e:work1 3 a=.error ng:=by rw[v3,if_neg (by rw[t1];simp)]
  rw[e] at q;exact q
 |true=>
  refine dW ⟨_,rfl,_,_,rfl,rfl,?_⟩;have e:work1 3 a=.ok (1-a):=by
   rw[v3,if_pos t1];rcases wN t1 with rfl|rfl<;>rfl
  rw[e] at q;exact q
def kindOf(t:Vaarrj.Text):Nat:=if t=aE "add"\/t=aE "sub"\/t=aE "mul" then oC else if t=aE "quo"\/t=aE "rem" then vc else ng
theorem aaz{o:Nat}{a:Int}{k:Nat}(ho:o<4)(h:work1 o a=.error k):kindOf (fO s_ o)=k:=by
 have hk:k=ng:=by
  unfold work1 at h
  split at h
  ·cases h
  ·cases h
  ·cases h
  ·split at h
   ·cases h
   ·cases h;rfl
 subst hk
 match o,ho with
 |0,_=>decide+kernel
 |1,_=>decide+kernel
 |2,_=>decide+kernel
 |3,_=>decide+kernel
theorem Nr{o:Nat}{a b:Int}{k:Nat}(ho:o<13)(h:work2 o a b=.error k):kindOf (fO eX o)=k:=by
 have sm:∀n:Int,ye n=.error k->k=oC:=λn z=>by
  unfold ye at z
  split at z
  ·cases z
  ·cases z;rfl
 have e:∀j:Nat,j<13->kindOf (fO eX j)=(if j<3 then oC else if j<5 then vc else ng):=by decide+kernel
 rw[e o ho]
 match o,ho with
 |0,_=>exact(sm _ h).symm
 |1,_=>exact(sm _ h).symm
 |2,_=>exact(sm _ h).symm
 |3,_=>unfold work2 at h;simp only at h;split at h<;>cases h;rfl
 |4,_=>unfold work2 at h;simp only at h;split at h<;>cases h;rfl
 |5,_=>cases h
 |6,_=>cases h
 |7,_=>cases h
 |8,_=>cases h
 |9,_=>cases h
 |10,_=>cases h
 |11,_=>unfold work2 at h;simp only at h;split at h<;>cases h;rfl
 |12,_=>unfold work2 at h;simp only at h;split at h<;>cases h;rfl
end
open MR
open Vaarrj (Machine Fault vecOf laneOf scalarOf maskOf onIn arrayOf setVec setScalar setMask)
inductive Slot where
 |run|ss|fa|tb (i:Nat)|v (k:Nat)|m (k:Nat)|a (k:Nat)
structure Rn where
 run:ae
 iF:ae
 reg:ae
 uy:ae
 vs:ae
 ss:ae
 ms:ae
 ar:ae
 fa:ae
 va:List ae
 ma:List ae
 aa:List ae
 tb:List ae
structure Cl where
 run:ae
 reg:ae
 ins:ae
 stop:ae
 rY:List (Pos×Str)
 cf:List ae
def Rn.at(L:Rn):Slot->Option ae
 | .run=>some L.run
 | .ss=>some L.ss
 | .fa=>some L.fa
 | .tb i=>L.tb[i]?
 | .v k=>L.va[k]?
 | .m k=>L.ma[k]?
 | .a k=>L.aa[k]?
def Rn.mut(L:Rn)(b:ae):Prop:=∃s,L.at s=some b
def Kp(L:Rn)(H H':Hp):Prop:=∀b o,H b=some o-> ¬L.mut b->H' b=some o
theorem Kp.refl{L:Rn}{H:Hp}:Kp L H H:=λ_ _ h _=>h
theorem Kp.trans{L:Rn}{H H1 H2:Hp}(h:Kp L H H1)(k:Kp L H1 H2):Kp L H H2:=λb o e n=>k b o (h b o e n) n
theorem Kp.wr{L:Rn}{H:Hp}{a:ae}{o:HO}(h:L.mut a):Kp L H (upd H a o):=λb u e n=>by rw[ak λz=>n (by rw[z];exact h)];exact e
theorem Kp.new{L:Rn}{H:Hp}{a:ae}{o:HO}(h:H a=none):Kp L H (upd H a o):=λb u e n=>by rw[ak λz=>by rw[z,h] at e;cases e];exact e
def bit(b:Bool):V:=.int (if b=true then 1 else 0)
def nats(l:List Nat):List V:=l.map λ(k:Nat)=>V.int (k:Int)
def rZ(L:Rn)(H:Hp)(v:V):Option Fault->Prop
 |none=>v=.aO
 |some e=>∃t,v=.ref t/\ ¬L.mut t/\H t=some (.tup [.int (e.1:Nat),.int (e.2:Nat)])
def gS(L:Rn)(n:Nat)(un:ae):List (Str×V):=[("registers",.ref L.reg),("arrays",.ref L.ar),("left",.int (n:Nat)),("faults",.ref L.fa),("unfailed",.ref un)]
def aaA(L:Rn)(w:Nat):List (Str×V):=[("width",.int (w:Nat)),("vectors",.ref L.vs),("scalars",.ref L.ss),("masks",.ref L.ms)]
def Is(R:Cl)(L:Rn)(x:bj)(n:Nat)(H:Hp):Slot->HO->Prop
 | .run,o=>∃un,¬L.mut un/\o=.ins R.run L.iF (gS L n un)/\H un=some (.lst (nats (dk x)))
 | .ss,o=>o=.lst (x.ss.map V.int)
 | .fa,o=>∃fs,o=.lst fs/\Paired (rZ L H) fs x.faults
 | .tb i,o=>∃q,R.rY[i]? =some q/\ (o=.dM #[]\/∃c,¬L.mut c/\o=.dM (o8 q.1 c)/\H c=some (iE c q.2))
 | .v k,o=>o=.lst ((c8 x k).map V.int)
 | .m k,o=>o=.lst ((maskOf x k).map bit)
 | .a k,o=>o=.lst ((dJ x k).map V.int)
structure bJ(R:Cl)(H0:Hp)(L:Rn)(x:bj)(n:Nat)(H:Hp):Prop where
 wf:WF x
 nums:Nums x
 inj:∀s t b,L.at s=some b->L.at t=some b->s=t
 va:L.va.length=16
 ma:L.ma.length=8
 aa:L.aa.length=x.arrays.length
 tb:L.tb=R.cf
 all:∀s b,L.at s=some b->∃o,H b=some o/\Is R L x n H s o
 reg: ¬L.mut L.reg/\H L.reg=some (.ins R.reg L.uy (aaA L x.width))
 vs: ¬L.mut L.vs/\H L.vs=some (.lst (L.va.map V.ref))
 ms: ¬L.mut L.ms/\H L.ms=some (.lst (L.ma.map V.ref))
 ar: ¬L.mut L.ar/\H L.ar=some (.lst (L.aa.map V.ref))
 old:∀b o,H0 b=some o->H b=some o
 new:∀b,L.mut b->H0 b=none
section
variable{R:Cl}{H0 H H':Hp}{L:Rn}{x x':bj}{n n':Nat}
theorem rZ.kp{v:V}{e:Option Fault}(h:rZ L H v e)(k:Kp L H H'):rZ L H' v e:=by
 cases e with
 |none=>exact h
 |some e=>obtain⟨t,e1,e2,e3⟩:=h;exact⟨t,e1,e2,k _ _ e3 e2⟩
theorem GQ{α β:Type}{p q:α->β->Prop}(h:∀a b,p a b->q a b):∀{l:List α} {r:List β},Paired p l r->Paired q l r
 |_,_,.nil=>.nil
 |_,_,.cons a t=>.cons (h _ _ a) (GQ h t)
theorem Is.kp{s:Slot}{o:HO}(h:Is R L x n H s o)(k:Kp L H H'):Is R L x n H' s o:=by
 cases s with
 |run=>obtain⟨un,e1,e2,e3⟩:=h;exact⟨un,e1,e2,k _ _ e3 e1⟩
 |ss=>exact h
 |fa=>obtain⟨fs,e1,e2⟩:=h;exact⟨fs,e1,GQ (λ_ _ z=>z.kp k) e2⟩
 |tb i=>
  obtain⟨q,e1,e2⟩:=h;refine⟨q,e1,e2.imp id λz=> ?_⟩;obtain⟨c,h1,h2,h3⟩:=z;exact⟨c,h1,h2,k _ _ h3 h1⟩
 |v j=>exact h
 |m j=>exact h
 |a j=>exact h
theorem bJ.step(r:bJ R H0 L x n H)(k:Kp L H H')(wf:WF x')(nums:Nums x')(hw:x'.width=x.width)(ha:x'.arrays.length=x.arrays.length)
 (all:∀s b,L.at s=some b->∃o,H' b=some o/\Is R L x' n' H' s o):bJ R H0 L x' n' H':=
 ⟨wf,nums,r.inj,r.va,r.ma,by rw[ha];exact r.aa,r.tb,all,⟨r.reg.1,by rw[hw];exact k _ _ r.reg.2 r.reg.1⟩,⟨r.vs.1,k _ _ r.vs.2 r.vs.1⟩,⟨r.ms.1,k _ _ r.ms.2 r.ms.1⟩,⟨r.ar.1,k _ _ r.ar.2 r.ar.1⟩,
   λb o e=>k _ _ (r.old b o e) (λz=>by rw[r.new b z] at e;cases e),r.new⟩
theorem bJ.more(r:bJ R H0 L x n H)(k:∀b o,H b=some o->H' b=some o):bJ R H0 L x n H':=
 r.step (λb o e _=>k b o e) r.wf r.nums rfl rfl λs b e=>let ⟨o,h1,h2⟩:=r.all s b e;⟨o,k _ _ h1,h2.kp λb o e _=>k b o e⟩
theorem bJ.write(r:bJ R H0 L x n H){s:Slot}{b:ae}{o:HO}(hs:L.at s=some b)(wf:WF x')(nums:Nums x')(hw:x'.width=x.width)(ha:x'.arrays.length=x.arrays.length)
 (ho:Is R L x' n' H s o) (same:∀t u,t≠s->Is R L x n H t u->Is R L x' n' H t u):bJ R H0 L x' n' (upd H b o)/\Kp L H (upd H b o):=by
 have k:Kp L H (upd H b o):=Kp.wr ⟨s,hs⟩;refine⟨r.step k wf nums hw ha λt c e=> ?_,k⟩;by_cases z:c=b
 ·subst z;obtain rfl:=r.inj t s c e hs;exact⟨o,aB,ho.kp k⟩
 ·obtain⟨u,h1,h2⟩:=r.all t c e;exact⟨u,by rw[ak z];exact h1,(same t u (λy=>z (by rw[y,hs] at e;exact(f9 e).symm)) h2).kp k⟩
theorem bJ.tracked(r:bJ R H0 L x n H){b:ae}(h:H b=none): ¬L.mut b:=λ⟨s,e⟩=>by
 obtain⟨o,h1,_⟩:=r.all s b e;rw[h] at h1;cases h1
theorem GU{α:Type}{l:List α}{i j:Nat}{a d:α}(h:j≠i):((l.set i a)[j]?).getD d=(l[j]?).getD d:=by
 rw[uT (Ne.symm h)]
theorem Az{α:Type}{l:List α}{i:Nat}{a d:α}(h:i<l.length):((l.set i a)[i]?).getD d=a:=by
 rw[uS h];rfl
theorem bJ.setVec(r:bJ R H0 L x n H){d:Nat}{b:ae}{v:List Int}(hd:L.va[d]? =some b)(hl:v.length=x.width)(hv:∀k∈v,Num k):
 bJ R H0 L (setVec x d v) n (upd H b (.lst (v.map V.int)))/\Kp L H (upd H b (.lst (v.map V.int))):=by
 have h16:d<x.vs.length:=by rw[r.wf.vs,<-r.va];exact(dy.mp hd).1
 refine r.write (s:=.v d) hd (r.wf.setVec hl d) (r.nums.setVec hv d) rfl rfl ?_ λt u ht h=> ?_
 ·show HO.lst _=HO.lst ((c8 (B8 x d v) d).map V.int);rw[show c8 (B8 x d v) d=v from Az h16]
 ·cases t with
  |v k=>
   show u=HO.lst ((c8 (B8 x d v) k).map V.int);rw[show c8 (B8 x d v) k=c8 x k from GU λz=>ht (by rw[z])]
   exact h
  |run=>exact h
  |ss=>exact h
  |fa=>exact h
  |tb i=>exact h
  |m k=>exact h
  |a k=>exact h
theorem bJ.setMask(r:bJ R H0 L x n H){d:Nat}{b:ae}{v:List Bool}(hd:L.ma[d]? =some b)(hl:v.length=x.width):
 bJ R H0 L (setMask x d v) n (upd H b (.lst (v.map bit)))/\Kp L H (upd H b (.lst (v.map bit))):=by
 have h8:d<x.ms.length:=by rw[r.wf.ms,<-r.ma];exact(dy.mp hd).1
 refine r.write (s:=.m d) hd (r.wf.setMask hl d) ⟨r.nums.vs,r.nums.ss,r.nums.ar⟩ rfl rfl ?_ λt u ht h=> ?_
 ·show HO.lst _=HO.lst ((maskOf (Jo x d v) d).map bit);rw[show maskOf (Jo x d v) d=v from Az h8]
 ·cases t with
  |m k=>
   show u=HO.lst ((maskOf (Jo x d v) k).map bit);rw[show maskOf (Jo x d v) k=maskOf x k from GU λz=>ht (by rw[z])]
   exact h
  |run=>exact h
  |ss=>exact h
  |fa=>exact h
  |tb i=>exact h
  |v k=>exact h
  |a k=>exact h
theorem bJ.setScalar(r:bJ R H0 L x n H)(d:Nat){k:Int}(hk:Num k):
 bJ R H0 L (setScalar x d k) n (upd H L.ss (.lst ((x.ss.set d k).map V.int)))/\Kp L H (upd H L.ss (.lst ((x.ss.set d k).map V.int))):=by
 refine r.write (s:=.ss) rfl (r.wf.setScalar d k) (r.nums.setScalar hk d) rfl rfl rfl λt u ht h=> ?_;cases t with
 |ss=>exact absurd rfl ht
 |run=>exact h
 |fa=>exact h
 |tb i=>exact h
 |v k=>exact h
 |m k=>exact h
 |a k=>exact h
theorem bJ.zd(r:bJ R H0 L x n H){d:Nat}{b:ae}{v:List Int}(hd:L.aa[d]? =some b)(hv:∀k∈v,Num k):
 bJ R H0 L {x with arrays:=x.arrays.set d v} n (upd H b (.lst (v.map V.int)))/\Kp L H (upd H b (.lst (v.map V.int))):=by
 have h8:d<x.arrays.length:=by rw[<-r.aa];exact(dy.mp hd).1
 refine r.write (s:=.a d) hd (r.wf.arrays _) (r.nums.zd hv d) rfl (gV) ?_ λt u ht h=> ?_
 ·show HO.lst _=HO.lst ((dJ {x with arrays:=x.arrays.set d v} d).map V.int)
  rw[show dJ {x with arrays:=x.arrays.set d v} d=v from Az h8]
 ·cases t with
  |a k=>
   show u=HO.lst ((dJ {x with arrays:=x.arrays.set d v} k).map V.int)
   rw[show dJ {x with arrays:=x.arrays.set d v} k=dJ x k from GU λz=>ht (by rw[z])]
   exact h
  |run=>exact h
  |ss=>exact h
  |fa=>exact h
  |tb i=>exact h
  |v k=>exact h
  |m k=>exact h
theorem bJ.aaB(r:bJ R H0 L x n H)(n':Nat){un:ae}(hu: ¬L.mut un)(hn:H un=some (.lst (nats (dk x)))):
 bJ R H0 L x n' (upd H L.run (.ins R.run L.iF (gS L n' un)))/\Kp L H (upd H L.run (.ins R.run L.iF (gS L n' un))):=by
 refine r.write (s:=.run) rfl r.wf r.nums rfl rfl ⟨un,hu,rfl,hn⟩ λt u ht h=> ?_;cases t with
 |run=>exact absurd rfl ht
 |ss=>exact h
 |fa=>exact h
 |tb i=>exact h
 |v k=>exact h
 |m k=>exact h
 |a k=>exact h
theorem bJ.ju(r:bJ R H0 L x n H):∃un,¬L.mut un/\H L.run=some (.ins R.run L.iF (gS L n un))/\H un=some (.lst (nats (dk x))):=by
 obtain⟨o,h1,un,h2,rfl,h3⟩:=r.all .run _ rfl;exact⟨un,h2,h1,h3⟩
theorem bJ.GV(r:bJ R H0 L x n H):H L.ss=some (.lst (x.ss.map V.int)):=by
 obtain⟨o,h1,rfl⟩:=r.all .ss _ rfl;exact h1
theorem bJ.Nt(r:bJ R H0 L x n H):∃fs,H L.fa=some (.lst fs)/\Paired (rZ L H) fs x.faults:=by
 obtain⟨o,h1,fs,rfl,h2⟩:=r.all .fa _ rfl;exact⟨fs,h1,h2⟩
theorem bJ.eG(r:bJ R H0 L x n H){k:Nat}(h:k<16):∃b,L.va[k]? =some b/\H b=some (.lst ((c8 x k).map V.int)):=by
 obtain⟨b,e⟩:∃b,L.va[k]? =some b:=⟨_,eI (by rw[r.va];exact h)⟩
 obtain⟨o,h1,rfl⟩:=r.all (.v k) _ e;exact⟨_,e,h1⟩
theorem bJ.kX(r:bJ R H0 L x n H){k:Nat}(h:k<8):∃b,L.ma[k]? =some b/\H b=some (.lst ((maskOf x k).map bit)):=by
 obtain⟨b,e⟩:∃b,L.ma[k]? =some b:=⟨_,eI (by rw[r.ma];exact h)⟩
 obtain⟨o,h1,rfl⟩:=r.all (.m k) _ e;exact⟨_,e,h1⟩
theorem bJ.AA(r:bJ R H0 L x n H){k:Nat}(h:k<x.arrays.length):∃b,L.aa[k]? =some b/\H b=some (.lst ((dJ x k).map V.int)):=by
 obtain⟨b,e⟩:∃b,L.aa[k]? =some b:=⟨_,eI (by rw[r.aa];exact h)⟩
 obtain⟨o,h1,rfl⟩:=r.all (.a k) _ e;exact⟨_,e,h1⟩
def jc(R:Cl)(H:Hp):Prop:=∀(i:Nat) (b:ae),R.cf[i]? =some b->∃q:Pos×Str,R.rY[i]? =some q/\ (H b=some (.dM #[])\/∃c,H b=some (.dM (o8 q.1 c))/\H c=some (iE c q.2))
theorem jc.mono(h:jc R H)(k:∀b o,H b=some o->H' b=some o):jc R H':=λi b e=>by
 obtain⟨q,e1,e2⟩:=h i b e;refine⟨q,e1,e2.imp (k _ _) λz=> ?_⟩;obtain⟨c,h1,h2⟩:=z;exact⟨c,k _ _ h1,k _ _ h2⟩
theorem bJ.wO(r:bJ R H0 L x n H):jc R H:=λi b e=>by
 obtain⟨o,h1,q,h2,h3⟩:=r.all (.tb i) b (by rw[<-r.tb] at e;exact e)
 refine⟨q,h2,?_⟩;rcases h3 with rfl|⟨c,_,rfl,hc⟩
 ·exact .inl h1
 ·exact .inr ⟨c,h1,hc⟩
end
structure EK(K:az)(R:Cl):Prop where
 eU:iz K R.run
 mn:dC K R.run "registers"
 AB:dC K R.run "arrays"
 wQ:dC K R.run "left"
 GX:dC K R.run "faults"
 wR:dC K R.run "unfailed"
 iG:iz K R.reg
 r0:dC K R.reg "width"
 GY:dC K R.reg "vectors"
 AD:dC K R.reg "scalars"
 AE:dC K R.reg "masks"
 bX:iz K R.ins
 mq:dC K R.ins "action"
 nU:dC K R.ins "operator"
 jP:dC K R.ins "operands"
 o_:dC K R.ins "parts"
 r6:dC K R.ins "place"
 wU:dC K R.ins "mask"
 uz:dC K R.ins "body"
 wV:dC K R.ins "otherwise"
structure Tl where
 ac:Str
 op:Str
 os:List Int
 m:Option Nat
 p:Nat
 b:ae
 c:ae
 pa:List Str
def mV:Option Nat->V
 |none=>.aO
 |some k=>.int (k:Nat)
structure wW(R:Cl)(H:Hp)(t:ae)(T:Tl)(dx:ae)(fs:List (Str×V))(ol:ae):Prop where
 ob:H t=some (.ins R.ins dx fs)
 ac:fs.lookup ("action":Str)=some (.str T.ac)
 op:fs.lookup ("operator":Str)=some (.str T.op)
 os:fs.lookup ("operands":Str)=some (.ref ol)
 ls:H ol=some (.lst (T.os.map V.int))
 m:fs.lookup ("mask":Str)=some (mV T.m)
 p:fs.lookup ("place":Str)=some (.int (T.p:Nat))
 b:fs.lookup ("body":Str)=some (.ref T.b)
 c:fs.lookup ("otherwise":Str)=some (.ref T.c)
 pt:∃pl,fs.lookup ("parts":Str)=some (.ref pl)/\H pl=some (.lst (T.pa.map V.str))
theorem wW.mono{R:Cl}{H H':Hp}{t:ae}{T:Tl}{dx:ae}{fs:List (Str×V)}{ol:ae}(h:wW R H t T dx fs ol)(k:∀b o,H b=some o->H' b=some o):wW R H' t T dx fs ol:=
 ⟨k _ _ h.ob,h.ac,h.op,h.os,k _ _ h.ls,h.m,h.p,h.b,h.c,let ⟨pl,e1,e2⟩:=h.pt;⟨pl,e1,k _ _ e2⟩⟩
def Told(R:Cl)(H:Hp)(t:ae)(T:Tl):Prop:=∃dx fs ol,wW R H t T dx fs ol
theorem Told.mono{R:Cl}{H H':Hp}{t:ae}{T:Tl}(h:Told R H t T)(k:∀b o,H b=some o->H' b=some o):Told R H' t T:=
 let ⟨dx,fs,ol,h⟩:=h;⟨dx,fs,ol,h.mono k⟩
theorem cX{α:Type}{xs:List α}{k:Nat}{v:α}(h:xs[k]? =some v):kb xs (k:Int)=some v:=by
 have hl:=(dy.mp h).1;unfold kb ka;rw[if_pos (by omega),if_pos (by omega)]
 show xs[((k:Int)).toNat]? =_;rw[gW];exact h
theorem jQ{n k:Nat}(h:k<n):ka n (k:Int)=some k:=by
 unfold ka;rw[if_pos (by omega),if_pos (by omega),gW]
theorem ia{α β:Type}{f:α->β}{l:List α}{k:Nat}{a:α}(h:l[k]? =some a):(l.map f)[k]? =some (f a):=by rw[dH,h];rfl
def ku(R:Cl)(L:Rn)(E:XK)(H:Hp)(k p:Nat):Prop:=∀H' d,Kp L H H'->jc R H'->H' d=some (fJ d [("kind",.int (k:Nat)),("place",.int (p:Nat))])->E (.ref R.stop) (some d) H'
theorem ku.kp{R:Cl}{L:Rn}{E:XK}{H H':Hp}{k p:Nat}(h:ku R L E H k p)(q:Kp L H H'):ku R L E H' k p:=λH2 d q2 t e=>h H2 d (q.trans q2) t e
section
variable{P:aS}{w:aL}{K:az}{mg:Str->Option ah}{base:aC}{f:ae}{fd:bK}{R:Cl}
def r8(C:ae):Sp:=λvs H Q _=>∃x k p,vs=[.ref x,.int k,.int p]/\H x=some (km C x)/\ ∀d,H d=none->d≠x->Q .aO (upd (upd (upd H d (fJ d [("kind",.int k)])) x (gD C x d)) d (fJ d [("kind",.int k),("place",.int p)]))
structure GZ(K:az)(C N:ae)(fi:ae)(e_:bK):Prop where
 cls:jb K C N fi
 kind:mh K N "kind"
 place:mh K N "place"
 fn:aG K "__init__" "Stop.__init__" EW fi e_
theorem AF{C N:ae}(S:GZ K C N f fd):aD P w K mg base au 1 f fd ["self","kind","place"] (r8 C):=by
 refine S.fn.oK XS λaF A outer s H vs Q E hr h=> ?_;obtain⟨x,k,p,rfl,hx,q⟩:=h;refine⟨_,ay (Mp S.cls S.kind (pv 0) (pv 1) rfl) (aw (Ws S.cls S.place (pv 0) (pv 2) rfl)),?_⟩;refine⟨_,rfl,_,rfl,x,rfl,hx,λd hd hn=> ?_⟩;refine⟨_,rfl,_,rfl,x,d,_,rfl,aB,by rw[ak hn,aB],(by show 1<1000;decide),?_⟩
 exact q d hd hn
end
section
variable{P:aS}{w:aL}{K:az}{mg:Str->Option ah}{base:aC}{f:ae}{fd:bK}{R:Cl}
theorem stop_left{L:Rn}{E:XK}{H:Hp}{k p:Nat}{x:ae}(h:ku R L E H k p)(hT:jc R H)(hx:H x=none):
 r8 R.stop [.ref x,.int (k:Nat),.int (p:Nat)] (upd H x (km R.stop x)) (λv H2=>v=.aO/\ ∃x' d,V.ref x=.ref x'/\H2 x'=some (gD R.stop x' d)/\E (.ref R.stop) (some d) (del H2 x')) E0:=by
 refine⟨x,_,_,rfl,aB,λd hd hn=> ?_⟩;have k:∀b o,H b=some o->del (upd (upd (upd (upd H x (km R.stop x)) d (fJ d [("kind",.int (k:Nat))])) x (gD R.stop x d)) d (fJ d [("kind",.int (k:Nat)),("place",.int (p:Nat))])) x b=some o:=λb o e=>by
  have b1:b≠x:=λz=>by rw[z,hx] at e;cases e
  have b2:b≠d:=λz=>by rw[z] at e;rw[ak hn] at hd;rw[hd] at e;cases e
  rw[js b1,ak b2,ak b1,ak b2,ak b1];exact e
 exact⟨rfl,x,d,rfl,by rw[ak (Ne.symm hn),aB],h _ d (λb o e _=>k b o e) (hT.mono k) (by rw[js hn,aB])⟩
def AG(R:Cl):Sp:=λvs H Q E=>∃H0 L x n,vs=[.ref L.run]/\bJ R H0 L x n H/\ (n=0->ku R L E H 9 0)/\ (∀k,n=k+1->∀H',bJ R H0 L x k H'->Kp L H H'->Q .aO H')
theorem aaC(F:aG K "take_step" "take_step" zv f fd)(g:GI mg)(e:EK K R){N fi:ae}{e_:bK}(S:GZ K R.stop N fi e_)(mS:mg "Stop"=some (.ref R.stop)):aD P w K mg base (bq P w) 3 f fd ["run"] (AG R):=by
 have GI:aD P w K mg base au 1 fi e_ ["self","kind","place"] (r8 R.stop):=AF S;have bI:=S.fn.b3 "self" "kind" "place";refine F.oX XU λaF A outer s H vs Q E hr h=> ?_;obtain⟨H0,L,x,n,rfl,r,h1,h2⟩:=h;refine⟨_,ay (b7 (bW fR (aP (pv 0) rfl) aQ (bQ _)) (aw (rR S.cls GI hr bI rfl rfl rQ rfl mS (ai (b_ g.Z6) (ai aQ aj)))) cJ) (aw (cT (pv 0) (cy p9 (aP (pv 0) rfl) aQ) rfl)),?_⟩;obtain⟨un,hu,hR,hU⟩:=r.ju;refine⟨_,rfl,_,_,_,_,_,rfl,hR,e.eU,e.wQ,rfl,rfl,_,rfl,bY (λz=> ?_) λz=> ?_⟩
 ·have z:n=0:=by injection z with z;omega
  exact⟨by decide,λy hy=>stop_left (h1 z) r.wO hy⟩
 ·obtain⟨k,rfl⟩:∃k,n=k+1:=⟨n-1,by
   have:n≠0:=λy=>z (by rw[y];rfl)
   omega⟩
  refine⟨_,rfl,_,_,_,_,_,rfl,hR,e.eU,e.wQ,rfl,_,_,rfl,rfl,_,rfl,_,_,_,_,rfl,hR,e.eU,e.wQ,(by show 5<1000;decide),?_⟩
  have w:=r.aaB k hu hU;have ee:aA "left" (.int (((k+1:Nat):Int)-1)) (gS L (k+1) un)=gS L k un:=by
   rw[show(((k+1:Nat):Int)-1)=(k:Nat) from by omega];rfl
  show Q .aO (upd H L.run (.ins R.run L.iF (aA "left" (.int (((k+1:Nat):Int)-1)) (gS L (k+1) un))));rw[ee];exact h2 k rfl _ w.1 w.2
end
section
variable{P:aS}{w:aL}{K:az}{mg:Str->Option ah}{base:aC}{f:ae}{fd:bK}{R:Cl}
def G0(R:Cl):Sp:=λvs H Q _=>∃H0 L x n t T j k b,vs=[.ref L.run,.ref t,.int (j:Nat)]/\bJ R H0 L x n H/\Told R H t T/\T.os[j]? =some ((k:Nat):Int)/\L.va[k]? =some b/\Q (.ref b) H
def G1(R:Cl):Sp:=λvs H Q _=>∃H0 L x n t T j k b,vs=[.ref L.run,.ref t,.int (j:Nat)]/\bJ R H0 L x n H/\Told R H t T/\T.os[j]? =some ((k:Nat):Int)/\L.ma[k]? =some b/\Q (.ref b) H
def G3(R:Cl):Sp:=λvs H Q _=>∃H0 L x n t T j k,vs=[.ref L.run,.ref t,.int (j:Nat)]/\bJ R H0 L x n H/\Told R H t T/\T.os[j]? =some ((k:Nat):Int)/\k<16/\Q (.int (dI x k)) H
def G4(R:Cl):Sp:=λvs H Q _=>∃H0 L x n t T k v,vs=[.ref L.run,.ref t,.int v]/\bJ R H0 L x n H/\Told R H t T/\T.os[0]? =some ((k:Nat):Int)/\k<16/\Num v/\ ∀H',bJ R H0 L (setScalar x k v) n H'->Kp L H H'->Q .aO H'
theorem aaD(F:aG K "vector" "vector" zx f fd)(e:EK K R):aD P w K mg base au 1 f fd ["run","told","operand"] (G0 R):=by
 refine F.oK XX λaF A outer s H vs Q E hr h=> ?_;obtain⟨H0,L,x,n,t,T,j,k,b,rfl,r,⟨dx,fs,ol,t⟩,hj,hb,q⟩:=h;refine⟨_,aw (bw (cj cH (aP (aP (pv 0) rfl) rfl) (cj cH (aP (pv 1) rfl) (pv 2) (λ_ _=>rfl)) (λ_ _=>rfl))),?_⟩;obtain⟨un,hu,hR,hU⟩:=r.ju;refine⟨_,rfl,_,_,_,_,_,rfl,hR,e.eU,e.mn,rfl,_,_,_,_,_,rfl,r.reg.2,e.iG,e.GY,rfl,?_⟩;refine⟨_,rfl,_,_,_,_,_,rfl,t.ob,e.bX,e.jP,t.os,_,rfl,_,_,_,_,rfl,rfl,aI.of t.ls,cX (ia hj),?_⟩;exact⟨_,_,_,_,rfl,rfl,aI.of r.vs.2,cX (ia hb),q⟩
theorem aaE(F:aG K "mask_lanes" "mask_lanes" zy f fd)(e:EK K R):aD P w K mg base au 1 f fd ["run","told","operand"] (G1 R):=by
 refine F.oK XZ λaF A outer s H vs Q E hr h=> ?_;obtain⟨H0,L,x,n,t,T,j,k,b,rfl,r,⟨dx,fs,ol,t⟩,hj,hb,q⟩:=h;refine⟨_,aw (bw (cj cH (aP (aP (pv 0) rfl) rfl) (cj cH (aP (pv 1) rfl) (pv 2) (λ_ _=>rfl)) (λ_ _=>rfl))),?_⟩;obtain⟨un,hu,hR,hU⟩:=r.ju;refine⟨_,rfl,_,_,_,_,_,rfl,hR,e.eU,e.mn,rfl,_,_,_,_,_,rfl,r.reg.2,e.iG,e.AE,rfl,?_⟩;refine⟨_,rfl,_,_,_,_,_,rfl,t.ob,e.bX,e.jP,t.os,_,rfl,_,_,_,_,rfl,rfl,aI.of t.ls,cX (ia hj),?_⟩;exact⟨_,_,_,_,rfl,rfl,aI.of r.ms.2,cX (ia hb),q⟩
theorem aaF(F:aG K "scalar" "scalar" zA f fd)(e:EK K R):aD P w K mg base au 1 f fd ["run","told","operand"] (G3 R):=by
 refine F.oK X1 λaF A outer s H vs Q E hr h=> ?_;obtain⟨H0,L,x,n,t,T,j,k,rfl,r,⟨dx,fs,ol,t⟩,hj,hk,q⟩:=h;refine⟨_,aw (bw (cj cH (aP (aP (pv 0) rfl) rfl) (cj cH (aP (pv 1) rfl) (pv 2) (λ_ _=>rfl)) (λ_ _=>rfl))),?_⟩;obtain⟨un,hu,hR,hU⟩:=r.ju;refine⟨_,rfl,_,_,_,_,_,rfl,hR,e.eU,e.mn,rfl,_,_,_,_,_,rfl,r.reg.2,e.iG,e.AD,rfl,?_⟩;refine⟨_,rfl,_,_,_,_,_,rfl,t.ob,e.bX,e.jP,t.os,_,rfl,_,_,_,_,rfl,rfl,aI.of t.ls,cX (ia hj),?_⟩;exact⟨_,_,_,_,rfl,rfl,aI.of r.GV,cX (ia (U8 (by rw[r.wf.ss];exact hk))),q⟩
theorem aaG(F:aG K "hold" "hold" zB f fd)(e:EK K R):aD P w K mg base au 1 f fd ["run","told","number"] (G4 R):=by
 refine F.oK X3 λaF A outer s H vs Q E hr h=> ?_;obtain⟨H0,L,x,n,t,T,k,v,rfl,r,⟨dx,fs,ol,t⟩,hj,hk,hv,q⟩:=h;refine⟨_,aw (jE (pv 2) (jD (aP (aP (pv 0) rfl) rfl) (cj cH (aP (pv 1) rfl) aQ (λ_ _=>rfl)) set_list)),?_⟩;obtain⟨un,hu,hR,hU⟩:=r.ju;have hl:k<(x.ss.map V.int).length:=by rw[bx,r.wf.ss];exact hk
 refine⟨_,rfl,_,rfl,_,_,_,_,_,rfl,hR,e.eU,e.mn,rfl,_,_,_,_,_,rfl,r.reg.2,e.iG,e.AD,rfl,?_⟩;refine⟨_,rfl,_,_,_,_,_,rfl,t.ob,e.bX,e.jP,t.os,_,_,_,_,rfl,rfl,aI.of t.ls,cX (k:=0) (ia hj),?_⟩;refine⟨_,_,_,_,rfl,rfl,r.GV,jQ hl,?_⟩;have w:=r.setScalar k hv;rw[u7] at w;exact q _ w.1 w.2
def G5(R:Cl):Sp:=λvs H Q _=>∃H0 L x n t T,vs=[.ref L.run,.ref t]/\bJ R H0 L x n H/\Told R H t T/\ (∀k,T.m=some k->k<8)/\ ∀H' a,(∀b o,H b=some o->H' b=some o)-> ¬L.mut a->H' a=some (.lst (nats (cU x T.m)))->Q (.ref a) H'
theorem aaH(F:aG K "active_lanes" "active_lanes" wt f fd)(e:EK K R):aD P w K mg base au 1 f fd ["run","told"] (G5 R):=by
 refine F.oK zw λaF A outer s H vs Q E hr h=> ?_;obtain⟨H0,L,x,n,t,T,rfl,r,⟨dx,fs,ol,t⟩,hm,q⟩:=h;refine⟨_,ay (b7 (jh (oG (aP (pv 1) rfl))) (aw (bw (aP (pv 0) rfl))) cJ) (ay (bH (i:=2) zw.nd rfl (Or.inr rfl) (cj cH (aP (aP (pv 0) rfl) rfl) (aP (pv 1) rfl) (λ_ _=>rfl)))
  (aw (bw (nL (own:=[("lane",3)]) rfl zw.nd (g8 (aP (pv 0) rfl)) (show jn MW (aK wt) _ _ from⟨rfl,by decide+kernel,by decide+kernel,by decide+kernel,by decide+kernel⟩) (λ_ _ _ _ _=>fv (i:=3) zw.nd rfl (aZ rfl))
    (λ_ _ _ _ _=>KH (bW fR (cj (r:=CU K) cH (pv 2) (pv 3) (λ_ _=>rfl)) aQ (bQ _))) (λ_ _ _ _ _=>pv 3))))),?_⟩
 obtain⟨un,hu,hR,hU⟩:=r.ju;refine⟨_,rfl,_,_,_,_,_,rfl,t.ob,e.bX,e.wU,t.m,_,rfl,bY (λz=> ?_) λz=> ?_⟩
 ·have z:T.m=none:=by
   cases y:T.m with
   |none=>rfl
   |some k=>rw[y] at z;cases z
  refine⟨_,rfl,_,_,_,_,_,rfl,hR,e.eU,e.wR,rfl,q H un (λ_ _ z=>z) hu ?_⟩;rw[z,Vn];exact hU
 ·obtain⟨k,z⟩:∃k,T.m=some k:=by
   cases y:T.m with
   |none=>rw[y] at z;exact absurd rfl z
   |some k=>exact⟨k,rfl⟩
  have hk:=hm k z;obtain⟨b,hb,hB⟩:=r.kX hk;have tm:=t.m;rw[z] at tm;refine⟨_,rfl,_,_,_,_,_,rfl,hR,e.eU,e.mn,rfl,_,_,_,_,_,rfl,r.reg.2,e.iG,e.AE,rfl,?_⟩;refine⟨_,rfl,_,_,_,_,_,rfl,t.ob,e.bX,e.wU,tm,_,_,_,_,rfl,rfl,aI.of r.ms.2,cX (ia hb),?_⟩;refine⟨_,rfl,_,_,_,_,_,rfl,hR,e.eU,e.wR,rfl,_,rfl,⟨_,aI.of hU⟩,λD hD=> ?_⟩;have aaI:∀i,(((dk x).take i).filter (fk x k)).length<=16:=λi=>by
   have h1:(dk x).length<=x.width:=by
    have:=B9 (λl=>((x.faults[l]?).getD none).isNone) (cB x.width);rw[iy] at this;exact this
   have h2:=B9 (fk x k) ((dk x).take i);have h3:=List.length_take_le i (dk x);have h4:((dk x).take i).length<=(dk x).length:=by rw[jY];exact PR _ _
   have:=r.wf.fA;omega
  refine qf (K:=K) (a:=un) (xs:=nats (dk x)) (λi H'=>(∀b o,H b=some o->H' b=some o)/\H' D=some (.lst (nats (((dk x).take i).filter (fk x k))))) ⟨λb o e=> ?_,?_⟩ (λi H' _ p=>aI.of (p.1 _ _ hU)) (λi v H' hi p=> ?_) λH' p=> ?_
  ·rw[ak (bD e hD)];exact e
  ·rw[aB];rfl
  ·obtain⟨l,hl,rfl⟩:∃l,(dk x)[i]? =some l/\v=.int (l:Nat):=by
    unfold nats at hi;rw[dH] at hi;cases y:(dk x)[i]? with
    |none=>rw[y] at hi;cases hi
    |some l=>rw[y] at hi;exact⟨l,rfl,by injection hi with hi;exact hi.symm⟩
   have lw:l<x.width:=qG.mp (BF.mp (d7 hl)).1;have ml:=r.wf.mask hk;have sn:((dk x).take (i+1)).filter (fk x k)=((dk x).take i).filter (fk x k)++(if fk x k l=true then[l] else[]):=by
    rw[take_snoc hl,List.filter_append];congr 1;rw[Jg,List.filter_nil]
   refine⟨rfl,_,rfl,_,rfl,_,_,_,_,rfl,rfl,aI.of (p.1 _ _ hB),cX (ia (LS (by rw[ml];exact lw))),rfl,_,rfl,?_⟩
   cases o:fk x k l with
   |true=>
    refine dq ⟨_,rfl,_,p.2,?_,λb ob eb=> ?_,?_⟩
    ·unfold nats;rw[bx,aR];have:=aaI i;omega
    ·rw[ak (bD eb hD)];exact p.1 _ _ eb
    ·rw[aB,sn,o];unfold nats;rw[iw];rfl
   |false=>
    refine dW ⟨p.1,?_⟩;rw[sn,o,if_neg cW,dz];exact p.2
  ·refine q H' D p.1 (r.tracked hD) ?_;have hl:(nats (dk x)).length=(dk x).length:=by unfold nats;rw[bx]
   rw[p.2,hl,oE,z,Vo]
end
theorem Nu{α β:Type}{p:α->β->Prop}{a:α}{b:β}(h:p a b):∀{l:List α} {r:List β} (i:Nat),Paired p l r->Paired p (l.set i a) (r.set i b)
 |_,_,_,.nil=>.nil
 |_,_,0,.cons _ t=>.cons h t
 |_,_,i+1,.cons q t=>.cons q (Nu h i t)
theorem pb{l:List Nat}{i:Nat}{v:V}(h:(nats l)[i]? =some v):∃k,l[i]? =some k/\v=.int (k:Nat):=by
 unfold nats at h;rw[dH] at h;cases y:l[i]? with
 |none=>rw[y] at h;cases h
 |some k=>rw[y] at h;exact⟨k,rfl,by injection h with h;exact h.symm⟩
theorem aaJ(x:bj):(dk x).length<=x.width:=by
 have:=B9 (λl=>((x.faults[l]?).getD none).isNone) (cB x.width);rw[iy] at this;exact this
section
variable{P:aS}{w:aL}{K:az}{mg:Str->Option ah}{base:aC}{f:ae}{fd:bK}{R:Cl}{H0 H H3:Hp}{L:Rn}{x:bj}{n:Nat}
theorem bJ.fail(r:bJ R H0 L x n H){l:Nat}{e:Fault}{t D:ae}{fs:List V}(Wu:H L.fa=some (.lst fs))(hp:Paired (rZ L H) fs x.faults)(ht:H t=none)
 (h3:∀b o,upd (upd H t (.tup [.int (e.1:Nat),.int (e.2:Nat)])) L.fa (.lst (fs.set l (.ref t))) b=some o->H3 b=some o) (hD:H D=none) (hU:H3 D=some (.lst (nats (dk (gC x l e))))):
 bJ R H0 L (gC x l e) n (upd H3 L.run (.ins R.run L.iF (gS L n D)))/\Kp L H (upd H3 L.run (.ins R.run L.iF (gS L n D))):=by
 have mt: ¬L.mut t:=r.tracked ht;have mD: ¬L.mut D:=r.tracked hD;have tf:t≠L.fa:=λz=>mt (by rw[z];exact⟨.fa,rfl⟩)
 have tr:t≠L.run:=λz=>mt (by rw[z];exact⟨.run,rfl⟩)
 have Dr:D≠L.run:=λz=>mD (by rw[z];exact⟨.run,rfl⟩)
 have fr:L.fa≠L.run:=λz=>by have:=r.inj .fa .run L.fa rfl (by rw[z];rfl);cases this
 have st:∀b o,H b=some o->b≠L.fa->b≠L.run->upd H3 L.run (.ins R.run L.iF (gS L n D)) b=some o:=λb o e1 n1 n2=>by
  rw[ak n2];refine h3 b o ?_;rw[ak n1,ak (bD e1 ht)];exact e1
 have k:Kp L H (upd H3 L.run (.ins R.run L.iF (gS L n D))):=λb o e1 m=>st b o e1 (λz=>m (by rw[z];exact⟨.fa,rfl⟩)) λz=>m (by rw[z];exact⟨.run,rfl⟩)
 have wX:∀s b,L.at s=some b->s≠ .fa->s≠ .run->(∀o,Is R L x n H s o->Is R L (gC x l e) n H s o)->∃o,upd H3 L.run (.ins R.run L.iF (gS L n D)) b=some o/\Is R L (gC x l e) n (upd H3 L.run (.ins R.run L.iF (gS L n D))) s o:=λs b hs n1 n2 hi=>by
  obtain⟨o,e1,e2⟩:=r.all s b hs;exact⟨o,st b o e1 (λz=>n1 (r.inj s .fa b hs (by rw[z];rfl))) (λz=>n2 (r.inj s .run b hs (by rw[z];rfl))),(hi o e2).kp k⟩
 refine⟨r.step k (r.wf.gC l e) (r.nums.gC l e) rfl rfl λs b hs=> ?_,k⟩;cases s with
 |run=>
  cases hs;exact⟨_,aB,D,mD,rfl,by rw[ak Dr];exact hU⟩
 |fa=>
  cases hs;refine⟨.lst (fs.set l (.ref t)),?_,fs.set l (.ref t),rfl,?_⟩
  ·rw[ak fr];exact h3 _ _ aB
  ·refine Nu ⟨t,rfl,mt,?_⟩ l (GQ (λ_ _ z=>z.kp k) hp);rw[ak tr];refine h3 _ _ ?_;rw[ak tf,aB]
 |ss=>exact wX _ b hs (λz=>nomatch z) (λz=>nomatch z) λo h=>h
 |tb i=>exact wX _ b hs (λz=>nomatch z) (λz=>nomatch z) λo h=>h
 |v i=>exact wX _ b hs (λz=>nomatch z) (λz=>nomatch z) λo h=>h
 |m i=>exact wX _ b hs (λz=>nomatch z) (λz=>nomatch z) λo h=>h
 |a i=>exact wX _ b hs (λz=>nomatch z) (λz=>nomatch z) λo h=>h
def G6(R:Cl):Sp:=λvs H Q _=>∃H0 L x n l k p,vs=[.ref L.run,.int (l:Nat),.int (k:Nat),.int (p:Nat)]/\bJ R H0 L x n H/\l<x.width/\ ∀H',bJ R H0 L (gC x l (k,p)) n H'->Kp L H H'->Q .aO H'
theorem aaK(F:aG K "fail" "fail" wq f fd)(e:EK K R):aD P w K mg base au 1 f fd ["run","lane","kind","place"] (G6 R):=by
 refine F.oK EZ λaF A outer s H vs Q E hr h=> ?_;obtain⟨H0,L,x,n,l,k,p,rfl,r,hl,q⟩:=h;refine⟨_,ay (jE (CL (ai (pv 2) (ai (pv 3) aj))) (jD (aP (pv 0) rfl) (pv 1) set_list)) (aw (cT (pv 0)
  (nL (own:=[("other",4)]) rfl EZ.nd (g8 (aP (pv 0) rfl)) (show jn MV (aK wq) _ _ from⟨rfl,by decide+kernel,by decide+kernel,by decide+kernel,by decide+kernel⟩) (λ_ _ _ _ _=>fv (i:=4) EZ.nd rfl (aZ rfl))
    (λ_ _ _ _ _=>KH (bW jj (pv 4) (pv 1) (bQ _))) (λ_ _ _ _ _=>pv 4)) rfl)),?_⟩
 obtain⟨un,hu,hR,hU⟩:=r.ju;obtain⟨fs,hF,hP⟩:=r.Nt;refine⟨_,rfl,_,rfl,(by show 2<=sizeLine;rw[aR];decide),λt ht=> ?_⟩
 have tr:L.run≠t:=bD hR ht;have tf:L.fa≠t:=bD hF ht;have fr:L.run≠L.fa:=cE hR hF (by simp)
 have fu:un≠L.fa:=λz=>hu (by rw[z];exact⟨.fa,rfl⟩)
 refine⟨_,rfl,_,_,_,_,_,rfl,(by rw[ak tr];exact hR),e.eU,e.GX,rfl,_,rfl,_,_,_,_,rfl,rfl,(by rw[ak tf];exact hF),jQ (by rw[hP.length,r.wf.fl];exact hl),?_⟩
 have r9:upd (upd H t (.tup [.int (k:Nat),.int (p:Nat)])) L.fa (.lst (fs.set l (.ref t))) L.run=some (.ins R.run L.iF (gS L n un)):=by rw[ak fr,ak tr];exact hR
 have Nv:upd (upd H t (.tup [.int (k:Nat),.int (p:Nat)])) L.fa (.lst (fs.set l (.ref t))) un=some (.lst (nats (dk x))):=by rw[ak fu,ak (bD hU ht)];exact hU
 refine⟨_,rfl,_,_,_,_,_,rfl,r9,e.eU,e.wR,rfl,_,rfl,⟨_,aI.of Nv⟩,λD hD=> ?_⟩;refine qf (K:=K) (a:=un) (xs:=nats (dk x)) (λi H'=>(∀b o,upd (upd H t (.tup [.int (k:Nat),.int (p:Nat)])) L.fa (.lst (fs.set l (.ref t))) b=some o->H' b=some o)/\H' D=some (.lst (nats (((dk x).take i).filter λj=>j !=l)))) ⟨λb o e=> ?_,?_⟩ (λi H' _ p=>aI.of (p.1 _ _ Nv)) (λi v H' hi p=> ?_) λH' p4=> ?_
 ·rw[ak (bD e hD)];exact e
 ·rw[aB];rfl
 ·obtain⟨j,hj,rfl⟩:=pb hi;have sn:((dk x).take (i+1)).filter (λj=>j !=l)=((dk x).take i).filter (λj=>j !=l)++(if(j !=l)=true then[j] else[]):=by
   rw[take_snoc hj,List.filter_append];congr 1;rw[Jg,List.filter_nil]
  refine⟨rfl,_,rfl,_,rfl,rfl,_,rfl,nR (λz=> ?_) λz=> ?_⟩
  ·have z:(j !=l)=true:=by
    rw[bne_iff_ne];intro y;exact z (by rw[y])
   refine⟨_,rfl,_,p.2,?_,λb ob eb=> ?_,?_⟩
   ·unfold nats;rw[bx,aR];have h1:=B9 (λj=>j !=l) ((dk x).take i);have h2:((dk x).take i).length<=(dk x).length:=by rw[jY];exact PR _ _
    have h3:=aaJ x;have:=r.wf.fA;omega
   ·rw[ak (bD eb hD)];exact p.1 _ _ eb
   ·rw[aB,sn,z];unfold nats;rw[iw];rfl
  ·have z:(j !=l)=false:=by
    have:(j:Int)=l:=by injection z
    have:j=l:=by omega
    rw[this];simp
   refine⟨p.1,?_⟩;rw[sn,z,if_neg cW,dz];exact p.2
 ·have Cf:(nats (dk x)).length=(dk x).length:=by unfold nats;rw[bx]
  have hD0:H D=none:=by
   cases y:H D with
   |none=>rfl
   |some o=>
    exfalso;by_cases z:D=L.fa
    ·rw[z,aB] at hD;cases hD
    ·rw[ak z,ak (bD y ht),y] at hD;cases hD
  have w:=r.fail (e:=(k,p)) hF hP ht p4.1 hD0 (by rw[p4.2,Cf,oE,Vm r.wf hl])
  refine⟨_,rfl,_,_,_,_,rfl,p4.1 _ _ r9,e.eU,e.wR,(by show 5<1000;decide),?_⟩
  exact q _ w.1 w.2
end
open Vaarrj (Instr Block doOne doAll inLanes)
def Df(K:az)(mg:Str->Option ah)(x:Str)(st:cD)(f:ae)(fd:bK):Prop:=aG K x x st f fd/\mg x=some (.ref f)
structure aN(P:aS)(w:aL)(K:az)(mg:Str->Option ah)(base:aC)(CX:jG)(k:Nat)(x:Str)(ps:List Str)(sp:Sp):Prop where
 ex:∃f fd,aD P w K mg base CX k f fd ps sp/\mg x=some (.ref f)/\iN K (.ref f)=true/\Binds K fd ps []
theorem aY{X:Cx}{CX:jG}{k:Nat}{x:Str}{ps:List Str}{sp:Sp}{E:XK}{e:bz}{es:List bz}{t:TA}{p pos:Pos}(c:aN X.prog X.w X.K X.mg X.base CX k x ps sp)(hr:dD k X.A)(hx:Passes CX X E)(ha:PA X (e::es) t)(hg:Gl X x:=by rfl)
 (g9:(x==("__debug__":Str))=false:=by decide) (he:cG (e::es) X.env=(false,eval e X.env)::cG es X.env:=by rfl) (dE:(f_ pos (cG es X.env)).any (·.1)=false:=by rfl):
 PE X (.Call (.Name x p) (e::es) [] pos) (CM sp [] E t):=by
 obtain⟨f,fd,h1,h2,h3,h4⟩:=c.ex;exact rj h1 hr hg h2 h3 h4 .nil hx ha g9 he dE
def r_(i:cw)(b c:ae):Tl:=⟨MX.S (MP.toldOf i).act,MX.S (MP.toldOf i).op,(MP.toldOf i).args,(MP.toldOf i).mask,(MP.toldOf i).place,b,c,(MP.toldOf i).parts.map MX.S⟩
def Res(R:Cl)(H0:Hp)(L:Rn)(H:Hp)(r:yf)(Q:VK)(E:XK):Prop:=match r with
 | .ok y=>∀H',bJ R H0 L y.1 y.2 H'->Kp L H H'->Q .aO H'
 | .error e=>ku R L E H e.1 e.2
def fK(R:Cl)(S:cw->Prop):Sp:=λvs H Q E=>∃H0 L x n t i b c,vs=[.ref L.run,.ref t]/\S i/\bJ R H0 L x n H/\Told R H0 t (r_ i b c)/\MP.lU x.arrays.length i/\Res R H0 L H (cx i x n) Q E
structure LI(R:Cl)(H0:Hp)(L:Rn)(x:bj)(n:Nat)(H:Hp)(m:Option Nat)(d:Nat)(f:Nat->Except Fault Int)(i:Nat)(y:bj)(H':Hp):Prop where
 eq:y=((cU x m).take i).foldl (eF d f) x
 at_:bJ R H0 L y n H'
 kp:Kp L H H'
 mid:rJ x y ((cU x m).take i)
section
variable{P:aS}{w:aL}{K:az}{mg:Str->Option ah}{base:aC}{R:Cl}{H0 H H' H2:Hp}{L:Rn}{x y:bj}{n:Nat}{m:Option Nat}{d:Nat}{f:Nat->Except Fault Int}{i l:Nat}
theorem LI.start(r:bJ R H0 L x n H2)(k:Kp L H H2):LI R H0 L x n H m d f 0 x H2:=⟨rfl,r,k,rJ.start r.wf⟩
theorem LI.next(I:LI R H0 L x n H m d f i y H')(hl:(cU x m)[i]? =some l)(hd:d<16)(r:bJ R H0 L (eF d f y l) n H2)(k:Kp L H' H2):LI R H0 L x n H m d f (i+1) (eF d f y l) H2:=
 ⟨by rw[take_snoc hl,Qj,<-I.eq];rfl,r,I.kp.trans k,by rw[take_snoc hl];exact I.mid.step hd⟩
theorem LI.iB(I:LI R H0 L x n H m d f i y H')(hl:(cU x m)[i]? =some l)(a:Nat):bP y a l=bP x a l:=I.mid.iB a l (LW (LV x m) hl)
theorem LI.lt(I:LI R H0 L x n H m d f i y H')(hl:(cU x m)[i]? =some l):l<y.width:=by rw[I.mid.w];exact vT (d7 hl)
theorem LI.get(I:LI R H0 L x n H m d f i y H')(hl:(cU x m)[i]? =some l){a:Nat}(ha:a<16):((c8 y a).map V.int)[l]? =some (.int (bP x a l)):=by
 rw[<-I.iB hl a];exact ia (y_ (by rw[I.at_.wf.vec ha];exact I.lt hl))
theorem LI.set(I:LI R H0 L x n H m d f i y H')(hl:(cU x m)[i]? =some l)(hd:d<16){b:ae}(hb:L.va[d]? =some b){v:Int}(hv:f l=.ok v)(hn:Num v):LI R H0 L x n H m d f (i+1) (eF d f y l) (upd H' b (.lst (((c8 y d).map V.int).set l (.int v)))):=by
 have e:eF d f y l=B8 y d ((c8 y d).set l v):=by unfold eF;rw[hv];rfl
 have w:=I.at_.setVec hb (v:=(c8 y d).set l v) (by rw[gV];exact I.at_.wf.vec hd) λk hk=>(mem_set hk).elim (λz=>by rw[z];exact hn) (I.at_.nums.vec d k)
 rw[u7,<-e] at w;exact I.next hl hd w.1 w.2
theorem LI.fail(I:LI R H0 L x n H m d f i y H')(hl:(cU x m)[i]? =some l)(hd:d<16){e:Fault}(hv:f l=.error e)(r:bJ R H0 L (gC y l e) n H2)(k:Kp L H' H2):LI R H0 L x n H m d f (i+1) (eF d f y l) H2:=by
 have e:eF d f y l=gC y l e:=by unfold eF;rw[hv]
 exact I.next hl hd (by rw[e];exact r) k
theorem LI.done(I:LI R H0 L x n H m d f (nats (cU x m)).length y H')(W:WF x)(hd:d<16):bJ R H0 L (inLanes x m d f) n H'/\Kp L H H':=by
 have e:=I.eq;rw[show(nats (cU x m)).length=(cU x m).length from bx _,oE,Vf W m hd f] at e;rw[<-e];exact⟨I.at_,I.kp⟩
end
section
variable{P:aS}{w:aL}{K:az}{mg:Str->Option ah}{base:aC}{f:ae}{fd:bK}{R:Cl}
theorem aaL(F:Df K mg "vector" zx f fd)(e:EK K R):aN P w K mg base au 1 "vector" ["run","told","operand"] (G0 R):=
 ⟨f,fd,aaD F.1 e,F.2,F.1.kp,F.1.b3 "run" "told" "operand"⟩
theorem aaM(F:Df K mg "mask_lanes" zy f fd)(e:EK K R):aN P w K mg base au 1 "mask_lanes" ["run","told","operand"] (G1 R):=
 ⟨f,fd,aaE F.1 e,F.2,F.1.kp,F.1.b3 "run" "told" "operand"⟩
theorem aaN(F:Df K mg "scalar" zA f fd)(e:EK K R):aN P w K mg base au 1 "scalar" ["run","told","operand"] (G3 R):=
 ⟨f,fd,aaF F.1 e,F.2,F.1.kp,F.1.b3 "run" "told" "operand"⟩
theorem aaO(F:Df K mg "hold" zB f fd)(e:EK K R):aN P w K mg base au 1 "hold" ["run","told","number"] (G4 R):=
 ⟨f,fd,aaG F.1 e,F.2,F.1.kp,F.1.b3 "run" "told" "number"⟩
theorem aaP(F:Df K mg "active_lanes" wt f fd)(e:EK K R):aN P w K mg base au 1 "active_lanes" ["run","told"] (G5 R):=
 ⟨f,fd,aaH F.1 e,F.2,F.1.kp,F.1.b2 "run" "told"⟩
theorem aaQ(F:Df K mg "fail" wq f fd)(e:EK K R):aN P w K mg base au 1 "fail" ["run","lane","kind","place"] (G6 R):=
 ⟨f,fd,aaK F.1 e,F.2,F.1.kp,F.1.b4 "run" "lane" "kind" "place"⟩
structure fg(P:aS)(w:aL)(K:az)(mg:Str->Option ah)(base:aC)(R:Cl):Prop where
 ek:EK K R
 vec:aN P w K mg base au 1 "vector" ["run","told","operand"] (G0 R)
 jM:aN P w K mg base au 1 "mask_lanes" ["run","told","operand"] (G1 R)
 sca:aN P w K mg base au 1 "scalar" ["run","told","operand"] (G3 R)
 hold:aN P w K mg base au 1 "hold" ["run","told","number"] (G4 R)
 act:aN P w K mg base au 1 "active_lanes" ["run","told"] (G5 R)
 fail:aN P w K mg base au 1 "fail" ["run","lane","kind","place"] (G6 R)
theorem aaR(F:aG K "do_lanes" "do_lanes" E4 f fd)(G:fg P w K mg base R):aD P w K mg base au 2 f fd ["run","told"] (fK R λi=>∃d m,i=.lanes d m):=by
 refine F.oK E5 λaF A outer s H vs Q E hr h=> ?_;obtain⟨H0,L,x,n,t,i,b,c,rfl,⟨d,m,rfl⟩,r,T,⟨hd,hm⟩,q⟩:=h;replace T:=T.mono r.old;refine⟨_,ay (bH (i:=2) E5.nd rfl (aZ rfl) (aY G.vec hr a_ (ai (pv 0) (ai (pv 1) (ai aQ aj))))) (aw (lI j6 rfl (g8 (aY G.act hr a_ (ai (pv 0) (ai (pv 1) aj)))) (fv (i:=3) E5.nd rfl (aZ rfl))
  (aw (jE (pv 3) (jD (pv 2) (pv 3) set_list))))),?_⟩
 obtain⟨bd,hb,hB⟩:=r.eG hd;refine⟨_,rfl,_,rfl,H0,L,x,n,t,_,0,d,bd,rfl,r,T,rfl,hb,?_⟩;refine⟨_,rfl,_,rfl,H0,L,x,n,t,_,rfl,r,T,hm,λH1 a h1 ma ha=> ?_⟩;have k1:Kp L H H1:=λb o e _=>h1 b o e;refine⟨_,rfl,⟨_,aI.of ha⟩,lK (xs:=nats (cU x m)) (λi σ H'=>(∃v,σ=[some (.ref L.run),some (.ref t),some (.ref bd),v])/\ ∃y,LI R H0 L x n H1 m d (λl=>.ok ((l:Nat):Int)) i y H') ⟨⟨_,rfl⟩,x,LI.start (r.more h1) Kp.refl⟩ (λi σ H' _ p=> ?_) (λi v σ H' hi p=> ?_) λσ H' p=> ?_⟩
 ·obtain⟨_,y,I⟩:=p;exact aI.of (I.kp _ _ ha ma)
 ·obtain⟨⟨v0,rfl⟩,y,I⟩:=p;obtain⟨l,hl,rfl⟩:=pb hi;obtain⟨b2,ck,gT⟩:=I.at_.eG hd;rw[hb] at ck;cases ck;refine⟨_,rfl,_,rfl,_,rfl,_,_,_,_,rfl,rfl,gT,jQ (by rw[bx,I.at_.wf.vec hd];exact I.lt hl),?_⟩
  have lw:=I.lt hl;have fA:=I.at_.wf.fA;exact⟨⟨_,rfl⟩,_,I.set hl hd hb rfl (Ed (by omega))⟩
 ·obtain⟨_,y,I⟩:=p;obtain⟨r2,k2⟩:=I.done r.wf hd;exact q H' r2 (k1.trans k2)
end
section
variable{P:aS}{w:aL}{K:az}{mg:Str->Option ah}{base:aC}{f:ae}{fd:bK}{R:Cl}
def AH(R:Cl):Sp:=λvs H Q _=>∃H0 L x n t T d v,vs=[.ref L.run,.ref t,.int v]/\bJ R H0 L x n H/\Told R H t T/\T.os[0]? =some ((d:Nat):Int)/\d<16/\Num v/\ (∀k,T.m=some k->k<8)/\ ∀H',bJ R H0 L (inLanes x T.m d λ_=>.ok v) n H'->Kp L H H'->Q .aO H'
theorem aaS(F:aG K "fill_lanes" "fill_lanes" zC f fd)(G:fg P w K mg base R):aD P w K mg base au 2 f fd ["run","told","number"] (AH R):=by
 refine F.oK E6 λaF A outer s H vs Q E hr h=> ?_;obtain⟨H0,L,x,n,t,T,d,v,rfl,r,hT,ho,hd,hv,hm,q⟩:=h;refine⟨_,ay (bH (i:=3) E6.nd rfl (aZ rfl) (aY G.vec hr a_ (ai (pv 0) (ai (pv 1) (ai aQ aj))))) (aw (lI j6 rfl (g8 (aY G.act hr a_ (ai (pv 0) (ai (pv 1) aj)))) (fv (i:=4) E6.nd rfl (aZ rfl))
  (aw (jE (pv 2) (jD (pv 3) (pv 4) set_list))))),?_⟩
 obtain⟨bd,hb,hB⟩:=r.eG hd;refine⟨_,rfl,_,rfl,H0,L,x,n,t,T,0,d,bd,rfl,r,hT,ho,hb,?_⟩;refine⟨_,rfl,_,rfl,H0,L,x,n,t,T,rfl,r,hT,hm,λH1 a h1 ma ha=> ?_⟩;have k1:Kp L H H1:=λb o e _=>h1 b o e;refine⟨_,rfl,⟨_,aI.of ha⟩,lK (xs:=nats (cU x T.m)) (λi σ H'=>(∃u,σ=[some (.ref L.run),some (.ref t),some (.int v),some (.ref bd),u])/\ ∃y,LI R H0 L x n H1 T.m d (λ_=>.ok v) i y H') ⟨⟨_,rfl⟩,x,LI.start (r.more h1) Kp.refl⟩ (λi σ H' _ p=> ?_) (λi v σ H' hi p=> ?_) λσ H' p=> ?_⟩
 ·obtain⟨_,y,I⟩:=p;exact aI.of (I.kp _ _ ha ma)
 ·obtain⟨⟨v0,rfl⟩,y,I⟩:=p;obtain⟨l,hl,rfl⟩:=pb hi;obtain⟨b2,ck,gT⟩:=I.at_.eG hd;rw[hb] at ck;cases ck;refine⟨_,rfl,_,rfl,_,rfl,_,_,_,_,rfl,rfl,gT,jQ (by rw[bx,I.at_.wf.vec hd];exact I.lt hl),?_⟩
  exact⟨⟨_,rfl⟩,_,I.set hl hd hb rfl hv⟩
 ·obtain⟨_,y,I⟩:=p;obtain⟨r2,k2⟩:=I.done r.wf hd;exact q H' r2 (k1.trans k2)
theorem aaT(F:Df K mg "fill_lanes" zC f fd)(G:fg P w K mg base R):aN P w K mg base au 2 "fill_lanes" ["run","told","number"] (AH R):=
 ⟨f,fd,aaS F.1 G,F.2,F.1.kp,F.1.b3 "run" "told" "number"⟩
theorem aaU(F:aG K "do_const" "do_const" E7 f fd)(G:fg P w K mg base R)(GF:aN P w K mg base au 2 "fill_lanes" ["run","told","number"] (AH R)):aD P w K mg base au 3 f fd ["run","told"] (fK R λi=>∃d k m,i=.const d k m):=by
 refine F.oK X7 λaF A outer s H vs Q E hr h=> ?_;obtain⟨H0,L,x,n,t,i,b,c,rfl,⟨d,k,m,rfl⟩,r,T,⟨hd,hk,hm⟩,q⟩:=h;replace T:=T.mono r.old;refine⟨_,aw (bO (aY GF hr a_ (ai (pv 0) (ai (pv 1) (ai (cj cH (aP (pv 1) rfl) aQ (λ_ _=>rfl)) aj))))),?_⟩;have T0:=T;obtain⟨dx,fs,ol,T⟩:=T;refine⟨_,rfl,_,rfl,_,rfl,_,_,_,_,_,rfl,T.ob,G.ek.bX,G.ek.jP,T.os,_,_,_,_,rfl,rfl,aI.of T.ls,cX (k:=1) rfl,?_⟩;exact⟨H0,L,x,n,t,_,d,k,rfl,r,T0,rfl,hd,hk,hm,q⟩
theorem aaV(F:aG K "do_fill" "do_fill" E8 f fd)(G:fg P w K mg base R)(GF:aN P w K mg base au 2 "fill_lanes" ["run","told","number"] (AH R)):aD P w K mg base au 3 f fd ["run","told"] (fK R λi=>∃d k m,i=.fill d k m):=by
 refine F.oK X9 λaF A outer s H vs Q E hr h=> ?_;obtain⟨H0,L,x,n,t,i,b,c,rfl,⟨d,k,m,rfl⟩,r,T,⟨hd,hk,hm⟩,q⟩:=h;replace T:=T.mono r.old;refine⟨_,aw (bO (aY GF hr a_ (ai (pv 0) (ai (pv 1) (ai (aY G.sca (hr.mono (by decide)) a_ (ai (pv 0) (ai (pv 1) (ai aQ aj)))) aj))))),?_⟩
 refine⟨_,rfl,_,rfl,_,rfl,_,rfl,H0,L,x,n,t,_,1,k,rfl,r,T,rfl,hk,?_⟩;exact⟨H0,L,x,n,t,_,d,_,rfl,r,T,rfl,hd,r.nums.scalar k,hm,q⟩
theorem aaW(F:aG K "do_copy" "do_copy" E9 f fd)(G:fg P w K mg base R):aD P w K mg base au 2 f fd ["run","told"] (fK R λi=>∃d a m,i=.copy d a m):=by
 refine F.oK zD λaF A outer s H vs Q E hr h=> ?_;obtain⟨H0,L,x,n,t,i,b,c,rfl,⟨d,a1,m,rfl⟩,r,T,⟨hd,dj,hm⟩,q⟩:=h;replace T:=T.mono r.old;refine⟨_,ay (bH (i:=2) zD.nd rfl (aZ rfl) (aY G.vec hr a_ (ai (pv 0) (ai (pv 1) (ai aQ aj))))) (ay (bH (i:=3) zD.nd rfl (aZ rfl) (aY G.vec hr a_ (ai (pv 0) (ai (pv 1) (ai aQ aj)))))
  (aw (lI j6 rfl (g8 (aY G.act hr a_ (ai (pv 0) (ai (pv 1) aj)))) (fv (i:=4) zD.nd rfl (aZ rfl))
  (aw (jE (cj cH (pv 3) (pv 4) (λ_ _=>rfl)) (jD (pv 2) (pv 4) set_list)))))),?_⟩
 obtain⟨bd,hb,hB⟩:=r.eG hd;obtain⟨ba,fL,wY⟩:=r.eG dj;refine⟨_,rfl,_,rfl,H0,L,x,n,t,_,0,d,bd,rfl,r,T,rfl,hb,?_⟩;refine⟨_,rfl,_,rfl,H0,L,x,n,t,_,1,a1,ba,rfl,r,T,rfl,fL,?_⟩;refine⟨_,rfl,_,rfl,H0,L,x,n,t,_,rfl,r,T,hm,λH1 a h1 ma ha=> ?_⟩;have k1:Kp L H H1:=λb o e _=>h1 b o e;refine⟨_,rfl,⟨_,aI.of ha⟩,lK (xs:=nats (cU x m)) (λi σ H'=>(∃u,σ=[some (.ref L.run),some (.ref t),some (.ref bd),some (.ref ba),u])/\ ∃y,LI R H0 L x n H1 m d (λl=>.ok (bP x a1 l)) i y H') ⟨⟨_,rfl⟩,x,LI.start (r.more h1) Kp.refl⟩ (λi σ H' _ p=> ?_) (λi v σ H' hi p=> ?_) λσ H' p=> ?_⟩
 ·obtain⟨_,y,I⟩:=p;exact aI.of (I.kp _ _ ha ma)
 ·obtain⟨⟨v0,rfl⟩,y,I⟩:=p;obtain⟨l,hl,rfl⟩:=pb hi;obtain⟨b2,ck,gT⟩:=I.at_.eG hd;rw[hb] at ck;cases ck;obtain⟨b3,eh,kx⟩:=I.at_.eG dj;rw[fL] at eh;cases eh;refine⟨_,rfl,_,rfl,_,_,_,_,rfl,rfl,aI.of kx,cX (I.get hl dj),?_⟩;refine⟨_,rfl,_,rfl,_,_,_,_,rfl,rfl,gT,jQ (by rw[bx,I.at_.wf.vec hd];exact I.lt hl),?_⟩
  exact⟨⟨_,rfl⟩,_,I.set hl hd hb rfl (r.nums.iB a1 l)⟩
 ·obtain⟨_,y,I⟩:=p;obtain⟨r2,k2⟩:=I.done r.wf hd;exact q H' r2 (k1.trans k2)
end
section
variable{P:aS}{w:aL}{K:az}{mg:Str->Option ah}{base:aC}{f:ae}{fd:bK}{R:Cl}
theorem AI(s:String)(t:Vaarrj.Text):nJ (.str (bV s)) (.str (MX.S t))=decide (t=aE s):=by
 show(bV s==MX.S t)=_;rw[MX.lZ,BJ,beq_iff_eq,decide_eq_true_eq];exact⟨λz=>(MX.lY z).symm,λz=>by rw[z]⟩
theorem j7{b:Bool}{A B:Prop}(h1:b=true->A)(h2:b=false->B):if b=true then A else B:=by
 cases b with
 |true=>exact dq (h1 rfl)
 |false=>exact dW (h2 rfl)
def G7:Sp:=λvs H Q _=>∃t:Vaarrj.Text,vs=[.str (MX.S t)]/\ ∀H',(∀b o,H b=some o->H' b=some o)->Q (.int (kindOf t:Nat)) H'
theorem aaX(F:aG K "refusal_kind" "refusal_kind" wk f fd)(g:GI mg):aD P w K mg base au 1 f fd ["operator"] G7:=by
 refine F.oK XO λaF A outer s H vs Q E hr h=> ?_;obtain⟨t,rfl,q⟩:=h;refine⟨_,ay (b7 (bW yK (pv 0) (CL (ai bZ (ai bZ (ai bZ aj)))) (by rfl)) (aw (bw (b_ g.Z4))) cJ)
  (ay (b7 (bW yK (pv 0) (CL (ai bZ (ai bZ aj))) (by rfl)) (aw (bw (b_ g.Z3))) cJ) (aw (bw (b_ g.Z5)))),?_⟩
 refine⟨_,rfl,(by show 3<=sizeLine;rw[aR];decide),λp hp=>⟨_,_,rfl,.inr (fQ.of aB),rfl,rfl,_,rfl,j7 (λz=> ?_) λz=> ?_⟩⟩
 ·have z:jI (.str (MX.S t)) [.str (bV "add"),.str (bV "sub"),.str (bV "mul")]=true:=z;simp only[jI,qM,B_,AI,sT,pK,decide_eq_true_eq] at z;have e:kindOf t=oC:=by unfold kindOf;rw[if_pos z]
  rw[e] at q;exact q _ λb o eb=>by rw[ak (bD eb hp)];exact eb
 ·have z:jI (.str (MX.S t)) [.str (bV "add"),.str (bV "sub"),.str (bV "mul")]=false:=z;have z: ¬(t=aE "add"\/t=aE "sub"\/t=aE "mul"):=λy=>by
   rw[<-Bool.not_eq_true] at z;apply z;simp only[jI,qM,B_,AI,sT,pK,decide_eq_true_eq];exact y
  refine⟨_,rfl,(by show 2<=sizeLine;rw[aR];decide),λp2 nV=>⟨_,_,rfl,.inr (fQ.of aB),rfl,rfl,_,rfl,j7 (λz2=> ?_) λz2=> ?_⟩⟩
  ·have z2:jI (.str (MX.S t)) [.str (bV "quo"),.str (bV "rem")]=true:=z2;simp only[jI,qM,B_,AI,sT,pK,decide_eq_true_eq] at z2;have e:kindOf t=vc:=by unfold kindOf;rw[if_neg z,if_pos z2]
   rw[e] at q;exact q _ λb o eb=>by rw[ak (bD (by rw[ak (bD eb hp)];exact eb) nV),ak (bD eb hp)];exact eb
  ·have z2:jI (.str (MX.S t)) [.str (bV "quo"),.str (bV "rem")]=false:=z2;have z2: ¬(t=aE "quo"\/t=aE "rem"):=λy=>by
    rw[<-Bool.not_eq_true] at z2;apply z2;simp only[jI,qM,B_,AI,sT,pK,decide_eq_true_eq];exact y
   have e:kindOf t=ng:=by unfold kindOf;rw[if_neg z,if_neg z2]
   rw[e] at q;exact q _ λb o eb=>by rw[ak (bD (by rw[ak (bD eb hp)];exact eb) nV),ak (bD eb hp)];exact eb
theorem aaY(F:Df K mg "refusal_kind" wk f fd)(g:GI mg):aN P w K mg base au 1 "refusal_kind" ["operator"] G7:=
 ⟨f,fd,aaX F.1 g,F.2,F.1.kp,F.1.b1 "operator"⟩
end
open Vaarrj (opName ops1 ops2 atPlace)
structure wZ(P:aS)(w:aL)(K:az)(mg:Str->Option ah)(base:aC):Prop where
 one:∃a D,mg "OF_ONE"=some (.ref a)/\Tab K w a D/\ ∀o,o<4->∃f fd ps,dU D (.inr (MX.S (opName ops1 o)))=some (.ref f)/\iN K (.ref f)=true/\aD P w K mg base au 2 f fd ps (rX o)/\Binds K fd ps []
 two:∃a D,mg "OF_TWO"=some (.ref a)/\Tab K w a D/\ ∀o,o<13->∃f fd ps,dU D (.inr (MX.S (opName ops2 o)))=some (.ref f)/\iN K (.ref f)=true/\aD P w K mg base au 2 f fd ps (h_ o)/\Binds K fd ps []
 kind:aN P w K mg base au 1 "refusal_kind" ["operator"] G7
theorem iH{X:Cx}{x:Str}{a:ae}{pos:Pos}(hm:X.mg x=some (.ref a))(hg:Gl X x:=by rfl)(hd:(x==("__debug__":Str))=false:=by decide):PE X (.Name x pos) (tC (.ref a)):=Cm (v:=.ref a) hg hm rfl hd
section
variable{P:aS}{w:aL}{K:az}{mg:Str->Option ah}{base:aC}{f:ae}{fd:bK}{R:Cl}
theorem aaZ(F:aG K "do_one" "do_one" E_ f fd)(G:fg P w K mg base R)(O:wZ P w K mg base):aD P w K mg base au 3 f fd ["run","told"] (fK R λi=>∃o d a p m,i=.one o d a p m):=by
 refine F.oK uu λaF A outer s H vs Q E hr h=> ?_;obtain⟨H0,L,x,n,t,i,b,c,rfl,⟨o,d,a1,p,m,rfl⟩,r,TT,⟨ho,hd,dj,hp,hm⟩,q⟩:=h;have cN:=hr.mono (show 1<=2 by decide)
 obtain⟨ta,D,mO,tab,ops⟩:=O.one;obtain⟨fo,w_,xa,eo,ko,Fo,bo⟩:=ops o ho;refine⟨_,ay (bH (i:=2) uu.nd rfl (aZ rfl) (rS (iH mO) (aP (pv 1) rfl) (λ_ _=>rfl))) (ay (bH (i:=3) uu.nd rfl (aZ rfl) (aY G.vec cN a_ (ai (pv 0) (ai (pv 1) (ai aQ aj))))) (ay (bH (i:=4) uu.nd rfl (aZ rfl) (aY G.vec cN a_ (ai (pv 0) (ai (pv 1) (ai aQ aj)))))
  (aw (lI j6 rfl (g8 (aY G.act cN a_ (ai (pv 0) (ai (pv 1) aj)))) (fv (i:=5) uu.nd rfl (aZ rfl))
  (ay (bH (i:=6) uu.nd rfl (aZ rfl) (zo (i:=2) rfl (aZ rfl) (ai (cj cH (pv 4) (pv 5) (λ_ _=>rfl)) aj)))
  (aw (b7 (jh (oG (pv 6))) (aw (bO (aY G.fail cN a_ (ai (pv 0) (ai (pv 5) (ai (aY O.kind cN a_ (ai (aP (pv 1) rfl) aj)) (ai (aP (pv 1) rfl) aj)))))))
    (aw (jE (pv 6) (jD (pv 3) (pv 5) set_list)))))))))),?_⟩
 obtain⟨bd,hb,hB⟩:=r.eG hd;obtain⟨ba,fL,wY⟩:=r.eG dj;have T:=TT.mono r.old;obtain⟨dx,fs,ol,T1⟩:=T;refine⟨_,rfl,_,_,_,_,_,rfl,T1.ob,G.ek.bX,G.ek.nU,T1.op,ta,D,.inr (MX.S (opName ops1 o)),.ref fo,rfl,rfl,tab,eo,?_⟩;refine⟨_,rfl,_,rfl,H0,L,x,n,t,_,0,d,bd,rfl,r,⟨dx,fs,ol,T1⟩,rfl,hb,?_⟩;refine⟨_,rfl,_,rfl,H0,L,x,n,t,_,1,a1,ba,rfl,r,⟨dx,fs,ol,T1⟩,rfl,fL,?_⟩;refine⟨_,rfl,_,rfl,H0,L,x,n,t,_,rfl,r,⟨dx,fs,ol,T1⟩,hm,λH1 a h1 ma ha=> ?_⟩;have k1:Kp L H H1:=λb o e _=>h1 b o e;refine⟨_,rfl,⟨_,aI.of ha⟩,lK (xs:=nats (cU x m)) (λi σ H'=>(∃u v,σ=[some (.ref L.run),some (.ref t),some (.ref fo),some (.ref bd),some (.ref ba),u,v])/\ ∃y,LI R H0 L x n H1 m d (λl=>atPlace p (work1 o (bP x a1 l))) i y H') ⟨⟨_,_,rfl⟩,x,LI.start (r.more h1) Kp.refl⟩ (λi σ H' _ p=> ?_) (λi v σ H' hi p=> ?_) λσ H' p=> ?_⟩
 ·obtain⟨_,y,I⟩:=p;exact aI.of (I.kp _ _ ha ma)
 ·obtain⟨⟨v0,v1,rfl⟩,y,I⟩:=p;obtain⟨l,hl,rfl⟩:=pb hi;obtain⟨b2,ck,gT⟩:=I.at_.eG hd;rw[hb] at ck;cases ck;obtain⟨b3,eh,kx⟩:=I.at_.eG dj;rw[fL] at eh;cases eh;refine⟨fo,rfl,ko,_,rfl,_,rfl,_,_,_,_,rfl,rfl,aI.of kx,cX (I.get hl dj),?_⟩;refine⟨λvs H Q=>rX o vs H Q E0,⟨au,2,w_,xa,rX o,E0,Fo,hr,bo,a_,λvs H Q h=>h⟩,bP x a1 l,rfl,r.nums.iB a1 l,?_⟩;cases ew:work1 o (bP x a1 l) with
  |ok v=>
   refine⟨_,rfl,_,rfl,dW ?_⟩;refine⟨_,rfl,_,rfl,_,rfl,_,_,_,_,rfl,rfl,gT,jQ (by rw[bx,I.at_.wf.vec hd];exact I.lt hl),?_⟩
   exact⟨⟨_,_,rfl⟩,_,I.set hl hd hb (by show atPlace p _=_;rw[ew];rfl) (Vt (r.nums.iB a1 l) ew)⟩
  |error k=>
   obtain⟨AJ,fs2,ol2,T2⟩:=TT.mono I.at_.old;refine⟨_,rfl,_,rfl,dq ?_⟩;refine⟨_,rfl,_,rfl,_,rfl,_,_,_,_,_,rfl,T2.ob,G.ek.bX,G.ek.nU,T2.op,opName ops1 o,rfl,λH2 h2=> ?_⟩;rw[aaz ho ew];refine⟨_,rfl,_,_,_,_,_,rfl,h2 _ _ T2.ob,G.ek.bX,G.ek.r6,T2.p,?_⟩;refine⟨H0,L,y,n,l,k,p,rfl,I.at_.more h2,I.lt hl,λH3 r3 k3=> ?_⟩;exact⟨⟨_,_,rfl⟩,_,I.fail hl hd (by show atPlace p _=_;rw[ew];rfl) r3 (Kp.trans (λb o e _=>h2 b o e) k3)⟩
 ·obtain⟨_,y,I⟩:=p;obtain⟨r2,k2⟩:=I.done r.wf hd;exact q H' r2 (k1.trans k2)
end
open Vaarrj (elementOf)
section
variable{P:aS}{w:aL}{K:az}{mg:Str->Option ah}{base:aC}{f:ae}{fd:bK}{R:Cl}
theorem aa0(F:aG K "do_two" "do_two" Fb f fd)(G:fg P w K mg base R)(O:wZ P w K mg base):aD P w K mg base au 3 f fd ["run","told"] (fK R λi=>∃o d a b p m,i=.two o d a b p m):=by
 refine F.oK rW λaF A outer s H vs Q E hr h=> ?_;obtain⟨H0,L,x,n,t,i,b,c,rfl,⟨o,d,a1,a2,p,m,rfl⟩,r,TT,⟨ho,hd,dj,ig,hp,hm⟩,q⟩:=h;have cN:=hr.mono (show 1<=2 by decide)
 obtain⟨ta,D,mO,tab,ops⟩:=O.two;obtain⟨fo,w_,xa,eo,ko,Fo,bo⟩:=ops o ho;refine⟨_,ay (bH (i:=2) rW.nd rfl (aZ rfl) (rS (iH mO) (aP (pv 1) rfl) (λ_ _=>rfl))) (ay (bH (i:=3) rW.nd rfl (aZ rfl) (aY G.vec cN a_ (ai (pv 0) (ai (pv 1) (ai aQ aj))))) (ay (bH (i:=4) rW.nd rfl (aZ rfl) (aY G.vec cN a_ (ai (pv 0) (ai (pv 1) (ai aQ aj)))))
  (ay (bH (i:=5) rW.nd rfl (aZ rfl) (aY G.vec cN a_ (ai (pv 0) (ai (pv 1) (ai aQ aj)))))
  (aw (lI j6 rfl (g8 (aY G.act cN a_ (ai (pv 0) (ai (pv 1) aj)))) (fv (i:=6) rW.nd rfl (aZ rfl))
  (ay (bH (i:=7) rW.nd rfl (aZ rfl) (zo (i:=2) rfl (aZ rfl) (ai (cj cH (pv 4) (pv 6) (λ_ _=>rfl)) (ai (cj cH (pv 5) (pv 6) (λ_ _=>rfl)) aj))))
  (aw (b7 (jh (oG (pv 7))) (aw (bO (aY G.fail cN a_ (ai (pv 0) (ai (pv 6) (ai (aY O.kind cN a_ (ai (aP (pv 1) rfl) aj)) (ai (aP (pv 1) rfl) aj)))))))
    (aw (jE (pv 7) (jD (pv 3) (pv 6) set_list))))))))))),?_⟩
 obtain⟨bd,hb,hB⟩:=r.eG hd;obtain⟨ba,fL,wY⟩:=r.eG dj;obtain⟨bb,mv,hBb⟩:=r.eG ig;have T:=TT.mono r.old;obtain⟨dx,fs,ol,T1⟩:=T;refine⟨_,rfl,_,_,_,_,_,rfl,T1.ob,G.ek.bX,G.ek.nU,T1.op,ta,D,.inr (MX.S (opName ops2 o)),.ref fo,rfl,rfl,tab,eo,?_⟩;refine⟨_,rfl,_,rfl,H0,L,x,n,t,_,0,d,bd,rfl,r,⟨dx,fs,ol,T1⟩,rfl,hb,?_⟩;refine⟨_,rfl,_,rfl,H0,L,x,n,t,_,1,a1,ba,rfl,r,⟨dx,fs,ol,T1⟩,rfl,fL,?_⟩;refine⟨_,rfl,_,rfl,H0,L,x,n,t,_,2,a2,bb,rfl,r,⟨dx,fs,ol,T1⟩,rfl,mv,?_⟩;refine⟨_,rfl,_,rfl,H0,L,x,n,t,_,rfl,r,⟨dx,fs,ol,T1⟩,hm,λH1 a h1 ma ha=> ?_⟩;have k1:Kp L H H1:=λb o e _=>h1 b o e;refine⟨_,rfl,⟨_,aI.of ha⟩,lK (xs:=nats (cU x m)) (λi σ H'=>(∃u v,σ=[some (.ref L.run),some (.ref t),some (.ref fo),some (.ref bd),some (.ref ba),some (.ref bb),u,v])/\ ∃y,LI R H0 L x n H1 m d (λl=>atPlace p (work2 o (bP x a1 l) (bP x a2 l))) i y H') ⟨⟨_,_,rfl⟩,x,LI.start (r.more h1) Kp.refl⟩ (λi σ H' _ p=> ?_) (λi v σ H' hi p=> ?_) λσ H' p=> ?_⟩
 ·obtain⟨_,y,I⟩:=p;exact aI.of (I.kp _ _ ha ma)
 ·obtain⟨⟨v0,v1,rfl⟩,y,I⟩:=p;obtain⟨l,hl,rfl⟩:=pb hi;obtain⟨b2,ck,gT⟩:=I.at_.eG hd;rw[hb] at ck;cases ck;obtain⟨b3,eh,kx⟩:=I.at_.eG dj;rw[fL] at eh;cases eh;obtain⟨b4,mw,qt⟩:=I.at_.eG ig;rw[mv] at mw;cases mw;refine⟨fo,rfl,ko,_,rfl,_,rfl,_,_,_,_,rfl,rfl,aI.of kx,cX (I.get hl dj),?_⟩;refine⟨_,rfl,_,rfl,_,_,_,_,rfl,rfl,aI.of qt,cX (I.get hl ig),?_⟩;refine⟨λvs H Q=>h_ o vs H Q E0,⟨au,2,w_,xa,h_ o,E0,Fo,hr,bo,a_,λvs H Q h=>h⟩,bP x a1 l,bP x a2 l,rfl,r.nums.iB a1 l,r.nums.iB a2 l,?_⟩;cases ew:work2 o (bP x a1 l) (bP x a2 l) with
  |ok v=>
   refine⟨_,rfl,_,rfl,dW ?_⟩;refine⟨_,rfl,_,rfl,_,rfl,_,_,_,_,rfl,rfl,gT,jQ (by rw[bx,I.at_.wf.vec hd];exact I.lt hl),?_⟩
   exact⟨⟨_,_,rfl⟩,_,I.set hl hd hb (by show atPlace p _=_;rw[ew];rfl) (L1 (r.nums.iB a1 l) (r.nums.iB a2 l) ew)⟩
  |error k=>
   obtain⟨AJ,fs2,ol2,T2⟩:=TT.mono I.at_.old;refine⟨_,rfl,_,rfl,dq ?_⟩;refine⟨_,rfl,_,rfl,_,rfl,_,_,_,_,_,rfl,T2.ob,G.ek.bX,G.ek.nU,T2.op,opName ops2 o,rfl,λH2 h2=> ?_⟩;rw[Nr ho ew];refine⟨_,rfl,_,_,_,_,_,rfl,h2 _ _ T2.ob,G.ek.bX,G.ek.r6,T2.p,?_⟩;refine⟨H0,L,y,n,l,k,p,rfl,I.at_.more h2,I.lt hl,λH3 r3 k3=> ?_⟩;exact⟨⟨_,_,rfl⟩,_,I.fail hl hd (by show atPlace p _=_;rw[ew];rfl) r3 (Kp.trans (λb o e _=>h2 b o e) k3)⟩
 ·obtain⟨_,y,I⟩:=p;obtain⟨r2,k2⟩:=I.done r.wf hd;exact q H' r2 (k1.trans k2)
def AK(R:Cl):Sp:=λvs H Q _=>∃H0 L x n t T d ra a k p,vs=[.ref L.run,.ref t,.int (k:Nat),.int (p:Nat)]/\bJ R H0 L x n H/\Told R H t T/\T.os=[((d:Nat):Int),((ra:Nat):Int),((a:Nat):Int)]/\d<16/\ra<x.arrays.length/\a<16/\ (∀k,T.m=some k->k<8)/\
 ∀H',bJ R H0 L (inLanes x T.m d λl=>yg (dJ x ra) (bP x a l) (k,p)) n H'->Kp L H H'->Q .aO H'
theorem aa1{a:List Int}{n:Int}{e:Fault}(h0:0<=n)(h1:n<(a.length:Int)):∃v,a[n.toNat]? =some v/\yg a n e=.ok v:=by
 have hl:n.toNat<a.length:=by omega
 refine⟨_,eI hl,?_⟩;unfold yg;rw[if_pos h0,eI hl]
theorem Nw{a:List Int}{n:Int}{e:Fault}(h: ¬(0<=n/\n<(a.length:Int))):yg a n e=.error e:=by
 unfold yg;by_cases h0:0<=n
 ·have hl:a.length<=n.toNat:=by omega
  rw[if_pos h0,pG hl]
 ·rw[if_neg h0]
end
section
variable{P:aS}{w:aL}{K:az}{mg:Str->Option ah}{base:aC}{f:ae}{fd:bK}{R:Cl}
theorem gj:mU "len"=some (.builtin "len"):=by decide+kernel
theorem aa2(F:aG K "take_from_array" "take_from_array" zE f fd)(G:fg P w K mg base R)(g:GI mg):aD P w K mg base au 2 f fd ["run","told","kind","place"] (AK R):=by
 refine F.oK wu λaF A outer s H vs Q E hr h=> ?_;obtain⟨H0,L,x,n,t,T,d,ra,a1,k,p,rfl,r,hT,ho,hd,nW,dj,hm,q⟩:=h;refine⟨_,ay (bH (i:=4) wu.nd rfl (aZ rfl) (aY G.vec hr a_ (ai (pv 0) (ai (pv 1) (ai aQ aj))))) (ay (bH (i:=5) wu.nd rfl (aZ rfl) (cj cH (aP (pv 0) rfl) (cj cH (aP (pv 1) rfl) aQ (λ_ _=>rfl)) (λ_ _=>rfl)))
  (ay (bH (i:=6) wu.nd rfl (aZ rfl) (aY G.vec hr a_ (ai (pv 0) (ai (pv 1) (ai aQ aj)))))
  (aw (lI j6 rfl (g8 (aY G.act hr a_ (ai (pv 0) (ai (pv 1) aj)))) (fv (i:=7) wu.nd rfl (aZ rfl))
  (aw (b7 (vn iQ gz aQ (cj cH (pv 6) (pv 7) (λ_ _=>rfl)) (eS iA (by rfl) g.fW gj (ai (pv 5) aj)))
    (aw (jE (cj cH (pv 5) (cj cH (pv 6) (pv 7) (λ_ _=>rfl)) (λ_ _=>rfl)) (jD (pv 4) (pv 7) set_list)))
    (aw (bO (aY G.fail hr a_ (ai (pv 0) (ai (pv 7) (ai (pv 2) (ai (pv 3) aj))))))))))))),?_⟩
 obtain⟨bd,hb,hB⟩:=r.eG hd;obtain⟨ba,fL,wY⟩:=r.eG dj;obtain⟨br,uA,hBr⟩:=r.AA nW;obtain⟨un,hu,hR,hU⟩:=r.ju;have sd:=hT;obtain⟨dx,fs,ol,T1⟩:=hT;refine⟨_,rfl,_,rfl,H0,L,x,n,t,T,0,d,bd,rfl,r,sd,by rw[ho];rfl,hb,?_⟩
 refine⟨_,rfl,_,_,_,_,_,rfl,hR,G.ek.eU,G.ek.AB,rfl,_,rfl,_,_,_,_,_,rfl,T1.ob,G.ek.bX,G.ek.jP,T1.os,_,_,_,_,rfl,rfl,aI.of T1.ls,cX (k:=1) (v:=.int (ra:Nat)) (by rw[ho];rfl),?_⟩
 refine⟨_,_,_,_,rfl,rfl,aI.of r.ar.2,cX (ia uA),?_⟩;refine⟨_,rfl,_,rfl,H0,L,x,n,t,T,2,a1,ba,rfl,r,sd,by rw[ho];rfl,fL,?_⟩
 refine⟨_,rfl,_,rfl,H0,L,x,n,t,T,rfl,r,sd,hm,λH1 a h1 ma ha=> ?_⟩;have k1:Kp L H H1:=λb o e _=>h1 b o e;refine⟨_,rfl,⟨_,aI.of ha⟩,lK (xs:=nats (cU x T.m)) (λi σ H'=>(∃u,σ=[some (.ref L.run),some (.ref t),some (.int (k:Nat)),some (.int (p:Nat)),some (.ref bd),some (.ref br),some (.ref ba),u])/\ ∃y,LI R H0 L x n H1 T.m d (λl=>yg (dJ x ra) (bP x a1 l) (k,p)) i y H') ⟨⟨_,rfl⟩,x,LI.start (r.more h1) Kp.refl⟩ (λi σ H' _ p=> ?_) (λi v σ H' hi p=> ?_) λσ H' p=> ?_⟩
 ·obtain⟨_,y,I⟩:=p;exact aI.of (I.kp _ _ ha ma)
 ·obtain⟨⟨v0,rfl⟩,y,I⟩:=p;obtain⟨l,hl,rfl⟩:=pb hi;obtain⟨b2,ck,gT⟩:=I.at_.eG hd;rw[hb] at ck;cases ck;obtain⟨b3,eh,kx⟩:=I.at_.eG dj;rw[fL] at eh;cases eh;obtain⟨b4,mw,qt⟩:=I.at_.AA (k:=ra) (by rw[I.mid.ar];exact nW)
  rw[uA] at mw;cases mw;have ea:dJ y ra=dJ x ra:=by unfold dJ;rw[I.mid.ar]
  rw[ea] at qt;refine⟨_,rfl,_,rfl,_,_,_,_,rfl,rfl,aI.of kx,cX (I.get hl dj),_,_,rfl,rfl,_,rfl,bY (λl1=> ?_) λl1=>⟨_,rfl,dW ?_⟩⟩
  ·refine⟨_,rfl,_,_,rfl,.inl (aI.of qt),_,_,rfl,rfl,_,rfl,bY (λl2=> ?_) λl2=> ?_⟩
   ·rw[bx] at l2;obtain⟨v,ev,ee⟩:=aa1 (e:=(k,p)) l1 l2;have G8:(((bP x a1 l).toNat:Nat):Int)=bP x a1 l:=Jp l1;refine⟨_,rfl,_,rfl,_,rfl,_,_,_,_,rfl,rfl,aI.of kx,cX (I.get hl dj),_,_,_,_,rfl,rfl,aI.of qt,(by rw[<-G8];exact cX (ia ev)),?_⟩
    refine⟨_,rfl,_,rfl,_,_,_,_,rfl,rfl,gT,jQ (by rw[bx,I.at_.wf.vec hd];exact I.lt hl),?_⟩
    exact⟨⟨_,rfl⟩,_,I.set hl hd hb ee (r.nums.array ra v (d7 ev))⟩
   ·rw[bx] at l2;exact⟨_,rfl,_,rfl,_,rfl,_,rfl,H0,L,y,n,l,k,p,rfl,I.at_,I.lt hl,λH3 r3 k3=>⟨⟨_,rfl⟩,_,I.fail hl hd (Nw λz=>l2 z.2) r3 k3⟩⟩
  ·exact⟨_,rfl,_,rfl,_,rfl,_,rfl,H0,L,y,n,l,k,p,rfl,I.at_,I.lt hl,λH3 r3 k3=>⟨⟨_,rfl⟩,_,I.fail hl hd (Nw λz=>l1 z.1) r3 k3⟩⟩
 ·obtain⟨_,y,I⟩:=p;obtain⟨r2,k2⟩:=I.done r.wf hd;exact q H' r2 (k1.trans k2)
theorem aa3(F:Df K mg "take_from_array" zE f fd)(G:fg P w K mg base R)(g:GI mg):aN P w K mg base au 2 "take_from_array" ["run","told","kind","place"] (AK R):=
 ⟨f,fd,aa2 F.1 G g,F.2,F.1.kp,F.1.b4 "run" "told" "kind" "place"⟩
theorem aa4(F:aG K "do_read" "do_read" Fd f fd)(g:GI mg)(GF:aN P w K mg base au 2 "take_from_array" ["run","told","kind","place"] (AK R)):aD P w K mg base au 3 f fd ["run","told"] (fK R λi=>∃d ra a m,i=.read d ra a m):=by
 refine F.oK Yd λaF A outer s H vs Q E hr h=> ?_;obtain⟨H0,L,x,n,t,i,b,c,rfl,⟨d,ra,a,m,rfl⟩,r,T,⟨hd,nW,ha,hm⟩,q⟩:=h;refine⟨_,aw (bO (aY GF hr a_ (ai (pv 0) (ai (pv 1) (ai (b_ g.Gw) (ai aQ aj)))))),?_⟩;exact⟨_,rfl,_,rfl,H0,L,x,n,t,_,d,ra,a,12,0,rfl,r,T.mono r.old,rfl,hd,nW,ha,hm,q⟩
theorem aa5(F:aG K "do_pick" "do_pick" Fe f fd)(G:fg P w K mg base R)(g:GI mg)(GF:aN P w K mg base au 2 "take_from_array" ["run","told","kind","place"] (AK R)):aD P w K mg base au 3 f fd ["run","told"] (fK R λi=>∃d ra a p m,i=.pick d ra a p m):=by
 refine F.oK Yf λaF A outer s H vs Q E hr h=> ?_;obtain⟨H0,L,x,n,t,i,b,c,rfl,⟨d,ra,a,p,m,rfl⟩,r,T,⟨hd,nW,ha,hp,hm⟩,q⟩:=h;refine⟨_,aw (bO (aY GF hr a_ (ai (pv 0) (ai (pv 1) (ai (b_ g.Z2) (ai (aP (pv 1) rfl) aj)))))),?_⟩;have T0:=T.mono r.old;obtain⟨dx,fs,ol,T1⟩:=T0;exact⟨_,rfl,_,rfl,_,rfl,_,_,_,_,_,rfl,T1.ob,G.ek.bX,G.ek.r6,T1.p,H0,L,x,n,t,_,d,ra,a,3,p,rfl,r,T.mono r.old,rfl,hd,nW,ha,hm,q⟩
end
open Vaarrj (writeLanes maskLanes)
structure WI(R:Cl)(H0:Hp)(L:Rn)(x:bj)(n:Nat)(H:Hp)(m:Option Nat)(ra a b:Nat)(i:Nat)(y:bj)(H':Hp):Prop where
 eq:y=((cU x m).take i).foldl (rK x ra a b) x
 at_:bJ R H0 L y n H'
 kp:Kp L H H'
 vs:y.vs=x.vs
 w:y.width=x.width
 al:y.arrays.length=x.arrays.length
 len:(dJ y ra).length=(dJ x ra).length
section
variable{P:aS}{w:aL}{K:az}{mg:Str->Option ah}{base:aC}{f:ae}{fd:bK}{R:Cl}{H0 H H' H2:Hp}{L:Rn}{x y:bj}{n:Nat}{m:Option Nat}{ra a b i l:Nat}
theorem WI.iB(I:WI R H0 L x n H m ra a b i y H')(k j:Nat):bP y k j=bP x k j:=by unfold bP c8;rw[I.vs]
theorem WI.get(I:WI R H0 L x n H m ra a b i y H')(hl:l<x.width){k:Nat}(hk:k<16):((c8 y k).map V.int)[l]? =some (.int (bP x k l)):=by
 rw[<-I.iB k l];exact ia (y_ (by rw[I.at_.wf.vec hk,I.w];exact hl))
theorem aa6(F:aG K "do_write" "do_write" Ff f fd)(G:fg P w K mg base R)(g:GI mg):aD P w K mg base au 2 f fd ["run","told"] (fK R λi=>∃ra a b m,i=.write ra a b m):=by
 refine F.oK wx λaF A outer s H vs Q E hr h=> ?_;obtain⟨H0,L,x,n,t,i,b,c,rfl,⟨ra,a1,a2,m,rfl⟩,r,TT,⟨nW,dj,ig,hm⟩,q⟩:=h;refine⟨_,ay (bH (i:=2) wx.nd rfl (aZ rfl) (cj cH (aP (pv 0) rfl) (cj cH (aP (pv 1) rfl) aQ (λ_ _=>rfl)) (λ_ _=>rfl))) (ay (bH (i:=3) wx.nd rfl (aZ rfl) (aY G.vec hr a_ (ai (pv 0) (ai (pv 1) (ai aQ aj)))))
  (ay (bH (i:=4) wx.nd rfl (aZ rfl) (aY G.vec hr a_ (ai (pv 0) (ai (pv 1) (ai aQ aj)))))
  (aw (lI j6 rfl (g8 (aY G.act hr a_ (ai (pv 0) (ai (pv 1) aj)))) (fv (i:=5) wx.nd rfl (aZ rfl))
  (aw (b7 (vn iQ gz aQ (cj cH (pv 3) (pv 5) (λ_ _=>rfl)) (eS iA (by rfl) g.fW gj (ai (pv 2) aj)))
    (aw (jE (cj cH (pv 4) (pv 5) (λ_ _=>rfl)) (jD (pv 2) (cj cH (pv 3) (pv 5) (λ_ _=>rfl)) set_list)))
    (aw (bO (aY G.fail hr a_ (ai (pv 0) (ai (pv 5) (ai (b_ g.Gw) (ai aQ aj))))))))))))),?_⟩
 obtain⟨ba,fL,wY⟩:=r.eG dj;obtain⟨bb,mv,hBb⟩:=r.eG ig;obtain⟨br,uA,hBr⟩:=r.AA nW;obtain⟨un,hu,hR,hU⟩:=r.ju;have sd:=TT.mono r.old;obtain⟨dx,fs,ol,T1⟩:=TT.mono r.old;refine⟨_,rfl,_,_,_,_,_,rfl,hR,G.ek.eU,G.ek.AB,rfl,_,rfl,_,_,_,_,_,rfl,T1.ob,G.ek.bX,G.ek.jP,T1.os,_,_,_,_,rfl,rfl,aI.of T1.ls,cX (k:=0) (v:=.int (ra:Nat)) rfl,?_⟩;refine⟨_,_,_,_,rfl,rfl,aI.of r.ar.2,cX (ia uA),?_⟩;refine⟨_,rfl,_,rfl,H0,L,x,n,t,_,1,a1,ba,rfl,r,sd,rfl,fL,?_⟩;refine⟨_,rfl,_,rfl,H0,L,x,n,t,_,2,a2,bb,rfl,r,sd,rfl,mv,?_⟩;refine⟨_,rfl,_,rfl,H0,L,x,n,t,_,rfl,r,sd,hm,λH1 a h1 ma ha=> ?_⟩;have k1:Kp L H H1:=λb o e _=>h1 b o e;refine⟨_,rfl,⟨_,aI.of ha⟩,lK (xs:=nats (cU x m)) (λi σ H'=>(∃u,σ=[some (.ref L.run),some (.ref t),some (.ref br),some (.ref ba),some (.ref bb),u])/\ ∃y,WI R H0 L x n H1 m ra a1 a2 i y H') ⟨⟨_,rfl⟩,x,rfl,r.more h1,Kp.refl,rfl,rfl,rfl,rfl⟩ (λi σ H' _ p=> ?_) (λi v σ H' hi p=> ?_) λσ H' p=> ?_⟩
 ·obtain⟨_,y,I⟩:=p;exact aI.of (I.kp _ _ ha ma)
 ·obtain⟨⟨v0,rfl⟩,y,I⟩:=p;obtain⟨l,hl,rfl⟩:=pb hi;have lw:l<x.width:=vT (d7 hl);obtain⟨b2,ck,gT⟩:=I.at_.eG ig;rw[mv] at ck;cases ck;obtain⟨b3,eh,kx⟩:=I.at_.eG dj;rw[fL] at eh;cases eh;obtain⟨b4,mw,qt⟩:=I.at_.AA (k:=ra) (by rw[I.al];exact nW)
  rw[uA] at mw;cases mw;have Ny:((cU x m).take (i+1)).foldl (rK x ra a1 a2) x=rK x ra a1 a2 y l:=by rw[take_snoc hl,Qj,<-I.eq];rfl
  have bad: ¬(0<=bP x a1 l/\bP x a1 l<((dJ x ra).length:Int))->∀H3,bJ R H0 L (gC y l (12,0)) n H3->Kp L H' H3->∃y,WI R H0 L x n H1 m ra a1 a2 (i+1) y H3:=λz H3 r3 k3=>
   ⟨gC y l (12,0),by rw[Ny];unfold rK;rw[if_neg z];rfl,r3,I.kp.trans k3,I.vs,I.w,I.al,I.len⟩
  refine⟨_,rfl,_,rfl,_,_,_,_,rfl,rfl,aI.of kx,cX (I.get lw dj),_,_,rfl,rfl,_,rfl,bY (λl1=> ?_) λl1=>⟨_,rfl,dW ?_⟩⟩
  ·refine⟨_,rfl,_,_,rfl,.inl (aI.of qt),_,_,rfl,rfl,_,rfl,bY (λl2=> ?_) λl2=> ?_⟩
   ·rw[bx,I.len] at l2;have G8:(((bP x a1 l).toNat:Nat):Int)=bP x a1 l:=Jp l1;refine⟨_,rfl,_,rfl,_,_,_,_,rfl,rfl,aI.of gT,cX (I.get lw ig),?_⟩;refine⟨_,rfl,_,rfl,_,rfl,_,_,_,_,rfl,rfl,aI.of kx,cX (I.get lw dj),?_⟩;refine⟨_,_,_,_,rfl,rfl,qt,(by rw[<-G8];exact jQ (by rw[bx,I.len];omega)),?_⟩
    have wr:=I.at_.zd uA (v:=(dJ y ra).set (bP x a1 l).toNat (bP x a2 l)) λk hk=>(mem_set hk).elim (λz=>by rw[z];exact r.nums.iB a2 l) (I.at_.nums.array ra k)
    rw[u7] at wr;refine⟨⟨_,rfl⟩,_,by rw[Ny];unfold rK;rw[if_pos ⟨l1,l2⟩],wr.1,I.kp.trans wr.2,I.vs,I.w,?_,?_⟩
    ·show(y.arrays.set _ _).length=_;rw[gV];exact I.al
    ·show(dJ {y with arrays:=y.arrays.set ra _} ra).length=_
     rw[show dJ {y with arrays:=y.arrays.set ra ((dJ y ra).set (bP x a1 l).toNat (bP x a2 l))} ra=(dJ y ra).set (bP x a1 l).toNat (bP x a2 l) from Az (by rw[I.al];exact nW),gV]
     exact I.len
   ·rw[bx,I.len] at l2;exact⟨_,rfl,_,rfl,H0,L,y,n,l,12,0,rfl,I.at_,by rw[I.w];exact lw,λH3 r3 k3=>⟨⟨_,rfl⟩,bad (λz=>l2 z.2) H3 r3 k3⟩⟩
  ·exact⟨_,rfl,_,rfl,H0,L,y,n,l,12,0,rfl,I.at_,by rw[I.w];exact lw,λH3 r3 k3=>⟨⟨_,rfl⟩,bad (λz=>l1 z.1) H3 r3 k3⟩⟩
 ·obtain⟨_,y,I⟩:=p;have e:=I.eq;rw[show(nats (cU x m)).length=(cU x m).length from bx _,oE] at e;have e2:B2 x m ra a1 a2 (cB x.width) x=y:=by rw[za];exact e.symm
  have r2:=I.at_;rw[<-e2] at r2;exact q H' r2 (k1.trans I.kp)
end
structure MI(R:Cl)(H0:Hp)(L:Rn)(x:bj)(n:Nat)(H:Hp)(qs:List Nat)(d:Nat)(f:Nat->Bool)(i:Nat)(y:bj)(H':Hp):Prop where
 eq:y=(qs.take i).foldl (λy l=>ki y d l (f l)) x
 at_:bJ R H0 L y n H'
 kp:Kp L H H'
 mid:rL x y d (qs.take i)
section
variable{P:aS}{w:aL}{K:az}{mg:Str->Option ah}{base:aC}{fa:ae}{fd:bK}{R:Cl}{H0 H H' H2:Hp}{L:Rn}{x y:bj}{n:Nat}{qs:List Nat}{d i l:Nat}{f:Nat->Bool}
theorem MI.start(r:bJ R H0 L x n H2)(k:Kp L H H2):MI R H0 L x n H qs d f 0 x H2:=⟨rfl,r,k,rL.start r.wf d⟩
theorem MI.set(I:MI R H0 L x n H qs d f i y H')(hl:qs[i]? =some l)(hd:d<8){b:ae}(hb:L.ma[d]? =some b){v:V}(hv:v=bit (f l)):MI R H0 L x n H qs d f (i+1) (ki y d l (f l)) (upd H' b (.lst (((maskOf y d).map bit).set l v))):=by
 have w:=I.at_.setMask hb (v:=(maskOf y d).set l (f l)) (by rw[gV];exact I.at_.wf.mask hd)
 rw[u7,<-hv] at w;exact⟨by rw[take_snoc hl,Qj,<-I.eq];rfl,w.1,I.kp.trans w.2,by rw[take_snoc hl];exact I.mid.step hd _⟩
theorem MI.iB(I:MI R H0 L x n H qs d f i y H')(a j:Nat):bP y a j=bP x a j:=by unfold bP c8;rw[I.mid.vs]
theorem aa7(F:aG K "do_test" "do_test" Fg fa fd)(G:fg P w K mg base R):aD P w K mg base au 2 fa fd ["run","told"] (fK R λi=>∃d a m,i=.test d a m):=by
 refine F.oK zF λaF A outer s H vs Q E hr h=> ?_;obtain⟨H0,L,x,n,t,i,b,c,rfl,⟨d,a1,m,rfl⟩,r,TT,⟨hd,dj,hm⟩,q⟩:=h;refine⟨_,ay (bH (i:=2) zF.nd rfl (aZ rfl) (aY G.jM hr a_ (ai (pv 0) (ai (pv 1) (ai aQ aj))))) (ay (bH (i:=3) zF.nd rfl (aZ rfl) (aY G.vec hr a_ (ai (pv 0) (ai (pv 1) (ai aQ aj)))))
  (aw (lI j6 rfl (g8 (aY G.act hr a_ (ai (pv 0) (ai (pv 1) aj)))) (fv (i:=4) zF.nd rfl (aZ rfl))
  (aw (jE (ji (bW jj (cj cH (pv 3) (pv 4) (λ_ _=>rfl)) aQ (bQ _)) aQ aQ) (jD (pv 2) (pv 4) set_list)))))),?_⟩
 obtain⟨bd,hb,hB⟩:=r.kX hd;obtain⟨ba,fL,wY⟩:=r.eG dj;have T:=TT.mono r.old;refine⟨_,rfl,_,rfl,H0,L,x,n,t,_,0,d,bd,rfl,r,T,rfl,hb,?_⟩;refine⟨_,rfl,_,rfl,H0,L,x,n,t,_,1,a1,ba,rfl,r,T,rfl,fL,?_⟩;refine⟨_,rfl,_,rfl,H0,L,x,n,t,_,rfl,r,T,hm,λH1 a h1 ma ha=> ?_⟩;have k1:Kp L H H1:=λb o e _=>h1 b o e;refine⟨_,rfl,⟨_,aI.of ha⟩,lK (xs:=nats (cU x m)) (λi σ H'=>(∃u,σ=[some (.ref L.run),some (.ref t),some (.ref bd),some (.ref ba),u])/\ ∃y,MI R H0 L x n H1 (cU x m) d (λl=>bP x a1 l !=0) i y H') ⟨⟨_,rfl⟩,x,MI.start (r.more h1) Kp.refl⟩ (λi σ H' _ p=> ?_) (λi v σ H' hi p=> ?_) λσ H' p=> ?_⟩
 ·obtain⟨_,y,I⟩:=p;exact aI.of (I.kp _ _ ha ma)
 ·obtain⟨⟨v0,rfl⟩,y,I⟩:=p;obtain⟨l,hl,rfl⟩:=pb hi;have lw:l<x.width:=vT (d7 hl);obtain⟨b2,ck,gT⟩:=I.at_.kX hd;rw[hb] at ck;cases ck;obtain⟨b3,eh,kx⟩:=I.at_.eG dj;rw[fL] at eh;cases eh;have gl:((c8 y a1).map V.int)[l]? =some (.int (bP x a1 l)):=by
   rw[<-I.iB a1 l];exact ia (y_ (by rw[I.at_.wf.vec dj,I.mid.w];exact lw))
  have ix:ka ((maskOf y d).map bit).length ((l:Nat):Int)=some l:=jQ (by rw[bx,I.at_.wf.mask hd,I.mid.w];exact lw)
  refine⟨_,rfl,_,rfl,_,_,_,_,rfl,rfl,aI.of kx,cX gl,rfl,_,rfl,nR (λz=> ?_) λz=> ?_⟩
  ·refine⟨_,rfl,_,rfl,_,_,_,_,rfl,rfl,gT,ix,⟨_,rfl⟩,_,I.set hl hd hb ?_⟩;have z:bP x a1 l≠0:=λy=>z (by rw[y])
   unfold bit;rw[if_pos (by rw[bne_iff_ne];exact z)]
  ·refine⟨_,rfl,_,rfl,_,_,_,_,rfl,rfl,gT,ix,⟨_,rfl⟩,_,I.set hl hd hb ?_⟩;have z:bP x a1 l=0:=by injection z
   unfold bit;rw[z];rfl
 ·obtain⟨_,y,I⟩:=p;have e:=I.eq;rw[show(nats (cU x m)).length=(cU x m).length from bx _,oE,Vr r.wf hd m] at e;have r2:=I.at_;rw[e] at r2;exact q H' r2 (k1.trans I.kp)
theorem aa8(F:aG K "do_tail" "do_tail" Fh fa fd)(G:fg P w K mg base R)(g:GI mg):aD P w K mg base au 2 fa fd ["run","told"] (fK R λi=>∃d a,i=.tail d a):=by
 refine F.oK zG λaF A outer s H vs Q E hr h=> ?_;obtain⟨H0,L,x,n,t,i,b,c,rfl,⟨d,a1,rfl⟩,r,TT,⟨hd,dj⟩,q⟩:=h;refine⟨_,ay (bH (i:=2) zG.nd rfl (aZ rfl) (aY G.jM hr a_ (ai (pv 0) (ai (pv 1) (ai aQ aj))))) (ay (bH (i:=3) zG.nd rfl (aZ rfl) (aY G.sca hr a_ (ai (pv 0) (ai (pv 1) (ai aQ aj)))))
  (aw (lI j6 rfl (vi rfl g.uv (ai (aP (aP (pv 0) rfl) rfl) aj)) (fv (i:=4) zG.nd rfl (aZ rfl))
  (aw (jE (ji (bW gz (pv 4) (pv 3) (bQ _)) aQ aQ) (jD (pv 2) (pv 4) set_list)))))),?_⟩
 obtain⟨bd,hb,hB⟩:=r.kX hd;obtain⟨un,hu,hR,hU⟩:=r.ju;have T:=TT.mono r.old;have fA:=r.wf.fA;refine⟨_,rfl,_,rfl,H0,L,x,n,t,_,0,d,bd,rfl,r,T,rfl,hb,?_⟩;refine⟨_,rfl,_,rfl,H0,L,x,n,t,_,1,a1,rfl,r,T,rfl,dj,?_⟩;refine⟨_,rfl,_,_,_,_,_,rfl,hR,G.ek.eU,G.ek.mn,rfl,_,_,_,_,_,rfl,r.reg.2,G.ek.iG,G.ek.r0,rfl,_,rfl,by omega,by omega,?_⟩
 refine Cu (n:=(x.width:Int).toNat) (λi σ H'=>(∃u,σ=[some (.ref L.run),some (.ref t),some (.ref bd),some (.int (dI x a1)),u])/\ ∃y,MI R H0 L x n H (cB x.width) d (λl=>decide (((l:Nat):Int)<dI x a1)) i y H') ⟨⟨_,rfl⟩,x,MI.start r Kp.refl⟩ (λi σ H' hi p=> ?_) λσ H' p=> ?_
 ·obtain⟨⟨v0,rfl⟩,y,I⟩:=p;have lw:i<x.width:=by omega
  have hl:(cB x.width)[i]? =some i:=by rw[qQ lw]
  obtain⟨b2,ck,gT⟩:=I.at_.kX hd;rw[hb] at ck;cases ck;have ix:ka ((maskOf y d).map bit).length (0+((i:Nat):Int))=some i:=by rw[vb];exact jQ (by rw[bx,I.at_.wf.mask hd,I.mid.w];exact lw)
  refine⟨_,rfl,_,rfl,_,_,rfl,rfl,_,rfl,bY (λz=> ?_) λz=> ?_⟩
  ·refine⟨_,rfl,_,rfl,_,_,_,_,rfl,rfl,gT,ix,⟨_,rfl⟩,_,I.set hl hd hb ?_⟩;rw[vb] at z;unfold bit;rw[if_pos (decide_eq_true z)]
  ·refine⟨_,rfl,_,rfl,_,_,_,_,rfl,rfl,gT,ix,⟨_,rfl⟩,_,I.set hl hd hb ?_⟩;rw[vb] at z;unfold bit;rw[if_neg (by rw[decide_eq_true_eq];exact z)]
 ·obtain⟨_,y,I⟩:=p;have e:=I.eq;rw[gW,show(cB x.width).take x.width=cB x.width from IV (by rw[iy];exact bE _),LZ r.wf hd] at e
  have r2:=I.at_;rw[e] at r2;exact q H' r2 I.kp
end
open Vaarrj (laneNumber)
section
variable{P:aS}{w:aL}{K:az}{mg:Str->Option ah}{base:aC}{f:ae}{fd:bK}{R:Cl}
theorem boot_sum:mU "sum"=some (.builtin "sum"):=by decide+kernel
theorem aa9(F:aG K "do_count" "do_count" Fj f fd)(G:fg P w K mg base R)(g:GI mg):aD P w K mg base au 2 f fd ["run","told"] (fK R λi=>∃d a,i=.count d a):=by
 refine F.oK Yr λaF A outer s H vs Q E hr h=> ?_;obtain⟨H0,L,x,n,t,i,b,c,rfl,⟨d,a,rfl⟩,r,TT,⟨hd,ha⟩,q⟩:=h;refine⟨_,aw (bO (aY G.hold hr a_ (ai (pv 0) (ai (pv 1) (ai (eS (RW rfl) (by rfl) g.aac boot_sum (ai (aY G.jM hr a_ (ai (pv 0) (ai (pv 1) (ai aQ aj)))) aj)) aj))))),?_⟩
 obtain⟨bd,hb,hB⟩:=r.kX ha;have T:=TT.mono r.old;have ml:=r.wf.mask ha;have e:=Vs (x:=x) (a:=a) ml;have lw:((cB x.width).filter (fk x a)).length<=x.width:=by
  have:=B9 (fk x a) (cB x.width);rw[iy] at this;exact this
 have fA:=r.wf.fA;refine⟨_,rfl,_,rfl,_,rfl,_,rfl,H0,L,x,n,t,_,1,a,bd,rfl,r,T,rfl,hb,?_⟩;refine⟨bd,(maskOf x a).map λb=>if b=true then(1:Int) else 0,rfl,aI.of (by rw[hB,iO];rfl),?_⟩
 rw[<-e];exact⟨H0,L,x,n,t,_,d,_,rfl,r,T,rfl,hd,Ed (by omega),q⟩
theorem aba(F:aG K "do_num" "do_num" Fl f fd)(G:fg P w K mg base R):aD P w K mg base au 2 f fd ["run","told"] (fK R λi=>∃d k,i=.num d k):=by
 refine F.oK Yt λaF A outer s H vs Q E hr h=> ?_;obtain⟨H0,L,x,n,t,i,b,c,rfl,⟨d,k,rfl⟩,r,TT,⟨hd,hk⟩,q⟩:=h;refine⟨_,aw (bO (aY G.hold hr a_ (ai (pv 0) (ai (pv 1) (ai (cj cH (aP (pv 1) rfl) aQ (λ_ _=>rfl)) aj))))),?_⟩;obtain⟨dx,fs,ol,T⟩:=TT.mono r.old;refine⟨_,rfl,_,rfl,_,rfl,_,_,_,_,_,rfl,T.ob,G.ek.bX,G.ek.jP,T.os,_,_,_,_,rfl,rfl,aI.of T.ls,cX (k:=1) rfl,?_⟩;exact⟨H0,L,x,n,t,_,d,k,rfl,r,TT.mono r.old,rfl,hd,hk,q⟩
theorem abb(F:aG K "do_width" "do_width" Fn f fd)(G:fg P w K mg base R):aD P w K mg base au 2 f fd ["run","told"] (fK R λi=>∃d,i=.width d):=by
 refine F.oK Yv λaF A outer s H vs Q E hr h=> ?_;obtain⟨H0,L,x,n,t,i,b,c,rfl,⟨d,rfl⟩,r,TT,hd,q⟩:=h;refine⟨_,aw (bO (aY G.hold hr a_ (ai (pv 0) (ai (pv 1) (ai (aP (aP (pv 0) rfl) rfl) aj))))),?_⟩;obtain⟨un,hu,hR,hU⟩:=r.ju;have fA:=r.wf.fA;refine⟨_,rfl,_,rfl,_,rfl,_,_,_,_,_,rfl,hR,G.ek.eU,G.ek.mn,rfl,_,_,_,_,_,rfl,r.reg.2,G.ek.iG,G.ek.r0,rfl,?_⟩;exact⟨H0,L,x,n,t,_,d,_,rfl,r,TT.mono r.old,rfl,hd,Ed (by omega),q⟩
structure nX(K:az)(mg:Str->Option ah)(R:Cl):Prop where
 ex:∃N fi e_,GZ K R.stop N fi e_/\mg "Stop"=some (.ref R.stop)
theorem abc(F:aG K "do_calc" "do_calc" Fp f fd)(G:fg P w K mg base R)(O:wZ P w K mg base)(S:nX K mg R):aD P w K mg base (bq P w) 3 f fd ["run","told"] (fK R λi=>∃o d a b p,i=.calc o d a b p):=by
 obtain⟨N,fi,e_,S,mS⟩:=S.ex;have GI:aD P w K mg base au 1 fi e_ ["self","kind","place"] (r8 R.stop):=AF S;have bI:=S.fn.b3 "self" "kind" "place";refine F.oX Fq λaF A outer s H vs Q E hr h=> ?_;obtain⟨H0,L,x,n,t,i,b,c,rfl,⟨o,d,a1,a2,p,rfl⟩,r,TT,⟨ho,hd,dj,ig,hp⟩,q⟩:=h;have cN:=hr.mono (show 1<=2 by decide)
 obtain⟨ta,D,mO,tab,ops⟩:=O.two;obtain⟨fo,w_,xa,eo,ko,Fo,bo⟩:=ops o ho;refine⟨_,ay (bH (i:=2) Fq.nd rfl (aZ rfl) (rS (iH mO) (aP (pv 1) rfl) (λ_ _=>rfl)))
  (ay (bH (i:=3) Fq.nd rfl (aZ rfl) (zo (i:=2) rfl (aZ rfl) (ai (aY G.sca cN a_ (ai (pv 0) (ai (pv 1) (ai aQ aj)))) (ai (aY G.sca cN a_ (ai (pv 0) (ai (pv 1) (ai aQ aj)))) aj))))
  (ay (b7 (jh (oG (pv 3))) (aw (rR S.cls GI hr bI rfl rfl rQ rfl mS (ai (aY O.kind cN a_ (ai (aP (pv 1) rfl) aj)) (ai (aP (pv 1) rfl) aj)))) cJ)
  (aw (bO (aY G.hold cN a_ (ai (pv 0) (ai (pv 1) (ai (pv 3) aj)))))))),?_⟩
 have T0:=TT.mono r.old;obtain⟨dx,fs,ol,T1⟩:=TT.mono r.old;refine⟨_,rfl,_,_,_,_,_,rfl,T1.ob,G.ek.bX,G.ek.nU,T1.op,ta,D,.inr (MX.S (opName ops2 o)),.ref fo,rfl,rfl,tab,eo,?_⟩;refine⟨fo,rfl,ko,_,rfl,_,rfl,H0,L,x,n,t,_,1,a1,rfl,r,T0,rfl,dj,?_⟩;refine⟨_,rfl,_,rfl,H0,L,x,n,t,_,2,a2,rfl,r,T0,rfl,ig,?_⟩;refine⟨λvs H Q=>h_ o vs H Q E0,⟨au,2,w_,xa,h_ o,E0,Fo,hr,bo,a_,λvs H Q h=>h⟩,_,_,rfl,r.nums.scalar a1,r.nums.scalar a2,?_⟩;have q:Res R H0 L H (match work2 o (dI x a1) (dI x a2) with| .ok k=>.ok (setScalar x d k,n)| .error e=>.error (e,p)) Q E:=q
 cases ew:work2 o (dI x a1) (dI x a2) with
 |ok v=>
  rw[ew] at q;refine⟨_,rfl,_,rfl,dW ?_⟩;exact⟨_,rfl,_,rfl,_,rfl,H0,L,x,n,t,_,d,v,rfl,r,T0,rfl,hd,L1 (r.nums.scalar a1) (r.nums.scalar a2) ew,q⟩
 |error k=>
  rw[ew] at q;refine⟨_,rfl,_,rfl,dq ?_⟩;refine⟨_,rfl,_,_,_,_,_,rfl,T1.ob,G.ek.bX,G.ek.nU,T1.op,opName ops2 o,rfl,λH2 h2=> ?_⟩;rw[Nr ho ew];refine⟨_,rfl,_,_,_,_,_,rfl,h2 _ _ T1.ob,G.ek.bX,G.ek.r6,T1.p,(by show 2<=sizeLine;rw[aR];decide),λy hy=> ?_⟩
  exact stop_left (ku.kp q λb o e _=>h2 b o e) (r.wO.mono h2) hy
def AL(R:Cl):Sp:=λvs H Q E=>∃H0 L x n v,vs=[.ref L.run,.int v]/\bJ R H0 L x n H/\ ((0<=v/\v<(x.width:Int))->Q (.int v) H)/\ (¬(0<=v/\v<(x.width:Int))->ku R L E H 12 0)
theorem abd(F:aG K "told_lane" "told_lane" zJ f fd)(e:EK K R)(g:GI mg)(S:nX K mg R):aD P w K mg base (bq P w) 3 f fd ["run","number"] (AL R):=by
 obtain⟨N,fi,e_,S,mS⟩:=S.ex;have GI:aD P w K mg base au 1 fi e_ ["self","kind","place"] (r8 R.stop):=AF S;have bI:=S.fn.b3 "self" "kind" "place";refine F.oX Yy λaF A outer s H vs Q E hr h=> ?_;obtain⟨H0,L,x,n,v,rfl,r,h1,h2⟩:=h;refine⟨_,ay (b7 (kM (bW gz (pv 1) aQ (bQ _)) (nE (bW JV (pv 1) (aP (aP (pv 0) rfl) rfl) (bQ _)))).pt (aw (rR S.cls GI hr bI rfl rfl rQ rfl mS (ai (b_ g.Gw) (ai aQ aj)))) cJ) (aw (bw (pv 1))),?_⟩;obtain⟨un,hu,hR,hU⟩:=r.ju;have stop: ¬(0<=v/\v<(x.width:Int))->([V.int 12,V.int 0]:List V).length<=sizeLine/\ ∀y,H y=none->r8 R.stop [.ref y,.int 12,.int 0] (upd H y (km R.stop y)) (λv H2=>v=.aO/\ ∃x' d,V.ref y=.ref x'/\H2 x'=some (gD R.stop x' d)/\E (.ref R.stop) (some d) (del H2 x')) E0:=λz=>
  ⟨by show 2<=sizeLine;rw[aR];decide,λy hy=>stop_left (h2 z) r.wO hy⟩
 refine⟨_,rfl,_,_,rfl,rfl,_,rfl,bY (λz=>dq (stop λy=>by omega)) λz=> ?_⟩
 refine⟨_,rfl,_,rfl,_,_,_,_,_,rfl,hR,e.eU,e.mn,rfl,_,_,_,_,_,rfl,r.reg.2,e.iG,e.r0,rfl,_,_,rfl,rfl,_,rfl,bY (λz2=>stop λy=> ?_) λz2=> ?_⟩
 ·have z2:(x.width:Int)<=v:=z2;omega
 ·have z2: ¬(x.width:Int)<=v:=z2;exact⟨_,rfl,h1 ⟨by omega,by omega⟩⟩
end
open Vaarrj (firstFault raised)
section
variable{P:aS}{w:aL}{K:az}{mg:Str->Option ah}{base:aC}{f:ae}{fd:bK}{R:Cl}
theorem abe(F:Df K mg "told_lane" zJ f fd)(e:EK K R)(g:GI mg)(S:nX K mg R):aN P w K mg base (bq P w) 3 "told_lane" ["run","number"] (AL R):=
 ⟨f,fd,abd F.1 e g S,F.2,F.1.kp,F.1.b2 "run" "number"⟩
theorem abf(F:aG K "do_get" "do_get" Fs f fd)(G:fg P w K mg base R)(GL:aN P w K mg base (bq P w) 3 "told_lane" ["run","number"] (AL R)):aD P w K mg base (bq P w) 4 f fd ["run","told"] (fK R λi=>∃d v s,i=.get d v s):=by
 refine F.oX MY λaF A outer s H vs Q E hr h=> ?_;obtain⟨H0,L,x,n,t,i,b,c,rfl,⟨d,v,sc,rfl⟩,r,TT,⟨hd,hv,rp⟩,q⟩:=h;have cN:=hr.mono (show 1<=3 by decide)
 refine⟨_,ay (bH (i:=2) MY.nd rfl (aZ rfl) (aY G.vec cN a_ (ai (pv 0) (ai (pv 1) (ai aQ aj)))))
  (aw (bO (aY G.hold cN a_ (ai (pv 0) (ai (pv 1) (ai (cj cH (pv 2) (aY GL hr cS (ai (pv 0) (ai (aY G.sca cN a_ (ai (pv 0) (ai (pv 1) (ai aQ aj)))) aj))) (λ_ _=>rfl)) aj)))))),?_⟩
 obtain⟨bd,hb,hB⟩:=r.eG hv;have T:=TT.mono r.old;have q:Res R H0 L H (match sX x sc with|some l=>.ok (setScalar x d (bP x v l),n)|none=>.error (12,0)) Q E:=q
 unfold sX at q;refine⟨_,rfl,_,rfl,H0,L,x,n,t,_,1,v,bd,rfl,r,T,rfl,hb,?_⟩;refine⟨_,rfl,_,rfl,_,rfl,_,rfl,_,rfl,_,rfl,H0,L,x,n,t,_,2,sc,rfl,r,T,rfl,rp,?_⟩;refine⟨H0,L,x,n,_,rfl,r,λz=> ?_,λz=> ?_⟩
 ·rw[if_pos z] at q;have e1:(((dI x sc).toNat:Nat):Int)=dI x sc:=Jp z.1;refine⟨_,_,_,_,rfl,rfl,aI.of hB,(by rw[<-e1];exact cX (ia (y_ (by rw[r.wf.vec hv];omega)))),?_⟩
  exact⟨H0,L,x,n,t,_,d,_,rfl,r,T,rfl,hd,r.nums.iB v _,q⟩
 ·rw[if_neg z] at q;exact q
theorem abg(F:aG K "do_put" "do_put" Ft f fd)(G:fg P w K mg base R)(GL:aN P w K mg base (bq P w) 3 "told_lane" ["run","number"] (AL R)):aD P w K mg base (bq P w) 4 f fd ["run","told"] (fK R λi=>∃v s t,i=.put v s t):=by
 refine F.oX MZ λaF A outer s H vs Q E hr h=> ?_;obtain⟨H0,L,x,n,t,i,b,c,rfl,⟨v,sc,st,rfl⟩,r,TT,⟨hv,rp,d9⟩,q⟩:=h;have cN:=hr.mono (show 1<=3 by decide)
 refine⟨_,ay (bH (i:=2) MZ.nd rfl (aZ rfl) (aY G.vec cN a_ (ai (pv 0) (ai (pv 1) (ai aQ aj)))))
  (aw (jE (aY G.sca cN a_ (ai (pv 0) (ai (pv 1) (ai aQ aj)))) (jD (pv 2) (aY GL hr cS (ai (pv 0) (ai (aY G.sca cN a_ (ai (pv 0) (ai (pv 1) (ai aQ aj)))) aj))) set_list))),?_⟩
 obtain⟨bd,hb,hB⟩:=r.eG hv;have T:=TT.mono r.old;have q:Res R H0 L H (match sX x sc with|some l=>.ok (setVec x v ((c8 x v).set l (dI x st)),n)|none=>.error (12,0)) Q E:=q
 unfold sX at q;refine⟨_,rfl,_,rfl,H0,L,x,n,t,_,0,v,bd,rfl,r,T,rfl,hb,?_⟩;refine⟨_,rfl,_,rfl,H0,L,x,n,t,_,2,st,rfl,r,T,rfl,d9,?_⟩;refine⟨_,rfl,_,rfl,_,rfl,_,rfl,H0,L,x,n,t,_,1,sc,rfl,r,T,rfl,rp,?_⟩;refine⟨H0,L,x,n,_,rfl,r,λz=> ?_,λz=> ?_⟩
 ·rw[if_pos z] at q;have e1:(((dI x sc).toNat:Nat):Int)=dI x sc:=Jp z.1;have lw:(dI x sc).toNat<x.width:=by omega
  refine⟨_,_,_,_,rfl,rfl,hB,(by rw[<-e1];exact jQ (by rw[bx,r.wf.vec hv];exact lw)),?_⟩
  have wr:=r.setVec hb (v:=(c8 x v).set (dI x sc).toNat (dI x st)) (by rw[gV];exact r.wf.vec hv) λk hk=>(mem_set hk).elim (λz=>by rw[z];exact r.nums.scalar st) (r.nums.vec v k)
  rw[u7] at wr;exact q _ wr.1 wr.2
 ·rw[if_neg z] at q;exact q
theorem Nz:∀{l:List (Option Fault)} {i:Nat} {e:Fault},(∀y∈l.take i,y=none)->l[i]? =some (some e)->(l.find? λy=>y.isSome).getD none=some e
 |[],i,e,_,h=>by simp at h
 |y::r,0,e,_,h=>by
  have:y=some e:=by simpa using h
  rw[this];rfl
 |y::r,i+1,e,ha,h=>by
  have hy:y=none:=ha y (by simp)
  subst hy;have h':r[i]? =some (some e):=by simpa using h
  have:=Nz (l:=r) (i:=i) (λz hz=>ha z (by rw[xY];exact fD _ hz)) h'
  simpa using this
theorem abh{l:List (Option Fault)}(h:∀y∈l,y=none):(l.find? λy=>y.isSome).getD none=none:=by
 have:l.find? (λy=>y.isSome)=none:=List.find?_eq_none.mpr λy hy=>by rw[h y hy];simp
 rw[this];rfl
theorem Dq{α β:Type}{p:α->β->Prop}:∀{l:List α} {r:List β} {i:Nat} {a:α},Paired p l r->l[i]? =some a->∃b,r[i]? =some b/\p a b
 |_,_,_,_,.nil,e=>by simp at e
 |_,_,0,_,.cons q _,e=>by simp at e;subst e;exact⟨_,rfl,q⟩
 |_,_,i+1,_,.cons _ t,e=>by
  obtain⟨b,h1,h2⟩:=Dq (i:=i) t (by simpa using e)
  exact⟨b,by simpa using h1,h2⟩
def G9(R:Cl):Sp:=λvs H Q E=>∃H0 L x n,vs=[.ref L.run]/\bJ R H0 L x n H/\match yh x with
 |some e=>ku R L E H e.1 e.2
 |none=>Q .aO H
theorem abi(F:aG K "raise_first_fault" "raise_first_fault" zK f fd)(e:EK K R)(S:nX K mg R):aD P w K mg base (bq P w) 3 f fd ["run"] (G9 R):=by
 obtain⟨N,fi,e_,S,mS⟩:=S.ex;have GI:aD P w K mg base au 1 fi e_ ["self","kind","place"] (r8 R.stop):=AF S;have bI:=S.fn.b3 "self" "kind" "place";refine F.oX M4 λaF A outer s H vs Q E hr h=> ?_;obtain⟨H0,L,x,n,rfl,r,q⟩:=h;refine⟨_,aw (zu qp ⟨rfl,rfl⟩ rfl (g8 (aP (pv 0) rfl)) (λ_ _=>fv (i:=1) M4.nd rfl (aZ rfl))
  (λpn xe E ht=>aw (b7 (jh (yu (pv 1))) (aw (rR S.cls GI hr bI rfl rfl ht.lets rfl mS (ai (cj (r:=CV K) Kn (pv 1) aQ (λ_ _=>rfl)) (ai (cj (r:=CV K) Kn (pv 1) aQ (λ_ _=>rfl)) aj)))) cJ))),?_⟩
 obtain⟨un,hu,hR,hU⟩:=r.ju;obtain⟨fs,hF,hP⟩:=r.Nt;refine⟨_,rfl,_,_,_,_,_,rfl,hR,e.eU,e.GX,rfl,_,rfl,⟨_,aI.of hF⟩,?_⟩;refine lK (xs:=fs) (λi σ H'=>(∃u,σ=[some (.ref L.run),u])/\H'=H/\ ∀y∈x.faults.take i,y=none) ⟨⟨_,rfl⟩,rfl,by simp⟩ (λi σ H' _ p=> ?_) (λi v σ H' hi p=> ?_) λσ H' p=> ?_
 ·obtain⟨_,rfl,_⟩:=p;exact aI.of hF
 ·obtain⟨⟨v0,rfl⟩,rfl,pr⟩:=p;obtain⟨y,hy,hv⟩:=Dq hP hi;cases y with
  |none=>
   have hv:v=.aO:=hv;subst hv;refine⟨_,rfl,_,rfl,dW ⟨⟨_,rfl⟩,rfl,λy NA=> ?_⟩⟩;rw[take_snoc hy] at NA;rcases gO.mp NA with z|z
   ·exact pr y z
   ·simpa using z
  |some ft=>
   obtain⟨ta,rfl,_,NB⟩:=hv;have ff:yh x=some ft:=Nz pr hy;rw[ff] at q;refine⟨_,rfl,_,rfl,dq ?_⟩;refine⟨_,rfl,_,_,_,_,rfl,rfl,fQ.of NB,cX (k:=0) rfl,_,rfl,_,_,_,_,rfl,rfl,fQ.of NB,cX (k:=1) rfl,(by show 2<=sizeLine;rw[aR];decide),λy hy=> ?_⟩
   exact stop_left q r.wO hy
 ·obtain⟨_,rfl,pr⟩:=p;have ff:yh x=none:=abh (by rw[hP.length,oE] at pr;exact pr)
  rw[ff] at q;exact q
end
open Vaarrj (rounds)
mutual
def fX(R:Cl)(H:Hp)(i:cw)(t:ae):Prop:=match i with
 | .for_ d c b=>∃ba ca ts,Told R H t (r_ (.for_ d c b) ba ca)/\H ba=some (.lst (ts.map V.ref))/\b9 R H b ts/\H ca=some (.lst [])
 | .when s b c=>∃ba ca ts us,Told R H t (r_ (.when s b c) ba ca)/\H ba=some (.lst (ts.map V.ref))/\b9 R H b ts/\H ca=some (.lst (us.map V.ref))/\b9 R H c us
 |i=>∃ba ca,Told R H t (r_ i ba ca)
def b9(R:Cl)(H:Hp)(b:c6)(ts:List ae):Prop:=match b with
 | .nil=>ts=[]
 | .cons i r=>∃t us,ts=t::us/\fX R H i t/\b9 R H r us
end
open MP (d_ fI)
def pd(R:Cl)(h:Nat)(i:cw):Sp:=λvs H Q E=>∃H0 L x n t,vs=[.ref L.run,.ref t]/\bJ R H0 L x n H/\fX R H0 i t/\d_ x.arrays.length i h/\Res R H0 L H (cx i x n) Q E
def AM(R:Cl)(h:Nat):Sp:=λvs H Q E=>∃H0 L x n a ts b,vs=[.ref L.run,.ref a]/\bJ R H0 L x n H/\H0 a=some (.lst (ts.map V.ref))/\b9 R H0 b ts/\fI x.arrays.length b h/\Res R H0 L H (eW b x n) Q E
def nY(P:aS)(w:aL)(K:az)(mg:Str->Option ah)(base:aC)(k:Nat)(f:ae)(sp:Sp):Prop:=iN K (.ref f)=true/\ ∃fd ps,Binds K fd ps []/\
 ((∃iV,aD P w K mg base au k f fd ps iV/\ ∀vs H Q E,sp vs H Q E->iV vs H Q E0)\/(∃iV,aD P w K mg base (bq P w) k f fd ps iV/\ ∀vs H Q E,sp vs H Q E->iV vs H Q E))
def ActT(P:aS)(w:aL)(K:az)(mg:Str->Option ah)(base:aC)(R:Cl)(k h:Nat):Prop:=∃a D,mg "ACTIONS"=some (.ref a)/\Tab K w a D/\ ∀i n,d_ n i h->∃f,dU D (.inr (MX.S (MP.toldOf i).act))=some (.ref f)/\nY P w K mg base k f (pd R h i)
section
variable{P:aS}{w:aL}{K:az}{mg:Str->Option ah}{base:aC}{f:ae}{fd:bK}{R:Cl}
theorem nY.abj{X:Cx}{k:Nat}{E:XK}{sp:Sp}(A:nY X.prog X.w X.K X.mg X.base k f sp)(hr:dD k X.A)(hx:Passes (bq X.prog X.w) X E):Mv X f (λvs H Q=>sp vs H Q E):=by
 obtain⟨_,fd,ps,hb,⟨iV,F,im⟩|⟨iV,F,im⟩⟩:=A
 ·exact⟨au,k,fd,ps,iV,E0,F,hr,hb,a_,λvs H Q h=>im _ _ _ _ h⟩
 ·exact⟨bq X.prog X.w,k,fd,ps,iV,E,F,hr,hb,hx,λvs H Q h=>im _ _ _ _ h⟩
theorem jR{X:Cx}{e:bz}{x:Str}{pos:Pos}{ta:TE}{K:az}(hK:X.K=K)(he:PE X e ta)(hb:oz e x X.env (eval e X.env)=eval e X.env):PE X (.Attribute e x pos) (J8 K ta x):=by subst hK;exact aP he hb
theorem abk{X:Cx}{o i:bz}{pos:Pos}{td ty:TE}{K:az}{w:aL}(hK:X.K=K)(hw:X.w=w)(ho:PE X o td)(hi:PE X i ty)(hs:Dp i):PE X (.Subscript o i pos) (Mx K w td ty):=by subst hK hw;exact rS ho hi hs
def abl(P:aS)(w:aL)(K:az)(mg:Str->Option ah)(base:aC)(k:Nat)(E:XK)(i:Nat)(t:TA):TE:=λσ H Q=>∃f sp,σ[i]? =some (some (.ref f))/\nY P w K mg base k f sp/\t σ H λvs H1=>sp vs H1 Q E
theorem abm{X:Cx}{P:aS}{w:aL}{K:az}{mg:Str->Option ah}{base:aC}{k:Nat}{E:XK}(h5:X.prog=P/\X.w=w/\X.K=K/\X.mg=mg/\X.base=base)(hr:dD k X.A)(hx:Passes (bq X.prog X.w) X E){i:Nat}{x:Str}{p pos:Pos}{e:bz}{es:List bz}{t:TA}(hN:X.N[i]? =some x)(hv:pN X.env.scope x)(ha:PA X (e::es) t)(g9:(x==("__debug__":Str))=false:=by decide)(fq:(x==("__classdict__":Str))=false:=by decide)
 (he:cG (e::es) X.env=(false,eval e X.env)::cG es X.env:=by rfl) (dE:(f_ pos (cG es X.env)).any (·.1)=false:=by rfl):PE X (.Call (.Name x p) (e::es) [] pos) (abl P w K mg base k E i t):=by
 obtain⟨rfl,rfl,rfl,rfl,rfl⟩:=h5;intro pins s σ H Q I h;obtain⟨f,sp,ef,A,h⟩:=h;refine qJ (bf (yr (pos:=p) hN hv g9 fq pins s σ H (λv H1=>v=.ref f/\H1=H) I ⟨_,ef,rfl,rfl⟩) λu s0 ⟨v,H0,I0,ru,ev,eH⟩=> ?_);subst ev eH;obtain rfl:u=di f:=ru;refine xR (h₀:=X.base) I.ok.mod.dA A.1 (bf (ha pos pins s0 σ H0 _ I0 h) λus s1 ⟨vs,H1,I1,r,q⟩=>⟨I1.dm,?_⟩) he dE;obtain⟨CX,k,fd,ps,iV,E',F,hr,hb,hx,im⟩:=A.abj hr hx;exact vp (ds:=[]) (dvs:=[]) F hr hb .nil hx I1 r (by rw[dz];exact im _ _ _ q)
theorem fX.told{H:Hp}{i:cw}{t:ae}(h:fX R H i t):∃ba ca,Told R H t (r_ i ba ca):=by
 cases i with
 |for_ d c b=>obtain⟨ba,ca,_,h,_⟩:=h;exact⟨ba,ca,h⟩
 |when s b c=>obtain⟨ba,ca,_,_,h,_⟩:=h;exact⟨ba,ca,h⟩
 |_=>exact h
theorem abn(F:Df K mg "take_step" zv f fd)(g:GI mg)(e:EK K R)(S:nX K mg R):aN P w K mg base (bq P w) 3 "take_step" ["run"] (AG R):=by
 obtain⟨N,fi,e_,S,mS⟩:=S.ex;exact⟨f,fd,aaC F.1 g e S mS,F.2,F.1.kp,F.1.b1 "run"⟩
theorem bJ.NC{H0 H H':Hp}{L:Rn}{x y:bj}{n m:Nat}(r:bJ R H0 L x n H)(r':bJ R H0 L y m H'):y.arrays.length=x.arrays.length:=r'.aa.symm.trans r.aa
theorem abo(x:bj)(n:Nat):eW .nil x n=.ok (x,n):=by rw[eW]
theorem abp(i:cw)(b:c6)(x:bj):eW (.cons i b) x 0=.error (9,0):=by rw[eW];rfl
theorem abq{i:cw}{b:c6}{x:bj}{n:Nat}{z:bj×Nat}(h:cx i x n=.ok z):eW (.cons i b) x (n+1)=eW b z.1 z.2:=by rw[eW,h]
theorem abr{i:cw}{b:c6}{x:bj}{n:Nat}{e:Fault}(h:cx i x n=.error e):eW (.cons i b) x (n+1)=.error e:=by rw[eW,h]
theorem ND{k h:Nat}(F:aG K "do_all" "do_all" Fy f fd)(e:EK K R)(GS:aN P w K mg base (bq P w) 3 "take_step" ["run"] (AG R))(T:ActT P w K mg base R (k+3) h):aD P w K mg base (bq P w) (k+4) f fd ["run","body"] (AM R h):=by
 obtain⟨ta,D,mT,tab,abt⟩:=T;refine F.oX Fz λaF A outer s H vs Q E hr h=> ?_;obtain⟨H0,L,x,n,a,ts,b,rfl,r,ha,hb,ok,q⟩:=h;have fh:=hr.mono (show 3<=k+3 by omega)
 refine⟨_,(aw (zu qp ⟨rfl,rfl⟩ rfl (g8 (pv 1)) (λ_ _=>fv (i:=2) Fz.nd rfl (aZ rfl))
  (λpn xe E ht=>ay (bO (aY GS fh ht.passes (ai (pv 0) aj))) (ay (bH (i:=3) Fz.nd rfl (aZ rfl) (abk (K:=K) (w:=w) rfl rfl (iH mT) (jR (K:=K) rfl (pv 2) rfl) (λ_ _=>rfl)))
    (aw (bO (abm (P:=P) (w:=w) (K:=K) (mg:=mg) (base:=base) (k:=k+3) (i:=3) ⟨rfl,rfl,rfl,rfl,rfl⟩ hr ht.passes rfl (aZ rfl) (ai (pv 0) (ai (pv 2) aj))))))))),?_⟩
 refine⟨_,rfl,a,rfl,⟨_,aI.of (r.old _ _ ha)⟩,lK (xs:=ts.map V.ref) (λi σ H'=>(∃u v,σ=[some (.ref L.run),some (.ref a),u,v])/\ ∃y m rest,bJ R H0 L y m H'/\Kp L H H'/\b9 R H0 rest (ts.drop i)/\fI x.arrays.length rest h/\eW b x n=eW rest y m)
  ⟨⟨_,_,rfl⟩,x,n,b,r,Kp.refl,hb,ok,rfl⟩ (λi σ H' _ p=> ?_) (λi v σ H' hi p=> ?_) λσ H' p=> ?_⟩
 ·obtain⟨_,y,m,rest,r1,_⟩:=p;exact aI.of (r1.old _ _ ha)
 ·obtain⟨⟨v0,v1,rfl⟩,y,m,rest,r1,k1,hB,jo,eq⟩:=p;obtain⟨t,ht,rfl⟩:∃t,ts[i]? =some t/\v=.ref t:=by
   rw[dH] at hi;cases y:ts[i]? with
   |none=>rw[y] at hi;cases hi
   |some t=>rw[y] at hi;exact⟨t,rfl,by injection hi with hi;exact hi.symm⟩
  have dr:ts.drop i=t::ts.drop (i+1):=by
   obtain⟨hl,e1⟩:=dy.mp ht;rw[<-e1];exact qO hl
  cases rest with
  |nil=>
   have hB:ts.drop i=[]:=by simpa only[b9] using hB
   rw[dr] at hB;cases hB
  |cons j rs=>
   simp only[b9] at hB;obtain⟨t2,us,e2,hI,hB⟩:=hB;rw[dr] at e2;obtain⟨rfl,rfl⟩:=oB e2;simp only[fI] at jo;refine⟨_,rfl,H0,L,y,m,rfl,r1,λz=> ?_,λk2 mx H2 r2 qu=> ?_⟩
   ·subst z;rw[eq,abp] at q;exact ku.kp q k1
   ·subst mx;obtain⟨ba,ca,dx,fs,ol,T⟩:=hI.told;replace T:=T.mono r2.old;obtain⟨fa,hv,A⟩:=abt j x.arrays.length jo.1;refine⟨_,rfl,_,_,_,_,_,rfl,T.ob,e.bX,e.mq,T.ac,ta,D,.inr (MX.S (MP.toldOf j).act),.ref fa,rfl,rfl,tab,hv,?_⟩;refine⟨fa,pd R h j,rfl,A,_,rfl,_,rfl,H0,L,y,k2,t,rfl,r2,hI,by rw[r.NC r2];exact jo.1,?_⟩
    cases ed:cx j y k2 with
    |ok z=>
     rw[abq ed] at eq;exactλH3 r3 k3=>⟨⟨_,_,rfl⟩,z.1,z.2,rs,r3,(k1.trans qu).trans k3,hB,jo.2,eq⟩
    |error er=>
     rw[eq,abr ed] at q;exact ku.kp q (k1.trans qu)
 ·obtain⟨_,y,m,rest,r1,k1,hB,jo,eq⟩:=p;rw[bx,BY] at hB;cases rest with
  |nil=>
   rw[eq,abo] at q;exact q H' r1 k1
  |cons j rs=>
   simp only[b9] at hB;obtain⟨t2,us,e2,_⟩:=hB;cases e2
end
section
variable{P:aS}{w:aL}{K:az}{mg:Str->Option ah}{base:aC}{f:ae}{fd:bK}{R:Cl}
theorem NG(F:Df K mg "raise_first_fault" zK f fd)(e:EK K R)(S:nX K mg R):aN P w K mg base (bq P w) 3 "raise_first_fault" ["run"] (G9 R):=
 ⟨f,fd,abi F.1 e S,F.2,F.1.kp,F.1.b1 "run"⟩
theorem abu(F:aG K "do_raise" "do_raise" Fw f fd)(GR:aN P w K mg base (bq P w) 3 "raise_first_fault" ["run"] (G9 R)):aD P w K mg base (bq P w) 4 f fd ["run","told"] (fK R λi=>i=.raise):=by
 refine F.oX YG λaF A outer s H vs Q E hr h=> ?_;obtain⟨H0,L,x,n,t,i,b,c,rfl,rfl,r,TT,_,q⟩:=h;refine⟨_,aw (bO (aY GR hr cS (ai (pv 0) aj))),?_⟩;refine⟨_,rfl,H0,L,x,n,rfl,r,?_⟩;have q:Res R H0 L H (match yh x with|some e=>.error e|none=>.ok (x,n)) Q E:=q
 cases ff:yh x with
 |none=>rw[ff] at q;exact q H r Kp.refl
 |some e=>rw[ff] at q;exact q
theorem abv(g:bj->Nat->yf)(d i:Nat)(x:bj)(n:Nat):rounds g d 0 i x n=.ok (x,n):=by rw[rounds]
theorem abw(g:bj->Nat->yf)(d k i:Nat)(x:bj):rounds g d (k+1) i x 0=.error (9,0):=by rw[rounds];rfl
theorem abx{g:bj->Nat->yf}{d k i:Nat}{x:bj}{n:Nat}{z:bj×Nat}(h:g (setScalar x d ((i:Nat):Int)) n=.ok z):rounds g d (k+1) i x (n+1)=rounds g d k (i+1) z.1 z.2:=by rw[rounds];simp only[h]
theorem aby{g:bj->Nat->yf}{d k i:Nat}{x:bj}{n:Nat}{e:Fault}(h:g (setScalar x d ((i:Nat):Int)) n=.error e):rounds g d (k+1) i x (n+1)=.error e:=by rw[rounds];simp only[h]
theorem abz{k h:Nat}(F:aG K "do_for" "do_for" Fu f fd)(G:fg P w K mg base R)(g:GI mg)(GS:aN P w K mg base (bq P w) 3 "take_step" ["run"] (AG R))(GA:aN P w K mg base (bq P w) (k+4) "do_all" ["run","body"] (AM R h)):
 aD P w K mg base (bq P w) (k+5) f fd ["run","told"] (λvs H Q E=>∃d c b,pd R (h+1) (.for_ d c b) vs H Q E):=by
 refine F.oX M0 λaF A outer s H vs Q E hr h=> ?_;obtain⟨d,c,b,H0,L,x,n,t,rfl,r,hI,ok,q⟩:=h;have cN:=hr.mono (show 1<=k+4 by omega)
 have fh:=hr.mono (show 3<=k+4 by omega)
 simp only[fX] at hI;obtain⟨ba,ca,ts,TT,fL,hB,_⟩:=hI;simp only[d_] at ok;obtain⟨hd,hc,k0,tV,jo⟩:=ok;obtain rfl:h=k0:=by omega
 have q:Res R H0 L H (rounds (eW b) d (dI x c).toNat 0 x n) Q E:=q;refine⟨_,aw (zu qp ⟨rfl,rfl⟩ rfl (vi rfl g.uv (ai (aY G.sca cN a_ (ai (pv 0) (ai (pv 1) (ai aQ aj)))) aj)) (λ_ _=>fv (i:=2) M0.nd rfl (aZ rfl))
  (λpn xe E ht=>ay (bO (aY GS fh ht.passes (ai (pv 0) aj))) (ay (bO (aY G.hold cN a_ (ai (pv 0) (ai (pv 1) (ai (pv 2) aj)))))
    (aw (bO (aY GA hr ht.passes (ai (pv 0) (ai (jR (K:=K) rfl (pv 1) rfl) aj)))))))),?_⟩
 have T:=TT.mono r.old;have hs:=Vu (r.nums.scalar c);refine⟨_,rfl,_,rfl,H0,L,x,n,t,_,1,c,rfl,r,T,rfl,hc,_,rfl,by omega,by omega,?_⟩
 refine Cu (n:=(dI x c).toNat) (λi σ H'=>(∃u,σ=[some (.ref L.run),some (.ref t),u])/\ ∃y m,bJ R H0 L y m H'/\Kp L H H'/\rounds (eW b) d (dI x c).toNat 0 x n=rounds (eW b) d ((dI x c).toNat-i) i y m) ⟨⟨_,rfl⟩,x,n,r,Kp.refl,rfl⟩ (λi σ H' hi p=> ?_) λσ H' p=> ?_
 ·obtain⟨⟨v0,rfl⟩,y,m,r1,k1,eq⟩:=p;have e1:(dI x c).toNat-i=((dI x c).toNat-(i+1))+1:=by omega
  rw[e1] at eq;refine⟨_,rfl,H0,L,y,m,rfl,r1,λz=> ?_,λk2 mx H2 r2 qu=> ?_⟩
  ·subst z;rw[eq,abw] at q;exact ku.kp q k1
  ·subst mx;have ni:Num ((i:Nat):Int):=⟨by rw[great];omega,by rw[great];omega⟩
   refine⟨_,rfl,_,rfl,_,rfl,H0,L,y,k2,t,_,d,((i:Nat):Int),(by show[V.ref L.run,V.ref t,V.int (0+((i:Nat):Int))]=_;rw[vb]),r2,TT.mono r2.old,rfl,hd,ni,λH3 r3 k3=> ?_⟩
   obtain⟨dx,fs,ol,T3⟩:=TT.mono r3.old;refine⟨_,rfl,_,rfl,_,_,_,_,_,rfl,T3.ob,G.ek.bX,G.ek.uz,T3.b,?_⟩;refine⟨H0,L,_,k2,ba,ts,b,rfl,r3,fL,hB,by rw[r.NC r3];exact jo,?_⟩
   cases ed:eW b (setScalar y d ((i:Nat):Int)) k2 with
   |ok z=>
    rw[abx ed] at eq;exactλH4 r4 k4=>⟨⟨_,rfl⟩,z.1,z.2,r4,((k1.trans qu).trans k3).trans k4,eq⟩
   |error er=>
    rw[eq,aby ed] at q;exact ku.kp q ((k1.trans qu).trans k3)
 ·obtain⟨_,y,m,r1,k1,eq⟩:=p;rw[Nat.sub_self,abv] at eq;rw[eq] at q;exact q H' r1 k1
theorem abA{k h:Nat}(F:aG K "do_when" "do_when" Fv f fd)(G:fg P w K mg base R)(GA:aN P w K mg base (bq P w) (k+4) "do_all" ["run","body"] (AM R h)):
 aD P w K mg base (bq P w) (k+5) f fd ["run","told"] (λvs H Q E=>∃s b c,pd R (h+1) (.when s b c) vs H Q E):=by
 refine F.oX YD λaF A outer s H vs Q E hr h=> ?_;obtain⟨sc,b,c,H0,L,x,n,t,rfl,r,hI,ok,q⟩:=h;have cN:=hr.mono (show 1<=k+4 by omega)
 simp only[fX] at hI;obtain⟨ba,ca,ts,us,TT,fL,hB,xb,hC⟩:=hI;simp only[d_] at ok;obtain⟨hs,k0,tV,jo,G_⟩:=ok;obtain rfl:h=k0:=by omega
 have q:Res R H0 L H (if dI x sc≠0 then eW b x n else eW c x n) Q E:=q
 refine⟨_,aw (b7 (bW jj (aY G.sca cN a_ (ai (pv 0) (ai (pv 1) (ai aQ aj)))) aQ (bQ _)) (aw (bO (aY GA hr cS (ai (pv 0) (ai (aP (pv 1) rfl) aj)))))
  (aw (bO (aY GA hr cS (ai (pv 0) (ai (aP (pv 1) rfl) aj)))))),?_⟩
 have T:=TT.mono r.old;obtain⟨dx,fs,ol,T1⟩:=TT.mono r.old;refine⟨_,rfl,_,rfl,H0,L,x,n,t,_,0,sc,rfl,r,T,rfl,hs,rfl,_,rfl,nR (λz=> ?_) λz=> ?_⟩
 ·rw[if_pos (λy=>z (by rw[y]))] at q
  exact⟨_,rfl,_,rfl,_,_,_,_,_,rfl,T1.ob,G.ek.bX,G.ek.uz,T1.b,H0,L,x,n,ba,ts,b,rfl,r,fL,hB,jo,q⟩
 ·have z:dI x sc=0:=by injection z
  rw[if_neg (λy=>y z)] at q;exact⟨_,rfl,_,rfl,_,_,_,_,_,rfl,T1.ob,G.ek.bX,G.ek.wV,T1.c,H0,L,x,n,ca,us,c,rfl,r,xb,hC,G_,q⟩
end
structure abB(qual:Str)(params:Arguments)(body:bz)(scope:d6)(g:Bool->Bool->Bool):Prop where
 ex:∃(N ps:List Str) (te:TE),aV N ps scope/\ps.length=2/\ (∀(c:ae) (pm gv:ah) (us:List ah),us.length=ps.length->qI (Qh "<lambda>" qual params body scope [] pm (.ref c) gv) ⟨us,[]⟩=pure (ps.zip us))/\
  (∀X:Cx,Ez X N qual scope body te)/\ ∀(u v:Bool) (H:Hp) (Q:VK),Q (bit (g u v)) H->te (start N [bit u,bit v]) H Q
def xc(R:Cl):Sp:=λvs H Q _=>∃H0 L x n t T d a b f c qual params body scope g,vs=[.ref L.run,.ref t,.ref f]/\bJ R H0 L x n H/\Told R H t T/\T.os=[((d:Nat):Int),((a:Nat):Int),((b:Nat):Int)]/\d<8/\a<8/\b<8/\
 H f=some (kW f qual params body scope c)/\H c=some (iE c qual)/\ ¬L.mut f/\ ¬L.mut c/\abB qual params body scope g/\ ∀H',bJ R H0 L (maskLanes x d λl=>g (fk x a l) (fk x b l)) n H'->Kp L H H'->Q .aO H'
section
variable{P:aS}{w:aL}{K:az}{mg:Str->Option ah}{base:aC}{fa:ae}{fd:bK}{R:Cl}
theorem abC(F:aG K "combine_masks" "combine_masks" zI fa fd)(G:fg P w K mg base R)(g:GI mg):aD P w K mg base au 2 fa fd ["run","told","combined"] (xc R):=by
 refine F.oK wz λaF A outer s H vs Q E hr h=> ?_;obtain⟨H0,L,x,n,t,T,d,a1,a2,fl,cl,qual,params,body,scope,gg,rfl,r,hT,ho,hd,dj,ig,hf,hc,mf,mc,lam,q⟩:=h;obtain⟨N,ps,te,S,hps,bnd,lo,te2⟩:=lam.ex;refine⟨_,ay (bH (i:=3) wz.nd rfl (aZ rfl) (aY G.jM hr a_ (ai (pv 0) (ai (pv 1) (ai aQ aj))))) (ay (bH (i:=4) wz.nd rfl (aZ rfl) (aY G.jM hr a_ (ai (pv 0) (ai (pv 1) (ai aQ aj)))))
  (ay (bH (i:=5) wz.nd rfl (aZ rfl) (aY G.jM hr a_ (ai (pv 0) (ai (pv 1) (ai aQ aj)))))
  (aw (lI j6 rfl (vi rfl g.uv (ai (aP (aP (pv 0) rfl) rfl) aj)) (fv (i:=6) wz.nd rfl (aZ rfl))
  (aw (jE (W_ (i:=2) hr rfl (aZ rfl) (ai (cj cH (pv 4) (pv 6) (λ_ _=>rfl)) (ai (cj cH (pv 5) (pv 6) (λ_ _=>rfl)) aj))) (jD (pv 3) (pv 6) set_list))))))),?_⟩
 obtain⟨bd,hb,hB⟩:=r.kX hd;obtain⟨b1,AN,hB1⟩:=r.kX dj;obtain⟨b2,ck,gT⟩:=r.kX ig;obtain⟨un,hu,hR,hU⟩:=r.ju;have fA:=r.wf.fA;refine⟨_,rfl,_,rfl,H0,L,x,n,t,T,0,d,bd,rfl,r,hT,by rw[ho];rfl,hb,?_⟩
 refine⟨_,rfl,_,rfl,H0,L,x,n,t,T,1,a1,b1,rfl,r,hT,by rw[ho];rfl,AN,?_⟩
 refine⟨_,rfl,_,rfl,H0,L,x,n,t,T,2,a2,b2,rfl,r,hT,by rw[ho];rfl,ck,?_⟩
 refine⟨_,rfl,_,_,_,_,_,rfl,hR,G.ek.eU,G.ek.mn,rfl,_,_,_,_,_,rfl,r.reg.2,G.ek.iG,G.ek.r0,rfl,_,rfl,by omega,by omega,?_⟩
 refine Cu (n:=(x.width:Int).toNat) (λi σ H'=>(∃u,σ=[some (.ref L.run),some (.ref t),some (.ref fl),some (.ref bd),some (.ref b1),some (.ref b2),u])/\ ∃y,MI R H0 L x n H (cB x.width) d (λl=>gg (fk x a1 l) (fk x a2 l)) i y H') ⟨⟨_,rfl⟩,x,MI.start r Kp.refl⟩ (λi σ H' hi p=> ?_) λσ H' p=> ?_
 ·obtain⟨⟨v0,rfl⟩,y,I⟩:=p;have lw:i<x.width:=by omega
  have hl:(cB x.width)[i]? =some i:=by rw[qQ lw]
  have nt:i∉(cB x.width).take i:=LW List.nodup_range hl;obtain⟨c0,my,hC0⟩:=I.at_.kX hd;rw[hb] at my;cases my;obtain⟨c1,zq,hC1⟩:=I.at_.kX dj;rw[AN] at zq;cases zq;obtain⟨c2,NH,hC2⟩:=I.at_.kX ig;rw[ck] at NH;cases NH;have NI:∀{k:Nat},k<8->kb ((maskOf y k).map bit) (0+((i:Nat):Int))=some (bit (fk x k i)):=λ{k} hk=>by
   rw[vb,<-I.mid.on k i nt];exact cX (ia (LS (by rw[I.at_.wf.mask hk,I.mid.w];exact lw)))
  have ix:ka ((maskOf y d).map bit).length (0+((i:Nat):Int))=some i:=by rw[vb];exact jQ (by rw[bx,I.at_.wf.mask hd,I.mid.w];exact lw)
  refine⟨fl,cl,qual,params,body,scope,rfl,I.kp _ _ hf mf,_,rfl,_,rfl,_,_,_,_,rfl,rfl,aI.of hC1,NI dj,?_⟩;refine⟨_,rfl,_,rfl,_,_,_,_,rfl,rfl,aI.of hC2,NI ig,?_⟩;refine⟨I.kp _ _ hf mf,I.kp _ _ hc mc,N,ps,te,S,hps.symm,λpm gv us hl=>bnd cl pm gv us hl,lo _,te2 _ _ _ _ ?_⟩;exact⟨_,rfl,_,rfl,_,_,_,_,rfl,rfl,hC0,ix,⟨_,rfl⟩,_,I.set hl hd hb rfl⟩
 ·obtain⟨_,y,I⟩:=p;have e:=I.eq;rw[gW,show(cB x.width).take x.width=cB x.width from IV (by rw[iy];exact bE _),LZ r.wf hd] at e
  have r2:=I.at_;rw[e] at r2;exact q H' r2 I.kp
end
theorem aG.xf{P:aS}{w:aL}{K:az}{mg:Str->Option ah}{base:aC}{x qual:Str}{st:cD}{f:ae}{fd:bK}{N ps:List Str}{k:Nat}{sp:Sp}{AO:ah}(F:aG K x qual st f fd)(hc:fd.code=AO)(S:aV N ps (aK st))(len:∀vs H Q E,sp vs H Q E->vs.length=ps.length)
 (lM:∀(A:cQ) (outer:List Env) (s:aq) (H:Hp) (vs:List V) (Q:VK) (E:XK),dD k (A.deeper (envOfC qual (aK st) s.heap.objs.size f AO))->sp vs H Q E->
   ∃t,gy (i9 (bq P w) P w K mg base N qual (aK st) f AO A outer s H E) (hX st) t/\t {nx:=λ_ H'=>Q .aO H',rt:=Q} (start N vs) H):aD P w K mg base (bq P w) (k+1) f fd ps sp:=by
 obtain⟨oc,od,kV,doc,pm,an,aF,ct,gI,rfl,lk,fq⟩:=F.ex;have hc:aF=AO:=hc;subst hc;refine CP lk fq S len λA outer s H vs Q E hr kN=> ?_;exact lM A outer s H vs Q E hr kN
structure xg(base:aC)(fd:bK)(R:Cl)(j:Nat)(pos:Pos)(qual:Str)(cd Pl:ae):Prop where
 code:fd.code=.ref cd
 hd:B6 base cd Pl
 tb:R.cf[j]? =some Pl
 lam:R.rY[j]? =some (pos,qual)
section
variable{P:aS}{w:aL}{K:az}{mg:Str->Option ah}{base:aC}{f:ae}{fd:bK}{R:Cl}{H0 H:Hp}{L:Rn}{x:bj}{n:Nat}
theorem Ha(pos:Pos)(c:ae):TriplesOk (o8 pos c).toList:=trivial
theorem Hb{j:Nat}{pos:Pos}{qual:Str}{cd Pl:ae}{params:Arguments}{body:bz}{scope:d6}{σ:L2.St}{Q:VK}(D:xg base fd R j pos qual cd Pl)(r:bJ R H0 L x n H)
 (hq:∀f c H',bJ R H0 L x n H'->Kp L H H'->H' f=some (kW f qual params body scope c)->H' c=some (iE c qual)-> ¬L.mut f-> ¬L.mut c->Q (.ref f) H'):MD Pl qual params body scope pos σ H Q:=by
 have ht:L.tb[j]? =some Pl:=by rw[r.tb];exact D.tb
 obtain⟨o,hP,⟨p1,q1⟩,e1,alt⟩:=r.all (.tb j) Pl ht;rw[D.lam] at e1;obtain⟨rfl,rfl⟩:=Prod.mk.inj (f9 e1);rcases alt with rfl|⟨c,mc,rfl,hc⟩
 ·refine .inl ⟨hP,λc f hc hf Ew=> ?_⟩;have mc:=r.tracked hc;have mf:=r.tracked hf;have cP:c≠Pl:=λz=>mc (by rw[z];exact⟨.tb j,ht⟩)
  have fP:f≠Pl:=λz=>mf (by rw[z];exact⟨.tb j,ht⟩)
  have r1:bJ R H0 L x n (upd H c (iE c qual)):=r.more λb o e=>by rw[ak (bD e hc)];exact e
  have w:=r1.write (s:=.tb j) (o:=.dM (o8 pos c)) (n':=n) ht r1.wf r1.nums rfl rfl ⟨_,D.lam,.inr ⟨c,mc,rfl,aB⟩⟩ λt u _ h=>h;have NJ:upd (upd H c (iE c qual)) Pl (.dM (o8 pos c)) f=none:=by rw[ak fP,ak (Ne.symm Ew)];exact hf
  refine hq f c _ (w.1.more λb o e=>by rw[ak (bD e NJ)];exact e) (((Kp.new hc).trans w.2).trans (Kp.new NJ)) aB ?_ mf mc
  rw[ak Ew,ak cP,aB]
 ·refine .inr ⟨c,hP,hc,λf hf=> ?_⟩;refine hq f c _ (r.more λb o e=>by rw[ak (bD e hf)];exact e) (Kp.new hf) aB ?_ (r.tracked hf) mc
  rw[ak (bD hc hf)];exact hc
theorem abD(F:Df K mg "combine_masks" zI f fd)(G:fg P w K mg base R)(g:GI mg):aN P w K mg base au 2 "combine_masks" ["run","told","combined"] (xc R):=
 ⟨f,fd,abC F.1 G g,F.2,F.1.kp,F.1.b3 "run" "told" "combined"⟩
def qv(st:cD):Pos:=match hX st with
 |[.Expr (.Call _ [_,_,.Lambda _ _ _ p] _ _) _]=>p
 |_=>⟨0,0,0,0⟩
theorem abE{cd Pl:ae}(F:aG K "do_both" "do_both" wA f fd)(bm:BM mg base)(D:xg base fd R 0 (qv wA) "do_both.<locals>.<lambda>" cd Pl)(GC:aN P w K mg base au 2 "combine_masks" ["run","told","combined"] (xc R)):aD P w K mg base (bq P w) 3 f fd ["run","told"] (fK R λi=>∃d a b,i=.both d a b):=by
 refine aG.xf F D.code Yl (λvs H Q E h=> ?_) (λA outer s H vs Q E hr h=> ?_)
 ·obtain⟨_,_,_,_,_,_,_,_,rfl,_⟩:=h;rfl
 obtain⟨H0,L,x,n,t,i,b,c,rfl,⟨d,a1,a2,rfl⟩,r,TT,⟨hd,dj,ig⟩,q⟩:=h;refine⟨_,aw (bO (aY GC hr a_ (ai (pv 0) (ai (pv 1) (ai (Ex (qual:="do_both.<locals>.<lambda>") bm rfl D.hd rfl rfl (by rfl) (λ_=>rfl) (λ_=>Ha _ _)) aj))))),?_⟩
 refine⟨_,rfl,_,rfl,Hb D r λfl cl H' r' k' hf hc mf mc=> ?_⟩;refine⟨H0,L,x,n,t,_,d,a1,a2,fl,cl,_,_,_,_,(λu v=>u&&v),rfl,r',TT.mono r'.old,rfl,hd,dj,ig,hf,hc,mf,mc,?_,λH2 r2 k2=>q H2 r2 (k'.trans k2)⟩;exact⟨["first","second"],["first","second"],_,⟨rfl,rfl,rfl,by decide+kernel,rfl,by decide+kernel,by decide+kernel⟩,rfl,λc pm gv us hl=>match us,hl with|[_,_],_=>rfl,λX f cd A outer s H=>cy JQ (pv 0) (pv 1),λu v H Q q=>⟨_,rfl,_,rfl,_,_,rfl,rfl,by cases u<;>cases v<;>exact q⟩⟩
theorem abF{cd Pl:ae}(F:aG K "do_less" "do_less" wB f fd)(bm:BM mg base)(D:xg base fd R 1 (qv wB) "do_less.<locals>.<lambda>" cd Pl)(GC:aN P w K mg base au 2 "combine_masks" ["run","told","combined"] (xc R)):aD P w K mg base (bq P w) 3 f fd ["run","told"] (fK R λi=>∃d a b,i=.less d a b):=by
 refine aG.xf F D.code Yn (λvs H Q E h=> ?_) (λA outer s H vs Q E hr h=> ?_)
 ·obtain⟨_,_,_,_,_,_,_,_,rfl,_⟩:=h;rfl
 obtain⟨H0,L,x,n,t,i,b,c,rfl,⟨d,a1,a2,rfl⟩,r,TT,⟨hd,dj,ig⟩,q⟩:=h;refine⟨_,aw (bO (aY GC hr a_ (ai (pv 0) (ai (pv 1) (ai (Ex (qual:="do_less.<locals>.<lambda>") bm rfl D.hd rfl rfl (by rfl) (λ_=>rfl) (λ_=>Ha _ _)) aj))))),?_⟩
 refine⟨_,rfl,_,rfl,Hb D r λfl cl H' r' k' hf hc mf mc=> ?_⟩;refine⟨H0,L,x,n,t,_,d,a1,a2,fl,cl,_,_,_,_,(λu v=>u&& !v),rfl,r',TT.mono r'.old,rfl,hd,dj,ig,hf,hc,mf,mc,?_,λH2 r2 k2=>q H2 r2 (k'.trans k2)⟩;exact⟨["first","second"],["first","second"],_,⟨rfl,rfl,rfl,by decide+kernel,rfl,by decide+kernel,by decide+kernel⟩,rfl,λc pm gv us hl=>match us,hl with|[_,_],_=>rfl,λX f cd A outer s H=>cy JQ (pv 0) (cy p9 aQ (pv 1)),λu v H Q q=>⟨_,rfl,_,rfl,_,_,rfl,rfl,_,_,rfl,rfl,by cases u<;>cases v<;>exact q⟩⟩
theorem abG{cd Pl:ae}(F:aG K "do_either" "do_either" wC f fd)(bm:BM mg base)(D:xg base fd R 2 (qv wC) "do_either.<locals>.<lambda>" cd Pl)(GC:aN P w K mg base au 2 "combine_masks" ["run","told","combined"] (xc R)):aD P w K mg base (bq P w) 3 f fd ["run","told"] (fK R λi=>∃d a b,i=.either d a b):=by
 refine aG.xf F D.code Yp (λvs H Q E h=> ?_) (λA outer s H vs Q E hr h=> ?_)
 ·obtain⟨_,_,_,_,_,_,_,_,rfl,_⟩:=h;rfl
 obtain⟨H0,L,x,n,t,i,b,c,rfl,⟨d,a1,a2,rfl⟩,r,TT,⟨hd,dj,ig⟩,q⟩:=h;refine⟨_,aw (bO (aY GC hr a_ (ai (pv 0) (ai (pv 1) (ai (Ex (qual:="do_either.<locals>.<lambda>") bm rfl D.hd rfl rfl (by rfl) (λ_=>rfl) (λ_=>Ha _ _)) aj))))),?_⟩
 refine⟨_,rfl,_,rfl,Hb D r λfl cl H' r' k' hf hc mf mc=> ?_⟩;refine⟨H0,L,x,n,t,_,d,a1,a2,fl,cl,_,_,_,_,(λu v=>u||v),rfl,r',TT.mono r'.old,rfl,hd,dj,ig,hf,hc,mf,mc,?_,λH2 r2 k2=>q H2 r2 (k'.trans k2)⟩;exact⟨["first","second"],["first","second"],_,⟨rfl,rfl,rfl,by decide+kernel,rfl,by decide+kernel,by decide+kernel⟩,rfl,λc pm gv us hl=>match us,hl with|[_,_],_=>rfl,λX f cd A outer s H=>cy Q5 (pv 0) (pv 1),λu v H Q q=>⟨_,rfl,_,rfl,_,_,rfl,rfl,by cases u<;>cases v<;>exact q⟩⟩
end
open Vaarrj (fresh)
structure Made(p:ae)(H H':Hp)(as:List ae):Prop where
 kp:∀b o,H b=some o->b≠p->H' b=some o
 nd:as.Nodup
 fr:∀a∈as,H a=none
 tr:∀a∈as,∃o,H' a=some o
 p0:∃o,H p=some o
 p1:∃o,H' p=some o
theorem Made.trans{p:ae}{H H1 H2:Hp}{as bs:List ae}(a:Made p H H1 as)(b:Made p H1 H2 bs):Made p H H2 (as++bs) where
 kp:=λc o e n=>b.kp c o (a.kp c o e n) n
 nd:=u6.mpr ⟨a.nd,b.nd,λx hx y hy e=>by
  obtain⟨o,h⟩:=a.tr x hx;rw[e,b.fr y hy] at h;cases h⟩
 fr:=λc hc=>by
  rcases gO.mp hc with h|h
  ·exact a.fr c h
  ·cases q:H c with
   |none=>rfl
   |some o=>
    have n:=b.fr c h;by_cases z:c=p
    ·obtain⟨o2,h2⟩:=a.p1;rw[z,h2] at n;cases n
    ·rw[a.kp c o q z] at n;cases n
 tr:=λc hc=>by
  rcases gO.mp hc with h|h
  ·obtain⟨o,h1⟩:=a.tr c h;obtain⟨o2,h2⟩:=a.p0;exact⟨o,b.kp c o h1 λz=>by rw[<-z,a.fr c h] at h2;cases h2⟩
  ·exact b.tr c h
 p0:=a.p0
 p1:=b.p1
theorem Made.write{p:ae}{H H1:Hp}{as:List ae}{o:HO}(a:Made p H H1 as):Made p H (upd H1 p o) as where
 kp:=λc u e n=>by rw[ak n];exact a.kp c u e n
 nd:=a.nd
 fr:=a.fr
 tr:=λc hc=>by
  obtain⟨u,h⟩:=a.tr c hc;by_cases z:c=p
  ·exact⟨o,by rw[z,aB]⟩
  ·exact⟨u,by rw[ak z];exact h⟩
 p0:=a.p0
 p1:=⟨o,aB⟩
theorem Made.refl{p:ae}{H:Hp}(h:∃o,H p=some o):Made p H H []:=⟨λ_ _ e _=>e,List.nodup_nil,(λ_ h=>nomatch h),(λ_ h=>nomatch h),h,h⟩
theorem Made.one{p a:ae}{H H1 H2:Hp}{as:List ae}{o:HO}(m:Made p H H1 as)(hn:H1 a=none)(k:∀b u,H1 b=some u->H2 b=some u)(h:H2 a=some o):Made p H H2 (as++[a]):=
 m.trans ⟨λb u e _=>k b u e,by simp,λc hc=>by rw[oA.mp hc];exact hn,λc hc=>by rw[oA.mp hc];exact⟨o,h⟩,m.p1,let ⟨o,h⟩:=m.p1;⟨o,k _ _ h⟩⟩
def iW(H1:Hp)(D:ae)(row:Nat->HO)(i:Nat)(H':Hp):Prop:=∃as:List ae,as.length=i/\as.Nodup/\ (∀b o,H1 b=some o->H' b=some o)/\ (∀k a,as[k]? =some a->H1 a=none/\a≠D/\H' a=some (row k))/\H' D=some (.lst (as.map V.ref))
theorem iW.start{H1:Hp}{D:ae}{row:Nat->HO}(h:H1 D=none):iW H1 D row 0 (upd H1 D (.lst [])):=
 ⟨[],rfl,List.nodup_nil,λb o e=>by rw[ak (bD e h)];exact e,(λk a h=>nomatch h),aB⟩
theorem iW.next{H1 H' H2:Hp}{D r:ae}{row:Nat->HO}{i:Nat}(h:iW H1 D row i H')(hD:H1 D=none)(hr:H' r=none)(k:∀b o,H' b=some o->H2 b=some o)(h2:H2 r=some (row i))(hi:i<100000):
 ∃acc,H2 D=some (.lst acc)/\acc.length<sizeLine/\iW H1 D row (i+1) (upd H2 D (.lst (acc++[.ref r]))):=by
 obtain⟨as,hl,nd,kp,at_,hd⟩:=h;have rD:r≠D:=λz=>by rw[z,hd] at hr;cases hr
 refine⟨as.map V.ref,k _ _ hd,by rw[bx,hl,aR];omega,as++[r],by rw[bU,hl];rfl,?_,λb o e=> ?_,λj a ha=> ?_,by rw[aB,iw];rfl⟩
 ·refine u6.mpr ⟨nd,by simp,λx hx y hy e=> ?_⟩
  obtain⟨j,hj⟩:=lC hx;rw[e,oA.mp hy] at hj;rw[(at_ j r hj).2.2] at hr;cases hr
 ·rw[ak (bD e hD)];exact k _ _ (kp b o e)
 ·by_cases z:j<as.length
  ·rw[PQ z] at ha;obtain⟨a1,a2,a3⟩:=at_ j a ha;exact⟨a1,a2,by rw[ak a2];exact k _ _ a3⟩
  ·have hj:j=as.length:=by
    have:=(dy.mp ha).1;rw[bU] at this;simp at this;omega
   subst hj;rw[PN (bE _),Nat.sub_self] at ha;obtain rfl:r=a:=by simpa using ha
   refine⟨?_,rD,by rw[ak rD,h2,hl]⟩
   cases q:H1 r with
   |none=>rfl
   |some o=>rw[kp r o q] at hr;cases hr
theorem iW.made{p:ae}{H H1 H':Hp}{D:ae}{row:Nat->HO}{i:Nat}{bs:List ae}(m:Made p H H1 bs)(h:iW H1 D row i H')(hD:H1 D=none):∃as:List ae,as.length=i/\ (∀k a,as[k]? =some a->H' a=some (row k))/\H' D=some (.lst (as.map V.ref))/\Made p H H' (bs++(D::as)):=by
 obtain⟨as,hl,nd,kp,at_,hd⟩:=h;refine⟨as,hl,λk a ha=>(at_ k a ha).2.2,hd,m.trans ⟨λb o e _=>kp b o e,fE.mpr ⟨λz=> ?_,nd⟩,λa ha=> ?_,λa ha=> ?_,m.p1,let ⟨o,h⟩:=m.p1;⟨o,kp _ _ h⟩⟩⟩
 ·obtain⟨j,hj⟩:=lC z;exact(at_ j D hj).2.1 rfl
 ·rcases cC.mp ha with z|z
  ·rw[z];exact hD
  ·obtain⟨j,hj⟩:=lC z;exact(at_ j a hj).1
 ·rcases cC.mp ha with z|z
  ·rw[z];exact⟨_,hd⟩
  ·obtain⟨j,hj⟩:=lC z;exact⟨_,(at_ j a hj).2.2⟩
structure Rg where
 reg:ae
 uy:ae
 vs:ae
 ss:ae
 ms:ae
 va:List ae
 ma:List ae
def Rg.fs(G:Rg)(w:Nat):List (Str×V):=[("width",.int (w:Nat)),("vectors",.ref G.vs),("scalars",.ref G.ss),("masks",.ref G.ms)]
structure nZ(R:Cl)(H:Hp)(G:Rg)(x:bj):Prop where
 reg:H G.reg=some (.ins R.reg G.uy (G.fs x.width))
 vs:H G.vs=some (.lst (G.va.map V.ref))
 ms:H G.ms=some (.lst (G.ma.map V.ref))
 ss:H G.ss=some (.lst (x.ss.map V.int))
 va:G.va.length=16
 ma:G.ma.length=8
 v:∀k b,G.va[k]? =some b->H b=some (.lst ((c8 x k).map V.int))
 m:∀k b,G.ma[k]? =some b->H b=some (.lst ((maskOf x k).map bit))
def Rg.all(G:Rg):List ae:=G.vs::G.va++(G.ss::(G.ms::G.ma))
theorem nZ.mono{R:Cl}{H H':Hp}{G:Rg}{x:bj}(h:nZ R H G x)(k:∀b o,H b=some o->b=G.reg\/b∈G.all->H' b=some o):nZ R H' G x:=by
 have i1:G.vs∈G.all:=by unfold Rg.all;simp
 have i2:G.ss∈G.all:=by unfold Rg.all;simp
 have i3:G.ms∈G.all:=by unfold Rg.all;simp
 exact⟨k _ _ h.reg (.inl rfl),k _ _ h.vs (.inr i1),k _ _ h.ms (.inr i3),k _ _ h.ss (.inr i2),h.va,h.ma,
  λj b e=>k _ _ (h.v j b e) (.inr (by have:=d7 e;unfold Rg.all;simp[this])),λj b e=>k _ _ (h.m j b e) (.inr (by have:=d7 e;unfold Rg.all;simp[this]))⟩
def xh(R:Cl):Sp:=λvs H Q _=>∃p dx w,vs=[.ref p,.int (w:Nat)]/\H p=some (.ins R.reg dx [])/\1<=w/\w<=16/\ ∀H' G,G.reg=p->G.uy=dx->(∀ar,nZ R H' G (fresh w ar))->Made p H H' G.all->Q .aO H'
section
variable{P:aS}{w:aL}{K:az}{mg:Str->Option ah}{base:aC}{f:ae}{fd:bK}{R:Cl}
theorem Hc{α:Type}(k:Nat)(a:α):(cZ k [a]).flatten=cZ k a:=by
 induction k with
 |zero=>rfl
 |succ k ih=>rw[xT,uY,ih];rfl
theorem abH{w k:Nat}{ar:List (List Int)}(h:k<16):(c8 (fresh w ar) k).map V.int=cZ w (.int 0):=by
 unfold c8 tj;rw[BR,if_pos h];exact Qk
theorem abI{w k:Nat}{ar:List (List Int)}(h:k<8):(maskOf (fresh w ar) k).map bit=cZ w (.int 0):=by
 unfold maskOf tj;rw[BR,if_pos h];exact Qk
theorem AQ(F:aG K "__init__" "Registers.__init__" uq f fd)(g:GI mg)(e:EK K R):aD P w K mg base au 1 f fd ["self","width"] (xh R):=by
 refine F.oK wm λaF A outer s H vs Q E hr h=> ?_;obtain⟨p,dx,w,rfl,hp,h1,h2,q⟩:=h;refine⟨_,ay (cT (pv 0) (pv 1) rfl) (ay (cT (pv 0)
  (nL (own:=[("number",2)]) rfl wm.nd (vi rfl g.uv (ai (b_ g.Ng) aj)) (show jn EX (aK uq) _ _ from⟨rfl,by decide+kernel,by decide+kernel,by decide+kernel,by decide+kernel⟩) (λ_ _ _ _ _=>fv (i:=2) wm.nd rfl (aZ rfl))
    (λ_ _ _ _ _=>oQ) (λ_ _ _ _ _=>cy vw (cR (ai aQ aj)) (pv 1))) rfl)
  (ay (cT (pv 0) (cy vw (cR (ai aQ aj)) (b_ g.Nh)) rfl)
  (aw (cT (pv 0)
  (nL (own:=[("number",2)]) rfl wm.nd (vi rfl g.uv (ai (b_ g.Ni) aj)) (show jn EX (aK uq) _ _ from⟨rfl,by decide+kernel,by decide+kernel,by decide+kernel,by decide+kernel⟩) (λ_ _ _ _ _=>fv (i:=2) wm.nd rfl (aZ rfl))
    (λ_ _ _ _ _=>oQ) (λ_ _ _ _ _=>cy vw (cR (ai aQ aj)) (pv 1))) rfl)))),?_⟩
 have m0:Made p H H []:=Made.refl ⟨_,hp⟩;refine⟨_,rfl,_,rfl,_,_,_,_,rfl,hp,e.iG,e.r0,(by show 0<1000;decide),?_⟩
 have m1:=m0.write (o:=.ins R.reg dx (aA "width" (.int (w:Nat)) []));generalize eH1:upd H p (.ins R.reg dx (aA "width" (.int (w:Nat)) []))=H1 at m1⊢;have p1:H1 p=some (.ins R.reg dx (aA "width" (.int (w:Nat)) [])):=by rw[<-eH1,aB]
 have turn:∀(σ:L2.St) (H2 H':Hp) (D:ae) (i n:Nat),H2 D=none->n<=16->i<n->σ[1]? =some (some (.int (w:Nat)))->iW H2 D (λ_=>.lst (cZ w (.int 0))) i H'->
  vm Kz (J9 (p_ (tC (.int 0)) tP)) (pU 1) σ H' λy H4=>∃acc,H4 D=some (.lst acc)/\acc.length<sizeLine/\iW H2 D (λ_=>.lst (cZ w (.int 0))) (i+1) (upd H4 D (.lst (acc++[y]))):=by
  intro σ H2 H' D i n hD hn hi hσ rI;refine⟨(by show 1<=sizeLine;rw[aR];decide),λl hl=>⟨_,hσ,l,_,_,rfl,rfl,aB,by omega,by omega,(by show 1*_<=sizeLine;rw[aR,gW];omega),λr hr=> ?_⟩⟩
  have lr:r≠l:=λz=>by rw[z,aB] at hr;cases hr
  have se:H' r=none:=by rw[ak lr] at hr;exact hr
  rw[gW,Hc];exact rI.next hD se (λb o eb=>by rw[ak (bD eb se),ak (bD eb hl)];exact eb) aB (by omega)
 refine⟨16,rfl,by decide,by decide,λD hD=>KS (n:=16) (iW H1 D λ_=>.lst (cZ w (.int 0))) (iW.start hD) (λi H' hi rI=>⟨rfl,turn _ _ _ _ _ 16 hD (bE _) hi rfl rI⟩) λH2 rI=> ?_⟩
 obtain⟨va,NK,hva,hD2,m2⟩:=rI.made m1 hD;have p2:H2 p=some (.ins R.reg dx (aA "width" (.int (w:Nat)) [])):=by obtain⟨_,_,_,kp,_⟩:=rI;exact kp _ _ p1
 refine⟨_,rfl,_,_,_,_,rfl,p2,e.iG,e.GY,(by show 1<1000;decide),?_⟩
 have m3:=m2.write (o:=.ins R.reg dx (aA "vectors" (.ref D) (aA "width" (.int (w:Nat)) [])));generalize NL:upd H2 p (.ins R.reg dx (aA "vectors" (.ref D) (aA "width" (.int (w:Nat)) [])))=H3 at m3⊢;have p3:H3 p=some (.ins R.reg dx (aA "vectors" (.ref D) (aA "width" (.int (w:Nat)) []))):=by rw[<-NL,aB]
 refine⟨(by show 1<=sizeLine;rw[aR];decide),λl hl=>⟨l,_,_,rfl,rfl,aB,by decide,by decide,(by show 1*_<=sizeLine;rw[aR];decide),λS hS=> ?_⟩⟩
 have lS:S≠l:=λz=>by rw[z,aB] at hS;cases hS
 have xi:H3 S=none:=by rw[ak lS] at hS;exact hS
 have k4:∀b o,H3 b=some o->upd (upd H3 l (.lst [.int 0])) S (.lst (cZ (16:Int).toNat [V.int 0]).flatten) b=some o:=λb o eb=>by rw[ak (bD eb xi),ak (bD eb hl)];exact eb
 have m4:=m3.one (o:=.lst (cZ (16:Int).toNat [V.int 0]).flatten) xi k4 aB;generalize Hd:upd (upd H3 l (.lst [.int 0])) S (.lst (cZ (16:Int).toNat [V.int 0]).flatten)=H4 at m4 k4;have s4:H4 S=some (.lst (cZ 16 (V.int 0))):=by rw[<-Hd,aB];rfl
 have p4:H4 p=some (.ins R.reg dx (aA "vectors" (.ref D) (aA "width" (.int (w:Nat)) []))):=k4 _ _ p3;refine⟨_,rfl,_,_,_,_,rfl,p4,e.iG,e.AD,(by show 2<1000;decide),?_⟩
 have m5:=m4.write (o:=.ins R.reg dx (aA "scalars" (.ref S) (aA "vectors" (.ref D) (aA "width" (.int (w:Nat)) []))));generalize AR:upd H4 p (.ins R.reg dx (aA "scalars" (.ref S) (aA "vectors" (.ref D) (aA "width" (.int (w:Nat)) []))))=H5 at m5⊢;have p5:H5 p=some (.ins R.reg dx (aA "scalars" (.ref S) (aA "vectors" (.ref D) (aA "width" (.int (w:Nat)) [])))):=by rw[<-AR,aB]
 refine⟨8,rfl,by decide,by decide,λM hM=>KS (n:=8) (iW H5 M λ_=>.lst (cZ w (.int 0))) (iW.start hM) (λi H' hi rI=>⟨rfl,turn _ _ _ _ _ 8 hM (by decide) hi rfl rI⟩) λH6 rI=> ?_⟩
 obtain⟨ma,NM,hma,hM6,m6⟩:=rI.made m5 hM;have k6:∀b o,H5 b=some o->H6 b=some o:=by obtain⟨_,_,_,kp,_⟩:=rI;exact kp
 refine⟨_,rfl,_,_,_,_,rfl,k6 _ _ p5,e.iG,e.AE,(by show 3<1000;decide),?_⟩
 have m7:=m6.write (o:=.ins R.reg dx (aA "masks" (.ref M) (aA "scalars" (.ref S) (aA "vectors" (.ref D) (aA "width" (.int (w:Nat)) [])))));have np:∀a,H a=none->a≠p:=λa h z=>by rw[z,hp] at h;cases h
 have nD:D≠p:=np D (m2.fr D (by simp))
 have nS:S≠p:=np S (m4.fr S (by simp))
 have nM:M≠p:=np M (m6.fr M (by simp))
 have nva:∀(k:Nat) (b:ae),va[k]? =some b->b≠p:=λk b h=>np b (m2.fr b (by simp[d7 h]))
 have nma:∀(k:Nat) (b:ae),ma[k]? =some b->b≠p:=λk b h=>np b (m6.fr b (by simp[d7 h]))
 have k3:∀b o,H2 b=some o->b≠p->H3 b=some o:=λb o eb n=>by rw[<-NL,ak n];exact eb
 have k5:∀b o,H4 b=some o->b≠p->H5 b=some o:=λb o eb n=>by rw[<-AR,ak n];exact eb
 have k7:∀b o,H6 b=some o->b≠p->upd H6 p (.ins R.reg dx (aA "masks" (.ref M) (aA "scalars" (.ref S) (aA "vectors" (.ref D) (aA "width" (.int (w:Nat)) []))))) b=some o:=λb o eb n=>by rw[ak n];exact eb
 have NN:∀b o,H2 b=some o->b≠p->upd H6 p (.ins R.reg dx (aA "masks" (.ref M) (aA "scalars" (.ref S) (aA "vectors" (.ref D) (aA "width" (.int (w:Nat)) []))))) b=some o:=λb o eb n=>k7 _ _ (k6 _ _ (k5 _ _ (k4 _ _ (k3 _ _ eb n)) n)) n;refine q _ ⟨p,dx,D,S,M,va,ma⟩ rfl rfl (λar=>⟨aB,NN _ _ hD2 nD,k7 _ _ hM6 nM,k7 _ _ (k6 _ _ (k5 _ _ s4 nS)) nS,NK,NM,λk b h=> ?_,λk b h=> ?_⟩) (by
  have e1:Rg.all ⟨p,dx,D,S,M,va,ma⟩=(([]++(D::va))++[S])++(M::ma):=by unfold Rg.all;simp
  rw[e1];exact m7)
 ·rw[abH (by rw[<-NK];exact(dy.mp h).1)]
  exact NN _ _ (hva k b h) (nva k b h)
 ·rw[abI (by rw[<-NM];exact(dy.mp h).1)]
  exact k7 _ _ (hma k b h) (nma k b h)
end
structure uB(H:Hp)(a:ae)(as:List ae)(ar:List (List Int)):Prop where
 l:H a=some (.lst (as.map V.ref))
 n:as.length=ar.length
 at_:∀(k:Nat) (b:ae),as[k]? =some b->H b=some (.lst (((ar[k]?).getD []).map V.int))
structure xj(R:Cl)(H0 H:Hp)(w:Nat)(a0:ae)(jS:List ae)(ar:List (List Int)):Prop where
 w1:1<=w
 w2:w<=16
 arr:uB H a0 jS ar
 al:ar.length<=32
 nums:∀v∈ar,∀n∈v,Num n
 tb:jc R H
 tl:R.cf.length=R.rY.length
 tn:R.cf.Nodup
 old:∀b o,H0 b=some o->H b=some o
 ot:∀b∈R.cf,H0 b=none
def Rn.flat(L:Rn):List ae:=L.run::L.ss::L.fa::(L.tb++(L.va++(L.ma++L.aa)))
def Rn.pos(L:Rn):Slot->Nat
 | .run=>0
 | .ss=>1
 | .fa=>2
 | .tb i=>3+i
 | .v k=>3+(L.tb.length+k)
 | .m k=>3+(L.tb.length+(L.va.length+k))
 | .a k=>3+(L.tb.length+(L.va.length+(L.ma.length+k)))
theorem AS{α:Type}(a b c:α)(l:List α)(k:Nat):(a::b::c::l)[3+k]? =l[k]? :=by
 rw[show 3+k=k+1+1+1 by omega];rfl
theorem uC{α:Type}(l r:List α)(k:Nat):(l++r)[l.length+k]? =r[k]? :=by
 rw[PN (by omega)]
 congr 1;omega
theorem He{α:Type}{l:List α}(r:List α){k:Nat}{a:α}(h:l[k]? =some a):(l++r)[k]? =some a:=by
 rw[PQ (dy.mp h).1];exact h
theorem Rn.Hf{L:Rn}{s:Slot}{b:ae}(h:L.at s=some b):L.flat[L.pos s]? =some b:=by
 cases s with
 |run=>exact h
 |ss=>exact h
 |fa=>exact h
 |tb i=>show L.flat[3+i]? =some b;unfold Rn.flat;rw[AS];exact He _ h
 |v i=>show L.flat[3+(_+i)]? =some b;unfold Rn.flat;rw[AS,uC];exact He _ h
 |m i=>show L.flat[3+(_+(_+i))]? =some b;unfold Rn.flat;rw[AS,uC,uC];exact He _ h
 |a i=>show L.flat[3+(_+(_+(_+i)))]? =some b;unfold Rn.flat;rw[AS,uC,uC,uC];exact h
theorem Rn.NO{L:Rn}{s:Slot}{b:ae}(h:L.at s=some b):match s with
 | .tb i=>i<L.tb.length
 | .v i=>i<L.va.length
 | .m i=>i<L.ma.length
 | .a i=>i<L.aa.length
 |_=>True:=by
 cases s with
 |run=>trivial
 |ss=>trivial
 |fa=>trivial
 |tb i=>exact(dy.mp h).1
 |v i=>exact(dy.mp h).1
 |m i=>exact(dy.mp h).1
 |a i=>exact(dy.mp h).1
theorem Rn.inj{L:Rn}(nd:L.flat.Nodup)(s t:Slot)(b:ae)(hs:L.at s=some b)(ht:L.at t=some b):s=t:=by
 have e:L.pos s=L.pos t:=S0 nd (Rn.Hf hs) (Rn.Hf ht);have ls:=Rn.NO hs;have lt:=Rn.NO ht;cases s<;>cases t<;>simp only[Rn.pos] at e ls lt<;>first|rfl|(exfalso;omega)|(congr 1;omega)
theorem Rn.NP{L:Rn}{b:ae}(h:L.mut b):b∈L.flat:=let ⟨_,h⟩:=h;d7 (Rn.Hf h)
theorem abJ(w:Nat)(ar:List (List Int)):dk (fresh w ar)=cB w:=by
 unfold dk;refine List.filter_eq_self.mpr λl hl=> ?_;show(((cZ w none)[l]?).getD none:Option Fault).isNone=true;rw[BR]
 split<;>rfl
theorem NQ{α β:Type}{p:α->β->Prop}{a:α}{b:β}(h:p a b):∀n,Paired p (cZ n a) (cZ n b)
 |0=>.nil
 |n+1=>.cons h (NQ h n)
section
variable{R:Cl}{H0 H H':Hp}{G:Rg}{w n:Nat}{p dx a0 ar fa un:ae}{jS aa:List ae}{arr:List (List Int)}
abbrev iI(R:Cl)(G:Rg)(p dx ar fa:ae)(aa:List ae):Rn:=⟨p,dx,G.reg,G.uy,G.vs,G.ss,G.ms,ar,fa,G.va,G.ma,aa,R.cf⟩
theorem abK(hr:xj R H0 H w a0 jS arr)(hp:H p=some (.ins R.run dx []))(ph:H0 p=none)(M:Made p H H' ([G.reg]++G.all++(ar::aa)++[fa]++[un]))
 (hp':H' p=some (.ins R.run dx (gS (iI R G p dx ar fa aa) n un))) (g:nZ R H' G (fresh w arr)) (ha:uB H' ar aa arr) (hfa:H' fa=some (.lst (cZ w .aO))) (uD:H' un=some (.lst (nats (cB w)))):
 bJ R H0 (iI R G p dx ar fa aa) (fresh w arr) n H'/\ar≠G.vs/\ar≠G.ms:=by
 have pm:([G.reg]++G.all++(ar::aa)++[fa]++[un]).Perm (G.reg::G.vs::G.ms::ar::un::(G.ss::fa::(G.va++(G.ma++aa)))):=by
  refine List.perm_iff_count.mpr λa=> ?_;unfold Rg.all;simp only[List.count_append,List.count_cons,List.count_nil,B0];omega
 have nd:=pm.nodup_iff.mp M.nd;have fr:∀a∈(G.reg::G.vs::G.ms::ar::un::(G.ss::fa::(G.va++(G.ma++aa)))),H a=none:=λa h=>M.fr a (pm.mem_iff.mpr h);have ht:∀t∈R.cf,∃a,H t=some (.dM a):=λt h=>by
  obtain⟨i,hi⟩:=lC h;obtain⟨q,_,h1|⟨c,h1,_⟩⟩:=hr.tb i t hi
  ·exact⟨_,h1⟩
  ·exact⟨_,h1⟩
 have pt:p∉R.cf:=λh=>by obtain⟨a,h⟩:=ht p h;rw[hp] at h;cases h
 have inner:=(fE.mp (fE.mp (fE.mp (fE.mp (fE.mp nd).2).2).2).2).2;have AU:∀a∈(G.ss::fa::(G.va++(G.ma++aa))),H a=none:=λa h=>fr a (by simp only[cC] at h⊢;right;right;right;right;right;exact h)
 have pI:p∉(G.ss::fa::(G.va++(G.ma++aa))):=λh=>by have:=AU p h;rw[hp] at this;cases this
 have tI:∀t∈R.cf,t∉(G.ss::fa::(G.va++(G.ma++aa))):=λt h h2=>by obtain⟨a,h⟩:=ht t h;rw[AU t h2] at h;cases h
 have mm:∀b,(iI R G p dx ar fa aa).mut b->b=p\/b∈R.cf\/b∈(G.ss::fa::(G.va++(G.ma++aa))):=λb h=>by
  have h:=Rn.NP h;simp only[Rn.flat,cC,gO] at h⊢;rcases h with h|h|h|h|h
  ·exact .inl h
  ·exact .inr (.inr (.inl h))
  ·exact .inr (.inr (.inr (.inl h)))
  ·exact .inr (.inl h)
  ·exact .inr (.inr (.inr (.inr h)))
 have nm:∀b,H b=none->b∉(G.ss::fa::(G.va++(G.ma++aa)))-> ¬(iI R G p dx ar fa aa).mut b:=λb h1 h2 h3=>by
  rcases mm b h3 with z|z|z
  ·rw[z,hp] at h1;cases h1
  ·obtain⟨a,h⟩:=ht b z;rw[h] at h1;cases h1
  ·exact h2 z
 have flat:(iI R G p dx ar fa aa).flat.Nodup:=by
  have e:(iI R G p dx ar fa aa).flat.Perm (p::(R.cf++(G.ss::fa::(G.va++(G.ma++aa))))):=by
   refine List.perm_iff_count.mpr λa=> ?_;unfold Rn.flat;simp only[List.count_append,List.count_cons,List.count_nil];omega
  refine e.nodup_iff.mpr (fE.mpr ⟨λh=> ?_,u6.mpr ⟨hr.tn,inner,λa h1 b h2 z=> ?_⟩⟩)
  ·rcases gO.mp h with h|h
   ·exact pt h
   ·exact pI h
  ·subst z;exact tI a h1 h2
 have nr: ¬(iI R G p dx ar fa aa).mut G.reg:=nm _ (fr _ (by simp)) λh=>(fE.mp nd).1 (by simp only[cC] at h⊢;right;right;right;right;exact h)
 have xk:=(fE.mp nd).2;have nv: ¬(iI R G p dx ar fa aa).mut G.vs:=nm _ (fr _ (by simp)) λh=>(fE.mp xk).1 (by simp only[cC] at h⊢;right;right;right;exact h)
 have Hg:=(fE.mp xk).2;have nms: ¬(iI R G p dx ar fa aa).mut G.ms:=nm _ (fr _ (by simp)) λh=>(fE.mp Hg).1 (by simp only[cC] at h⊢;right;right;exact h)
 have NR:=(fE.mp Hg).2;have nar: ¬(iI R G p dx ar fa aa).mut ar:=nm _ (fr _ (by simp)) λh=>(fE.mp NR).1 (by simp only[cC] at h⊢;right;exact h)
 have nd5:=(fE.mp NR).2;have nun: ¬(iI R G p dx ar fa aa).mut un:=nm _ (fr _ (by simp)) (fE.mp nd5).1
 refine⟨⟨WF.fresh hr.w1 hr.w2 arr,Nums.fresh w hr.nums,Rn.inj flat,g.va,g.ma,ha.n,rfl,λs b hs=> ?_,⟨nr,g.reg⟩,⟨nv,g.vs⟩,⟨nms,g.ms⟩,⟨nar,ha.l⟩,λb o e=>M.kp b o (hr.old b o e) (λz=>by rw[z,ph] at e;cases e),λb hb=> ?_⟩,λz=> ?_,λz=> ?_⟩
 ·cases s with
  |run=>cases hs;exact⟨_,hp',un,nun,rfl,by rw[abJ];exact uD⟩
  |ss=>cases hs;exact⟨_,g.ss,rfl⟩
  |fa=>cases hs;exact⟨_,hfa,_,rfl,NQ (p:=rZ (iI R G p dx ar fa aa) H') (a:=V.aO) (b:=none) (show V.aO=V.aO from rfl) w⟩
  |tb i=>
   have hs:R.cf[i]? =some b:=hs;have np:b≠p:=λz=>pt (by rw[<-z];exact d7 hs)
   obtain⟨q,e1,h1|⟨c,h1,h2⟩⟩:=hr.tb i b hs
   ·exact⟨_,M.kp _ _ h1 np,q,e1,.inl rfl⟩
   ·have cp:c≠p:=cE h2 hp (by unfold iE;intro z;cases z)
    refine⟨_,M.kp _ _ h1 np,q,e1,.inr ⟨c,λhm=> ?_,rfl,M.kp _ _ h2 cp⟩⟩;rcases mm c hm with z|z|z
    ·exact cp z
    ·obtain⟨a,h⟩:=ht c z;rw[h2] at h;unfold iE at h;cases h
    ·rw[AU c z] at h2;cases h2
  |v k=>exact⟨_,g.v k b hs,rfl⟩
  |m k=>exact⟨_,g.m k b hs,rfl⟩
  |a k=>exact⟨_,ha.at_ k b hs,rfl⟩
 ·rcases mm b hb with z|z|z
  ·rw[z];exact ph
  ·exact hr.ot b z
  ·cases q:H0 b with
   |none=>rfl
   |some o=>have:=AU b z;rw[hr.old b o q] at this;cases this
 ·exact(fE.mp xk).1 (by rw[<-z];simp)
 ·exact(fE.mp Hg).1 (by rw[<-z];simp)
end
open Vaarrj (Text Toks digit letter inner blank here valueOf oneWay)
open MX (S)
structure Cg where
 mz:ae
 tok:ae
 dv:ae
 code:ae
 cq:ae
def dQ(t:aM):List V:=t.map λ(c:Nat)=>V.int (c:Int)
theorem qw{t:aM}{i c:Nat}(h:t[i]? =some c):kb (dQ t) (i:Int)=some (.int (c:Int)):=cX (by unfold dQ;exact ia h)
theorem ik(t:aM):(dQ t).length=t.length:=by unfold dQ;rw[bx]
def pj(C:Cg)(E:XK)(H0:Hp)(p:Nat):Prop:=∀H' d,(∀b o,H0 b=some o->H' b=some o)->H' d=some (fJ d [("position",.int (p:Nat))])->E (.ref C.mz) (some d) H'
section
variable{P:aS}{w:aL}{K:az}{mg:Str->Option ah}{base:aC}{f:ae}{fd:bK}{R:Cl}{C:Cg}
def xm(C:ae):Sp:=λvs H Q _=>∃x p,vs=[.ref x,.int p]/\H x=some (km C x)/\ ∀d,H d=none->d≠x->Q .aO (upd (upd H d (fJ d [("position",.int p)])) x (gD C x d))
structure NT(K:az)(C N:ae)(fi:ae)(e_:bK):Prop where
 cls:jb K C N fi
 pos:mh K N "position"
 fn:aG K "__init__" "FormError.__init__" FE fi e_
theorem Hh{C N:ae}(S:NT K C N f fd):aD P w K mg base au 1 f fd ["self","position"] (xm C):=by
 refine S.fn.oK YK λaF A outer s H vs Q E hr h=> ?_;obtain⟨x,p,rfl,hx,q⟩:=h;refine⟨_,aw (Mp S.cls S.pos (pv 0) (pv 1) rfl),?_⟩;exact⟨_,rfl,_,rfl,x,rfl,hx,λd hd hn=>q d hd hn⟩
structure n6(K:az)(mg:Str->Option ah)(C:Cg):Prop where
 ex:∃N fi e_,NT K C.mz N fi e_/\mg "FormError"=some (.ref C.mz)
theorem Hi{E:XK}{H0 H:Hp}{p:Nat}{x:ae}(h:pj C E H0 p)(k:∀b o,H0 b=some o->H b=some o)(hx:H x=none):
 xm C.mz [.ref x,.int (p:Nat)] (upd H x (km C.mz x)) (λv H2=>v=.aO/\ ∃x' d,V.ref x=.ref x'/\H2 x'=some (gD C.mz x' d)/\E (.ref C.mz) (some d) (del H2 x')) E0:=by
 refine⟨x,_,rfl,aB,λd hd hn=>⟨rfl,x,d,rfl,aB,h _ d (λb o e=> ?_) ?_⟩⟩
 ·have e:=k _ _ e;have b1:b≠x:=λz=>by rw[z,hx] at e;cases e
  have b2:b≠d:=λz=>by rw[z] at e;rw[ak hn] at hd;rw[hd] at e;cases e
  rw[js b1,ak b1,ak b2,ak b1];exact e
 ·rw[js hn,ak hn,aB]
def xn(x:aM)(p e:Nat):List (Str×V):=[("text",.str (S x)),("start",.int (p:Nat)),("end",.int (e:Nat))]
structure AV(K:az)(C:Cg):Prop where
 cls:iz K C.tok
 text:dC K C.tok "text"
 start:dC K C.tok "start"
 end_:dC K C.tok "end"
def uE(C:Cg):Sp:=λvs H Q _=>∃a dx x p e,vs=[.ref a,.str (S x),.int ((p:Nat):Int),.int ((e:Nat):Int)]/\H a=some (.ins C.tok dx [])/\ ∀H',H' a=some (.ins C.tok dx (xn x p e))->(∀b o,H b=some o->b≠a->H' b=some o)->Q .aO H'
theorem Hj(F:aG K "__init__" "Token.__init__" zL f fd)(T:AV K C):aD P w K mg base au 1 f fd ["self","text","start","end"] (uE C):=by
 refine F.oK YM λaF A outer s H vs Q E hr h=> ?_;obtain⟨a,dx,x,p,e,rfl,ha,q⟩:=h;refine⟨_,ay (cT (pv 0) (pv 1) rfl) (ay (cT (pv 0) (pv 2) rfl) (aw (cT (pv 0) (pv 3) rfl))),?_⟩;refine⟨_,rfl,_,rfl,_,_,_,_,rfl,ha,T.cls,T.text,(by show 0<1000;decide),?_⟩
 refine⟨_,rfl,_,rfl,_,_,_,_,rfl,aB,T.cls,T.start,(by show 1<1000;decide),?_⟩
 refine⟨_,rfl,_,rfl,_,_,_,_,rfl,aB,T.cls,T.end_,(by show 2<1000;decide),?_⟩
 exact q _ (by rw[aB];rfl) λb o e hb=>by rw[ak hb,ak hb,ak hb];exact e
def n8:Sp:=λvs H Q _=>∃c:Nat,vs=[.int (c:Int)]/\Q (.bl (digit c)) H
theorem abL(F:aG K "is_digit" "is_digit" zM f fd)(g:GI mg):aD P w K mg base au 1 f fd ["byte"] n8:=by
 refine F.oK YO λaF A outer s H vs Q E hr h=> ?_;obtain⟨c,rfl,q⟩:=h;refine⟨_,aw (bw (yE iQ gz (b_ g.Gy) (pv 0) (cy i8 (b_ g.Gy) (eS vt (by rfl) g.fW gj (ai (uw g.Nn) aj))))),?_⟩
 refine⟨_,rfl,_,_,rfl,rfl,_,rfl,bY (λz=> ?_) λz=> ?_⟩
 ·refine⟨_,rfl,(by rw[aR];decide),_,_,rfl,rfl,_,_,rfl,rfl,?_⟩
  have e:decide ((c:Int)<48+(((("0123456789":Str).length:Nat)):Int))=digit c:=by
   unfold digit;have:((("0123456789":Str).length:Nat):Int)=10:=by decide+kernel
   rw[this];exact decide_eq_decide.mpr ⟨λy=>⟨by omega,by omega⟩,λy=>by omega⟩
  exact Eq.mp (congrArg (λb=>Q (V.bl b) H) e.symm) q
 ·have e:digit c=false:=decide_eq_false λy=>z (by omega)
  rw[e] at q;exact q
def uF:Sp:=λvs H Q _=>∃c:Nat,vs=[.int (c:Int)]/\Q (.bl (letter c)) H
theorem abM(F:aG K "is_letter" "is_letter" zN f fd)(g:GI mg):aD P w K mg base au 1 f fd ["byte"] uF:=by
 refine F.oK YR λaF A outer s H vs Q E hr h=> ?_;obtain⟨c,rfl,q⟩:=h;refine⟨_,aw (bw (yE iQ gz (b_ g.Gz) (pv 0) (cy i8 (b_ g.Gz) (eS vt (by rfl) g.fW gj (ai (uw g.Nm) aj))))),?_⟩
 refine⟨_,rfl,_,_,rfl,rfl,_,rfl,bY (λz=> ?_) λz=> ?_⟩
 ·refine⟨_,rfl,(by rw[aR];decide),_,_,rfl,rfl,_,_,rfl,rfl,?_⟩
  have e:decide ((c:Int)<97+(((("abcdefghijklmnopqrstuvwxyz":Str).length:Nat)):Int))=letter c:=by
   unfold letter;have:((("abcdefghijklmnopqrstuvwxyz":Str).length:Nat):Int)=26:=by decide+kernel
   rw[this];exact decide_eq_decide.mpr ⟨λy=>⟨by omega,by omega⟩,λy=>by omega⟩
  exact Eq.mp (congrArg (λb=>Q (V.bl b) H) e.symm) q
 ·have e:letter c=false:=decide_eq_false λy=>z (by omega)
  rw[e] at q;exact q
theorem abN(F:Df K mg "is_digit" zM f fd)(g:GI mg):aN P w K mg base au 1 "is_digit" ["byte"] n8:=
 ⟨f,fd,abL F.1 g,F.2,F.1.kp,F.1.b1 "byte"⟩
theorem abO(F:Df K mg "is_letter" zN f fd)(g:GI mg):aN P w K mg base au 1 "is_letter" ["byte"] uF:=
 ⟨f,fd,abM F.1 g,F.2,F.1.kp,F.1.b1 "byte"⟩
def AW:Sp:=λvs H Q _=>∃c:Nat,vs=[.int (c:Int)]/\inner c=true/\Q (.str (S [c])) H
theorem abP:∀c:Nat,digit c=true->("0123456789":Str).cps.toList[c-48]? =some c:=by
 intro c h;have:=MP.kS h;have e:∀d:Fin 58,48<=d.val->("0123456789":Str).cps.toList[d.val-48]? =some d.val:=by decide+kernel
 exact e ⟨c,by omega⟩ this.1
theorem abQ:∀c:Nat,letter c=true->("abcdefghijklmnopqrstuvwxyz":Str).cps.toList[c-97]? =some c:=by
 intro c h;have:=MP.ql h;have e:∀d:Fin 123,97<=d.val->("abcdefghijklmnopqrstuvwxyz":Str).cps.toList[d.val-97]? =some d.val:=by decide+kernel
 exact e ⟨c,by omega⟩ this.1
theorem abR(F:aG K "character" "character" zO f fd)(g:GI mg)(GD:aN P w K mg base au 1 "is_digit" ["byte"] n8):aD P w K mg base au 2 f fd ["byte"] AW:=by
 refine F.oK YT λaF A outer s H vs Q E hr h=> ?_;obtain⟨c,rfl,hc,q⟩:=h;refine⟨_,ay (b7 (gZ (aY GD hr a_ (ai (pv 0) aj))) (aw (bw (cj CW (uw g.Nn) (cy p9 (pv 0) (b_ g.Gy)) (λ_ _=>rfl)))) cJ)
  (aw (bw (cj CW (uw g.Nm) (cy p9 (pv 0) (b_ g.Gz)) (λ_ _=>rfl)))),?_⟩
 refine⟨_,rfl,c,rfl,_,rfl,j7 (λz=> ?_) λz=> ?_⟩
 ·have:=MP.kS z;refine⟨_,rfl,_,_,rfl,rfl,_,_,_,rfl,rfl,(by rw[aR];decide),?_,q⟩
  rw[show((c:Int)-48)=((c-48:Nat):Int) by omega]
  exact cX (abP c z)
 ·have lc:letter c=true:=by
   unfold inner at hc;rw[z,sT] at hc;exact hc
  have:=MP.ql lc;refine⟨_,rfl,_,_,rfl,rfl,_,_,_,rfl,rfl,(by rw[aR];decide),?_,q⟩
  rw[show((c:Int)-97)=((c-97:Nat):Int) by omega]
  exact cX (abQ c lc)
theorem abS(F:Df K mg "character" zO f fd)(g:GI mg)(GD:aN P w K mg base au 1 "is_digit" ["byte"] n8):aN P w K mg base au 2 "character" ["byte"] AW:=
 ⟨f,fd,abR F.1 g GD,F.2,F.1.kp,F.1.b1 "byte"⟩
def sf(K:az):Sp:=λvs H Q _=>∃a t p e,vs=[.ref a,.int ((p:Nat):Int),.int ((e:Nat):Int)]/\aI K H a (dQ t)/\p<=e/\e<=t.length/\t.length<=20000/\ (∀c∈(t.drop p).take (e-p),inner c=true)/\ ∀H',(∀b o,H b=some o->H' b=some o)->Q (.str (S ((t.drop p).take (e-p)))) H'
theorem abT{t:aM}{p e:Nat}(h1:p<=e)(h2:e<=t.length):qc (dQ t) (some (p:Int)) (some (e:Int))=dQ ((t.drop p).take (e-p)):=by
 unfold qc HT.cK;rw[ik];simp only[show¬((p:Int)<0) by omega,show¬((e:Int)<0) by omega,if_false,gW]
 rw[Jq (by omega),Jq (by omega)]
 unfold dQ;rw[<-List.map_drop,<-List.map_take]
theorem join_ones(l:aM):xV (S []) (l.map λc=>S [c])=S l:=by
 refine TL.rq ?_;rw[TL.join_eq,TL.yO,MX.kU,MX.kU,iO]
 induction l with
 |nil=>rfl
 |cons c r ih=>
  cases r with
  |nil=>rfl
  |cons d r=>exact congrArg (c:: ·) ih
theorem abU(F:aG K "characters" "characters" wD f fd)(GC:aN P w K mg base au 2 "character" ["byte"] AW):aD P w K mg base au 3 f fd ["text","start","end"] (sf K):=by
 refine F.oK FF λaF A outer s H vs Q E hr h=> ?_;obtain⟨a,t,p,e,rfl,ha,h1,h2,h3,h4,q⟩:=h;refine⟨_,aw (bw (yP bZ (nL (own:=[("byte",3)]) rfl FF.nd (g8 (vq CY (pv 0) (qa (pv 1)) (qa (pv 2)))) (show jn M6 (aK wD) _ _ from⟨rfl,by decide+kernel,by decide+kernel,by decide+kernel,by decide+kernel⟩) (λ_ _ _ _ _=>fv (i:=3) FF.nd rfl (aZ rfl))
  (λ_ _ _ _ _=>oQ) (λ_ _ _ _ _=>aY GC hr a_ (ai (pv 3) aj))))),?_⟩
 generalize ew:(t.drop p).take (e-p)=u at h4 q;have lu:u.length<=20000:=by
  rw[<-ew,jY,kF];omega
 refine⟨⟨_,rfl⟩,_,rfl,_,rfl,_,rfl,_,rfl,_,rfl,a,_,rfl,ha,λr se=> ?_⟩;rw[abT h1 h2,ew];refine⟨_,rfl,⟨_,aI.of aB⟩,λD hD=> ?_⟩;have rD:r≠D:=λz=>by rw[<-z,aB] at hD;cases hD
 refine qf (K:=K) (a:=r) (xs:=dQ u) (λi H'=>(∀b o,upd H r (.lst (dQ u)) b=some o->H' b=some o)/\H' D=some (.lst (((u.take i).map λc=>V.str (S [c]))))) ⟨λb o e=> ?_,by rw[aB];rfl⟩ (λi H' _ k=>aI.of (k.1 _ _ aB)) (λi v H' hi k=> ?_) λH' k=> ?_
 ·rw[ak (bD e hD)];exact e
 ·unfold dQ at hi;rw[dH] at hi;cases y:u[i]? with
  |none=>rw[y] at hi;cases hi
  |some c=>
   rw[y] at hi;obtain rfl:V.int (c:Int)=v:=by injection hi
   refine⟨rfl,_,rfl,c,rfl,h4 c (d7 y),_,k.2,?_,λb o e=> ?_,?_⟩
   ·rw[bx,jY,aR];omega
   ·rw[ak (bD e hD)];exact k.1 _ _ e
   ·rw[aB,MR.take_snoc y,iw];rfl
 ·have e1:(dQ u).length=u.length:=ik u;rw[e1,oE] at k;refine⟨S [],D,u.map λc=>S [c],rfl,rfl,.inl (aI.of (by rw[k.2,iO];rfl)),?_,?_⟩
  ·have:∀l:aM,((l.map λc=>S [c]).map (·.length)).sum=l.length:=λl=>by
    induction l with
    |nil=>rfl
    |cons c r ih=>rw[i0,i0,u5,ih,cI,MX.cM];simp;omega
   rw[this,MX.cM];simp;omega
  ·rw[join_ones];exact q H' λb o e=>k.1 b o (by rw[ak (bD e se)];exact e)
end
open Vaarrj (dec)
open MP (dZ)
open TL
section
variable{P:aS}{w:aL}{K:az}{mg:Str->Option ah}{base:aC}{f:ae}{fd:bK}{R:Cl}{C:Cg}
def abV:Option Nat->V
 |some k=>.int (k:Int)
 |none=>.aO
def qx:Sp:=λvs H Q _=>∃ds most,vs=[.str (S ds),.int most]/\ (∀c∈ds,c<128)/\ds.length<=20000/\ -1<=most/\most<=1000000000000000000/\Q (abV (dZ ds most)) H
theorem NU{n:Nat}(h:n<2^64):n.log2<1920:=by
 by_cases z:n=0
 ·subst z;decide
 ·exact ej ((Nat.log2_lt z).mpr h) (by decide)
theorem boot_int:mU "int"=some (.type "int"):=by decide+kernel
theorem boot_str:mU "str"=some (.type "str"):=by decide+kernel
theorem abW{c:Nat}(h:c<128):Jr c=digit c:=by
 have:∀d:Fin 128,Jr d.val=digit d.val:=by decide+kernel
 exact this ⟨c,h⟩
theorem abX{ds:aM}(h:∀c∈ds,c<128):Jb (S ds)=(!ds.isEmpty&&ds.all digit):=by
 unfold Jb;rw[MX.cM];have e1:(S ds).cps.all Jr=ds.all digit:=by
  show ds.toArray.all Jr=_;rw[List.all_toArray]
  induction ds with
  |nil=>rfl
  |cons c r ih=>rw[lj,lj,ih λc hc=>h c (by simp[hc]),abW (h c (by simp))]
 rw[e1];cases ds with
 |nil=>rfl
 |cons c r=>rfl
theorem NV{ds:aM}(h:ds.all digit=true)(h0:ds≠[])(hl:ds.length<=640):intText? (S ds)=some ((valueOf ds:Nat):Int):=by
 have e:=intText_digits (x:=S ds) (λc hc=>by have:=MP.kS (kH.mp h c hc);exact this) h0 (by rw[MX.cM];omega)
 rw[e,MX.VJ];rfl
theorem abY(F:aG K "decimal" "decimal" zQ f fd)(g:GI mg):aD P w K mg base au 1 f fd ["digits","most"] qx:=by
 refine F.oK M7 λaF A outer s H vs Q E hr h=> ?_;obtain⟨ds,most,rfl,asc,ln,lo,hi,q⟩:=h;refine⟨_,ay (b7 (kM (lF (gZ (SO PySem.F.slot_str_isdigit PySem.F.type_str_isdigit SJ (pv 0)))) (nE (bW lL (eS vt (by rfl) g.fW gj (ai (pv 0) aj)) (eS vt (by rfl) g.fW gj (ai (oN yF (by rfl) g.Ax boot_str (ai (pv 1) aj)) aj)) (bQ _)))).pt (aw (bw jC)) cJ)
  (ay (b7 (pW (bW fR (cj CW (pv 0) aQ (λ_ _=>rfl)) bZ (bQ _)) (pV (bW lL (eS vt (by rfl) g.fW gj (ai (pv 0) aj)) aQ (bQ _)))).pt (aw (bw jC)) cJ)
  (ay (bH (i:=2) M7.nd rfl (aZ rfl) (oN SM (by rfl) g.aaf boot_int (ai (pv 0) aj)))
  (aw (bw (ji (bW iQ (pv 2) (pv 1) (bQ _)) (pv 2) jC))))),?_⟩
 have hz:(S ds).length<=sizeLine:=by rw[MX.cM,aR];omega
 refine⟨_,rfl,⟨_,rfl⟩,_,rfl,rfl,trivial,_,rfl,?_⟩;rw[abX asc];by_cases Hk:ds≠[]/\ds.all digit=true
 ·obtain⟨nn,all⟩:=Hk;have e1:(!ds.isEmpty&&ds.all digit)=true:=by
   rw[all];cases ds with
   |nil=>exact absurd rfl nn
   |cons c r=>rfl
  rw[e1];obtain⟨ml,Hl,jJ⟩:∃ml:Nat,((bV (toString most)).length=ml/\ml<=40)/\ (ml<ds.length->dZ ds most=none):=by
   by_cases neg:most<0
   ·have:most= -1:=by omega
    subst this;exact⟨2,⟨by decide+kernel,by decide⟩,λ_=>MP.UD (by decide)⟩
   ·obtain⟨m,rfl⟩:∃m:Nat,most=(m:Int):=⟨most.toNat,by omega⟩
    have hm:m<10^40:=by omega
    exact⟨(dec m).length,⟨by rw[MX.gq hm,MX.cM],MP.iU m⟩,λh=>MP.LG hm h⟩
  have lg:most.natAbs.log2<1920:=NU (by omega)
  refine⟨_,rfl,_,rfl,hz,_,rfl,_,rfl,lg,_,rfl,(by rw[Hl.1,aR];omega),_,_,rfl,rfl,_,rfl,bY (λz=> ?_) λz=> ?_⟩
  ·rw[Hl.1,MX.cM] at z;rw[jJ (by omega)] at q
   exact q
  ·obtain⟨c,r,rfl⟩:∃c r,ds=c::r:=by
    cases ds with
    |nil=>exact absurd rfl nn
    |cons c r=>exact⟨c,r,rfl⟩
   rw[Hl.1,MX.cM] at z;have uG:(c::r).length<=40:=by omega
   refine⟨_,rfl,_,_,_,rfl,rfl,hz,cX (k:=0) rfl,rfl,_,rfl,bY (λy=> ?_) λy=> ?_⟩
   ·have c48:c=48:=by
     have y:(⟨#[c]⟩:Str)=("0":Str):=by injection y
     have:=congrArg (λs:Str=>s.cps.toList) y;have e0:("0":Str).cps.toList=[48]:=by decide+kernel
     rw[e0] at this;exact(oB this).1
    refine⟨_,rfl,_,rfl,hz,_,_,rfl,rfl,_,rfl,bY (λx=> ?_) λx=> ?_⟩
    ·rw[MX.cM,cI] at x;rw[MP.UE c48 (λz=>by rw[z] at x;exact absurd x (by decide))] at q
     exact q
    ·have ow:oneWay (c::r)=true:=MP.LH λz=>by
      rw[MX.cM,cI] at x;cases r with
      |nil=>exact z.2 rfl
      |cons d r=>rw[cI] at x;omega
     refine⟨_,rfl,_,_,rfl,NV all nn (by omega),(by rw[MX.cM];omega),_,rfl,_,rfl,_,_,rfl,rfl,_,rfl,bY (λv=> ?_) λv=> ?_⟩
     ·rw[MP.D3 all ow v] at q;exact⟨_,rfl,q⟩
     ·rw[MP.D4 v] at q;exact q
   ·have ow:oneWay (c::r)=true:=MP.LH λz=>y (by rw[z.1];exact congrArg V.str (by decide+kernel))
    refine⟨_,rfl,_,_,rfl,NV all nn (by omega),(by rw[MX.cM];omega),_,rfl,_,rfl,_,_,rfl,rfl,_,rfl,bY (λv=> ?_) λv=> ?_⟩
    ·rw[MP.D3 all ow v] at q;exact⟨_,rfl,q⟩
    ·rw[MP.D4 v] at q;exact q
 ·have e1:(!ds.isEmpty&&ds.all digit)=false:=by
   cases h:(!ds.isEmpty&&ds.all digit) with
   |false=>rfl
   |true=>
    rw[eQ] at h;exact absurd ⟨λz=>by rw[z] at h;exact absurd h.1 (by decide),h.2⟩ Hk
  rw[e1];rw[MP.y8 Hk] at q;exact dq q
theorem NW(F:Df K mg "decimal" zQ f fd)(g:GI mg):aN P w K mg base au 1 "decimal" ["digits","most"] qx:=
 ⟨f,fd,abY F.1 g,F.2,F.1.kp,F.1.b2 "digits" "most"⟩
theorem abZ(F:Df K mg "characters" wD f fd)(GC:aN P w K mg base au 2 "character" ["byte"] AW):aN P w K mg base au 3 "characters" ["text","start","end"] (sf K):=
 ⟨f,fd,abU F.1 GC,F.2,F.1.kp,F.1.b3 "text" "start" "end"⟩
end
open MP (Tk bad)
open MT (T)
section
variable{P:aS}{w:aL}{K:az}{mg:Str->Option ah}{base:aC}{f:ae}{fd:bK}{R:Cl}{C:Cg}
def AX(K:az):Sp:=λvs H Q _=>∃a t p,vs=[.ref a,.int ((p:Nat):Int)]/\aI K H a (dQ t)/\p<=t.length/\t.length<=20000/\ ∀e:Nat,p<=e->e<=t.length->(∀i c,p<=i->i<e->t[i]? =some c->c≠10)->(∀c,t[e]? =some c->c=10)->Q (.int (e:Int)) H
theorem ab0(F:aG K "remark_end" "remark_end" zR f fd)(g:GI mg):aD P w K mg base au 1 f fd ["text","at"] (AX K):=by
 refine F.oK FG λaF A outer s H vs Q E hr h=> ?_;obtain⟨a,t,p,rfl,ha,hp,ht,q⟩:=h;refine⟨_,ay (bH (i:=2) FG.nd rfl (aZ rfl) (pv 1))
  (ay (yz j6 (pW (bW gz (pv 2) (eS iA (by rfl) g.fW gj (ai (pv 0) aj)) (bQ _)) (pV (bW jj (cj cH (pv 0) (pv 2) (λ_ _=>rfl)) (b_ g.Z') (bQ _)))).pt
    (aw (bH (i:=2) FG.nd rfl (aZ rfl) (cy i8 (pv 2) aQ))))
  (aw (bw (pv 2)))),?_⟩
 refine⟨_,rfl,?_⟩;refine⟨λm σ H'=>∃e:Nat,m=t.length-e/\σ=[some (.ref a),some (.int (p:Int)),some (.int (e:Int))]/\H'=H/\p<=e/\e<=t.length/\ (∀i c,p<=i->i<e->t[i]? =some c->c≠10),⟨_,p,rfl,rfl,rfl,bE _,hp,λi c h1 h2=>by omega⟩,?_⟩
 rintro m σ H' ⟨e,rfl,rfl,rfl,h1,h2,h3⟩;refine⟨_,rfl,_,rfl,_,_,rfl,.inl ha,_,_,rfl,rfl,_,rfl,bY (λz=> ?_) λz=> ?_⟩
 ·rw[ik] at z;have le:e<t.length:=by omega
  obtain⟨c,hc⟩:∃c,t[e]? =some c:=⟨_,eI le⟩;refine⟨_,rfl,_,rfl,_,_,_,_,rfl,rfl,ha,qw hc,rfl,_,rfl,nR (λy=> ?_) λy=> ?_⟩
  ·have nc:c≠10:=λx=>y (by rw[x];rfl)
   refine⟨_,λσ' H' x=>x,_,rfl,_,_,rfl,rfl,t.length-(e+1),by omega,e+1,rfl,rfl,rfl,by omega,by omega,λi c' a1 a2 a3=> ?_⟩
   by_cases ie:i=e
   ·subst ie;rw[hc] at a3;cases a3;exact nc
   ·exact h3 i c' a1 (by omega) a3
  ·have nc:c=10:=by injection y;omega
   exact⟨_,rfl,q e h1 h2 h3 λc' d8=>by rw[hc] at d8;cases d8;exact nc⟩
 ·rw[ik] at z;have ee:e=t.length:=by omega
  refine dW ⟨_,rfl,q e h1 h2 h3 λc' d8=> ?_⟩;rw[ee,pG (bE _)] at d8;cases d8
theorem ab1(F:Df K mg "remark_end" zR f fd)(g:GI mg):aN P w K mg base au 1 "remark_end" ["text","at"] (AX K):=
 ⟨f,fd,ab0 F.1 g,F.2,F.1.kp,F.1.b2 "text" "at"⟩
def AY(K:az)(mg:Str->Option ah):Prop:=∃a,mg "BLANKS"=some (.ref a)/\ ∀H,fQ K H a [.int 32,.int 9,.int 10,.int 13]
def AZ(K:az):Sp:=λvs H Q _=>∃a t p,vs=[.ref a,.int ((p:Nat):Int)]/\aI K H a (dQ t)/\p<=t.length/\t.length<=20000/\ ∀e:Nat,e<=t.length->T t p=T t e->(∀c,t[e]? =some c->blank c=false/\c≠35)->Q (.int (e:Int)) H
theorem ab2(c:Nat):jI (.int (c:Int)) [.int 32,.int 9,.int 10,.int 13]=blank c:=by
 unfold jI blank;simp only[qM,B_,nJ,sT];have e:∀k:Nat,decide (((k:Nat):Int)=(c:Int))=(c==k):=λk=>by
  by_cases h:c=k
  ·subst h;simp
  ·rw[show(c==k)=false by simpa using h]
   exact decide_eq_false λz=>h (by omega)
 have a:=e 32;have b:=e 9;have d:=e 10;have f:=e 13;rw[<-a,<-b,<-d,<-f];rfl
theorem ab3(F:aG K "token_start" "token_start" zT f fd)(g:GI mg)(B:AY K mg)(GR:aN P w K mg base au 1 "remark_end" ["text","at"] (AX K)):aD P w K mg base au 2 f fd ["text","at"] (AZ K):=by
 refine F.oK zU λaF A outer s H vs Q E hr h=> ?_;obtain⟨a,t,p,rfl,ha,hp,ht,q⟩:=h;obtain⟨ba,mB,hB⟩:=B;refine⟨_,ay (bH (i:=2) zU.nd rfl (aZ rfl) (pv 1))
  (ay (yz j6 (bW gz (pv 2) (eS iA (by rfl) g.fW gj (ai (pv 0) aj)) (bQ _))
    (aw (b7 (bW yK (cj cH (pv 0) (pv 2) (λ_ _=>rfl)) (iH mB) rfl) (aw (bH (i:=2) zU.nd rfl (aZ rfl) (cy i8 (pv 2) aQ)))
      (aw (b7 (bW fR (cj cH (pv 0) (pv 2) (λ_ _=>rfl)) (b_ g.Z_) (bQ _)) (aw (bH (i:=2) zU.nd rfl (aZ rfl) (aY GR hr a_ (ai (pv 0) (ai (pv 2) aj)))))
        (aw (bw (pv 2))))))))
  (aw (bw (pv 2)))),?_⟩
 refine⟨_,rfl,?_⟩;refine⟨λm σ H'=>∃e:Nat,m=t.length-e/\σ=[some (.ref a),some (.int (p:Int)),some (.int (e:Int))]/\H'=H/\e<=t.length/\T t p=T t e,⟨_,p,rfl,rfl,rfl,hp,rfl⟩,?_⟩;rintro m σ H' ⟨e,rfl,rfl,rfl,h2,h3⟩;refine⟨_,rfl,_,rfl,_,_,rfl,.inl ha,_,_,rfl,rfl,_,rfl,bY (λz=> ?_) λz=> ?_⟩
 ·rw[ik] at z;have le:e<t.length:=by omega
  obtain⟨c,hc⟩:∃c,t[e]? =some c:=⟨_,eI le⟩;refine⟨_,λσ' H' x=>x,_,rfl,_,rfl,_,_,_,_,rfl,rfl,ha,qw hc,_,_,rfl,.inr (hB _),rfl,rfl,_,rfl,?_⟩;rw[if_neg cW,ab2];refine j7 (λy=> ?_) λy=> ?_
  ·exact⟨_,rfl,_,_,rfl,rfl,t.length-(e+1),by omega,e+1,rfl,rfl,rfl,by omega,by rw[h3];exact MT.Tc hc y⟩
  ·refine⟨_,rfl,_,rfl,_,_,_,_,rfl,rfl,ha,qw hc,rfl,_,rfl,bY (λx=> ?_) λx=> ?_⟩
   ·have nc:c=35:=by injection x;omega
    subst nc;refine⟨_,rfl,_,rfl,a,t,e,rfl,ha,by omega,ht,λe2 a1 a2 a3 a4=> ?_⟩
    have lt:e<e2:=by
     rcases B1 e e2 with l|l
     ·exact l
     ·have:e2=e:=by omega
      subst this;have:=a4 _ hc;cases this
    exact⟨t.length-e2,by omega,e2,rfl,rfl,rfl,a2,by rw[h3];exact MT.Td hc lt a2 a3 a4⟩
   ·exact⟨_,rfl,q e (by omega) h3 λc' d8=>by rw[hc] at d8;cases d8;exact⟨y,λz=>x (by rw[z];rfl)⟩⟩
 ·rw[ik] at z;have ee:e=t.length:=by omega
  refine⟨_,rfl,q e h2 h3 λc' d8=> ?_⟩;rw[ee,pG (bE _)] at d8;cases d8
theorem ab4(F:Df K mg "token_start" zT f fd)(g:GI mg)(B:AY K mg)(GR:aN P w K mg base au 1 "remark_end" ["text","at"] (AX K)):aN P w K mg base au 2 "token_start" ["text","at"] (AZ K):=
 ⟨f,fd,ab3 F.1 g B GR,F.2,F.1.kp,F.1.b2 "text" "at"⟩
end
section
variable{P:aS}{w:aL}{K:az}{mg:Str->Option ah}{base:aC}{f:ae}{fd:bK}{R:Cl}{C:Cg}
structure qy(K:az)(mg:Str->Option ah)(C:Cg):Prop where
 k:AV K C
 ex:∃f fd,Mk K C.tok f/\aG K "__init__" "Token.__init__" zL f fd/\mg "Token"=some (.ref C.tok)
def pk(C:Cg)(t:aM)(ts:aX)(a:ae)(H:Hp):Prop:=∃dx x e,H a=some (.ins C.tok dx (xn x (here ts) e))/\Tk t.length ts x/\x.length<=20000/\e<=t.length/\ (Vaarrj.next ts≠ .none->ts.drop 1=T t e)
theorem pk.mono{t:aM}{ts:aX}{a:ae}{H H':Hp}(h:pk C t ts a H)(k:∀b o,H b=some o->H' b=some o):pk C t ts a H':=by
 obtain⟨dx,x,e,h1,h2⟩:=h;exact⟨dx,x,e,k _ _ h1,h2⟩
theorem A0{H H1:Hp}{Q:VK}{x:aM}{p e:Nat}(k1:∀b o,H b=some o->H1 b=some o)(q:∀H' k dx,(∀b o,H b=some o->H' b=some o)->H k=none->H' k=some (.ins C.tok dx (xn x p e))->Q (.ref k) H'):
 ∀y dx,H1 y=none->H1 dx=none->dx≠y->uE C (.ref y::([.str (S x),.int ((p:Nat):Int),.int ((e:Nat):Int)]++[])) (upd (upd H1 dx (.own y)) y (.ins C.tok dx [])) (λv H2=>v=.aO/\Q (.ref y) H2) E0:=λy dx hy hd hn=>by
 refine⟨y,dx,x,p,e,rfl,aB,λH' h1 h2=>⟨rfl,q H' y dx (λb o eb=> ?_) ?_ h1⟩⟩
 ·have eb:=k1 _ _ eb;refine h2 b o ?_ (bD eb hy);rw[ak (bD eb hy),ak (bD eb hd)];exact eb
 ·cases z:H y with
  |none=>rfl
  |some o=>rw[k1 _ _ z] at hy;cases hy
def A3(K:az)(C:Cg):Sp:=λvs H Q _=>∃a t p c,vs=[.ref a,.int ((p:Nat):Int)]/\aI K H a (dQ t)/\t.length<=20000/\t[p]? =some c/\letter c=true/\ ∀H' k,(∀b o,H b=some o->H' b=some o)->H k=none->pk C t (T t p) k H'->Q (.ref k) H'
theorem uH{t:aM}{p e:Nat}{f:Nat->Bool}(h:∀i c,p<=i->i<e->t[i]? =some c->f c=true):∀c∈(t.drop p).take (e-p),f c=true:=λc hc=>by
 obtain⟨i,hi⟩:=lC hc;have hl:=(dy.mp hi).1;rw[jY] at hl;rw[afg (by omega),List.getElem?_drop] at hi
 exact h (p+i) c (by omega) (by omega) hi
theorem piece_cons{t:aM}{p e c:Nat}(h:t[p]? =some c)(he:p<e):(t.drop p).take (e-p)=c::(t.drop (p+1)).take (e-(p+1)):=by
 obtain⟨hl,e1⟩:=dy.mp h;rw[qO hl,e1,show e-p=(e-(p+1))+1 by omega,xY]
theorem NX(t:aM)(p e:Nat):((t.drop p).take (e-p)).length<=t.length:=by rw[jY,kF];omega
theorem ab5(F:aG K "word_at" "word_at" zV f fd)(g:GI mg)(TC:qy K mg C)(GL:aN P w K mg base au 1 "is_letter" ["byte"] uF)(GD:aN P w K mg base au 1 "is_digit" ["byte"] n8)(GC:aN P w K mg base au 3 "characters" ["text","start","end"] (sf K)):
 aD P w K mg base au 4 f fd ["text","start"] (A3 K C):=by
 obtain⟨fi,e_,M,Fi,mT⟩:=TC.ex;have GI:aD P w K mg base au 1 fi e_ ["self","text","start","end"] (uE C):=Hj Fi TC.k;have bI:=Fi.b4 "self" "text" "start" "end";refine F.oK FH λaF A outer s H vs Q E hr h=> ?_;obtain⟨a,t,p,c,rfl,ha,ht,hc,lc,q⟩:=h;have cN:=hr.mono (show 1<=3 by decide)
 have iX:=hr.mono (show 2<=3 by decide)
 refine⟨_,ay (bH (i:=2) FH.nd rfl (aZ rfl) (pv 1))
  (ay (yz j6 (pW (bW gz (pv 2) (eS iA (by rfl) g.fW gj (ai (pv 0) aj)) (bQ _)) (pV (kM (gZ (aY GL cN a_ (ai (cj cH (pv 0) (pv 2) (λ_ _=>rfl)) aj))) (nE (gZ (aY GD cN a_ (ai (cj cH (pv 0) (pv 2) (λ_ _=>rfl)) aj))))).pt)).pt
    (aw (bH (i:=2) FH.nd rfl (aZ rfl) (cy i8 (pv 2) aQ))))
  (aw (bw (j' M GI iX rfl mT bI .nil a_ (ai (aY GC hr a_ (ai (pv 0) (ai (pv 1) (ai (pv 2) aj)))) (ai (pv 1) (ai (pv 2) aj))))))),?_⟩
 have hp:p<t.length:=(dy.mp hc).1;refine⟨_,rfl,?_⟩;have fin:∀e:Nat,p<=e->e<=t.length->(∀i c,p<=i->i<e->t[i]? =some c->inner c=true)->(∀c,t[e]? =some c->inner c=false)->p<e->
  JJ (CN C.tok (uE C) [] E0 (p_ (CM (sf K) [] E0 (p_ (pU 0) (p_ (pU 1) (p_ (pU 2) tP)))) (p_ (pU 1) (p_ (pU 2) tP)))) {nx:=λ_ H'=>Q .aO H',rt:=Q} [some (.ref a),some (.int (p:Int)),some (.int (e:Int))] H:=λe h1 h2 h3 h4 h5=>by
  refine⟨_,rfl,_,rfl,_,rfl,a,t,p,e,rfl,ha,h1,h2,ht,uH h3,λH1 k1=> ?_⟩;refine⟨_,rfl,_,rfl,A0 k1 λH' k dx k2 hk mx=>q H' k k2 hk ?_⟩;have TW:=MT.Te hc lc h5 h2 h3 h4;refine⟨dx,_,e,by rw[TW];exact mx,?_,dw (NX t p e) ht,h2,λ_=>by rw[TW];rfl⟩
  rw[TW];refine⟨rfl,c,_,piece_cons hc h5,lc,kH.mpr λc' d8=>uH h3 c' (by rw[piece_cons hc h5];exact fD _ d8)⟩
 refine⟨λm σ H'=>∃e:Nat,m=t.length-e/\σ=[some (.ref a),some (.int (p:Int)),some (.int (e:Int))]/\H'=H/\p<=e/\e<=t.length/\ (∀i c,p<=i->i<e->t[i]? =some c->inner c=true),⟨_,p,rfl,rfl,rfl,bE _,by omega,λi c h1 h2=>by omega⟩,?_⟩
 rintro m σ H' ⟨e,rfl,rfl,rfl,h1,h2,h3⟩;have pe:(∀c,t[e]? =some c->inner c=false)->p<e:=λh4=>by
  rcases B1 p e with l|l
  ·exact l
  ·have:e=p:=by omega
   subst this;have:=h4 c hc;unfold inner at this;rw[lc] at this;cases this
 refine⟨_,rfl,_,rfl,_,_,rfl,.inl ha,_,_,rfl,rfl,_,rfl,bY (λz=> ?_) λz=> ?_⟩
 ·rw[ik] at z;have le:e<t.length:=by omega
  obtain⟨d,hd⟩:∃d,t[e]? =some d:=⟨_,eI le⟩;have go:inner d=true->∃N:L2.St->Hp->Prop,(∀σ' H2,N σ' H2->∃m',m'<t.length-e/\ ∃e:Nat,m'=t.length-e/\σ'=[some (.ref a),some (.int (p:Int)),some (.int (e:Int))]/\H2=H'/\p<=e/\e<=t.length/\ (∀i c,p<=i->i<e->t[i]? =some c->inner c=true))/\N [some (.ref a),some (.int (p:Int)),some (.int ((e:Int)+1))] H':=λhi=>
   ⟨_,λσ' H' x=>x,t.length-(e+1),by omega,e+1,rfl,rfl,rfl,by omega,by omega,λi c' a1 a2 a3=>by
     by_cases ie:i=e
     ·subst ie;rw[hd] at a3;cases a3;exact hi
     ·exact h3 i c' a1 (by omega) a3⟩
  refine⟨_,rfl,_,rfl,_,_,_,_,rfl,rfl,ha,qw hd,d,rfl,_,rfl,j7 (λy=> ?_) λy=> ?_⟩
  ·obtain⟨N,n1,n2⟩:=go (by unfold inner;rw[y];rfl)
   exact dq ⟨N,n1,_,rfl,_,_,rfl,rfl,n2⟩
  ·refine⟨_,rfl,_,rfl,_,_,_,_,rfl,rfl,ha,qw hd,d,rfl,_,rfl,j7 (λx=> ?_) λx=> ?_⟩
   ·obtain⟨N,n1,n2⟩:=go (by unfold inner;rw[y,x];rfl)
    exact⟨N,n1,_,rfl,_,_,rfl,rfl,n2⟩
   ·have h4:∀c,t[e]? =some c->inner c=false:=λc' d8=>by rw[hd] at d8;cases d8;unfold inner;rw[y,x];rfl
    exact fin e h1 h2 h3 h4 (pe h4)
 ·rw[ik] at z;have ee:e=t.length:=by omega
  have h4:∀c,t[e]? =some c->inner c=false:=λc' d8=>by rw[ee,pG (bE _)] at d8;cases d8
  exact dW (fin e h1 h2 h3 h4 (pe h4))
theorem ab6(F:Df K mg "word_at" zV f fd)(g:GI mg)(TC:qy K mg C)(GL:aN P w K mg base au 1 "is_letter" ["byte"] uF)(GD:aN P w K mg base au 1 "is_digit" ["byte"] n8)(GC:aN P w K mg base au 3 "characters" ["text","start","end"] (sf K)):
 aN P w K mg base au 4 "word_at" ["text","start"] (A3 K C):=
 ⟨f,fd,ab5 F.1 g TC GL GD GC,F.2,F.1.kp,F.1.b2 "text" "start"⟩
end
def ab7(K:az):List V->Hp->VK->Prop:=λxs H Q=>∃p ys,xs=[.ref p]/\ (aI K H p ys\/fQ K H p ys)/\Q (.int ys.length) H
section
variable{P:aS}{w:aL}{K:az}{mg:Str->Option ah}{base:aC}{f:ae}{fd:bK}{R:Cl}{C:Cg}
def xp(K:az)(C:Cg):Sp:=λvs H Q E=>∃H0 a t p,vs=[.ref a,.int ((p:Nat):Int)]/\aI K H a (dQ t)/\p<=t.length/\t.length<=20000/\ (∀b o,H0 b=some o->H b=some o)/\ (bad t.length (T t p)->pj C E H0 (here (T t p)))/\
 (¬bad t.length (T t p)->∀H' k,(∀b o,H b=some o->H' b=some o)->H k=none->pk C t (T t p) k H'->Q (.ref k) H')
def A4(K:az)(C:Cg):Sp:=λvs H Q E=>∃H0 a t p c,vs=[.ref a,.int ((p:Nat):Int)]/\aI K H a (dQ t)/\t.length<=20000/\t[p]? =some c/\digit c=true/\ (∀b o,H0 b=some o->H b=some o)/\ (bad t.length (T t p)->pj C E H0 (here (T t p)))/\
 (¬bad t.length (T t p)->∀H' k,(∀b o,H b=some o->H' b=some o)->H k=none->pk C t (T t p) k H'->Q (.ref k) H')
theorem ab8(F:aG K "number_at" "number_at" zW f fd)(g:GI mg)(TC:qy K mg C)(FC:n6 K mg C)(GD:aN P w K mg base au 1 "is_digit" ["byte"] n8)(GC:aN P w K mg base au 3 "characters" ["text","start","end"] (sf K))(GN:aN P w K mg base au 1 "decimal" ["digits","most"] qx):
 aD P w K mg base (bq P w) 4 f fd ["text","start"] (A4 K C):=by
 obtain⟨fi,e_,M,Fi,mT⟩:=TC.ex;have GI:aD P w K mg base au 1 fi e_ ["self","text","start","end"] (uE C):=Hj Fi TC.k;have bI:=Fi.b4 "self" "text" "start" "end";obtain⟨NF,ff,si,FK,mF⟩:=FC.ex;have GF:aD P w K mg base au 1 ff si ["self","position"] (xm C.mz):=Hh FK;have bF:=FK.fn.b2 "self" "position";refine F.oX zX λaF A outer s H vs Q E hr h=> ?_;obtain⟨H0,a,t,p,c,rfl,ha,ht,hc,dc,old,qb,q⟩:=h;have cN:=hr.mono (show 1<=3 by decide)
 have iX:=hr.mono (show 2<=3 by decide)
 refine⟨_,ay (bH (i:=2) zX.nd rfl (aZ rfl) (pv 1))
  (ay (zt qp ⟨rfl,rfl⟩ (λ_ _=>(pW (bW gz (pv 2) (eS (r:=ab7 K) iA (by rfl) g.fW gj (ai (pv 0) aj)) (bQ _)) (pV (gZ (aY GD cN a_ (ai (cj (r:=CU K) cH (pv 0) (pv 2) (λ_ _=>rfl)) aj))))).pt)
    (λ_ _ _ _=>aw (bH (i:=2) zX.nd rfl (aZ rfl) (cy i8 (pv 2) aQ))))
  (ay (bH (i:=3) zX.nd rfl (aZ rfl) (aY GC hr a_ (ai (pv 0) (ai (pv 1) (ai (pv 2) aj)))))
  (ay (b7 (jh (oG (aY GN cN a_ (ai (pv 3) (ai (b_ g.qr) aj))))) (aw (rR FK.cls GF iX bF rfl rfl rQ rfl mF (ai (pv 1) aj))) cJ)
  (aw (bw (j' M GI iX rfl mT bI .nil a_ (ai (pv 3) (ai (pv 1) (ai (pv 2) aj))))))))),?_⟩
 have hp:p<t.length:=(dy.mp hc).1;refine⟨_,rfl,?_⟩;refine⟨λm σ H'=>∃e:Nat,m=t.length-e/\σ=[some (.ref a),some (.int (p:Int)),some (.int (e:Int)),none]/\H'=H/\p<=e/\e<=t.length/\ (∀i c,p<=i->i<e->t[i]? =some c->digit c=true),⟨_,p,rfl,rfl,rfl,bE _,by omega,λi c h1 h2=>by omega⟩,?_⟩
 rintro m σ H' ⟨e,rfl,rfl,rfl,h1,h2,h3⟩;have pe:(∀c,t[e]? =some c->digit c=false)->p<e:=λh4=>by
  rcases B1 p e with l|l
  ·exact l
  ·have:e=p:=by omega
   subst this;have:=h4 c hc;rw[dc] at this;cases this
 by_cases key:∃d,t[e]? =some d/\digit d=true
 ·obtain⟨d,hd,y⟩:=key;have le:e<t.length:=(dy.mp hd).1;refine⟨_,rfl,_,rfl,_,_,rfl,.inl ha,_,_,rfl,rfl,_,rfl,bY (λz=> ?_) λz=>absurd (by rw[ik];omega) z⟩
  refine⟨_,rfl,_,rfl,_,_,_,_,rfl,rfl,ha,qw hd,d,rfl,_,rfl,?_⟩;rw[y];refine dq ⟨_,λσ' H' x=>x,_,rfl,_,_,rfl,rfl,t.length-(e+1),by omega,e+1,rfl,rfl,rfl,by omega,by omega,λi c' a1 a2 a3=> ?_⟩
  by_cases ie:i=e
  ·subst ie;rw[hd] at a3;cases a3;exact y
  ·exact h3 i c' a1 (by omega) a3
 ·have h4:∀c,t[e]? =some c->digit c=false:=λc' d8=>by
   cases y:digit c' with
   |false=>rfl
   |true=>exact absurd ⟨c',d8,y⟩ key
  have h5:=pe h4;refine⟨_,rfl,_,rfl,_,_,rfl,.inl ha,_,_,rfl,rfl,_,rfl,bY (λz=> ?g1) λz=> ?g2⟩
  case' g1=>
   rw[ik] at z;obtain⟨d,hd⟩:∃d,t[e]? =some d:=⟨_,eI (by omega)⟩
   refine⟨_,rfl,_,rfl,_,_,_,_,rfl,rfl,ha,qw hd,d,rfl,_,rfl,?_⟩;rw[h4 d hd]
  all_goals
   refine dW ?_;have TN:=MT.Tf hc dc h5 h2 h3 h4;have all:((t.drop p).take (e-p)).all digit=true:=kH.mpr (uH h3);have asc:∀c∈(t.drop p).take (e-p),c<128:=λc' d8=>by have:=MP.kS (uH h3 c' d8);omega
   have dg:=MP.UG (ds:=(t.drop p).take (e-p));have pl:=NX t p e;refine⟨_,rfl,_,rfl,_,rfl,a,t,p,e,rfl,ha,h1,h2,ht,(λc' d8=> ?_),λH1 k1=> ?_⟩
   ·have:=MP.kS (uH h3 c' d8);unfold inner;rw[uH h3 c' d8,Bool.or_true]
   generalize (t.drop p).take (e-p)=x at TN all asc dg pl;refine⟨_,rfl,x,_,rfl,asc,by omega,by decide,by decide,?_⟩
   have eg:qS=1000000000000000000:=rfl;by_cases ok:oneWay x=true/\x.length<=19/\ ((valueOf x:Nat):Int)<=qS
   ·rw[if_pos ok] at TN;rw[if_pos ⟨all,ok⟩,eg] at dg;rw[dg];refine⟨_,rfl,dW ?_⟩;refine⟨_,rfl,_,rfl,_,rfl,A0 k1 λH' k dx k2 hk mx=>q (by rw[TN];exactλb=>nomatch b.1) H' k k2 hk ?_⟩
    refine⟨dx,x,e,by rw[TN];exact mx,?_,by omega,h2,λ_=>by rw[TN];rfl⟩
    rw[TN];exact⟨all,ok.1,rfl,ok.2.2⟩
   ·rw[if_neg ok] at TN;rw[if_neg λz=>ok z.2,eg] at dg;rw[dg];refine⟨_,rfl,dq ?_⟩;have qb:=qb (by rw[TN];exact⟨rfl,by show p≠t.length;omega⟩)
    rw[TN] at qb;exact⟨_,rfl,(by show 1<=sizeLine;rw[aR];decide),λy hy=>Hi qb (λb o e=>k1 _ _ (old b o e)) hy⟩
theorem ab9(F:Df K mg "number_at" zW f fd)(g:GI mg)(TC:qy K mg C)(FC:n6 K mg C)(GD:aN P w K mg base au 1 "is_digit" ["byte"] n8)(GC:aN P w K mg base au 3 "characters" ["text","start","end"] (sf K))(GN:aN P w K mg base au 1 "decimal" ["digits","most"] qx):
 aN P w K mg base (bq P w) 4 "number_at" ["text","start"] (A4 K C):=
 ⟨f,fd,ab8 F.1 g TC FC GD GC GN,F.2,F.1.kp,F.1.b2 "text" "start"⟩
def A5:List (Key×V):=[(.inl 59,.str (S [59])),(.inl 123,.str (S [123])),(.inl 125,.str (S [125])),(.inl 64,.str (S [64])),(.inl 63,.str (S [63])),(.inl 95,.str (S [95]))]
theorem Hm(c:Nat):dU A5 (.inl (c:Int))=if MT.isSign c=true then some (.str (S [c])) else none:=by
 unfold A5;by_cases h:MT.isSign c=true
 ·rw[if_pos h];simp only[MT.isSign,pK,beq_iff_eq] at h;rcases h with((((h|h)|h)|h)|h)|h<;>subst h<;>rfl
 ·rw[if_neg h];simp only[MT.isSign,pK,beq_iff_eq,not_or] at h;have ne:∀k:Nat,c≠k-> ¬((sI ((k:Nat):Int):Key)=.inl (c:Int)):=λk hk z=>hk (by injection z;omega)
  rw[nN (ne 59 h.1.1.1.1.1),nN (ne 123 h.1.1.1.1.2),nN (ne 125 h.1.1.1.2),nN (ne 64 h.1.1.2),nN (ne 63 h.1.2),nN (ne 95 h.2)];rfl
def A6(K:az)(w:aL)(mg:Str->Option ah):Prop:=∃a,mg "SIGNS"=some (.ref a)/\Tab K w a A5
theorem aca(F:aG K "token_at" "token_at" zY f fd)(g:GI mg)(TC:qy K mg C)(FC:n6 K mg C)(SG:A6 K w mg)(GS:aN P w K mg base au 2 "token_start" ["text","at"] (AZ K))(GL:aN P w K mg base au 1 "is_letter" ["byte"] uF)(GD:aN P w K mg base au 1 "is_digit" ["byte"] n8)
 (GW:aN P w K mg base au 4 "word_at" ["text","start"] (A3 K C)) (GN:aN P w K mg base (bq P w) 4 "number_at" ["text","start"] (A4 K C)):aD P w K mg base (bq P w) 5 f fd ["text","at"] (xp K C):=by
 obtain⟨fi,e_,M,Fi,mT⟩:=TC.ex;have GI:aD P w K mg base au 1 fi e_ ["self","text","start","end"] (uE C):=Hj Fi TC.k;have bI:=Fi.b4 "self" "text" "start" "end";obtain⟨NF,ff,si,FK,mF⟩:=FC.ex;have GF:aD P w K mg base au 1 ff si ["self","position"] (xm C.mz):=Hh FK;have bF:=FK.fn.b2 "self" "position";obtain⟨sa,mS,tab⟩:=SG;refine F.oX FI λaF A outer s H vs Q E hr h=> ?_;obtain⟨H0,a,t,p,rfl,ha,hp,ht,old,qb,q⟩:=h;have cN:=hr.mono (show 1<=4 by decide)
 have iX:=hr.mono (show 2<=4 by decide)
 refine⟨_,ay (bH (i:=2) FI.nd rfl (aZ rfl) (aY GS iX a_ (ai (pv 0) (ai (pv 1) aj))))
  (ay (b7 (bW fR (pv 2) (eS iA (by rfl) g.fW gj (ai (pv 0) aj)) (bQ _)) (aw (bw (j' M GI iX rfl mT bI .nil a_ (ai bZ (ai (pv 2) (ai (pv 2) aj)))))) cJ)
  (ay (bH (i:=3) FI.nd rfl (aZ rfl) (cj cH (pv 0) (pv 2) (λ_ _=>rfl)))
  (ay (b7 (jh (uk (pv 3) (iH mS))) (aw (bw (j' M GI iX rfl mT bI .nil a_ (ai (rS (iH mS) (pv 3) (λ_ _=>rfl)) (ai (pv 2) (ai (cy i8 (pv 2) aQ) aj)))))) cJ)
  (ay (b7 (gZ (aY GL cN a_ (ai (pv 3) aj))) (aw (bw (aY GW hr a_ (ai (pv 0) (ai (pv 2) aj))))) cJ)
  (ay (b7 (gZ (aY GD cN a_ (ai (pv 3) aj))) (aw (bw (aY GN hr cS (ai (pv 0) (ai (pv 2) aj))))) cJ)
  (aw (rR FK.cls GF iX bF rfl rfl rQ rfl mF (ai (pv 2) aj)))))))),?_⟩
 refine⟨_,rfl,_,rfl,a,t,p,rfl,ha,hp,ht,λe le eT nb=> ?_⟩;rw[eT] at qb q;refine⟨_,rfl,_,rfl,_,_,rfl,.inl ha,rfl,_,rfl,bY (λz=> ?_) λz=> ?_⟩
 ·have ee:e=t.length:=by injection z with z;rw[ik] at z;omega
  subst ee;have TE:=MT.S' t;refine⟨_,rfl,_,rfl,A0 (x:=[]) (λ_ _ e=>e) λH' k dx k2 hk mx=>q (by rw[TE];exactλb=>b.2 rfl) H' k k2 hk ?_⟩
  refine⟨dx,[],_,by rw[TE];exact mx,by rw[TE];exact⟨rfl,rfl⟩,eV _,le,λz=>by rw[TE] at z;exact absurd rfl z⟩
 ·have NY:e<t.length:=by
   rcases B1 e t.length with l|l
   ·exact l
   ·exact absurd (by rw[ik];congr 1;omega) z
  obtain⟨c,hc⟩:∃c,t[e]? =some c:=⟨_,eI NY⟩;obtain⟨b1,b2⟩:=nb c hc;refine⟨_,rfl,_,rfl,_,_,_,_,rfl,rfl,ha,qw hc,?_⟩;refine⟨_,rfl,_,_,.inl (c:Int),rfl,rfl,tab,_,rfl,j7 (λy=> ?_) λy=> ?_⟩
  ·rw[Hm] at y;have sg:MT.isSign c=true:=by
    by_cases h:MT.isSign c=true
    ·exact h
    ·rw[if_neg h] at y;cases y
   have sv:=Hm c;rw[if_pos sg] at sv;have TS:=MT.Tg hc sg;refine⟨_,rfl,_,_,.inl (c:Int),_,rfl,rfl,tab,sv,_,rfl,_,rfl,_,_,rfl,rfl,?_⟩;refine A0 (x:=[c]) (p:=e) (e:=e+1) (λ_ _ e=>e) λH' k dx k2 hk mx=>q (by rw[TS];exactλb=>nomatch b.1) H' k k2 hk ?_
   refine⟨dx,[c],e+1,by rw[TS];exact mx,?_,by show 1<=20000;decide,by omega,λ_=>by rw[TS];rfl⟩
   rw[TS];simp only[MT.isSign,pK,beq_iff_eq] at sg;exact⟨rfl,by omega⟩
  ·rw[Hm] at y;have sg:MT.isSign c=false:=by
    cases h:MT.isSign c with
    |false=>rfl
    |true=>rw[h,if_pos rfl] at y;cases y
   refine⟨_,rfl,c,rfl,_,rfl,j7 (λy2=> ?_) λy2=> ?_⟩
   ·exact⟨_,rfl,_,rfl,a,t,e,c,rfl,ha,ht,hc,y2,λH' k k2 hk tk=>q (by
     obtain⟨dx,x,e2,_,h3,_⟩:=tk;intro b;have:=h3.none.mpr b.1;unfold MP.Tk at h3;rw[b.1] at h3;exact b.2 h3.2) H' k k2 hk tk⟩
   ·refine⟨_,rfl,c,rfl,_,rfl,j7 (λy3=> ?_) λy3=> ?_⟩
    ·exact⟨_,rfl,_,rfl,H0,a,t,e,c,rfl,ha,ht,hc,y3,old,qb,q⟩
    ·have TB:=MT.Th hc b1 b2 y2 y3 sg;have qb:=qb (by rw[TB];exact⟨rfl,by show e≠t.length;omega⟩)
     rw[TB] at qb;exact⟨_,rfl,(by show 1<=sizeLine;rw[aR];decide),λy hy=>Hi qb old hy⟩
theorem acb(F:Df K mg "token_at" zY f fd)(g:GI mg)(TC:qy K mg C)(FC:n6 K mg C)(SG:A6 K w mg)(GS:aN P w K mg base au 2 "token_start" ["text","at"] (AZ K))(GL:aN P w K mg base au 1 "is_letter" ["byte"] uF)(GD:aN P w K mg base au 1 "is_digit" ["byte"] n8)
 (GW:aN P w K mg base au 4 "word_at" ["text","start"] (A3 K C)) (GN:aN P w K mg base (bq P w) 4 "number_at" ["text","start"] (A4 K C)):aN P w K mg base (bq P w) 5 "token_at" ["text","at"] (xp K C):=
 ⟨f,fd,aca F.1 g TC FC SG GS GL GD GW GN,F.2,F.1.kp,F.1.b2 "text" "at"⟩
end
structure sj(K:az)(mg:Str->Option ah)(R:Cl):Prop where
 reg:∃f fd,Mk K R.reg f/\aG K "__init__" "Registers.__init__" uq f fd/\mg "Registers"=some (.ref R.reg)
 run:∃f fd,Mk K R.run f/\aG K "__init__" "Run.__init__" wo f fd/\mg "Run"=some (.ref R.run)
def acd(R:Cl)(H0 H:Hp)(p dx:ae)(w n:Nat)(arr:List (List Int))(L:Rn)(H':Hp):Prop:=bJ R H0 L (tj w arr) n H'/\L.run=p/\L.iF=dx/\ (∀b o,H b=some o->b≠p->H' b=some o)/\ (∀b∈(L.reg::L.vs::L.ms::L.ar::L.ss::L.fa::(L.va++(L.ma++L.aa))),H b=none)/\L.ar≠L.vs/\L.ar≠L.ms
def NZ(R:Cl):Sp:=λvs H Q _=>∃H0 p dx w a0 jS arr n,vs=[.ref p,.int ((w:Nat):Int),.ref a0,.int ((n:Nat):Int)]/\H p=some (.ins R.run dx [])/\H0 p=none/\xj R H0 H w a0 jS arr/\ ∀H' L,acd R H0 H p dx w n arr L H'->Q .aO H'
theorem Made.nest{p x dg C:ae}{H H1:Hp}{as:List ae}{o:HO}(hp:H p=some o)(nx:H x=none)(nd:H dg=none)(m:Made x (upd (upd H dg (.own x)) x (.ins C dg [])) H1 as):Made p H H1 (x::as)/\ ∀b u,H b=some u->H1 b=some u:=by
 have up:∀b u,H b=some u->upd (upd H dg (.own x)) x (.ins C dg []) b=some u:=λb u e=>by rw[ak (bD e nx),ak (bD e nd)];exact e
 have k:∀b u,H b=some u->H1 b=some u:=λb u e=>m.kp b u (up b u e) (bD e nx);have fr:∀a∈as,H a=none:=λa ha=>by
  cases q:H a with
  |none=>rfl
  |some u=>have:=m.fr a ha;rw[up a u q] at this;cases this
 refine⟨⟨λb u e _=>k b u e,fE.mpr ⟨λz=> ?_,m.nd⟩,λa ha=> ?_,λa ha=> ?_,⟨_,hp⟩,⟨_,k _ _ hp⟩⟩,k⟩
 ·have:=m.fr x z;rw[aB] at this;cases this
 ·rcases cC.mp ha with z|z
  ·rw[z];exact nx
  ·exact fr a z
 ·rcases cC.mp ha with z|z
  ·rw[z];exact m.p1
  ·exact m.tr a z
section
variable{P:aS}{w:aL}{K:az}{mg:Str->Option ah}{base:aC}{f:ae}{fd:bK}{R:Cl}
theorem boot_list:mU "list"=some (.type "list"):=by decide+kernel
theorem ace(F:aG K "__init__" "Run.__init__" wo f fd)(g:GI mg)(e:EK K R)(RC:sj K mg R):aD P w K mg base au 3 f fd ["self","width","arrays","budget"] (NZ R):=by
 obtain⟨fr,ip,Mr,Fr,mR⟩:=RC.reg;have GR:aD P w K mg base au 1 fr ip ["self","width"] (xh R):=AQ Fr g e;have bR:=Fr.b2 "self" "width";refine F.oK EY λaF A outer s H vs Q E hr h=> ?_;obtain⟨H0,p,dx,w,a0,jS,arr,n,rfl,hp,ph,rd,q⟩:=h;refine⟨_,ay (cT (pv 0) (j' Mr GR hr rfl mR bR .nil a_ (ai (pv 1) aj)) rfl)
  (ay (cT (pv 0) (nL (own:=[("array",4)]) rfl EY.nd (g8 (pv 2)) (show jn MU (aK wo) _ _ from⟨rfl,by decide+kernel,by decide+kernel,by decide+kernel,by decide+kernel⟩) (λ_ _ _ _ _=>fv (i:=4) EY.nd rfl (aZ rfl))
    (λ_ _ _ _ _=>oQ) (λ_ _ _ _ _=>oN (r:=λxs H Q=>∃p ys,xs=[.ref p]/\ (aI K H p ys\/fQ K H p ys)/\ ∀l,H l=none->Q (.ref l) (upd H l (.lst ys))) Kq (by rfl) g.Aw boot_list (ai (pv 4) aj))) rfl)
  (ay (cT (pv 0) (pv 3) rfl)
  (ay (cT (pv 0) (cy vw (cR (ai jC aj)) (pv 1)) rfl)
  (aw (cT (pv 0) (oN (WN rfl) (by rfl) g.Aw boot_list (ai (WM rfl g.uv (ai (pv 1) aj)) aj)) rfl))))),?_⟩
 have m0:Made p H H []:=Made.refl ⟨_,hp⟩;have w1:=rd.w1;have w2:=rd.w2;refine⟨_,rfl,λx dg nx nd ne=>⟨x,dg,w,rfl,aB,w1,w2,λH1 G eg ed rg sk=>⟨rfl,?_⟩⟩⟩;subst eg ed;obtain⟨m1,k1⟩:=Made.nest hp nx nd sk;have np:∀a,H a=none->a≠p:=λa h z=>by rw[z,hp] at h;cases h
 refine⟨_,rfl,_,_,_,_,rfl,k1 _ _ hp,e.eU,e.mn,(by show 0<1000;decide),?_⟩
 have m2:=m1.write (o:=.ins R.run dx (aA "registers" (.ref G.reg) []));have k2:∀b o,H1 b=some o->b≠p->upd H1 p (.ins R.run dx (aA "registers" (.ref G.reg) [])) b=some o:=λb o eb n=>by rw[ak n];exact eb
 generalize eH2:upd H1 p (.ins R.run dx (aA "registers" (.ref G.reg) []))=H2 at m2 k2⊢;have p2:H2 p=some (.ins R.run dx (aA "registers" (.ref G.reg) [])):=by rw[<-eH2,aB]
 have a0p:a0≠p:=cE rd.arr.l hp (by intro z;cases z)
 have A2:uB H2 a0 jS arr:=⟨k2 _ _ (k1 _ _ rd.arr.l) a0p,rd.arr.n,λk b hb=>k2 _ _ (k1 _ _ (rd.arr.at_ k b hb)) (cE (rd.arr.at_ k b hb) hp (by intro z;cases z))⟩
 refine⟨_,rfl,_,rfl,⟨_,aI.of A2.l⟩,λD hD=>qf (K:=K) (a:=a0) (xs:=jS.map V.ref) (iW H2 D λk=>.lst (((arr[k]?).getD []).map V.int)) (iW.start hD) (λi H' _ rI=> ?_) (λi v H' hi rI=> ?_) λH3 rI=> ?_⟩
 ·obtain⟨_,_,_,kp,_⟩:=rI;exact aI.of (kp _ _ A2.l)
 ·rw[dH] at hi;cases y:jS[i]? with
  |none=>rw[y] at hi;cases hi
  |some b=>
   rw[y] at hi;obtain rfl:V.ref b=v:=by injection hi
   have il:i<arr.length:=by rw[<-A2.n];exact(dy.mp y).1
   have al:=rd.al;have kp:=rI;obtain⟨_,_,_,kp,_⟩:=kp;refine⟨rfl,_,rfl,b,_,rfl,.inl (aI.of (kp _ _ (A2.at_ i b y))),λl hl=> ?_⟩;exact rI.next hD hl (λc o ec=>by rw[ak (bD ec hl)];exact ec) aB (by omega)
 obtain⟨aa,xq,Ho,Hq,m3⟩:=rI.made m2 hD;rw[bx] at xq;have k3:∀b o,H2 b=some o->H3 b=some o:=by obtain⟨_,_,_,kp,_⟩:=rI;exact kp
 refine⟨_,rfl,_,_,_,_,rfl,k3 _ _ p2,e.eU,e.AB,(by show 1<1000;decide),?_⟩
 have m4:=m3.write (o:=.ins R.run dx (aA "arrays" (.ref D) (aA "registers" (.ref G.reg) [])));have k4:∀b o,H3 b=some o->b≠p->upd H3 p (.ins R.run dx (aA "arrays" (.ref D) (aA "registers" (.ref G.reg) []))) b=some o:=λb o eb n=>by rw[ak n];exact eb
 generalize Hd:upd H3 p (.ins R.run dx (aA "arrays" (.ref D) (aA "registers" (.ref G.reg) [])))=H4 at m4 k4⊢;have p4:H4 p=some (.ins R.run dx (aA "arrays" (.ref D) (aA "registers" (.ref G.reg) []))):=by rw[<-Hd,aB]
 refine⟨_,rfl,_,rfl,_,_,_,_,rfl,p4,e.eU,e.wQ,(by show 2<1000;decide),?_⟩
 have m5:=m4.write (o:=.ins R.run dx (aA "left" (.int (n:Nat)) (aA "arrays" (.ref D) (aA "registers" (.ref G.reg) []))));have k5:∀b o,H4 b=some o->b≠p->upd H4 p (.ins R.run dx (aA "left" (.int (n:Nat)) (aA "arrays" (.ref D) (aA "registers" (.ref G.reg) [])))) b=some o:=λb o eb n=>by rw[ak n];exact eb
 generalize AR:upd H4 p (.ins R.run dx (aA "left" (.int (n:Nat)) (aA "arrays" (.ref D) (aA "registers" (.ref G.reg) []))))=H5 at m5 k5⊢;have p5:H5 p=some (.ins R.run dx (aA "left" (.int (n:Nat)) (aA "arrays" (.ref D) (aA "registers" (.ref G.reg) [])))):=by rw[<-AR,aB]
 refine⟨(by show 1<=sizeLine;rw[aR];decide),λl hl=>⟨_,rfl,l,_,_,rfl,rfl,aB,by omega,by omega,(by show 1*_<=sizeLine;rw[aR,gW];omega),λS hS=> ?_⟩⟩
 have lS:S≠l:=λz=>by rw[z,aB] at hS;cases hS
 have xi:H5 S=none:=by rw[ak lS] at hS;exact hS
 rw[gW,Hc];have k6:∀b o,H5 b=some o->upd (upd H5 l (.lst [.aO])) S (.lst (cZ w V.aO)) b=some o:=λb o eb=>by rw[ak (bD eb xi),ak (bD eb hl)];exact eb
 have m6:=m5.one (o:=.lst (cZ w V.aO)) xi k6 aB;have s6:upd (upd H5 l (.lst [.aO])) S (.lst (cZ w V.aO)) S=some (.lst (cZ w V.aO)):=aB;generalize eH6:upd (upd H5 l (.lst [.aO])) S (.lst (cZ w V.aO))=H6 at m6 k6 s6⊢;refine⟨_,rfl,_,_,_,_,rfl,k6 _ _ p5,e.eU,e.GX,(by show 3<1000;decide),?_⟩
 have m7:=m6.write (o:=.ins R.run dx (aA "faults" (.ref S) (aA "left" (.int (n:Nat)) (aA "arrays" (.ref D) (aA "registers" (.ref G.reg) [])))));have k7:∀b o,H6 b=some o->b≠p->upd H6 p (.ins R.run dx (aA "faults" (.ref S) (aA "left" (.int (n:Nat)) (aA "arrays" (.ref D) (aA "registers" (.ref G.reg) []))))) b=some o:=λb o eb n=>by rw[ak n];exact eb
 generalize eH7:upd H6 p (.ins R.run dx (aA "faults" (.ref S) (aA "left" (.int (n:Nat)) (aA "arrays" (.ref D) (aA "registers" (.ref G.reg) [])))))=H7 at m7 k7⊢;have p7:H7 p=some (.ins R.run dx (aA "faults" (.ref S) (aA "left" (.int (n:Nat)) (aA "arrays" (.ref D) (aA "registers" (.ref G.reg) []))))):=by rw[<-eH7,aB]
 refine⟨_,rfl,_,rfl,by omega,by omega,λr iX=>⟨r,_,rfl,aB,by omega,by omega,λun uD=> ?_⟩⟩
 have ur:un≠r:=λz=>by rw[z,aB] at uD;cases uD
 have N0:H7 un=none:=by rw[ak ur] at uD;exact uD
 rw[gW];have k8:∀b o,H7 b=some o->upd (upd H7 r (.kL 0 (w:Int))) un (.lst (nats (cB w))) b=some o:=λb o eb=>by rw[ak (bD eb N0),ak (bD eb iX)];exact eb
 have m8:=m7.one (o:=.lst (nats (cB w))) N0 k8 aB;have u8:upd (upd H7 r (.kL 0 (w:Int))) un (.lst (nats (cB w))) un=some (.lst (nats (cB w))):=aB;generalize N1:upd (upd H7 r (.kL 0 (w:Int))) un (.lst (nats (cB w)))=H8 at m8 k8 u8;refine⟨_,rfl,p,R.run,dx,_,rfl,(by show upd (upd H7 r (.kL 0 (w:Int))) un (.lst (nats (cB w))) p=_;rw[N1];exact k8 _ _ p7),e.eU,e.wR,(by show 4<1000;decide),?_⟩
 show Q .aO (upd (upd (upd H7 r (.kL 0 (w:Int))) un (.lst (nats (cB w)))) p _);rw[N1];have m9:=m8.write (o:=.ins R.run dx (gS (iI R G p dx D S aa) n un));have k9:∀b o,H8 b=some o->b≠p->upd H8 p (.ins R.run dx (gS (iI R G p dx D S aa) n un)) b=some o:=λb o eb n=>by rw[ak n];exact eb
 have Hr:∀b o,H3 b=some o->b≠p->upd H8 p (.ins R.run dx (gS (iI R G p dx D S aa) n un)) b=some o:=λb o eb n=>k9 _ _ (k8 _ _ (k7 _ _ (k6 _ _ (k5 _ _ (k4 _ _ eb n) n)) n)) n;have nG:∀a∈(G.reg::G.all),a≠p:=λa h=>np a (m1.fr a h);have rg9:nZ R (upd H8 p (.ins R.run dx (gS (iI R G p dx D S aa) n un))) G (tj w arr):=(rg arr).mono λb o eb hb=>by
  have n:b≠p:=nG b (by rcases hb with z|z;· rw[z];simp
                       ·simp[z])
  exact Hr _ _ (k3 _ _ (k2 _ _ eb n)) n
 have nD:D≠p:=np D (m3.fr D (by simp))
 have ar9:uB (upd H8 p (.ins R.run dx (gS (iI R G p dx D S aa) n un))) D aa arr:=⟨Hr _ _ Hq nD,by rw[xq];exact A2.n,λk b hb=>Hr _ _ (Ho k b hb) (np b (m3.fr b (by simp[d7 hb])))⟩
 have nS:S≠p:=np S (m6.fr S (by simp))
 have nu:un≠p:=np un (m8.fr un (by simp))
 have eM:(G.reg::G.all)++(D::aa)++[S]++[un]=[G.reg]++G.all++(D::aa)++[S]++[un]:=rfl;obtain⟨rA,a1,a2⟩:=abK (n:=n) (un:=un) rd hp ph (by rw[<-eM];exact m9) aB rg9 ar9 (k9 _ _ (k8 _ _ (k7 _ _ s6 nS)) nS) (k9 _ _ u8 nu)
 refine q _ (iI R G p dx D S aa) ⟨rA,rfl,rfl,m9.kp,λb hb=>m9.fr b ?_,a1,a2⟩;simp only[cC,gO] at hb;simp only[cC,gO,Rg.all];rcases hb with z|z|z|z|z|z|z|z|z<;>simp[z]
end
open MP (lU)
def Dd(K:az)(mg:Str->Option ah)(x:Str)(st:cD):Prop:=∃f fd,Df K mg x st f fd
structure A7(K:az)(mg:Str->Option ah):Prop where
 vector:Dd K mg "vector" zx
 acf:Dd K mg "mask_lanes" zy
 scalar:Dd K mg "scalar" zA
 hold:Dd K mg "hold" zB
 acg:Dd K mg "active_lanes" wt
 fail:Dd K mg "fail" wq
 ach:Dd K mg "fill_lanes" zC
 aci:Dd K mg "take_from_array" zE
 acj:Dd K mg "take_step" zv
 ack:Dd K mg "told_lane" zJ
 N2:Dd K mg "raise_first_fault" zK
 acm:Dd K mg "refusal_kind" wk
 acn:Dd K mg "combine_masks" zI
 aco:Dd K mg "do_all" Fy
def Ac(K:az)(D:List (Key×V))(a:String)(x:Str)(st:cD):Prop:=∃f fd,dU D (.inr (MX.S (aE a)))=some (.ref f)/\aG K x x st f fd
def A8(K:az)(R:Cl)(D:List (Key×V))(a:String)(x:Str)(st:cD)(j:Nat)(q:Str):Prop:=∃f fd cd Pl,dU D (.inr (MX.S (aE a)))=some (.ref f)/\aG K x x st f fd/\ ∀base:aC,K.In base->xg base fd R j (qv st) q cd Pl
structure Hu(K:az)(R:Cl)(D:List (Key×V)):Prop where
 lanes:Ac K D "lanes" "do_lanes" E4
 const:Ac K D "const" "do_const" E7
 fill:Ac K D "fill" "do_fill" E8
 copy:Ac K D "copy" "do_copy" E9
 one:Ac K D "one" "do_one" E_
 two:Ac K D "two" "do_two" Fb
 read:Ac K D "read" "do_read" Fd
 pick:Ac K D "pick" "do_pick" Fe
 write:Ac K D "write" "do_write" Ff
 test:Ac K D "test" "do_test" Fg
 tail:Ac K D "tail" "do_tail" Fh
 both:A8 K R D "both" "do_both" wA 0 "do_both.<locals>.<lambda>"
 less:A8 K R D "less" "do_less" wB 1 "do_less.<locals>.<lambda>"
 either:A8 K R D "either" "do_either" wC 2 "do_either.<locals>.<lambda>"
 count:Ac K D "count" "do_count" Fj
 num:Ac K D "num" "do_num" Fl
 width:Ac K D "width" "do_width" Fn
 «calc»:Ac K D "calc" "do_calc" Fp
 get:Ac K D "get" "do_get" Fs
 put:Ac K D "put" "do_put" Ft
 for_:Ac K D "for" "do_for" Fu
 when:Ac K D "when" "do_when" Fv
 raise:Ac K D "raise" "do_raise" Fw
section
variable{P:aS}{w:aL}{K:az}{mg:Str->Option ah}{base:aC}{R:Cl}{D:List (Key×V)}
theorem N3(d:A7 K mg)(e:EK K R):fg P w K mg base R:=by
 obtain⟨_,_,F1⟩:=d.vector;obtain⟨_,_,F2⟩:=d.acf;obtain⟨_,_,F3⟩:=d.scalar;obtain⟨_,_,F4⟩:=d.hold;obtain⟨_,_,F5⟩:=d.acg;obtain⟨_,_,F6⟩:=d.fail;exact⟨e,aaL F1 e,aaM F2 e,aaN F3 e,aaO F4 e,aaP F5 e,aaQ F6 e⟩
theorem A9{S:cw->Prop}{i:cw}{h:Nat}{vs:List V}{H:Hp}{Q:VK}{E:XK}(hp:∀n,d_ n i h->lU n i)(hs:S i)(q:pd R h i vs H Q E):fK R S vs H Q E:=by
 obtain⟨H0,L,x,n,t,e,r,hI,ok,q⟩:=q;obtain⟨b,c,T⟩:=hI.told;exact⟨H0,L,x,n,t,i,b,c,e,hs,r,T,hp _ ok,q⟩
theorem acp{S:cw->Prop}{i:cw}{h:Nat}{vs:List V}{H:Hp}{Q:VK}{E:XK}(hp:∀n,d_ n i h->lU n i)(hk:∀x n,∃y,cx i x n=.ok y)(hs:S i)(q:pd R h i vs H Q E):fK R S vs H Q E0:=by
 obtain⟨H0,L,x,n,t,e,r,hI,ok,q⟩:=q;obtain⟨b,c,T⟩:=hI.told;refine⟨H0,L,x,n,t,i,b,c,e,hs,r,T,hp _ ok,?_⟩;obtain⟨y,ey⟩:=hk x n;rw[ey] at q⊢;exact q
structure A_(P:aS)(w:aL)(K:az)(mg:Str->Option ah)(base:aC)(R:Cl)(D:List (Key×V)):Prop where
 d:A7 K mg
 g:GI mg
 e:EK K R
 o:wZ P w K mg base
 s:nX K mg R
 n:Hu K R D
 bm:BM mg base
 dA:K.In base
theorem jT{i:cw}{h k:Nat}{a:String}{x:Str}{st:cD}{S:cw->Prop}(A:Ac K D a x st)(ok:∀{f:ae} {fd:bK},aG K x x st f fd->aD P w K mg base au k f fd ["run","told"] (fK R S))(hs:S i)(ea:(MP.toldOf i).act=aE a:=by rfl)(hk:k<=4:=by decide)
 (hp:∀n,d_ n i h->lU n i:=by intro _ z;simpa only[d_] using z) (hd:∀x n,∃y,cx i x n=.ok y:=by intro _ _;exact⟨_,by rw[cx]⟩) (b:∀{f:ae} {fd:bK},aG K x x st f fd->Binds K fd ["run","told"] []:=by exactλF=>F.b2 "run" "told"):∃f,dU D (.inr (MX.S (MP.toldOf i).act))=some (.ref f)/\nY P w K mg base 4 f (pd R h i):=by
 obtain⟨f,fd,e,F⟩:=A;exact⟨f,by rw[ea];exact e,F.kp,fd,["run","told"],b F,.inl ⟨_,(ok F).mono hk,λvs H Q X q=>acp hp hd hs q⟩⟩
theorem Ba{i:cw}{h k:Nat}{a:String}{x:Str}{st:cD}{S:cw->Prop}(A:Ac K D a x st)(ok:∀{f:ae} {fd:bK},aG K x x st f fd->aD P w K mg base (bq P w) k f fd ["run","told"] (fK R S))(hs:S i)(ea:(MP.toldOf i).act=aE a:=by rfl)(hk:k<=4:=by decide)
 (hp:∀n,d_ n i h->lU n i:=by intro _ z;simpa only[d_] using z) (b:∀{f:ae} {fd:bK},aG K x x st f fd->Binds K fd ["run","told"] []:=by exactλF=>F.b2 "run" "told"):∃f,dU D (.inr (MX.S (MP.toldOf i).act))=some (.ref f)/\nY P w K mg base 4 f (pd R h i):=by
 obtain⟨f,fd,e,F⟩:=A;exact⟨f,by rw[ea];exact e,F.kp,fd,["run","told"],b F,.inr ⟨_,(ok F).mono hk,λvs H Q X q=>A9 hp hs q⟩⟩
theorem N4{i:cw}{n h:Nat}(E:A_ P w K mg base R D)(hi:lU n i):∃f,dU D (.inr (MX.S (MP.toldOf i).act))=some (.ref f)/\nY P w K mg base 4 f (pd R h i):=by
 have G:fg P w K mg base R:=N3 E.d E.e;obtain⟨_,_,F1⟩:=E.d.ach;have GF:=aaT (P:=P) (w:=w) (base:=base) F1 G;obtain⟨_,_,F2⟩:=E.d.aci;have GT:=aa3 (P:=P) (w:=w) (base:=base) F2 G E.g;obtain⟨_,_,F3⟩:=E.d.ack;have GL:=abe (P:=P) (w:=w) (base:=base) F3 E.e E.g E.s;obtain⟨_,_,F4⟩:=E.d.N2;have GR:=NG (P:=P) (w:=w) (base:=base) F4 E.e E.s;obtain⟨_,_,F5⟩:=E.d.acn;have GC:=abD (P:=P) (w:=w) (base:=base) F5 G E.g;cases i with
 |lanes d m=>
  exact jT E.n.lanes (λF=>aaR F G) ⟨d,m,rfl⟩
 |const d k m=>
  exact jT E.n.const (λF=>aaU F G GF) ⟨d,k,m,rfl⟩
 |fill d s m=>
  exact jT E.n.fill (λF=>aaV F G GF) ⟨d,s,m,rfl⟩
 |copy d a m=>
  exact jT E.n.copy (λF=>aaW F G) ⟨d,a,m,rfl⟩
 |one o d a p m=>
  exact jT E.n.one (λF=>aaZ F G E.o) ⟨o,d,a,p,m,rfl⟩
 |two o d a b p m=>
  exact jT E.n.two (λF=>aa0 F G E.o) ⟨o,d,a,b,p,m,rfl⟩
 |read d r a m=>
  exact jT E.n.read (λF=>aa4 F E.g GT) ⟨d,r,a,m,rfl⟩
 |pick d r a p m=>
  exact jT E.n.pick (λF=>aa5 F G E.g GT) ⟨d,r,a,p,m,rfl⟩
 |write r a b m=>
  exact jT E.n.write (λF=>aa6 F G E.g) ⟨r,a,b,m,rfl⟩
 |test d a m=>
  exact jT E.n.test (λF=>aa7 F G) ⟨d,a,m,rfl⟩
 |tail d s=>
  exact jT E.n.tail (λF=>aa8 F G E.g) ⟨d,s,rfl⟩
 |both d a b=>
  obtain⟨f,fd,cd,Pl,e,F,DL⟩:=E.n.both;exact⟨f,e,F.kp,fd,["run","told"],F.b2 "run" "told",.inr ⟨_,(abE F E.bm (DL base E.dA) GC).mono (by decide),λvs H Q X q=>A9 (λ_ z=>by simpa only[d_] using z) ⟨d,a,b,rfl⟩ q⟩⟩
 |less d a b=>
  obtain⟨f,fd,cd,Pl,e,F,DL⟩:=E.n.less;exact⟨f,e,F.kp,fd,["run","told"],F.b2 "run" "told",.inr ⟨_,(abF F E.bm (DL base E.dA) GC).mono (by decide),λvs H Q X q=>A9 (λ_ z=>by simpa only[d_] using z) ⟨d,a,b,rfl⟩ q⟩⟩
 |either d a b=>
  obtain⟨f,fd,cd,Pl,e,F,DL⟩:=E.n.either;exact⟨f,e,F.kp,fd,["run","told"],F.b2 "run" "told",.inr ⟨_,(abG F E.bm (DL base E.dA) GC).mono (by decide),λvs H Q X q=>A9 (λ_ z=>by simpa only[d_] using z) ⟨d,a,b,rfl⟩ q⟩⟩
 |count d a=>
  exact jT E.n.count (λF=>aa9 F G E.g) ⟨d,a,rfl⟩
 |num d k=>
  exact jT E.n.num (λF=>aba F G) ⟨d,k,rfl⟩
 |width d=>
  exact jT E.n.width (λF=>abb F G) ⟨d,rfl⟩
 |«calc» o d a b p=>
  exact Ba E.n.«calc» (λF=>abc F G E.o E.s) ⟨o,d,a,b,p,rfl⟩
 |get d v s=>
  exact Ba E.n.get (λF=>abf F G GL) ⟨d,v,s,rfl⟩
 |put v s t=>
  exact Ba E.n.put (λF=>abg F G GL) ⟨v,s,t,rfl⟩
 |for_ _ _ _=>exact gw hi
 |when _ _ _=>exact gw hi
 |raise=>
  exact Ba E.n.raise (λF=>abu F GR) rfl
end
open MP (aJ c_)
structure Ra where
 rd:ae
 iF:ae
 tx:ae
 cd:ae
 gU:ae
 ll:ae
 bl:ae
def Bb(A:Ra)(tk:ae):List (Str×V):=[("text",.ref A.tx),("token",.ref tk),("code",.ref A.cd)]
def n9(A:Ra)(k:Nat):List (Str×V):=[("lengths",.ref A.ll),("body",.ref A.bl),("size",.int (k:Nat))]
def iq(l:List Nat):List V:=l.map λ(k:Nat)=>V.int (k:Int)
structure cF(K:az)(C:Cg)(H0 HS:Hp)(A:Ra)(t:aM)(ls:List Nat)(ts:aX)(left:Nat)(H:Hp):Prop where
 rd:∃tk,H A.rd=some (.ins C.dv A.iF (Bb A tk))/\pk C t ts tk H
 cd:H A.cd=some (.ins C.code A.gU (n9 A (512-left)))
 ll:H A.ll=some (.lst (iq ls))
 tx:aI K H0 A.tx (dQ t)
 tl:t.length<=20000
 good: ¬bad t.length ts
 le:left<=512
 ln:ls.length<=32
 old:∀b o,H0 b=some o->H b=some o
 set:∀b o,HS b=some o->H b=some o
 n0:H0 A.rd=none/\H0 A.cd=none/\H0 A.ll=none/\H0 A.bl=none
 nS:HS A.rd=none/\HS A.cd=none/\HS A.ll=none/\HS A.bl=none
 sn:∀b o,HS b=some o->H0 b=none
 bt:∃xs,H A.bl=some (.lst xs)
def Kr(A:Ra)(H H':Hp):Prop:=∀b o,H b=some o->b≠A.rd->b≠A.cd->H' b=some o
theorem Kr.refl{A:Ra}{H:Hp}:Kr A H H:=λ_ _ e _ _=>e
def Rr{A:Type}(C:Cg)(E:XK)(H0:Hp)(r:Except Nat A)(k:A->Prop):Prop:=match r with
 | .ok x=>k x
 | .error p=>pj C E H0 p
section
variable{C:Cg}{E:XK}{H0:Hp}{A B:Type}
theorem Rr.bind{r:Except Nat A}{f:A->Except Nat B}{k:B->Prop}(h:Rr C E H0 (r.bind f) k):Rr C E H0 r λx=>Rr C E H0 (f x) k:=by
 cases r with
 |ok x=>exact h
 |error p=>exact h
theorem Rr.mono{r:Except Nat A}{k k':A->Prop}(h:Rr C E H0 r k)(i:∀x,k x->k' x):Rr C E H0 r k':=by
 cases r with
 |ok x=>exact i x h
 |error p=>exact h
theorem Rr.also{r:Except Nat (A×aX)}{f:A->B}{k:B×aX->Prop}(h:Rr C E H0 (j3 f r) k):Rr C E H0 r λx=>k (f x.1,x.2):=by
 cases r with
 |ok x=>exact h
 |error p=>exact h
end
section
variable{K:az}{C:Cg}{H0 HS H H':Hp}{A:Ra}{t:aM}{ls:List Nat}{ts us:aX}{left:Nat}
theorem cF.more(r:cF K C H0 HS A t ls ts left H)(k:∀b o,H b=some o->H' b=some o):cF K C H0 HS A t ls ts left H':=
 ⟨let ⟨tk,h1,h2⟩:=r.rd;⟨tk,k _ _ h1,h2.mono k⟩,k _ _ r.cd,k _ _ r.ll,r.tx,r.tl,r.good,r.le,r.ln,λb o e=>k _ _ (r.old b o e),λb o e=>k _ _ (r.set b o e),r.n0,r.nS,r.sn,let ⟨o,h⟩:=r.bt;⟨o,k _ _ h⟩⟩
theorem N5(r:cF K C H0 HS A t ls ts left H):A.cd≠A.rd:=by
 obtain⟨tk,h1,h2⟩:=r.rd;exact cE r.cd h1 (by intro z;injection z with _ _ z;injection z with z _;injection z with z _;revert z;decide)
theorem cF.token(r:cF K C H0 HS A t ls ts left H){tk:ae}(g: ¬bad t.length us)(k:∀b o,H b=some o->H' b=some o)(hn:H tk=none)(h:pk C t us tk H'):
 cF K C H0 HS A t ls us left (upd H' A.rd (.ins C.dv A.iF (Bb A tk)))/\Kr A H (upd H' A.rd (.ins C.dv A.iF (Bb A tk))):=by
 obtain⟨tk0,h1,h2⟩:=r.rd;have tr:tk≠A.rd:=λz=>by rw[z,h1] at hn;cases hn
 have lr:A.ll≠A.rd:=cE r.ll h1 (by intro z;cases z)
 have kk:∀b o,H b=some o->b≠A.rd->upd H' A.rd (.ins C.dv A.iF (Bb A tk)) b=some o:=λb o e n=>by rw[ak n];exact k b o e
 refine⟨⟨⟨tk,aB,?_⟩,kk _ _ r.cd (N5 r),kk _ _ r.ll lr,r.tx,r.tl,g,r.le,r.ln,λb o e=>kk _ _ (r.old b o e) (λz=>by rw[z,r.n0.1] at e;cases e),λb o e=>kk _ _ (r.set b o e) (λz=>by rw[z,r.nS.1] at e;cases e),r.n0,r.nS,r.sn,let ⟨o,h⟩:=r.bt;⟨o,kk _ _ h (cE h h1 (by intro z;cases z))⟩⟩,λb o e n _=>kk b o e n⟩
 obtain⟨dx,x,e,a1,a2⟩:=h;exact⟨dx,x,e,by rw[ak tr];exact a1,a2⟩
end
structure jU(K:az)(C:Cg):Prop where
 cls:iz K C.dv
 text:dC K C.dv "text"
 token:dC K C.dv "token"
 code:dC K C.dv "code"
 jd:iz K C.code
 lengths:dC K C.code "lengths"
 body:dC K C.code "body"
 size:dC K C.code "size"
 tok:AV K C
section
variable{P:aS}{w:aL}{K:az}{mg:Str->Option ah}{base:aC}{f:ae}{fd:bK}{R:Cl}{C:Cg}
def N6(K:az)(C:Cg):Sp:=λvs H Q E=>∃H0 HS A t ls ts left,vs=[.ref A.rd]/\cF K C H0 HS A t ls ts left H/\Vaarrj.next ts≠ .none/\Rr C E H0 (c_ t.length ts) λu=>∀H',cF K C H0 HS A t ls u.2 left H'->Kr A H H'->Q .aO H'
theorem acq(F:aG K "advance" "Reader.advance" wF f fd)(k:jU K C)(GT:aN P w K mg base (bq P w) 5 "token_at" ["text","at"] (xp K C)):aD P w K mg base (bq P w) 6 f fd ["self"] (N6 K C):=by
 refine F.oX Y7 λaF A outer s H vs Q E hr h=> ?_;obtain⟨H0,HS,A,t,ls,ts,left,rfl,r,hn,q⟩:=h;refine⟨_,aw (cT (pv 0) (aY GT hr cS (ai (aP (pv 0) rfl) (ai (aP (aP (pv 0) rfl) rfl) aj))) rfl),?_⟩;obtain⟨tk,h1,dx,x,e,h2,h3,h4,h5,h6⟩:=r.rd;refine⟨_,rfl,_,_,_,_,_,rfl,h1,k.cls,k.text,rfl,_,rfl,_,_,_,_,_,rfl,h1,k.cls,k.token,rfl,_,_,_,_,_,rfl,h2,k.tok.cls,k.tok.end_,rfl,?_⟩;refine⟨H0,_,t,e,rfl,tY.seq r.old r.tx,h5,r.tl,r.old,λb=> ?_,λb H' k2 hs hk pq=> ?_⟩
 ·rw[<-h6 hn] at b⊢;rw[MP.vL b] at q;exact q
 ·rw[<-h6 hn] at b pq;rw[MP.vM b] at q;refine⟨_,rfl,_,_,_,_,rfl,hs _ _ h1,k.cls,k.token,(by show 3<1000;decide),?_⟩
  obtain⟨r2,k3⟩:=r.token b hs hk pq;exact q _ r2 k3
end
open Vaarrj (runCode)
section
variable{P:aS}{w:aL}{K:az}{mg:Str->Option ah}{base:aC}{R:Cl}{D:List (Key×V)}{C:Cg}
theorem nY.mono{j k:Nat}{f:ae}{sp:Sp}(A:nY P w K mg base j f sp)(h:j<=k):nY P w K mg base k f sp:=by
 obtain⟨kp,fd,ps,b,⟨iV,F,im⟩|⟨iV,F,im⟩⟩:=A
 ·exact⟨kp,fd,ps,b,.inl ⟨iV,F.mono h,im⟩⟩
 ·exact⟨kp,fd,ps,b,.inr ⟨iV,F.mono h,im⟩⟩
def Hv(K:az)(w:aL)(mg:Str->Option ah)(D:List (Key×V)):Prop:=∃a,mg "ACTIONS"=some (.ref a)/\Tab K w a D
theorem N7(i:cw):(∃d c b,i=.for_ d c b)\/(∃s b c,i=.when s b c)\/∀n h,d_ n i h->lU n i:=by
 cases i with
 |for_ d c b=>exact .inl ⟨d,c,b,rfl⟩
 |when s b c=>exact .inr (.inl ⟨s,b,c,rfl⟩)
 |_=>exact .inr (.inr λn h z=>by simpa only[d_] using z)
theorem acr(E:A_ P w K mg base R D)(T:Hv K w mg D):∀h,aN P w K mg base (bq P w) (2*h+5) "do_all" ["run","body"] (AM R h):=by
 obtain⟨_,_,F1⟩:=E.d.acj;have GS:=abn (P:=P) (w:=w) (base:=base) F1 E.g E.e E.s;have G:fg P w K mg base R:=N3 E.d E.e;obtain⟨f,fd,F⟩:=E.d.aco;obtain⟨ta,mT,tab⟩:=T;have b:=F.1.b2 "run" "body";intro h
 induction h with
 |zero=>
  have A:ActT P w K mg base R (1+3) 0:=⟨ta,D,mT,tab,λi n ok=>by
   rcases N7 i with⟨d,c,bb,rfl⟩|⟨s,bb,c,rfl⟩|pl
   ·simp only[d_] at ok;obtain⟨_,_,k,hk,_⟩:=ok;cases hk
   ·simp only[d_] at ok;obtain⟨_,k,hk,_⟩:=ok;cases hk
   ·exact N4 E (pl n 0 ok)⟩
  exact⟨f,fd,ND F.1 E.e GS A,F.2,F.1.kp,b⟩
 |succ h ih=>
  have A:ActT P w K mg base R ((2*h+3)+3) (h+1):=⟨ta,D,mT,tab,λi n ok=>by
   rcases N7 i with⟨d,c,bb,rfl⟩|⟨s,bb,c,rfl⟩|pl
   ·obtain⟨f1,Hw,e1,F1⟩:=E.n.for_;exact⟨f1,e1,F1.kp,Hw,["run","told"],F1.b2 "run" "told",.inr ⟨_,abz (k:=2*h+1) (h:=h) F1 G E.g GS ih,λvs H Q X q=>⟨d,c,bb,q⟩⟩⟩
   ·obtain⟨f1,Hw,e1,F1⟩:=E.n.when;exact⟨f1,e1,F1.kp,Hw,["run","told"],F1.b2 "run" "told",.inr ⟨_,abA (k:=2*h+1) (h:=h) F1 G ih,λvs H Q X q=>⟨s,bb,c,q⟩⟩⟩
   ·obtain⟨f1,e1,A1⟩:=N4 (h:=h+1) E (pl n (h+1) ok);exact⟨f1,e1,A1.mono (by omega)⟩⟩
  exact⟨f,fd,ND F.1 E.e GS A,F.2,F.1.kp,b⟩
def acs(R:Cl)(H0 H:Hp)(r:yf)(Q:VK)(E:XK):Prop:=match r with
 | .ok y=>∀H' L,bJ R H0 L y.1 y.2 H'->(∀b o,H b=some o->b∉R.cf->H' b=some o)->(∀b∈(L.reg::L.vs::L.ms::L.ar::L.ss::L.fa::(L.va++(L.ma++L.aa))),H b=none)->L.ar≠L.vs->L.ar≠L.ms->Q (.ref L.run) H'
 | .error e=>∀H' d,(∀b o,H b=some o->b∉R.cf->H' b=some o)->jc R H'->H' d=some (fJ d [("kind",.int (e.1:Nat)),("place",.int (e.2:Nat))])->E (.ref R.stop) (some d) H'
def Hx(R:Cl)(C:Cg):Sp:=λvs H Q E=>∃H0 cd gU fs bl ts ls b w a0 jS arr n,vs=[.ref cd,.int ((w:Nat):Int),.ref a0,.int ((n:Nat):Int)]/\H cd=some (.ins C.code gU fs)/\fs.lookup ("body":Str)=some (.ref bl)/\xj R H0 H w a0 jS arr/\H0 bl=some (.lst (ts.map V.ref))/\b9 R H0 b ts/\fI arr.length b 8/\
 acs R H0 H (runCode ⟨ls,b⟩ w arr n) Q E
theorem acu{f:ae}{fd:bK}(F:aG K "finished_run" "finished_run" FD f fd)(E:A_ P w K mg base R D)(T:Hv K w mg D)(RC:sj K mg R)(k:jU K C):aD P w K mg base (bq P w) 22 f fd ["code","width","arrays","budget"] (Hx R C):=by
 obtain⟨fr,ip,Mr,Fr,mR⟩:=RC.run;have GR:aD P w K mg base au 3 fr ip ["self","width","arrays","budget"] (NZ R):=ace Fr E.g E.e RC;have bR:=Fr.b4 "self" "width" "arrays" "budget";have GA:=acr E T 8;obtain⟨_,_,F4⟩:=E.d.N2;have GF:=NG (P:=P) (w:=w) (base:=base) F4 E.e E.s;refine F.Mu M5 (λvs H Q E h=> ?_) (λaF A outer s H vs Q E1 hr h=> ?_)
 ·obtain⟨_,_,_,_,_,_,_,_,_,_,_,_,_,rfl,_⟩:=h;rfl
 obtain⟨H0,cd,gU,fs,bl,ts,ls,b,w,a0,jS,arr,n,rfl,fq,eN,rd,h0b,hB,ok,q⟩:=h;refine⟨_,ay (bH (i:=4) M5.nd rfl (aZ rfl) (j' Mr GR (hr.mono (by decide)) rfl mR bR .nil a_ (ai (pv 1) (ai (pv 2) (ai (pv 3) aj)))))
  (ay (bO (aY GA hr cS (ai (pv 4) (ai (aP (pv 0) rfl) aj))))
  (ay (bO (aY GF (hr.mono (by decide)) cS (ai (pv 4) aj)))
  (aw (bw (pv 4))))),?_⟩
 refine⟨_,rfl,_,rfl,_,rfl,λx dx nx nd ne=> ?_⟩;have up:∀c u,H c=some u->upd (upd H dx (.own x)) x (.ins R.run dx []) c=some u:=λc u e=>by rw[ak (bD e nx),ak (bD e nd)];exact e
 have rd2:xj R H0 (upd (upd H dx (.own x)) x (.ins R.run dx [])) w a0 jS arr:=⟨rd.w1,rd.w2,⟨up _ _ rd.arr.l,rd.arr.n,λk b hb=>up _ _ (rd.arr.at_ k b hb)⟩,rd.al,rd.nums,rd.tb.mono up,rd.tl,rd.tn,λc u e=>up _ _ (rd.old c u e),rd.ot⟩;have h0x:H0 x=none:=by
  cases z:H0 x with
  |none=>rfl
  |some u=>rw[rd.old _ _ z] at nx;cases nx
 refine⟨H0,x,dx,w,a0,jS,arr,n,rfl,aB,h0x,rd2,λH1 L bg=>⟨rfl,?_⟩⟩;obtain⟨rA,eL,eLx,kp1,frL,a1,a2⟩:=bg;subst eL;have k1:∀c u,H c=some u->H1 c=some u:=λc u e=>kp1 c u (up c u e) (bD e nx);have Bc:∀c∈(L.reg::L.vs::L.ms::L.ar::L.ss::L.fa::(L.va++(L.ma++L.aa))),H c=none:=λc hc=>by
  cases z:H c with
  |none=>rfl
  |some u=>have:=frL c hc;rw[up c u z] at this;cases this
 have nm:∀c u,H c=some u->c∉R.cf-> ¬L.mut c:=λc u e ht hm=>by
  have h:=Rn.NP hm;rw[Rn.flat,rA.tb] at h;simp only[cC,gO] at h;rcases h with z|z|z|z|z
  ·rw[z,nx] at e;cases e
  ·rw[Bc c (by simp[z])] at e;cases e
  ·rw[Bc c (by simp[z])] at e;cases e
  ·exact ht z
  ·rw[Bc c (by simp only[cC,gO];right;right;right;right;right;right;exact z)] at e;cases e
 have keep:∀{H2:Hp},Kp L H1 H2->∀c u,H c=some u->c∉R.cf->H2 c=some u:=λkp c u e ht=>kp c u (k1 c u e) (nm c u e ht);refine⟨_,rfl,_,rfl,_,_,_,_,_,rfl,k1 _ _ fq,k.jd,k.body,eN,?_⟩;refine⟨H0,L,_,n,bl,ts,b,rfl,rA,h0b,hB,ok,?_⟩;unfold runCode at q;cases ed:eW b (tj w arr) n with
 |error er=>
  simp only[ed] at q;exactλH2 d kp tb hd=>q H2 d (keep kp) tb hd
 |ok y=>
  simp only[ed] at q;refineλH2 r2 qu=>⟨_,rfl,H0,L,y.1,y.2,rfl,r2,?_⟩;unfold raised at q;cases ff:yh y.1 with
  |some er=>
   simp only[ff] at q;exactλH3 d kp tb hd=>q H3 d (keep (qu.trans kp)) tb hd
  |none=>
   simp only[ff] at q;exact⟨_,rfl,q H2 L r2 (keep qu) Bc a1 a2⟩
end
section
variable{P:aS}{w:aL}{K:az}{mg:Str->Option ah}{base:aC}{f:ae}{fd:bK}{R:Cl}{C:Cg}
def N8(K:az)(C:Cg):Sp:=λvs H Q E=>∃H0 HS A t ls ts left b,vs=[.ref A.rd,.bl b]/\cF K C H0 HS A t ls ts left H/\ (b=true->Q .aO H)/\ (b=false->pj C E H0 (here ts))
theorem acv(F:aG K "refuse_unless" "Reader.refuse_unless" wG f fd)(k:jU K C)(FC:n6 K mg C):aD P w K mg base (bq P w) 3 f fd ["self","fits"] (N8 K C):=by
 obtain⟨NF,ff,si,FK,mF⟩:=FC.ex;have GF:aD P w K mg base au 1 ff si ["self","position"] (xm C.mz):=Hh FK;have bF:=FK.fn.b2 "self" "position";refine F.oX Y9 λaF A outer s H vs Q E hr h=> ?_;obtain⟨H0,HS,A,t,ls,ts,left,b,rfl,r,q1,q2⟩:=h;refine⟨_,aw (b7 (lF (gZ (pv 1))) (aw (rR FK.cls GF hr bF rfl rfl rQ rfl mF (ai (aP (aP (pv 0) rfl) rfl) aj))) cJ),?_⟩;obtain⟨tk,h1,dx,x,e,h2,h3,h4,h5,h6⟩:=r.rd;refine⟨_,rfl,_,rfl,?_⟩;cases b with
 |true=>exact dW (q1 rfl)
 |false=>
  refine dq ⟨_,rfl,_,_,_,_,_,rfl,h1,k.cls,k.token,rfl,_,_,_,_,_,rfl,h2,k.tok.cls,k.tok.start,rfl,(by show 1<=sizeLine;rw[aR];decide),λy hy=>Hi (q2 rfl) r.old hy⟩
structure qz(P:aS)(w:aL)(K:az)(mg:Str->Option ah)(base:aC)(C:Cg):Prop where
 k:jU K C
 c_:∃f fd,Meth K C.dv "advance" f/\aD P w K mg base (bq P w) 6 f fd ["self"] (N6 K C)/\Binds K fd ["self"] []
 ref:∃f fd,Meth K C.dv "refuse_unless" f/\aD P w K mg base (bq P w) 3 f fd ["self","fits"] (N8 K C)/\Binds K fd ["self","fits"] []
def N9(K:az)(C:Cg):Sp:=λvs H Q E=>∃H0 HS A t ls ts left c,vs=[.ref A.rd,.str (S [c])]/\ (c=59\/c=123\/c=125\/c=64\/c=63\/c=95)/\cF K C H0 HS A t ls ts left H/\Rr C E H0 (aJ t.length (Js c ts)) λu=>∀H',cF K C H0 HS A t ls u.2 left H'->Kr A H H'->Q .aO H'
theorem acw{x y:aM}:S x=S y↔x=y:=⟨MX.lY,λh=>by rw[h]⟩
theorem acx(F:aG K "pass_by" "Reader.pass_by" wH f fd)(M:qz P w K mg base C):aD P w K mg base (bq P w) 7 f fd ["self","text"] (N9 K C):=by
 obtain⟨fa,kY,ma,Ga,ba⟩:=M.c_;obtain⟨fr,ip,mr,Gr,br⟩:=M.ref;refine F.oX Y' λaF A outer s H vs Q E hr h=> ?_;obtain⟨H0,HS,A,t,ls,ts,left,c,rfl,hc,r,q⟩:=h;have fh:=hr.mono (show 3<=6 by decide)
 refine⟨_,ay (bO (jk (pv 0) M.k.cls mr Gr fh br .nil cS (ai (oM fR (aP (aP (pv 0) rfl) rfl) (pv 1) (bQ _)) aj)))
  (aw (bO (nI (pv 0) M.k.cls ma Ga hr ba .nil cS))),?_⟩
 obtain⟨tk,h1,dx,x,e,h2,h3,h4,h5,h6⟩:=r.rd;rw[MP.UL] at q;refine⟨_,rfl,_,_,_,rfl,h1,rfl,_,rfl,_,_,_,_,_,rfl,h1,M.k.cls,M.k.token,rfl,_,_,_,_,_,rfl,h2,M.k.tok.cls,M.k.tok.text,rfl,_,rfl,rfl,?_⟩;refine⟨H0,HS,A,t,ls,ts,left,_,rfl,r,λz=> ?_,λz=> ?_⟩
 ·have z:=of_decide_eq_true z;have z:S x=S [c]:=by injection z
  have z:=(h3.sign hc).mp (acw.mp z);rw[if_pos z] at q;refine⟨_,rfl,_,_,_,rfl,h1,rfl,H0,HS,A,t,ls,ts,left,rfl,r,(by rw[z];exactλy=>nomatch y),q⟩
 ·have z:=of_decide_eq_false z;rw[if_neg λy=>z (by rw[(h3.sign hc).mpr y])] at q
  exact q
def N_(K:az)(C:Cg):Sp:=λvs H Q E=>∃H0 HS A t ls ts left m,vs=[.ref A.rd,.int ((m:Nat):Int)]/\ ((m:Nat):Int)<=qS/\cF K C H0 HS A t ls ts left H/\Rr C E H0 (aJ t.length (MP.fT m ts)) λu=>∀H',cF K C H0 HS A t ls u.2 left H'->Kr A H H'->Q (.int ((u.1:Nat):Int)) H'
theorem acy{x:aM}{m:Int}(h:dZ x m≠none):Vaarrj.oneWay x=true:=by
 unfold MP.dZ at h
 split at h
 ·rename_i z;exact z.2.1
 ·exact absurd rfl h
theorem acz(F:aG K "number_up_to" "Reader.number_up_to" wI f fd)(M:qz P w K mg base C)(GN:aN P w K mg base au 1 "decimal" ["digits","most"] qx):aD P w K mg base (bq P w) 7 f fd ["self","most"] (N_ K C):=by
 obtain⟨fa,kY,ma,Ga,ba⟩:=M.c_;obtain⟨fr,ip,mr,Gr,br⟩:=M.ref;refine F.oX M8 λaF A outer s H vs Q E hr h=> ?_;obtain⟨H0,HS,A,t,ls,ts,left,m,rfl,hm,r,q⟩:=h;have cN:=hr.mono (show 1<=6 by decide)
 have fh:=hr.mono (show 3<=6 by decide)
 refine⟨_,ay (bH (i:=2) M8.nd rfl (aZ rfl) (aY GN cN a_ (ai (aP (aP (pv 0) rfl) rfl) (ai (pv 1) aj))))
  (ay (bO (jk (pv 0) M.k.cls mr Gr fh br .nil cS (ai (yw (yu (pv 2))) aj)))
  (ay (bO (nI (pv 0) M.k.cls ma Ga hr ba .nil cS))
  (aw (bw (pv 2))))),?_⟩
 obtain⟨tk,h1,dx,x,e,h2,h3,h4,h5,h6⟩:=r.rd;have eg:qS=1000000000000000000:=rfl;rw[eg] at hm;rw[MP.LK h3 (by rw[eg];exact hm)] at q
 refine⟨_,rfl,_,_,_,_,_,rfl,h1,M.k.cls,M.k.token,rfl,_,_,_,_,_,rfl,h2,M.k.tok.cls,M.k.tok.text,rfl,_,rfl,x,(m:Int),rfl,h3.ascii,h4,by omega,by omega,?_⟩
 cases ed:dZ x (m:Nat) with
 |none=>
  rw[ed] at q;refine⟨_,rfl,_,_,_,rfl,h1,rfl,_,rfl,H0,HS,A,t,ls,ts,left,_,rfl,r,(λz=>nomatch z),λ_=>q⟩
 |some k=>
  rw[ed] at q;have q:=q.also;refine⟨_,rfl,_,_,_,rfl,h1,rfl,_,rfl,H0,HS,A,t,ls,ts,left,_,rfl,r,λ_=> ?_,λz=>nomatch z⟩;have nn:Vaarrj.next ts≠ .none:=λz=>by
   have:x=[]:=h3.none.mpr z;have:=acy (x:=x) (m:=(m:Int)) (by rw[ed];exactλy=>nomatch y)
   rw[‹x=[]›] at this;cases this
  exact⟨_,rfl,_,_,_,rfl,h1,rfl,H0,HS,A,t,ls,ts,left,rfl,r,nn,q.mono λu hu H' r' k'=>⟨_,rfl,hu H' r' k'⟩⟩
end
structure Ta where
 td:ae
 fY:ae
 pl:ae
 ol:ae
 bb:ae
 cc:ae
def dO(D:Ta)(τ:MP.Told):List (Str×V):=[("action",.str (S τ.act)),("operator",.str (S τ.op)),("parts",.ref D.pl),("operands",.ref D.ol),("place",.int ((τ.place:Nat):Int)),("mask",mV τ.mask),("body",.ref D.bb),("otherwise",.ref D.cc)]
structure fj(R:Cl)(H0 HS:Hp)(A:Ra)(D:Ta)(τ:MP.Told)(H:Hp):Prop where
 td:H D.td=some (.ins R.ins D.fY (dO D τ))
 pl:H D.pl=some (.lst (τ.parts.map λx=>V.str (S x)))
 ol:H D.ol=some (.lst (τ.args.map V.int))
 ne:D.td≠A.rd/\D.td≠A.cd/\D.pl≠D.ol/\D.pl≠A.ll/\D.ol≠A.ll
 n0:H0 D.td=none/\H0 D.pl=none/\H0 D.ol=none
 nS:HS D.td=none/\HS D.pl=none/\HS D.ol=none
 lp:τ.parts.length<=100
 la:τ.args.length<=100
def Kd(A:Ra)(D:Ta)(H H':Hp):Prop:=∀b o,H b=some o->b≠A.rd->b≠A.cd->b≠D.td->b≠D.pl->b≠D.ol->H' b=some o
theorem Kd.of{A:Ra}{D:Ta}{H H':Hp}(k:Kr A H H'):Kd A D H H':=λb o e n1 n2 _ _ _=>k b o e n1 n2
theorem Kd.trans{A:Ra}{D:Ta}{H H1 H2:Hp}(a:Kd A D H H1)(b:Kd A D H1 H2):Kd A D H H2:=λc o e n1 n2 n3 n4 n5=>b c o (a c o e n1 n2 n3 n4 n5) n1 n2 n3 n4 n5
section
variable{K:az}{R:Cl}{C:Cg}{H0 HS H H':Hp}{A:Ra}{D:Ta}{t:aM}{ls:List Nat}{ts us:aX}{left:Nat}{τ τ':MP.Told}
theorem cF.uI(r:cF K C H0 HS A t ls ts left H){x:ae}{o:HO}(h1:x≠A.rd)(h2:x≠A.cd)(h3:x≠A.ll)(h4:∀dx y p e,H x≠some (.ins C.tok dx (xn y p e)))(h5:H0 x=none)(h6:HS x=none)(h7:x=A.bl->∃xs,o=.lst xs):cF K C H0 HS A t ls ts left (upd H x o):=by
 obtain⟨tk,a1,dx,y,e,a2,a3⟩:=r.rd;refine⟨⟨tk,by rw[ak (Ne.symm h1)];exact a1,dx,y,e,?_,a3⟩,by rw[ak (Ne.symm h2)];exact r.cd,by rw[ak (Ne.symm h3)];exact r.ll,r.tx,r.tl,r.good,r.le,r.ln,λb u q=> ?_,λb u q=> ?_,r.n0,r.nS,r.sn,?_⟩
 ·rw[ak λz=>h4 _ _ _ _ (by rw[<-z];exact a2)];exact a2
 ·rw[ak λz=>by rw[z,h5] at q;cases q];exact r.old b u q
 ·rw[ak λz=>by rw[z,h6] at q;cases q];exact r.set b u q
 ·obtain⟨xs,hb⟩:=r.bt;by_cases z:A.bl=x
  ·obtain⟨ys,ey⟩:=h7 z.symm;exact⟨ys,by rw[z,aB,ey]⟩
  ·exact⟨xs,by rw[ak z];exact hb⟩
theorem N'{dx:ae}{y:aM}{p e:Nat}{C' dx':ae}:HO.ins C' dx' (dO D τ)≠ .ins C.tok dx (xn y p e):=by
 intro z;injection z with _ _ z;injection z with z _;injection z with z _;revert z;decide
theorem fj.kr(d:fj R H0 HS A D τ H)(r:cF K C H0 HS A t ls ts left H)(k:Kr A H H'):fj R H0 HS A D τ H':=by
 obtain⟨tk,a1,_⟩:=r.rd;exact⟨k _ _ d.td d.ne.1 d.ne.2.1,k _ _ d.pl (cE d.pl a1 (by intro z;cases z)) (cE d.pl r.cd (by intro z;cases z)),k _ _ d.ol (cE d.ol a1 (by intro z;cases z)) (cE d.ol r.cd (by intro z;cases z)),d.ne,d.n0,d.nS,d.lp,d.la⟩
theorem fj.fld(d:fj R H0 HS A D τ H)(r:cF K C H0 HS A t ls ts left H)(h1:τ'.parts=τ.parts)(h2:τ'.args=τ.args):cF K C H0 HS A t ls ts left (upd H D.td (.ins R.ins D.fY (dO D τ')))/\fj R H0 HS A D τ' (upd H D.td (.ins R.ins D.fY (dO D τ')))/\Kd A D H (upd H D.td (.ins R.ins D.fY (dO D τ'))):=by
 have e1:D.pl≠D.td:=cE d.pl d.td (by intro z;cases z)
 have e2:D.ol≠D.td:=cE d.ol d.td (by intro z;cases z)
 refine⟨r.uI d.ne.1 d.ne.2.1 (cE d.td r.ll (by intro z;cases z)) (λ_ _ _ _ z=>by rw[d.td] at z;exact N' (f9 z)) d.n0.1 d.nS.1 (λz=>by obtain⟨xs,hb⟩:=r.bt;rw[<-z,d.td] at hb;cases hb),⟨aB,by rw[ak e1,h1];exact d.pl,by rw[ak e2,h2];exact d.ol,d.ne,d.n0,d.nS,by rw[h1];exact d.lp,by rw[h2];exact d.la⟩,λb o e _ _ n _ _=>by rw[ak n];exact e⟩
theorem fj.part(d:fj R H0 HS A D τ H)(r:cF K C H0 HS A t ls ts left H)(x:aM)(hl:τ.parts.length<100):cF K C H0 HS A t ls ts left (upd H D.pl (.lst ((τ.parts.map λx=>V.str (S x))++[.str (S x)])))/\fj R H0 HS A D {τ with parts:=τ.parts++[x]} (upd H D.pl (.lst ((τ.parts.map λx=>V.str (S x))++[.str (S x)])))/\Kd A D H (upd H D.pl (.lst ((τ.parts.map λx=>V.str (S x))++[.str (S x)]))):=by
 obtain⟨tk,a1,_⟩:=r.rd;have e1:D.td≠D.pl:=cE d.td d.pl (by intro z;cases z)
 refine⟨r.uI (cE d.pl a1 (by intro z;cases z)) (cE d.pl r.cd (by intro z;cases z)) d.ne.2.2.2.1 (λ_ _ _ _ z=>by rw[d.pl] at z;cases z) d.n0.2.1 d.nS.2.1 (λ_=>⟨_,rfl⟩),⟨by rw[ak e1];exact d.td,by rw[aB,iw];rfl,by rw[ak (Ne.symm d.ne.2.2.1)];exact d.ol,d.ne,d.n0,d.nS,by simp;omega,d.la⟩,λb o e _ _ _ n _=>by rw[ak n];exact e⟩
theorem fj.arg(d:fj R H0 HS A D τ H)(r:cF K C H0 HS A t ls ts left H)(x:Int)(hl:τ.args.length<100):cF K C H0 HS A t ls ts left (upd H D.ol (.lst ((τ.args.map V.int)++[.int x])))/\fj R H0 HS A D {τ with args:=τ.args++[x]} (upd H D.ol (.lst ((τ.args.map V.int)++[.int x])))/\Kd A D H (upd H D.ol (.lst ((τ.args.map V.int)++[.int x]))):=by
 obtain⟨tk,a1,_⟩:=r.rd;have e1:D.td≠D.ol:=cE d.td d.ol (by intro z;cases z)
 refine⟨r.uI (cE d.ol a1 (by intro z;cases z)) (cE d.ol r.cd (by intro z;cases z)) d.ne.2.2.2.2 (λ_ _ _ _ z=>by rw[d.ol] at z;cases z) d.n0.2.2 d.nS.2.2 (λ_=>⟨_,rfl⟩),⟨by rw[ak e1];exact d.td,by rw[ak d.ne.2.2.1];exact d.pl,by rw[aB,iw];rfl,d.ne,d.n0,d.nS,d.lp,by simp;omega⟩,λb o e _ _ _ _ n=>by rw[ak n];exact e⟩
end
structure so(K:az)(w:aL)(mg:Str->Option ah):Prop where
 two:∃a D,mg "OF_TWO"=some (.ref a)/\Tab K w a D/\D.map (λp:Key×V=>p.1)=eX.map λx=>kC (S x)
 one:∃a D,mg "OF_ONE"=some (.ref a)/\Tab K w a D/\D.map (λp:Key×V=>p.1)=s_.map λx=>kC (S x)
theorem Hy{k:Key}:∀{D:List (Key×V)},(dU D k).isSome=true↔k∈D.map (λp:Key×V=>p.1)
 |[]=>⟨(λh=>by cases h),(λh=>by cases h)⟩
 |p::D=>by
  by_cases z:p.1=k
  ·rw[Dl z];simp[z]
  ·rw[nN z,Hy (D:=D),i0,cC];exact⟨.inr,λh=>h.elim (λy=>absurd y.symm z) id⟩
theorem uJ{l:List aM}{D:List (Key×V)}{x:aM}(h:D.map (λp:Key×V=>p.1)=l.map λx=>kC (S x)):(dU D (.inr (S x))).isSome=(yi l x).isSome:=by
 cases e:yi l x with
 |some o=>exact Hy.mpr (by rw[h];exact mY.mpr ⟨x,MP.vP e,rfl⟩)
 |none=>
  cases q:(dU D (.inr (S x))).isSome with
  |false=>rfl
  |true=>
   have y:=Hy.mp q;rw[h] at y;obtain⟨z,hz,ez⟩:=mY.mp y;have:z=x:=MX.lY (by injection ez)
   subst this;unfold yi at e;have:=List.findIdx?_eq_none_iff.mp e z hz;simp at this
section
variable{P:aS}{w:aL}{K:az}{mg:Str->Option ah}{base:aC}{f:ae}{fd:bK}{R:Cl}{C:Cg}
def Bd(K:az)(C:Cg):Sp:=λvs H Q _=>∃H0 HS A t ls ts left c,vs=[.ref A.rd,.str (S [c])]/\ (c=118\/c=115\/c=109\/c=97)/\cF K C H0 HS A t ls ts left H/\Q (.int ((MP.countOf ls.length c:Nat):Int)) H
theorem acA(F:aG K "how_many" "how_many" z9 f fd)(k:jU K C)(g:GI mg):aD P w K mg base au 1 f fd ["reader","letter"] (Bd K C):=by
 refine F.oK Zc λaF A outer s H vs Q E hr h=> ?_;obtain⟨H0,HS,A,t,ls,ts,left,c,rfl,hc,r,q⟩:=h;refine⟨_,ay (b7 (bW fR (pv 1) bZ (bQ _)) (aw (bw (b_ g.Ng))) cJ)
  (ay (b7 (bW fR (pv 1) bZ (bQ _)) (aw (bw (b_ g.Nh))) cJ)
  (ay (b7 (bW fR (pv 1) bZ (bQ _)) (aw (bw (b_ g.Ni))) cJ)
  (aw (bw (eS iA (by rfl) g.fW gj (ai (aP (aP (pv 0) rfl) rfl) aj)))))),?_⟩
 obtain⟨tk,h1,dx,x,e,h2,h3,h4,h5,h6⟩:=r.rd;have e1:∀k:Nat,decide ((V.str (S [c]))=V.str (S [k]))=decide (c=k):=λk=>decide_eq_decide.mpr ⟨λz=>by injection z with z;exact(oB (MX.lY z)).1,λz=>by rw[z]⟩
 have ev:(bV "v")=S [118]:=by decide+kernel
 have es:(bV "s")=S [115]:=by decide+kernel
 have em:(bV "m")=S [109]:=by decide+kernel
 refine⟨_,rfl,rfl,_,rfl,?_⟩;rw[ev,e1];refine bY (λz=> ?_) λz1=> ?_
 ·subst z;exact q
 refine⟨_,rfl,rfl,_,rfl,?_⟩;rw[es,e1];refine bY (λz=> ?_) λz2=> ?_
 ·subst z;exact q
 refine⟨_,rfl,rfl,_,rfl,?_⟩;rw[em,e1];refine bY (λz=> ?_) λz3=> ?_
 ·subst z;exact q
 have hc:c=97:=by omega
 subst hc;refine⟨_,rfl,_,_,_,_,_,rfl,h1,k.cls,k.code,rfl,_,_,_,_,_,rfl,r.cd,k.jd,k.lengths,rfl,_,_,rfl,.inl (aI.of r.ll),?_⟩;have el:(iq ls).length=ls.length:=by unfold iq;rw[bx]
 rw[el];exact q
theorem acB(F:Df K mg "how_many" z9 f fd)(k:jU K C)(g:GI mg):aN P w K mg base au 1 "how_many" ["reader","letter"] (Bd K C):=
 ⟨f,fd,acA F.1 k g,F.2,F.1.kp,F.1.b2 "reader" "letter"⟩
def xr(K:az)(C:Cg):Sp:=λvs H Q E=>∃H0 HS A t ls ts left c,vs=[.ref A.rd,.str (S [c])]/\ (c=118\/c=115\/c=109\/c=97)/\cF K C H0 HS A t ls ts left H/\Rr C E H0 (aJ t.length (qP c (MP.countOf ls.length c) ts)) λu=>∀H',cF K C H0 HS A t ls u.2 left H'->Kr A H H'->Q (.int ((u.1:Nat):Int)) H'
theorem acC(x:aM):rB (S x) (some 1) none=S (x.drop 1):=by
 unfold rB HT.cK;rw[MX.cM];show(⟨((x.drop (min 1 x.length)).take (x.length-min 1 x.length)).toArray⟩:Str)=S (x.drop 1);cases x with
 |nil=>rfl
 |cons c r=>
  have e:min 1 (c::r).length=1:=by rw[cI];omega
  rw[e,IV (by rw[kF];exact bE _)]
  rfl
theorem acD(x:aM):rB (S x) none (some 1)=S (x.take 1):=by
 unfold rB HT.cK;rw[MX.cM];show(⟨((x.drop 0).take (min 1 x.length-0)).toArray⟩:Str)=S (x.take 1);cases x with
 |nil=>rfl
 |cons c r=>
  have e:min 1 (c::r).length=1:=by rw[cI];omega
  rw[e];rfl
theorem acE(F:aG K "read_named" "read_named" z_ f fd)(M:qz P w K mg base C)(GN:aN P w K mg base au 1 "decimal" ["digits","most"] qx)(GM:aN P w K mg base au 1 "how_many" ["reader","letter"] (Bd K C)):aD P w K mg base (bq P w) 7 f fd ["reader","letter"] (xr K C):=by
 obtain⟨fa,kY,ma,Ga,ba⟩:=M.c_;obtain⟨fr,ip,mr,Gr,br⟩:=M.ref;refine F.oX FJ λaF A outer s H vs Q E hr h=> ?_;obtain⟨H0,HS,A,t,ls,ts,left,c,rfl,hc,r,q⟩:=h;have cN:=hr.mono (show 1<=6 by decide)
 have fh:=hr.mono (show 3<=6 by decide)
 refine⟨_,ay (bH (i:=2) FJ.nd rfl (aZ rfl) (aP (aP (pv 0) rfl) rfl))
  (ay (bH (i:=3) FJ.nd rfl (aZ rfl) (aY GN cN a_ (ai (vq K4 (pv 2) (qa aQ) Kl) (ai (cy p9 (aY GM cN a_ (ai (pv 0) (ai (pv 1) aj))) aQ) aj))))
  (ay (bO (jk (pv 0) M.k.cls mr Gr fh br .nil cS (ai (JH (oM fR (vq K4 (pv 2) Kl (qa aQ)) (pv 1) (bQ _)) (Cn (yw (yu (pv 3))))) aj)))
  (ay (bO (nI (pv 0) M.k.cls ma Ga hr ba .nil cS))
  (aw (bw (pv 3)))))),?_⟩
 obtain⟨tk,h1,dx,x,e,h2,h3,h4,h5,h6⟩:=r.rd;have lc:letter c=true:=by rcases hc with rfl|rfl|rfl|rfl<;>rfl
 have co:MP.countOf ls.length c<=32:=by
  have:=r.ln;unfold MP.countOf
  repeat (first|split|omega)
 rw[MP.UM h3 lc] at q;have hz:(S x).length<=sizeLine:=by rw[MX.cM,aR];omega
 have asc:∀d∈x.drop 1,d<128:=λd hd=>h3.ascii d (List.mem_of_mem_drop hd);have dl:(x.drop 1).length<=20000:=by rw[kF];omega
 refine⟨_,rfl,_,_,_,_,_,rfl,h1,M.k.cls,M.k.token,rfl,_,_,_,_,_,rfl,h2,M.k.tok.cls,M.k.tok.text,rfl,?_⟩;refine⟨_,rfl,_,rfl,_,rfl,hz,_,rfl,_,rfl,H0,HS,A,t,ls,ts,left,c,rfl,hc,r,_,_,rfl,rfl,?_⟩;rw[acC];refine⟨_,_,rfl,asc,dl,by omega,by omega,?_⟩
 refine⟨_,rfl,_,_,_,rfl,h1,rfl,_,rfl,_,rfl,_,rfl,hz,_,rfl,rfl,_,rfl,?_⟩;rw[acD];have e1:decide ((V.str (S (x.take 1)))=V.str (S [c]))=decide (x.take 1=[c]):=decide_eq_decide.mpr ⟨λz=>by injection z with z;exact MX.lY z,λz=>by rw[z]⟩
 rw[e1];refine bY (λz=> ?_) λz=> ?_
 ·cases ed:dZ (x.drop 1) (((MP.countOf ls.length c:Nat):Int)-1) with
  |none=>
   rw[ed] at q;exact⟨_,rfl,H0,HS,A,t,ls,ts,left,_,rfl,r,(λz=>nomatch z),λ_=>q⟩
  |some k=>
   rw[ed] at q;simp only[z,if_true] at q;have q:=q.also;refine⟨_,rfl,H0,HS,A,t,ls,ts,left,_,rfl,r,λ_=> ?_,λz=>nomatch z⟩;have nn:Vaarrj.next ts≠ .none:=λy=>by
    have:x=[]:=h3.none.mpr y;rw[this] at z;cases z
   exact⟨_,rfl,_,_,_,rfl,h1,rfl,H0,HS,A,t,ls,ts,left,rfl,r,nn,q.mono λu hu H' r' k'=>⟨_,rfl,hu H' r' k'⟩⟩
 ·refine⟨H0,HS,A,t,ls,ts,left,_,rfl,r,(λz=>nomatch z),λ_=> ?_⟩;cases ed:dZ (x.drop 1) (((MP.countOf ls.length c:Nat):Int)-1) with
  |none=>rw[ed] at q;exact q
  |some k=>rw[ed] at q;simp only[z,if_false] at q;exact q
theorem acF(F:Df K mg "read_named" z_ f fd)(M:qz P w K mg base C)(GN:aN P w K mg base au 1 "decimal" ["digits","most"] qx)(GM:aN P w K mg base au 1 "how_many" ["reader","letter"] (Bd K C)):aN P w K mg base (bq P w) 7 "read_named" ["reader","letter"] (xr K C):=
 ⟨f,fd,acE F.1 M GN GM,F.2,F.1.kp,F.1.b2 "reader" "letter"⟩
end
open MP (dX)
section
variable{P:aS}{w:aL}{K:az}{mg:Str->Option ah}{base:aC}{f:ae}{fd:bK}{R:Cl}{C:Cg}
def Be(K:az)(R:Cl)(C:Cg)(H0 HS:Hp)(A:Ra)(D:Ta)(t:aM)(ls:List Nat)(left:Nat)(H:Hp)(r:Except Nat (MP.Told×aX))(Q:VK)(E:XK):Prop:=
 Rr C E H0 r λu=>∀H',cF K C H0 HS A t ls u.2 left H'->fj R H0 HS A D u.1 H'->Kd A D H H'->Q .aO H'
def jV(K:az)(R:Cl)(C:Cg)(c:Nat):Sp:=λvs H Q E=>∃H0 HS A D t ls ts left τ,vs=[.ref A.rd,.ref D.td]/\cF K C H0 HS A t ls ts left H/\fj R H0 HS A D τ H/\τ.parts.length<100/\τ.args.length<100/\ (c=63->τ.mask=none)/\Be K R C H0 HS A D t ls left H (aJ t.length (dX ls.length c τ ts)) Q E
theorem uK{x:aM}{c:Nat}:(V.str (S x)=V.str (S [c]))↔x=[c]:=⟨λz=>by injection z with z;exact MX.lY z,λz=>by rw[z]⟩
theorem acG(F:aG K "read_operator" "read_operator" FN f fd)(M:qz P w K mg base C)(e:EK K R)(ON:so K w mg):aD P w K mg base (bq P w) 7 f fd ["reader","told"] (jV K R C 111):=by
 obtain⟨fa,kY,ma,Ga,ba⟩:=M.c_;obtain⟨fr,ip,mr,Gr,br⟩:=M.ref;obtain⟨oa,OD,mO,tab,keys⟩:=ON.two;refine F.oX Zf λaF A outer s H vs Q E hr h=> ?_;obtain⟨H0,HS,A,D,t,ls,ts,left,τ,rfl,r,d,lp,la,pw,q⟩:=h;have fh:=hr.mono (show 3<=6 by decide)
 refine⟨_,ay (cT (pv 1) (aP (aP (pv 0) rfl) rfl) rfl)
  (ay (bO (jk (pv 0) M.k.cls mr Gr fh br .nil cS (ai (yw (uk (aP (pv 1) rfl) (iH mO))) aj)))
  (ay (bO (iS i5 lD lE kd (aP (pv 1) rfl) (ai (aP (pv 1) rfl) aj)))
  (aw (bO (nI (pv 0) M.k.cls ma Ga hr ba .nil cS))))),?_⟩
 obtain⟨tk,h1,dx,x,en,h2,h3,h4,h5,h6⟩:=r.rd;have q:Rr C E H0 (aJ t.length (j3 (λo=>τ.vE (fO eX o)) (Vaarrj.operator2 ts))) _:=q;rw[MP.gk,MP.UN h3] at q;refine⟨_,rfl,_,_,_,_,_,rfl,h1,M.k.cls,M.k.token,rfl,_,_,_,_,_,rfl,h2,M.k.tok.cls,M.k.tok.text,rfl,_,rfl,_,_,_,_,rfl,d.td,e.bX,e.nU,(by show 8<1000;decide),?_⟩
 obtain⟨r1,d1,k1⟩:=d.fld (τ':={τ with op:=x}) r rfl rfl
 have ee:aA "operator" (.str (S x)) (dO D τ)=dO D {τ with op:=x}:=rfl
 show JI _ _ _ _ (upd H D.td (.ins R.ins D.fY (aA "operator" (.str (S x)) (dO D τ))));rw[ee];generalize upd H D.td (.ins R.ins D.fY (dO D {τ with op:=x}))=H1 at r1 d1 k1
 obtain⟨uL,g1,g2⟩:=r1.rd;refine⟨_,rfl,_,_,_,rfl,g1,rfl,_,rfl,_,_,_,_,_,rfl,d1.td,e.bX,e.nU,rfl,_,_,.inr (S x),rfl,rfl,tab,H0,HS,A,t,ls,ts,left,_,rfl,r1,λz=> ?_,λz=> ?_⟩
 ·rw[uJ keys] at z;obtain⟨o,ho⟩:=xS.mp z;rw[ho] at q;have q:=q.also.also;obtain⟨hl,hx⟩:=MP.rE ho;obtain⟨r2,d2,k2⟩:=d1.part r1 x lp;refine⟨_,rfl,_,_,_,_,_,rfl,d1.td,e.bX,e.o_,rfl,.inl ⟨rfl,_,aI.of d1.pl⟩,_,rfl,_,_,_,_,_,rfl,d1.td,e.bX,e.nU,rfl,_,_,_,rfl,rfl,d1.pl,(by rw[bx,aR];have:=d1.lp;omega),?_⟩
  obtain⟨pq,g3,g4⟩:=r2.rd;obtain⟨c,rr,hc,lc⟩:=MP.D6 x (MP.vP ho);have nn:Vaarrj.next ts≠ .none:=by rw[h3.word hc lc];exactλy=>nomatch y
  refine⟨_,rfl,_,_,_,rfl,g3,rfl,H0,HS,A,t,ls,ts,left,rfl,r2,nn,q.mono λu hu H' r' k'=> ?_⟩;rw[hx] at hu;exact hu H' r' (d2.kr r2 k') ((k1.trans k2).trans (Kd.of k'))
 ·rw[uJ keys] at z;cases ho:yi eX x with
  |some o=>rw[ho] at z;cases z
  |none=>rw[ho] at q;exact q
structure qA(P:aS)(w:aL)(K:az)(mg:Str->Option ah)(base:aC)(C:Cg):Prop where
 m:qz P w K mg base C
 pass:∃f fd,Meth K C.dv "pass_by" f/\aD P w K mg base (bq P w) 7 f fd ["self","text"] (N9 K C)/\Binds K fd ["self","text"] []
 up:∃f fd,Meth K C.dv "number_up_to" f/\aD P w K mg base (bq P w) 7 f fd ["self","most"] (N_ K C)/\Binds K fd ["self","most"] []
theorem n_{k:Int}(h:k.natAbs<2^64):k.natAbs.log2<1920:=NU h
theorem Hz{m:Nat}{ts:aX}{u:Nat×aX}{N:Nat}(h:aJ N (MP.fT m ts)=.ok u):u.1<=m:=by
 have:MP.fT m ts=.ok u:=by
  cases e:MP.fT m ts with
  |error p=>rw[e] at h;cases h
  |ok v=>
   rw[e] at h;by_cases b:bad N v.2
   ·rw[MP.jL b] at h;cases h
   ·rw[MP.i_ b] at h;exact h
 unfold MP.fT at this
 split at this
 ·split at this
  ·cases this
  ·cases this;omega
 ·cases this
theorem acH(F:aG K "read_place" "read_place" FP f fd)(M:qA P w K mg base C)(e:EK K R)(g:GI mg):aD P w K mg base (bq P w) 8 f fd ["reader","told"] (jV K R C 64):=by
 obtain⟨fa,kY,ma,Ga,ba⟩:=M.pass;obtain⟨fr,ip,mr,Gr,br⟩:=M.up;refine F.oX Zi λaF A outer s H vs Q E hr h=> ?_;obtain⟨H0,HS,A,D,t,ls,ts,left,τ,rfl,r,d,lp,la,pw,q⟩:=h;refine⟨_,ay (bO (jk (pv 0) M.m.k.cls ma Ga hr ba .nil cS (ai bZ aj)))
  (ay (cT (pv 1) (jk (pv 0) M.m.k.cls mr Gr hr br .nil cS (ai (b_ g.qr) aj)) rfl)
  (aw (bO (iS i5 lD lE kd (aP (pv 1) rfl) (ai (cy iR bZ (oN yF (by rfl) g.Ax boot_str (ai (aP (pv 1) rfl) aj))) aj))))),?_⟩
 obtain⟨tk,h1,dx,x,en,h2,h3,h4,h5,h6⟩:=r.rd;have q:Rr C E H0 (aJ t.length (j3 τ.vF (Vaarrj.place ts))) _:=q;rw[MP.gk,MP.UQ] at q;have q:=q.also.bind;have HA:(bV "@")=S [64]:=by decide+kernel
 refine⟨_,rfl,_,_,_,rfl,h1,rfl,H0,HS,A,t,ls,ts,left,64,(by rw[<-HA];rfl),by decide,r,q.mono λu hu H1 r1 k1=> ?_⟩
 obtain⟨uL,g1,Oa,x1,Ob,g2,g3,g4⟩:=r1.rd;rw[g3.y9] at hu;have d1:=d.kr r k1;refine⟨_,rfl,_,_,_,rfl,g1,rfl,H0,HS,A,t,ls,u.2,left,1000000000000000000,rfl,by decide,r1,?_⟩
 cases ev:aJ t.length (MP.fT 1000000000000000000 u.2) with
 |error p=>rw[ev] at hu;exact hu
 |ok v=>
  rw[ev] at hu;intro H2 r2 k2;have d2:=d1.kr r1 k2;have Oc:=Hz ev;refine⟨_,rfl,_,_,_,_,rfl,d2.td,e.bX,e.r6,(by show 8<1000;decide),?_⟩
  obtain⟨r3,d3,k3⟩:=d2.fld (τ':={τ with place:=v.1}) r2 rfl rfl
  have ee:aA "place" (.int ((v.1:Nat):Int)) (dO D τ)=dO D {τ with place:=v.1}:=rfl
  rw[ee];generalize upd H2 D.td (.ins R.ins D.fY (dO D {τ with place:=v.1}))=H3 at r3 d3 k3
  have iJ:v.1<10^40:=by omega
  have uG:=MP.iU v.1;obtain⟨r4,d4,k4⟩:=d3.part r3 (Vaarrj.at_ v.1) lp;refine⟨_,rfl,_,_,_,_,_,rfl,d3.td,e.bX,e.o_,rfl,.inl ⟨rfl,_,aI.of d3.pl⟩,_,rfl,_,_,_,_,_,rfl,d3.td,e.bX,e.r6,rfl,_,rfl,n_ (show((v.1:Nat):Int).natAbs<2^64 by omega),_,_,rfl,rfl,?_,_,_,_,rfl,rfl,d3.pl,(by rw[bx,aR];have:=d3.lp;omega),?_⟩
  ·rw[MX.gq iJ,HA,MX.cM,MX.cM,aR];simp;omega
  ·rw[MX.gq iJ,HA,MX.dF];exact hu _ r4 d4 ((((Kd.of k1).trans (Kd.of k2)).trans k3).trans k4)
end
section
variable{P:aS}{w:aL}{K:az}{mg:Str->Option ah}{base:aC}{f:ae}{fd:bK}{R:Cl}{C:Cg}
theorem Od{c k:Nat}{ts:aX}{u:Nat×aX}{N:Nat}(h:aJ N (qP c k ts)=.ok u):u.1<k:=by
 have:qP c k ts=.ok u:=by
  cases e:qP c k ts with
  |error p=>rw[e] at h;cases h
  |ok v=>
   rw[e] at h;by_cases b:bad N v.2
   ·rw[MP.jL b] at h;cases h
   ·rw[MP.i_ b] at h;exact h
 unfold qP at this
 split at this
 ·split at this
  ·rename_i z;cases this;exact z.2.2.2
  ·cases this
 ·cases this
theorem acI(F:aG K "read_mask" "read_mask" FQ f fd)(M:qz P w K mg base C)(e:EK K R)(g:GI mg)(GN:aN P w K mg base (bq P w) 7 "read_named" ["reader","letter"] (xr K C)):aD P w K mg base (bq P w) 8 f fd ["reader","told"] (jV K R C 63):=by
 obtain⟨fa,kY,ma,Ga,ba⟩:=M.c_;refine F.oX Zk λaF A outer s H vs Q E hr h=> ?_;obtain⟨H0,HS,A,D,t,ls,ts,left,τ,rfl,r,d,lp,la,pw,q⟩:=h;have mE:=hr.mono (show 6<=7 by decide)
 refine⟨_,ay (b7 (bW jj (aP (aP (pv 0) rfl) rfl) bZ (bQ _)) (aw JK) cJ)
  (ay (bO (nI (pv 0) M.k.cls ma Ga mE ba .nil cS))
  (ay (cT (pv 1) (aY GN hr cS (ai (pv 0) (ai bZ aj))) rfl)
  (aw (bO (iS i5 lD lE kd (aP (pv 1) rfl) (ai (cy iR bZ (oN yF (by rfl) g.Ax boot_str (ai (aP (pv 1) rfl) aj))) aj)))))),?_⟩
 obtain⟨tk,h1,dx,x,en,h2,h3,h4,h5,h6⟩:=r.rd;have q:Rr C E H0 (aJ t.length (j3 τ.jM (MP.i' ts))) _:=q;rw[MP.gk] at q;have eq:(bV "?")=S [63]:=by decide+kernel
 have em:(bV "m")=S [109]:=by decide+kernel
 have Oe:(bV "?m")=S [63,109]:=by decide+kernel
 refine⟨_,rfl,_,_,_,_,_,rfl,h1,M.k.cls,M.k.token,rfl,_,_,_,_,_,rfl,h2,M.k.tok.cls,M.k.tok.text,rfl,rfl,_,rfl,?_⟩;rw[eq];have hs:=h3.sign (c:=63) (by decide)
 refine nR (λz=> ?_) λz=> ?_
 ·have z: ¬Vaarrj.next ts=.sign 63:=λy=>z (uK.mpr (hs.mpr y));rw[MP.US r.good z] at q;have q:∀H',cF K C H0 HS A t ls ts left H'->fj R H0 HS A D (τ.jM none) H'->Kd A D H H'->Q .aO H':=q;have et:τ.jM none=τ:=by
   obtain⟨a1,a2,a3,a4,a5,a6⟩:=τ;have:a6=none:=pw rfl;subst this;show MP.Told.mk a1 a2 (a3++[]) a4 a5 none=_;rw[dz]
  rw[et] at q;exact q H r d (Kd.of Kr.refl)
 ·have z:Vaarrj.next ts=.sign 63:=hs.mp (uK.mp z);rw[MP.UR z] at q;have q:=q.also.bind;refine⟨_,rfl,_,_,_,rfl,h1,rfl,H0,HS,A,t,ls,ts,left,rfl,r,(by rw[z];exactλy=>nomatch y),q.mono λu hu H1 r1 k1=> ?_⟩
  have d1:=d.kr r k1;have hu:=hu.also;have hm:MP.countOf ls.length 109=8:=rfl;refine⟨_,rfl,H0,HS,A,t,ls,u.2,left,109,(by rw[<-em];rfl),by decide,r1,?_⟩
  rw[hm];cases ev:aJ t.length (qP 109 8 u.2) with
  |error p=>
   have ev:aJ t.length (Vaarrj.mas u.2)=.error p:=ev;rw[ev] at hu;exact hu
  |ok v=>
   have v8:=Od ev;have ev:aJ t.length (Vaarrj.mas u.2)=.ok v:=ev;rw[ev] at hu;intro H2 r2 k2;have d2:=d1.kr r1 k2;refine⟨_,rfl,_,_,_,_,rfl,d2.td,e.bX,e.wU,(by show 8<1000;decide),?_⟩
   obtain⟨r3,d3,k3⟩:=d2.fld (τ':={τ with mask:=some v.1}) r2 rfl rfl
   have ee:aA "mask" (.int ((v.1:Nat):Int)) (dO D τ)=dO D {τ with mask:=some v.1}:=rfl
   rw[ee];generalize upd H2 D.td (.ins R.ins D.fY (dO D {τ with mask:=some v.1}))=H3 at r3 d3 k3
   have iJ:v.1<10^40:=by omega
   have uG:=MP.iU v.1;obtain⟨r4,d4,k4⟩:=d3.part r3 (63::Vaarrj.m v.1) lp;refine⟨_,rfl,_,_,_,_,_,rfl,d3.td,e.bX,e.o_,rfl,.inl ⟨rfl,_,aI.of d3.pl⟩,_,rfl,_,_,_,_,_,rfl,d3.td,e.bX,e.wU,rfl,_,rfl,n_ (show((v.1:Nat):Int).natAbs<2^64 by omega),_,_,rfl,rfl,?_,_,_,_,rfl,rfl,d3.pl,(by rw[bx,aR];have:=d3.lp;omega),?_⟩
   ·rw[MX.gq iJ,Oe,MX.cM,MX.cM,aR];simp;omega
   ·rw[MX.gq iJ,Oe,MX.dF];exact hu _ r4 d4 ((((Kd.of k1).trans (Kd.of k2)).trans k3).trans k4)
theorem acJ(F:aG K "read_signed" "read_signed" FO f fd)(M:qA P w K mg base C)(e:EK K R)(g:GI mg):aD P w K mg base (bq P w) 8 f fd ["reader","told"] (jV K R C 110):=by
 obtain⟨fa,kY,ma,Ga,ba⟩:=M.m.c_;obtain⟨fr,ip,mr,Gr,br⟩:=M.up;refine F.oX Aa λaF A outer s H vs Q E hr h=> ?_;obtain⟨H0,HS,A,D,t,ls,ts,left,τ,rfl,r,d,lp,la,pw,q⟩:=h;have mE:=hr.mono (show 6<=7 by decide)
 refine⟨_,ay (bH (i:=2) Aa.nd rfl (aZ rfl) (oM fR (aP (aP (pv 0) rfl) rfl) bZ (bQ _)))
  (ay (b7 (gZ (pv 2)) (aw (bO (nI (pv 0) M.m.k.cls ma Ga mE ba .nil cS))) cJ)
  (ay (bH (i:=3) Aa.nd rfl (aZ rfl) (jk (pv 0) M.m.k.cls mr Gr hr br .nil cS (ai (b_ g.qr) aj)))
  (ay (bH (i:=4) Aa.nd rfl (aZ rfl) (ji (gZ (pv 2)) (Cy CB (pv 3)) (pv 3)))
  (ay (bO (iS i5 lD lE kd (aP (pv 1) rfl) (ai (ji (bW gz (pv 4) aQ (bQ _)) (wg (jt bZ (jt (rT (pv 3)) we))) (WJ (rT (pv 3)))) aj)))
  (aw (bO (iS i5 lD lE kd (aP (pv 1) rfl) (ai (pv 4) aj)))))))),?_⟩
 obtain⟨tk,h1,dx,x,en,h2,h3,h4,h5,h6⟩:=r.rd;have q:Rr C E H0 (aJ t.length (j3 (λk=>τ.arg (oF k) k) (Vaarrj.signed ts))) _:=q;rw[MP.gk] at q;have q:=q.also;have og:(bV "_")=S [95]:=by decide+kernel
 have e0:sP=S []:=by decide+kernel
 have hs:=h3.sign (c:=95) (by decide)
 refine⟨_,rfl,_,_,_,_,_,rfl,h1,M.m.k.cls,M.m.k.token,rfl,_,_,_,_,_,rfl,h2,M.m.k.tok.cls,M.m.k.tok.text,rfl,rfl,?_⟩;by_cases z:Vaarrj.next ts=.sign 95
 ·have eb:decide (V.str (S x)=V.str (bV "_"))=true:=decide_eq_true (by rw[og];exact uK.mpr (hs.mpr z))
  rw[eb];rw[MP.UO z] at q;have q:=q.bind;refine⟨_,rfl,_,rfl,dq ⟨_,rfl,_,_,_,rfl,h1,rfl,H0,HS,A,t,ls,ts,left,rfl,r,(by rw[z];exactλy=>nomatch y),q.mono λu hu H1 r1 k1=> ?_⟩⟩
  have d1:=d.kr r k1;have hu:=hu.also;have k1:Kd A D H H1:=Kd.of k1;generalize u.2=us at r1 hu;obtain⟨uL,g1,Oa,x1,Ob,g2,g3,g4⟩:=r1.rd;rw[g3.y9] at hu;refine⟨_,rfl,_,_,_,rfl,g1,rfl,H0,HS,A,t,ls,us,left,1000000000000000000,rfl,by decide,r1,?_⟩
  cases ev:aJ t.length (MP.fT 1000000000000000000 us) with
  |error p=>rw[ev] at hu;exact hu
  |ok v=>
   rw[ev] at hu;intro H2 r2 k2;have d2:=d1.kr r1 k2;have Oc:=Hz ev;have iJ:v.1<10^40:=by omega
   have uG:=MP.iU v.1;refine⟨_,rfl,_,rfl,dq ⟨_,rfl,_,rfl,?_⟩⟩;obtain⟨r3,d3,k3⟩:=d2.part r2 (oF (-((v.1:Nat):Int))) lp;obtain⟨r4,d4,k4⟩:=d3.arg r3 (-((v.1:Nat):Int)) la;have kk:Kd A D H _:=((k1.trans (Kd.of k2)).trans k3).trans k4;have fin:=hu _ r4 d4 kk;refine⟨_,rfl,_,_,_,_,_,rfl,d2.td,e.bX,e.o_,rfl,.inl ⟨rfl,_,aI.of d2.pl⟩,_,rfl,_,_,rfl,rfl,_,rfl,bY (λy=> ?_) λy=> ?_⟩
   ·have et:oF (-((v.1:Nat):Int))=[95]++dec v.1:=by
     unfold oF;rw[if_pos y];rw[Int.natAbs_neg];rfl
    rw[et] at d3 r3 fin;refine⟨_,rfl,(by rw[og,e0,MX.dF,MX.cM,aR];decide),_,rfl,_,.inl ⟨_,rfl,n_ (show((v.1:Nat):Int).natAbs<2^64 by omega),rfl⟩,_,rfl,?_,?_,?_⟩
    ·rw[og,e0,MX.gq iJ,MX.dF,MX.dF,MX.cM,aR];simp;omega
    ·rw[og,e0,MX.gq iJ,MX.dF,MX.dF,MX.cM,aR];simp;omega
    ·rw[og,e0,MX.gq iJ,MX.dF,MX.dF];refine⟨_,_,_,rfl,rfl,d2.pl,(by rw[bx,aR];have:=d2.lp;omega),?_⟩
     exact⟨_,rfl,_,_,_,_,_,rfl,d3.td,e.bX,e.jP,rfl,.inl ⟨rfl,_,aI.of d3.ol⟩,_,rfl,_,_,_,rfl,rfl,d3.ol,(by rw[bx,aR];have:=d3.la;omega),fin⟩
   ·have et:oF (-((v.1:Nat):Int))=dec v.1:=by
     unfold oF;rw[if_neg y];exact congrArg dec (by omega)
    rw[et] at d3 r3 fin;refine⟨_,rfl,_,.inl ⟨_,rfl,n_ (show((v.1:Nat):Int).natAbs<2^64 by omega),rfl⟩,?_⟩
    rw[MX.gq iJ];refine⟨_,_,_,rfl,rfl,d2.pl,(by rw[bx,aR];have:=d2.lp;omega),?_⟩
    exact⟨_,rfl,_,_,_,_,_,rfl,d3.td,e.bX,e.jP,rfl,.inl ⟨rfl,_,aI.of d3.ol⟩,_,rfl,_,_,_,rfl,rfl,d3.ol,(by rw[bx,aR];have:=d3.la;omega),fin⟩
 ·have eb:decide (V.str (S x)=V.str (bV "_"))=false:=decide_eq_false (by rw[og];exactλy=>z (hs.mp (uK.mp y)))
  rw[eb];rw[MP.UP z] at q;have hu:=q.also;refine⟨_,rfl,_,rfl,dW ?_⟩;have r1:=r;have d1:=d;have k1:Kd A D H H:=Kd.of Kr.refl;generalize eus:ts=us at r1 hu;obtain⟨uL,g1,Oa,x1,Ob,g2,g3,g4⟩:=r1.rd;rw[g3.y9] at hu;refine⟨_,rfl,_,_,_,rfl,g1,rfl,H0,HS,A,t,ls,us,left,1000000000000000000,rfl,by decide,r1,?_⟩
  cases ev:aJ t.length (MP.fT 1000000000000000000 us) with
  |error p=>rw[ev] at hu;exact hu
  |ok v=>
   rw[ev] at hu;intro H2 r2 k2;have d2:=d1.kr r1 k2;have Oc:=Hz ev;have iJ:v.1<10^40:=by omega
   have uG:=MP.iU v.1;refine⟨_,rfl,_,rfl,dW ⟨_,rfl,?_⟩⟩;obtain⟨r3,d3,k3⟩:=d2.part r2 (oF (((v.1:Nat):Int))) lp;obtain⟨r4,d4,k4⟩:=d3.arg r3 (((v.1:Nat):Int)) la;have kk:Kd A D H _:=((k1.trans (Kd.of k2)).trans k3).trans k4;have fin:=hu _ r4 d4 kk;refine⟨_,rfl,_,_,_,_,_,rfl,d2.td,e.bX,e.o_,rfl,.inl ⟨rfl,_,aI.of d2.pl⟩,_,rfl,_,_,rfl,rfl,_,rfl,bY (λy=> ?_) λy=> ?_⟩
   ·have et:oF (((v.1:Nat):Int))=[95]++dec v.1:=by
     unfold oF;rw[if_pos y];exact absurd y (by omega)
    rw[et] at d3 r3 fin;refine⟨_,rfl,(by rw[og,e0,MX.dF,MX.cM,aR];decide),_,rfl,_,.inl ⟨_,rfl,n_ (show((v.1:Nat):Int).natAbs<2^64 by omega),rfl⟩,_,rfl,?_,?_,?_⟩
    ·rw[og,e0,MX.gq iJ,MX.dF,MX.dF,MX.cM,aR];simp;omega
    ·rw[og,e0,MX.gq iJ,MX.dF,MX.dF,MX.cM,aR];simp;omega
    ·rw[og,e0,MX.gq iJ,MX.dF,MX.dF];refine⟨_,_,_,rfl,rfl,d2.pl,(by rw[bx,aR];have:=d2.lp;omega),?_⟩
     exact⟨_,rfl,_,_,_,_,_,rfl,d3.td,e.bX,e.jP,rfl,.inl ⟨rfl,_,aI.of d3.ol⟩,_,rfl,_,_,_,rfl,rfl,d3.ol,(by rw[bx,aR];have:=d3.la;omega),fin⟩
   ·have et:oF (((v.1:Nat):Int))=dec v.1:=by
     unfold oF;rw[if_neg y];exact congrArg dec (by omega)
    rw[et] at d3 r3 fin;refine⟨_,rfl,_,.inl ⟨_,rfl,n_ (show((v.1:Nat):Int).natAbs<2^64 by omega),rfl⟩,?_⟩
    rw[MX.gq iJ];refine⟨_,_,_,rfl,rfl,d2.pl,(by rw[bx,aR];have:=d2.lp;omega),?_⟩
    exact⟨_,rfl,_,_,_,_,_,rfl,d3.td,e.bX,e.jP,rfl,.inl ⟨rfl,_,aI.of d3.ol⟩,_,rfl,_,_,_,rfl,rfl,d3.ol,(by rw[bx,aR];have:=d3.la;omega),fin⟩
theorem Bf{x:Str}{st:cD}{c k:Nat}(F:Df K mg x st f fd)(b:Binds K fd ["reader","told"] [])(G:aD P w K mg base (bq P w) k f fd ["reader","told"] (jV K R C c)):aN P w K mg base (bq P w) k x ["reader","told"] (jV K R C c):=⟨f,fd,G,F.2,F.1.kp,b⟩
end
section
variable{P:aS}{w:aL}{K:az}{mg:Str->Option ah}{base:aC}{f:ae}{fd:bK}{R:Cl}{C:Cg}
def Of(c:Nat):Prop:=c=111\/c=110\/c=64\/c=63\/c=118\/c=115\/c=109\/c=97
def Bg(K:az)(R:Cl)(C:Cg):Sp:=λvs H Q E=>∃H0 HS A D t ls ts left τ c,vs=[.ref A.rd,.str (S [c]),.ref D.td]/\Of c/\cF K C H0 HS A t ls ts left H/\fj R H0 HS A D τ H/\τ.parts.length<100/\τ.args.length<100/\ (c=63->τ.mask=none)/\Be K R C H0 HS A D t ls left H (aJ t.length (dX ls.length c τ ts)) Q E
theorem acK(F:aG K "read_part" "read_part" Ab f fd)(e:EK K R)(g:GI mg)(Go:aN P w K mg base (bq P w) 7 "read_operator" ["reader","told"] (jV K R C 111))(Gn:aN P w K mg base (bq P w) 8 "read_signed" ["reader","told"] (jV K R C 110))(Gp:aN P w K mg base (bq P w) 8 "read_place" ["reader","told"] (jV K R C 64))(Gq:aN P w K mg base (bq P w) 8 "read_mask" ["reader","told"] (jV K R C 63))
 (GN:aN P w K mg base (bq P w) 7 "read_named" ["reader","letter"] (xr K C)):aD P w K mg base (bq P w) 9 f fd ["reader","part","told"] (Bg K R C):=by
 refine F.oX M9 λaF A outer s H vs Q E hr h=> ?_;obtain⟨H0,HS,A,D,t,ls,ts,left,τ,c,rfl,hc,r,d,lp,la,pw,q⟩:=h;have qB:=hr.mono (show 7<=8 by decide)
 refine⟨_,aw (b7 (bW fR (pv 1) bZ (bQ _)) (aw (bO (aY Go qB cS (ai (pv 0) (ai (pv 2) aj)))))
  (aw (b7 (bW fR (pv 1) bZ (bQ _)) (aw (bO (aY Gn hr cS (ai (pv 0) (ai (pv 2) aj)))))
  (aw (b7 (bW fR (pv 1) bZ (bQ _)) (aw (bO (aY Gp hr cS (ai (pv 0) (ai (pv 2) aj)))))
  (aw (b7 (bW fR (pv 1) bZ (bQ _)) (aw (bO (aY Gq hr cS (ai (pv 0) (ai (pv 2) aj)))))
  (ay (bH (i:=3) M9.nd rfl (aZ rfl) (aY GN qB cS (ai (pv 0) (ai (pv 1) aj))))
  (ay (bO (iS i5 lD lE kd (aP (pv 2) rfl) (ai (cy iR (pv 1) (oN yF (by rfl) g.Ax boot_str (ai (pv 3) aj))) aj)))
  (aw (bO (iS i5 lD lE kd (aP (pv 2) rfl) (ai (pv 3) aj))))))))))))),?_⟩
 have e1:∀k:Nat,decide ((V.str (S [c]))=V.str (S [k]))=decide (c=k):=λk=>decide_eq_decide.mpr ⟨λz=>by injection z with z;exact(oB (MX.lY z)).1,λz=>by rw[z]⟩
 have eo:(bV "o")=S [111]:=by decide+kernel
 have en:(bV "n")=S [110]:=by decide+kernel
 have ep:(bV "@")=S [64]:=by decide+kernel
 have eq:(bV "?")=S [63]:=by decide+kernel
 refine⟨_,rfl,rfl,_,rfl,?_⟩;rw[eo,e1];refine bY (λz=> ?_) λz1=> ?_
 ·subst z;exact⟨_,rfl,_,rfl,H0,HS,A,D,t,ls,ts,left,τ,rfl,r,d,lp,la,pw,q⟩
 refine⟨_,rfl,rfl,_,rfl,?_⟩;rw[en,e1];refine bY (λz=> ?_) λz2=> ?_
 ·subst z;exact⟨_,rfl,_,rfl,H0,HS,A,D,t,ls,ts,left,τ,rfl,r,d,lp,la,pw,q⟩
 refine⟨_,rfl,rfl,_,rfl,?_⟩;rw[ep,e1];refine bY (λz=> ?_) λz3=> ?_
 ·subst z;exact⟨_,rfl,_,rfl,H0,HS,A,D,t,ls,ts,left,τ,rfl,r,d,lp,la,pw,q⟩
 refine⟨_,rfl,rfl,_,rfl,?_⟩;rw[eq,e1];refine bY (λz=> ?_) λz4=> ?_
 ·subst z;exact⟨_,rfl,_,rfl,H0,HS,A,D,t,ls,ts,left,τ,rfl,r,d,lp,la,pw,q⟩
 have hc4:c=118\/c=115\/c=109\/c=97:=by unfold Of at hc;omega
 have er:dX ls.length c τ ts=j3 (λk=>τ.arg (c::dec k) ((k:Nat):Int)) (qP c (MP.countOf ls.length c) ts):=by
  unfold MP.dX;rw[if_neg z1,if_neg z2,if_neg z3,if_neg z4]
 unfold Be at q;rw[er,MP.gk] at q;have q:=q.also;refine⟨_,rfl,_,rfl,H0,HS,A,t,ls,ts,left,c,rfl,hc4,r,?_⟩;cases ev:aJ t.length (qP c (MP.countOf ls.length c) ts) with
 |error p=>rw[ev] at q;exact q
 |ok v=>
  rw[ev] at q;have v32:=Od ev;have co:MP.countOf ls.length c<=32:=by
   have:=r.ln;unfold MP.countOf
   repeat (first|split|omega)
  intro H1 r1 k1;have d1:=d.kr r k1;have iJ:v.1<10^40:=by omega
  have uG:=MP.iU v.1;obtain⟨r3,d3,k3⟩:=d1.part r1 (c::dec v.1) lp;obtain⟨r4,d4,k4⟩:=d3.arg r3 ((v.1:Nat):Int) la;refine⟨_,rfl,_,_,_,_,_,rfl,d1.td,e.bX,e.o_,rfl,.inl ⟨rfl,_,aI.of d1.pl⟩,_,rfl,_,rfl,_,rfl,n_ (show((v.1:Nat):Int).natAbs<2^64 by omega),_,_,rfl,rfl,?_,_,_,_,rfl,rfl,d1.pl,(by rw[bx,aR];have:=d1.lp;omega),?_⟩
  ·rw[MX.gq iJ,MX.cM,MX.cM,aR];simp;omega
  ·rw[MX.gq iJ,MX.dF];exact⟨_,rfl,_,_,_,_,_,rfl,d3.td,e.bX,e.jP,rfl,.inl ⟨rfl,_,aI.of d3.ol⟩,_,rfl,_,_,_,rfl,rfl,d3.ol,(by rw[bx,aR];have:=d3.la;omega),q _ r4 d4 (((Kd.of k1).trans k3).trans k4)⟩
theorem acL(F:Df K mg "read_part" Ab f fd)(e:EK K R)(g:GI mg)(Go:aN P w K mg base (bq P w) 7 "read_operator" ["reader","told"] (jV K R C 111))(Gn:aN P w K mg base (bq P w) 8 "read_signed" ["reader","told"] (jV K R C 110))(Gp:aN P w K mg base (bq P w) 8 "read_place" ["reader","told"] (jV K R C 64))(Gq:aN P w K mg base (bq P w) 8 "read_mask" ["reader","told"] (jV K R C 63))
 (GN:aN P w K mg base (bq P w) 7 "read_named" ["reader","letter"] (xr K C)):aN P w K mg base (bq P w) 9 "read_part" ["reader","part","told"] (Bg K R C):=
 ⟨f,fd,acK F.1 e g Go Gn Gp Gq GN,F.2,F.1.kp,F.1.b3 "reader" "part" "told"⟩
def Bh:List (Key×V):=[(.inr (S (aE "lanes")),.str (S (aE "v?"))),(.inr (S (aE "const")),.str (S (aE "vn?"))),(.inr (S (aE "fill")),.str (S (aE "vs?"))),(.inr (S (aE "copy")),.str (S (aE "vv?"))),(.inr (S (aE "read")),.str (S (aE "vav?"))),(.inr (S (aE "pick")),.str (S (aE "vav@?"))),(.inr (S (aE "write")),.str (S (aE "avv?"))),(.inr (S (aE "test")),.str (S (aE "mv?"))),(.inr (S (aE "tail")),.str (S (aE "ms"))),(.inr (S (aE "both")),.str (S (aE "mmm"))),(.inr (S (aE "less")),.str (S (aE "mmm"))),(.inr (S (aE "either")),.str (S (aE "mmm"))),(.inr (S (aE "count")),.str (S (aE "sm"))),(.inr (S (aE "num")),.str (S (aE "sn"))),(.inr (S (aE "width")),.str (S (aE "s"))),(.inr (S (aE "calc")),.str (S (aE "osss@"))),(.inr (S (aE "get")),.str (S (aE "svs"))),(.inr (S (aE "put")),.str (S (aE "vss"))),(.inr (S (aE "for")),.str (S (aE "ss"))),(.inr (S (aE "when")),.str (S (aE "s"))),(.inr (S (aE "raise")),.str (S (aE "")))]
def xt:Option aM->V
 |some sh=>.str (S sh)
 |none=>.aO
def Shapes(K:az)(w:aL)(mg:Str->Option ah):Prop:=∃a,mg "SHAPES"=some (.ref a)/\Tab K w a Bh
theorem key_ne{x y:aM}(h: ¬x=y): ¬((kC (S y):Key)=.inr (S x)):=λz=>h (by injection z with z;exact(MX.lY z).symm)
theorem sv{x y:aM}{v:V}{D:List (Key×V)}{a b:Option aM}(e:xt a=v)(hb: ¬x=y->(dU D (.inr (S x))).getD .aO=xt b):(dU ((.inr (S y),v)::D) (.inr (S x))).getD .aO=xt (if x=y then a else b):=by
 by_cases z:x=y
 ·rw[if_pos z,Dl (by rw[z])];exact e.symm
 ·rw[if_neg z,nN (key_ne z)];exact hb z
theorem acM{x:aM}(h1: ¬(yi s_ x).isSome=true)(h2: ¬(yi eX x).isSome=true):(dU Bh (.inr (S x))).getD .aO=xt (MP.shapeOf x):=by
 unfold MP.shapeOf Bh;rw[if_neg h1,if_neg h2]
 iterate 18 refine sv (by decide+kernel) λ_=> ?_
 by_cases q1:x=aE "raise"
 ·subst q1;decide+kernel
 rw[if_neg q1]
 iterate 2 refine sv (by decide+kernel) λ_=> ?_
 rw[nN (key_ne q1)];rfl
def HB:Sp:=λvs H Q _=>∃x,vs=[.str (S x)]/\Q (xt (MP.shapeOf x)) H
theorem acN(F:aG K "shape_of" "shape_of" Ad f fd)(g:GI mg)(ON:so K w mg)(SH:Shapes K w mg):aD P w K mg base au 1 f fd ["word"] HB:=by
 obtain⟨o2,D2,m2,t2,k2⟩:=ON.two;obtain⟨o1,D1,m1,t1,k1⟩:=ON.one;obtain⟨sa,mS,tS⟩:=SH;refine F.oK Zn λaF A outer s H vs Q E hr h=> ?_;obtain⟨x,rfl,q⟩:=h;refine⟨_,ay (b7 (jh (uk (pv 0) (iH m1))) (aw (bw (uw g.aaa))) cJ)
  (ay (b7 (jh (uk (pv 0) (iH m2))) (aw (bw (uw g.aab))) cJ)
  (aw (bw (WC (iH mS) (pv 0) ⟨rfl,rfl,rfl,rfl⟩)))),?_⟩
 refine⟨_,rfl,_,_,.inr (S x),rfl,rfl,t1,_,rfl,?_⟩;rw[uJ k1];refine j7 (λz=> ?_) λz1=> ?_
 ·have e:MP.shapeOf x=some [118,118,64,63]:=by unfold MP.shapeOf;rw[if_pos z]
  rw[e] at q;exact Eq.mp (congrArg (λs=>Q (V.str s) H) (show S [118,118,64,63]=bV "vv@?" by decide+kernel)) q
 refine⟨_,rfl,_,_,.inr (S x),rfl,rfl,t2,_,rfl,?_⟩;rw[uJ k2];refine j7 (λz=> ?_) λz2=> ?_
 ·have e:MP.shapeOf x=some [118,118,118,64,63]:=by unfold MP.shapeOf;rw[if_neg (by rw[z1];exact cW),if_pos z]
  rw[e] at q;exact Eq.mp (congrArg (λs=>Q (V.str s) H) (show S [118,118,118,64,63]=bV "vvv@?" by decide+kernel)) q
 refine⟨_,_,rfl,tS,_,rfl,.inr (S x),rfl,?_⟩;rw[acM (by rw[z1];exact cW) (by rw[z2];exact cW)]
 exact q
theorem acO(F:Df K mg "shape_of" Ad f fd)(g:GI mg)(ON:so K w mg)(SH:Shapes K w mg):aN P w K mg base au 1 "shape_of" ["word"] HB:=
 ⟨f,fd,acN F.1 g ON SH,F.2,F.1.kp,F.1.b1 "word"⟩
end
section
variable{P:aS}{w:aL}{K:az}{mg:Str->Option ah}{base:aC}{f:ae}{fd:bK}{R:Cl}{C:Cg}
def acP(ac op:Str)(pl ol bb cc:ae):List (Str×V):=[("action",.str ac),("operator",.str op),("parts",.ref pl),("operands",.ref ol),("place",.int 0),("mask",.aO),("body",.ref bb),("otherwise",.ref cc)]
def HD(R:Cl):Sp:=λvs H Q _=>∃a dx ac op pl,vs=[.ref a,.str ac,.str op,.ref pl]/\H a=some (.ins R.ins dx [])/\ ∀H' ol bb cc,Made a H H' [ol,bb,cc]->H' a=some (.ins R.ins dx (acP ac op pl ol bb cc))->H' ol=some (.lst [])->H' bb=some (.lst [])->H' cc=some (.lst [])->Q .aO H'
theorem fw{p:ae}{H W:Hp}{as:List ae}{o:HO}(m:Made p H W as):∃W',W'=upd W p o/\Made p H W' as/\ (∀b u,W b=some u->b≠p->W' b=some u)/\W' p=some o:=⟨_,rfl,m.write,λb u e n=>by rw[ak n];exact e,aB⟩
theorem fo{p l:ae}{H W:Hp}{as:List ae}{o:HO}(m:Made p H W as)(h:W l=none):∃W',W'=upd W l o/\Made p H W' (as++[l])/\ (∀b u,W b=some u->W' b=some u)/\W' l=some o:=
 have k:∀b u,W b=some u->upd W l o b=some u:=λb u e=>by rw[ak (bD e h)];exact e
 ⟨_,rfl,m.one h k aB,k,aB⟩
theorem acQ(F:aG K "__init__" "Instruction.__init__" zZ f fd)(e:EK K R):aD P w K mg base au 1 f fd ["self","action","operator","parts"] (HD R):=by
 refine F.oK Y1 λaF A outer s H vs Q E hr h=> ?_;obtain⟨a,dx,ac,op,pl,rfl,ha,q⟩:=h;refine⟨_,ay (cT (pv 0) (pv 1) rfl) (ay (cT (pv 0) (pv 2) rfl) (ay (cT (pv 0) (pv 3) rfl) (ay (cT (pv 0) (cR aj) rfl) (ay (cT (pv 0) (aQ) rfl) (ay (cT (pv 0) (jC) rfl) (ay (cT (pv 0) (cR aj) rfl) (aw (cT (pv 0) (cR aj) rfl)))))))),?_⟩;have m0:Made a H H []:=Made.refl ⟨_,ha⟩;refine⟨_,rfl,_,rfl,_,_,_,_,rfl,ha,e.bX,e.mq,(by show 0<1000;decide),?_⟩
 obtain⟨W0,eW0,mb0,kw0,p1⟩:=fw (o:=.ins R.ins dx (aA "action" (.str ac) [])) m0;rw[<-eW0];refine⟨_,rfl,_,rfl,_,_,_,_,rfl,p1,e.bX,e.nU,(by show 1<1000;decide),?_⟩
 obtain⟨W1,eW1,mb1,kw1,p2⟩:=fw (o:=.ins R.ins dx (aA "operator" (.str op) (aA "action" (.str ac) []))) mb0;rw[<-eW1];refine⟨_,rfl,_,rfl,_,_,_,_,rfl,p2,e.bX,e.o_,(by show 2<1000;decide),?_⟩
 obtain⟨W2,eW2,mb2,kw2,p3⟩:=fw (o:=.ins R.ins dx (aA "parts" (.ref pl) (aA "operator" (.str op) (aA "action" (.str ac) [])))) mb1;rw[<-eW2];refine⟨eV _,λol HE=> ?_⟩;have xu:ol≠a:=λz=>by rw[z,p3] at HE;cases HE
 obtain⟨L3,eL3,ma3,kol,vol⟩:=fo (o:=.lst []) mb2 HE;rw[<-eL3];have p3L:=kol _ _ p3;refine⟨_,rfl,_,_,_,_,rfl,p3L,e.bX,e.jP,(by show 3<1000;decide),?_⟩
 obtain⟨W3,eW3,mb3,kw3,p4⟩:=fw (o:=.ins R.ins dx (aA "operands" (.ref ol) (aA "parts" (.ref pl) (aA "operator" (.str op) (aA "action" (.str ac) []))))) ma3;rw[<-eW3];refine⟨_,rfl,_,_,_,_,rfl,p4,e.bX,e.r6,(by show 4<1000;decide),?_⟩
 obtain⟨W4,eW4,mb4,kw4,p5⟩:=fw (o:=.ins R.ins dx (aA "place" (.int 0) (aA "operands" (.ref ol) (aA "parts" (.ref pl) (aA "operator" (.str op) (aA "action" (.str ac) [])))))) mb3;rw[<-eW4];refine⟨_,rfl,_,_,_,_,rfl,p5,e.bX,e.wU,(by show 5<1000;decide),?_⟩
 obtain⟨W5,eW5,mb5,kw5,p6⟩:=fw (o:=.ins R.ins dx (aA "mask" .aO (aA "place" (.int 0) (aA "operands" (.ref ol) (aA "parts" (.ref pl) (aA "operator" (.str op) (aA "action" (.str ac) []))))))) mb4;rw[<-eW5];refine⟨eV _,λbb mv=> ?_⟩;have Og:bb≠a:=λz=>by rw[z,p6] at mv;cases mv
 obtain⟨L6,eL6,ma6,Oh,vbb⟩:=fo (o:=.lst []) mb5 mv;rw[<-eL6];have p6L:=Oh _ _ p6;refine⟨_,rfl,_,_,_,_,rfl,p6L,e.bX,e.uz,(by show 6<1000;decide),?_⟩
 obtain⟨W6,eW6,mb6,Oi,p7⟩:=fw (o:=.ins R.ins dx (aA "body" (.ref bb) (aA "mask" .aO (aA "place" (.int 0) (aA "operands" (.ref ol) (aA "parts" (.ref pl) (aA "operator" (.str op) (aA "action" (.str ac) [])))))))) ma6;rw[<-eW6];refine⟨eV _,λcc nB=> ?_⟩;have ncc:cc≠a:=λz=>by rw[z,p7] at nB;cases nB
 obtain⟨L7,eL7,ma7,HF,vcc⟩:=fo (o:=.lst []) mb6 nB;rw[<-eL7];have p7L:=HF _ _ p7;refine⟨_,rfl,_,_,_,_,rfl,p7L,e.bX,e.wV,(by show 7<1000;decide),?_⟩
 obtain⟨W7,eW7,mb7,HG,p8⟩:=fw (o:=.ins R.ins dx (aA "otherwise" (.ref cc) (aA "body" (.ref bb) (aA "mask" .aO (aA "place" (.int 0) (aA "operands" (.ref ol) (aA "parts" (.ref pl) (aA "operator" (.str op) (aA "action" (.str ac) []))))))))) ma7;rw[<-eW7];exact q _ ol bb cc mb7 p8 (HG _ _ (HF _ _ (Oi _ _ (Oh _ _ (kw5 _ _ (kw4 _ _ (kw3 _ _ vol xu) xu) xu)) xu)) xu) (HG _ _ (HF _ _ (Oi _ _ vbb Og)) Og) (HG _ _ vcc ncc)
def Bi(K:az)(mg:Str->Option ah)(R:Cl):Prop:=∃f fd,Mk K R.ins f/\aG K "__init__" "Instruction.__init__" zZ f fd/\mg "Instruction"=some (.ref R.ins)
def Oj(R:Cl)(H:Hp)(D:Ta)(τ:MP.Told)(H':Hp):Prop:=(∀b o,H b=some o->H' b=some o)/\ [D.td,D.pl,D.ol,D.bb,D.cc].Nodup/\ (∀b∈[D.td,D.pl,D.ol,D.bb,D.cc],H b=none)/\
 H' D.td=some (.ins R.ins D.fY (dO D τ))/\H' D.pl=some (.lst (τ.parts.map λx=>V.str (S x)))/\H' D.ol=some (.lst [])/\H' D.bb=some (.lst [])/\H' D.cc=some (.lst [])/\τ.args=[]/\τ.mask=none/\τ.parts.length=1
theorem HH{H:Hp}{Q:VK}{x ac op:aM}{pl:ae}(dE:H pl=none)(q:∀H' D,Oj R H D ⟨ac,op,[x],[],0,none⟩ H'->Q (.ref D.td) H'):
 ∀y dx,upd H pl (.lst [.str (S x)]) y=none->upd H pl (.lst [.str (S x)]) dx=none->dx≠y->HD R (.ref y::([.str (S ac),.str (S op),.ref pl]++[])) (upd (upd (upd H pl (.lst [.str (S x)])) dx (.own y)) y (.ins R.ins dx [])) (λv H2=>v=.aO/\Q (.ref y) H2) E0:=λy dx hy hd hn=>by
 refine⟨y,dx,S ac,S op,pl,rfl,aB,λH' ol bb cc m h1 h2 h3 h4=>⟨rfl,?_⟩⟩;have np:y≠pl:=λz=>by rw[z,aB] at hy;cases hy
 have nd:dx≠pl:=λz=>by rw[z,aB] at hd;cases hd
 have HI:H y=none:=by rw[ak np] at hy;exact hy
 have Ej:H dx=none:=by rw[ak nd] at hd;exact hd
 have up:∀b o,H b=some o->upd (upd (upd H pl (.lst [.str (S x)])) dx (.own y)) y (.ins R.ins dx []) b=some o:=λb o e=>by rw[ak (bD e HI),ak (bD e Ej),ak (bD e dE)];exact e
 have fr:∀b∈[ol,bb,cc],H b=none/\b≠y/\b≠pl:=λb hb=>by
  have n:=m.fr b hb;refine⟨?_,(λz=>by rw[z,aB] at n;cases n),(λz=>by rw[z,ak (Ne.symm np),ak (Ne.symm nd),aB] at n;cases n)⟩
  cases w:H b with
  |none=>rfl
  |some o=>rw[up b o w] at n;cases n
 have pl':H' pl=some (.lst [.str (S x)]):=m.kp _ _ (by rw[ak (Ne.symm np),ak (Ne.symm nd),aB]) (Ne.symm np)
 refine q H' ⟨y,dx,pl,ol,bb,cc⟩ ⟨λb o e=>m.kp b o (up b o e) (bD e HI),?_,λb hb=> ?_,h1,pl',h2,h3,h4,rfl,rfl,rfl⟩
 ·refine fE.mpr ⟨λhb=> ?_,fE.mpr ⟨λhb=> ?_,m.nd⟩⟩
  ·rcases cC.mp hb with z|z
   ·exact np z
   ·exact(fr y z).2.1 rfl
  ·exact(fr pl hb).2.2 rfl
 ·rcases cC.mp hb with z|z
  ·rw[z];exact HI
  ·rcases cC.mp z with z|z
   ·rw[z];exact dE
   ·exact(fr b z).1
def HJ(R:Cl):Sp:=λvs H Q _=>∃x,vs=[.str (S x)]/\ ∀H' D,Oj R H D (MP.dN x) H'->Q (.ref D.td) H'
theorem acR(F:aG K "instruction_of" "instruction_of" Ae f fd)(e:EK K R)(ON:so K w mg)(IC:Bi K mg R):aD P w K mg base au 3 f fd ["word"] (HJ R):=by
 obtain⟨o2,D2,m2,t2,k2⟩:=ON.two;obtain⟨o1,D1,m1,t1,k1⟩:=ON.one;obtain⟨fi,e_,M,Fi,mI⟩:=IC;have GI:aD P w K mg base au 1 fi e_ ["self","action","operator","parts"] (HD R):=acQ Fi e;have bI:=Fi.b4 "self" "action" "operator" "parts";refine F.oK Zp λaF A outer s H vs Q E hr h=> ?_;obtain⟨x,rfl,q⟩:=h;refine⟨_,ay (b7 (jh (uk (pv 0) (iH m1))) (aw (bw (j' M GI hr rfl mI bI .nil a_ (ai bZ (ai (pv 0) (ai (cR (ai (pv 0) aj)) aj)))))) cJ)
  (ay (b7 (jh (uk (pv 0) (iH m2))) (aw (bw (j' M GI hr rfl mI bI .nil a_ (ai bZ (ai (pv 0) (ai (cR (ai (pv 0) aj)) aj)))))) cJ)
  (aw (bw (j' M GI hr rfl mI bI .nil a_ (ai (pv 0) (ai bZ (ai (cR (ai (pv 0) aj)) aj))))))),?_⟩
 have l1:([V.str (S x)]:List V).length<=sizeLine:=by show 1<=sizeLine;rw[aR];decide
 have e1:bV "one"=S (aE "one"):=MX.lZ "one";have e2:bV "two"=S (aE "two"):=MX.lZ "two";have e3:bV ""=S []:=by decide+kernel
 refine⟨_,rfl,_,_,.inr (S x),rfl,rfl,t1,_,rfl,?_⟩;rw[uJ k1];refine j7 (λz=> ?_) λz1=> ?_
 ·have e:MP.dN x=⟨aE "one",x,[x],[],0,none⟩:=by unfold MP.dN;rw[if_pos z];rfl
  rw[e] at q;refine⟨_,rfl,_,rfl,l1,λpl dE=> ?_⟩;rw[e1];exact HH dE q
 refine⟨_,rfl,_,_,.inr (S x),rfl,rfl,t2,_,rfl,?_⟩;rw[uJ k2];refine j7 (λz=> ?_) λz2=> ?_
 ·have e:MP.dN x=⟨aE "two",x,[x],[],0,none⟩:=by unfold MP.dN;rw[if_neg (by rw[z1];exact cW),if_pos z];rfl
  rw[e] at q;refine⟨_,rfl,_,rfl,l1,λpl dE=> ?_⟩;rw[e2];exact HH dE q
 have e:MP.dN x=⟨x,[],[x],[],0,none⟩:=by unfold MP.dN;rw[if_neg (by rw[z1];exact cW),if_neg (by rw[z2];exact cW)];rfl
 rw[e] at q;refine⟨_,rfl,_,rfl,l1,λpl dE=> ?_⟩;rw[e3];exact HH dE q
theorem acS(F:Df K mg "instruction_of" Ae f fd)(e:EK K R)(ON:so K w mg)(IC:Bi K mg R):aN P w K mg base au 3 "instruction_of" ["word"] (HJ R):=
 ⟨f,fd,acR F.1 e ON IC,F.2,F.1.kp,F.1.b1 "word"⟩
end
open Vaarrj (braces)
open MP (c7 bt pre)
theorem Ol{X:Cx}{K:az}(hK:X.K=K){o e:bz}{es:List bz}{to:TE}{t:TA}{name:Str}{apos dS:Pos}{T id:String}{r:V->List V->Hp->VK->Prop}(pa:PlainAttrs T)(slot:PySem.Slot T name id)(qe:typeOf (.builtin id)=pure (.type "method_descriptor"))(hm:rk X id r)(ho:PE X o to)(ha:PA X (e::es) t)
 (jm:oz o name X.env (eval o X.env)=eval o X.env:=by rfl)
 (C3:((f_ dS (cG (e::es) X.env)).all (λx=> !x.1)&&(sQ dS (sR [] X.env)).all (λx=>x.1.isSome)
   &&decide ((e::es).length+([]:List Keyword).length+(if([]:List Keyword).isEmpty then 0 else 1)<30))=true:=by rfl)
 (oP:(apos.endLine==dS.line)=true:=by rfl) (hs:cG (e::es) X.env=(false,eval e X.env)::cG es X.env:=by rfl) (C4:(f_ dS (cG es X.env)).any (·.1)=false:=by rfl):
 PE X (.Call (.Attribute o name apos) (e::es) [] dS) (Ks K T r to t):=by subst hK;exact iS pa slot qe hm ho ha jm C3 oP hs C4
def gN(HS cO H:Hp):Prop:=(∀b o,HS b=some o->cO b=some o)/\ (∀b o,cO b=some o->HS b=some o\/H b=none)
theorem gN.refl{HS H:Hp}:gN HS HS H:=⟨λ_ _ e=>e,λ_ _ e=>.inl e⟩
theorem gN.trans{HS qC Om H H1:Hp}(a:gN HS qC H)(b:gN qC Om H1)(k:∀c,H1 c=none->H c=none):gN HS Om H:=
 ⟨λc o e=>b.1 c o (a.1 c o e),λc o e=>(b.2 c o e).elim (λz=>a.2 c o z) λz=>.inr (k c z)⟩
section
variable{R:Cl}{H H':Hp}
mutual
theorem fX.mono(k:∀b o,H b=some o->H' b=some o):∀{i:cw} {t:ae},fX R H i t->fX R H' i t:=λ{i t} h=>by
 cases i with
 |for_ d c b=>
  simp only[fX] at h⊢;obtain⟨ba,ca,ts,h1,h2,h3,h4⟩:=h;exact⟨ba,ca,ts,h1.mono k,k _ _ h2,b9.mono k h3,k _ _ h4⟩
 |when s b c=>
  simp only[fX] at h⊢;obtain⟨ba,ca,ts,us,h1,h2,h3,h4,h5⟩:=h;exact⟨ba,ca,ts,us,h1.mono k,k _ _ h2,b9.mono k h3,k _ _ h4,b9.mono k h5⟩
 |_=>
  simp only[fX] at h⊢;obtain⟨ba,ca,h1⟩:=h;exact⟨ba,ca,h1.mono k⟩
theorem b9.mono(k:∀b o,H b=some o->H' b=some o):∀{b:c6} {ts:List ae},b9 R H b ts->b9 R H' b ts:=λ{b ts} h=>by
 cases b with
 |nil=>simp only[b9] at h⊢;exact h
 |cons i r=>
  simp only[b9] at h⊢;obtain⟨t,us,e,h1,h2⟩:=h;exact⟨t,us,e,fX.mono k h1,b9.mono k h2⟩
end
theorem HK{i:cw}{ti:ae}(hi:fX R H i ti):∀{is:List cw} {ts:List ae},b9 R H (pre is .nil) ts->b9 R H (pre (is++[i]) .nil) (ts++[ti])
 |[],ts,h=>by
  have h:b9 R H .nil ts:=h;simp only[b9] at h;subst h;show b9 R H (.cons i .nil) [ti];simp only[b9];exact⟨ti,[],rfl,hi,rfl⟩
 |j::is,ts,h=>by
  have h:b9 R H (.cons j (pre is .nil)) ts:=h;simp only[b9] at h;obtain⟨t,us,rfl,h1,h2⟩:=h;show b9 R H (.cons j (pre (is++[i]) .nil)) (t::us++[ti]);simp only[b9];exact⟨t,us++[ti],rfl,h1,HK hi h2⟩
end
section
variable{P:aS}{w:aL}{K:az}{mg:Str->Option ah}{base:aC}{f:ae}{fd:bK}{R:Cl}{C:Cg}
def Bj(K:az)(R:Cl)(C:Cg)(h:Nat):Sp:=λvs H Q E=>∃H0 HS A t ls ts left ar,vs=[.ref A.rd,.int ((ar:Nat):Int)]/\ar+h=8/\cF K C H0 HS A t ls ts left H/\
 Rr C E H0 (aJ t.length (c7 ls.length (braces ls.length h) left ts)) λu=>∀H' cO ti,cF K C H0 cO A t ls u.2 u.1.2 H'->gN HS cO H->fX R cO u.1.1 ti->Kr A H H'->Q (.ref ti) H'
def xw(K:az)(R:Cl)(C:Cg)(h:Nat):Sp:=λvs H Q E=>∃H0 HS A t ls ts left ar,vs=[.ref A.rd,.int ((ar:Nat):Int)]/\ar+h=8/\cF K C H0 HS A t ls ts left H/\
 Rr C E H0 (aJ t.length (braces ls.length h left ts)) λu=>∀H' cO bl de,cF K C H0 cO A t ls u.2 u.1.2 H'->gN HS cO H->cO bl=some (.lst (de.map V.ref))->b9 R cO u.1.1 de->Kr A H H'->Q (.ref bl) H'
theorem acT(F:aG K "read_block" "read_block" Af f fd)(N:qA P w K mg base C)(g:GI mg){k:Nat}:aD P w K mg base (bq P w) (k+4) f fd ["reader","around"] (xw K R C 0):=by
 obtain⟨fr,ip,mr,Gr,br⟩:=N.m.ref;refine F.oX FR λaF A outer s H vs Q E hr h=> ?_;obtain⟨H0,HS,A,t,ls,ts,left,ar,rfl,ha,r,q⟩:=h;have fh:=hr.mono (show 3<=k+3 by omega)
 refine⟨_,ay (bO (jk (pv 0) N.m.k.cls mr Gr fh br .nil cS (ai (oM iQ (pv 1) (b_ g.Nl) (bQ _)) aj))) JL,?_⟩;obtain⟨tk,h1,_⟩:=r.rd;refine⟨_,rfl,_,_,_,rfl,h1,rfl,_,rfl,_,_,rfl,rfl,H0,HS,A,t,ls,ts,left,_,rfl,r,λz=> ?_,λ_=>q⟩;have:=of_decide_eq_true z;omega
theorem acU{h k:Nat}(F:aG K "read_block" "read_block" Af f fd)(N:qA P w K mg base C)(g:GI mg)(GI:aN P w K mg base (bq P w) (k+8) "read_instruction" ["reader","around"] (Bj K R C h)):aD P w K mg base (bq P w) (k+9) f fd ["reader","around"] (xw K R C (h+1)):=by
 obtain⟨fr,ip,mr,Gr,br⟩:=N.m.ref;obtain⟨fa,kY,ma,Ga,ba⟩:=N.m.c_;obtain⟨fp,Oo,mp,Gp,bp⟩:=N.pass;refine F.oX FR λaF A outer s H vs Q E hr h=> ?_;obtain⟨H0,HS,A,t,ls,ts,left,ar,rfl,ha,r,q⟩:=h;have fh:=hr.mono (show 3<=k+8 by omega)
 have mE:=hr.mono (show 6<=k+8 by omega)
 have qB:=hr.mono (show 7<=k+8 by omega)
 refine⟨_,ay (bO (jk (pv 0) N.m.k.cls mr Gr fh br .nil cS (ai (oM iQ (pv 1) (b_ g.Nl) (bQ _)) aj)))
  (ay (bO (jk (pv 0) N.m.k.cls mp Gp qB bp .nil cS (ai bZ aj)))
  (ay (bH (i:=2) FR.nd rfl (aZ rfl) (cR aj))
  (ay (zt qp ⟨rfl,rfl⟩ (λ_ _=>bW jj (jR (K:=K) rfl (jR (K:=K) rfl (pv 0) rfl) rfl) bZ (bQ _))
    (λpn xe E ht=>aw (bO (Ol (K:=K) rfl i5 lD lE kd (pv 2) (ai (aY GI hr ht.passes (ai (pv 0) (ai (cy i8 (pv 1) aQ) aj))) aj)))))
  (ay (bO (nI (pv 0) N.m.k.cls ma Ga mE ba .nil cS))
  (aw (bw (pv 2))))))),?_⟩
 obtain⟨tk,h1,_⟩:=r.rd;have eb:(bV "{")=S [123]:=by decide+kernel
 have ec:(bV "}")=S [125]:=by decide+kernel
 rw[MP.T5] at q;have q:=q.bind;refine⟨_,rfl,_,_,_,rfl,h1,rfl,_,rfl,_,_,rfl,rfl,H0,HS,A,t,ls,ts,left,_,rfl,r,λ_=> ?_,λz=>absurd (show(ar:Int)<=7 by omega) (of_decide_eq_false z)⟩
 refine⟨_,rfl,_,_,_,rfl,h1,rfl,H0,HS,A,t,ls,ts,left,123,(by rw[<-eb];rfl),by decide,r,q.mono λu hu H1 r1 k1=> ?_⟩
 refine⟨eV _,λbl eN=> ?_⟩;have sh:∀l,MP.cz (braces ls.length h l):=λl=>MP.DP _ _ l;have Oq:H0 bl=none:=by
  cases z:H0 bl with
  |none=>rfl
  |some o=>rw[r1.old _ _ z] at eN;cases eN
 have Ot:H bl=none:=by
  cases z:H bl with
  |none=>rfl
  |some o=>
   exfalso;by_cases z1:bl=A.rd
   ·obtain⟨uL,g1,_⟩:=r1.rd;rw[z1,g1] at eN;cases eN
   ·by_cases z2:bl=A.cd
    ·rw[z2,r1.cd] at eN;cases eN
    ·rw[k1 _ _ z z1 z2] at eN;cases eN
 have acV:HS bl=none:=by
  cases z:HS bl with
  |none=>rfl
  |some o=>rw[r1.set _ _ z] at eN;cases eN
 have Ou:bl≠A.ll:=λz=>by rw[z,r1.ll] at eN;cases eN
 have nbl:bl≠A.bl:=λz=>by obtain⟨xs,hx⟩:=r1.bt;rw[z,hx] at eN;cases eN
 refine⟨λm σ H'=>∃us eK cO is de,m=us.length/\σ=[some (.ref A.rd),some (.int (ar:Int)),some (.ref bl)]/\cF K C H0 cO A t ls us eK H'/\H' bl=some (.lst (de.map V.ref))/\cO bl=none/\gN HS cO H/\b9 R cO (pre is .nil) de/\Kr A H H'/\de.length+eK<=left/\
  aJ t.length (bt ls.length (braces ls.length h) left u.2)=j3 (λx=>(pre is x.1,x.2)) (aJ t.length (bt ls.length (braces ls.length h) eK us)),⟨u.2.length,u.2,left,HS,[],[],rfl,rfl,?_,aB,acV,gN.refl,(by show b9 R HS .nil [];simp only[b9]),λb o e n1 n2=> ?_,by simp,?_⟩,?_⟩
 ·exact r1.more λb o e=>by rw[ak (bD e eN)];exact e
 ·have e:=k1 b o e n1 n2;rw[ak (bD e eN)];exact e
 ·cases aJ t.length (bt ls.length (braces ls.length h) left u.2)<;>rfl
 rintro m σ H' ⟨us,eK,cO,is,de,rfl,rfl,r2,ck,Ov,gr,hB,k2,ln,eq⟩;obtain⟨pq,g1,dx,x,en,g2,g3,g4,g5,g6⟩:=r2.rd;have hs:=g3.sign (c:=125) (by decide)
 have Bk:bl≠A.rd:=cE ck g1 (by intro z;cases z)
 have Bl:bl≠A.cd:=cE ck r2.cd (by intro z;cases z)
 rw[eq] at hu;refine⟨_,rfl,_,_,_,_,_,rfl,g1,N.m.k.cls,N.m.k.token,rfl,_,_,_,_,_,rfl,g2,N.m.k.tok.cls,N.m.k.tok.text,rfl,rfl,_,rfl,?_⟩;rw[ec];have le:=r.le;refine nR (λz=> ?_) λz=> ?_
 ·have z: ¬Vaarrj.next us=.sign 125:=λy=>z (uK.mpr (hs.mpr y));have hu:=hu.also;rw[MP.Lp sh z] at hu;have hu:=hu.bind;refine⟨_,λσ' H' x=>x,_,rfl,.inl ⟨rfl,_,aI.of ck⟩,_,rfl,_,rfl,_,_,rfl,rfl,H0,cO,A,t,ls,us,eK,ar+1,rfl,by omega,r2,?_⟩
  cases ei:aJ t.length (c7 ls.length (braces ls.length h) eK us) with
  |error p=>rw[ei] at hu;exact hu
  |ok i=>
   rw[ei] at hu;have dn:=MP.D7 (MP.D8 ls.length h) (MP.nQ ei).1;have lt:=MP.t_ sh (MP.nQ ei).1;intro H3 HL ti r3 HN hI k3;have eh:H3 bl=some (.lst (de.map V.ref)):=k3 _ _ ck Bk Bl;have Ow:HL bl=none:=by
    cases z:HL bl with
    |none=>rfl
    |some o=>
     rcases HN.2 _ _ z with y|y
     ·rw[Ov] at y;cases y
     ·rw[ck] at y;cases y
   refine⟨_,_,_,rfl,rfl,eh,(by rw[bx,aR];omega),i.2.length,lt,i.2,i.1.2,HL,is++[i.1.1],de++[ti],rfl,rfl,r3.uI Bk Bl Ou (λ_ _ _ _ z=>by rw[eh] at z;cases z) Oq Ow (λ_=>⟨_,rfl⟩),by rw[aB,iw];rfl,Ow,gr.trans HN (λc hc=> ?_),HK hI (b9.mono HN.1 hB),λb o e n1 n2=> ?_,(by rw[bU];simp;omega),?_⟩
   ·cases z:H c with
    |none=>rfl
    |some o=>
     exfalso;by_cases z1:c=A.rd
     ·rw[z1,g1] at hc;cases hc
     ·by_cases z2:c=A.cd
      ·rw[z2,r2.cd] at hc;cases hc
      ·rw[k2 _ _ z z1 z2] at hc;cases hc
   ·rw[ak λz=>by rw[z,Ot] at e;cases e]
    exact k3 _ _ (k2 _ _ e n1 n2) n1 n2
   ·rw[eq,MP.Lp sh z,ei];rw[MP.fz,MP.DD]
    congr 1
    funext x
    rw[MP.LO]
 ·have z:Vaarrj.next us=.sign 125:=hs.mp (uK.mp z);have hu:=hu.also;rw[MP.TY z,MP.vN] at hu;have hu:=hu.also;refine⟨_,rfl,_,_,_,rfl,g1,rfl,H0,cO,A,t,ls,us,eK,rfl,r2,(by rw[z];exactλy=>nomatch y),hu.mono λv hv H3 r3 k3=> ?_⟩
  have eh:H3 bl=some (.lst (de.map V.ref)):=k3 _ _ ck Bk Bl;have up:∀b o,cO b=some o->upd cO bl (.lst (de.map V.ref)) b=some o:=λb o e=>by rw[ak (bD e Ov)];exact e
  refine⟨_,rfl,hv H3 (upd cO bl (.lst (de.map V.ref))) bl de ⟨r3.rd,r3.cd,r3.ll,r3.tx,r3.tl,r3.good,r3.le,r3.ln,r3.old,λb o e=> ?_,r3.n0,?_,λb o e=> ?_,r3.bt⟩ ⟨λb o e=>up _ _ (gr.1 b o e),λb o e=> ?_⟩ aB (b9.mono up hB) λb o e n1 n2=>k3 _ _ (k2 _ _ e n1 n2) n1 n2⟩
  ·by_cases y:b=bl
   ·rw[y,aB] at e;cases e;rw[y];exact eh
   ·rw[ak y] at e;exact r3.set b o e
  ·exact⟨by rw[ak (Ne.symm Bk)];exact r3.nS.1,by rw[ak (Ne.symm Bl)];exact r3.nS.2.1,by rw[ak (Ne.symm Ou)];exact r3.nS.2.2.1,by rw[ak (Ne.symm nbl)];exact r3.nS.2.2.2⟩
  ·by_cases y:b=bl
   ·rw[y];exact Oq
   ·rw[ak y] at e;exact r3.sn b o e
  ·by_cases y:b=bl
   ·rw[y];exact .inr Ot
   ·rw[ak y] at e;exact gr.2 b o e
end
open MP (oW)
section
variable{K:az}{R:Cl}{C:Cg}{H0 HS cO H H':Hp}{A:Ra}{D:Ta}{t:aM}{ls:List Nat}{ts us:aX}{left:Nat}{τ τ':MP.Told}
theorem gN.none{x:ae}{o:HO}(g:gN HS cO H)(h:HS x=none)(hx:H x=some o):cO x=none:=by
 cases z:cO x with
 |none=>rfl
 |some u=>
  rcases g.2 _ _ z with y|y
  ·rw[h] at y;cases y
  ·rw[hx] at y;cases y
theorem fj.grow(d:fj R H0 HS A D τ H')(dh:fj R H0 HS A D τ H)(g:gN HS cO H):fj R H0 cO A D τ H':=
 ⟨d.td,d.pl,d.ol,d.ne,d.n0,⟨g.none d.nS.1 dh.td,g.none d.nS.2.1 dh.pl,g.none d.nS.2.2 dh.ol⟩,d.lp,d.la⟩
theorem fj.sub(d:fj R H0 HS A D τ H)(r:cF K C H0 HS A t ls ts left H)(bb cc:ae):cF K C H0 HS A t ls ts left (upd H D.td (.ins R.ins D.fY (dO {D with bb:=bb,cc:=cc} τ)))/\fj R H0 HS A {D with bb:=bb,cc:=cc} τ (upd H D.td (.ins R.ins D.fY (dO {D with bb:=bb,cc:=cc} τ))):=by
 have e1:D.pl≠D.td:=cE d.pl d.td (by intro z;cases z)
 have e2:D.ol≠D.td:=cE d.ol d.td (by intro z;cases z)
 refine⟨r.uI d.ne.1 d.ne.2.1 (cE d.td r.ll (by intro z;cases z)) (λ_ _ _ _ z=>by rw[d.td] at z;exact N' (f9 z)) d.n0.1 d.nS.1 (λz=>by obtain⟨xs,hb⟩:=r.bt;rw[<-z,d.td] at hb;cases hb),⟨aB,by rw[ak e1];exact d.pl,by rw[ak e2];exact d.ol,d.ne,d.n0,d.nS,d.lp,d.la⟩⟩
def Kt(A:Ra)(D:Ta)(H H':Hp):Prop:=∀b o,H b=some o->b≠A.rd->b≠A.cd->b≠D.td->H' b=some o
theorem Kt.of(k:Kr A H H'):Kt A D H H':=λb o e n1 n2 _=>k b o e n1 n2
def acW(R:Cl)(HS:Hp)(D D':Ta):MP.End->Prop
 | .plain=>D'=D
 | .one b=>∃bb de,D'={D with bb:=bb}/\HS bb=some (.lst (de.map V.ref))/\b9 R HS b de
 | .two b c=>∃bb de,HS bb=some (.lst (de.map V.ref))/\b9 R HS b de/\ ((c=.nil/\D'={D with bb:=bb})\/∃cc sq,D'={D with bb:=bb,cc:=cc}/\HS cc=some (.lst (sq.map V.ref))/\b9 R HS c sq)
end
section
variable{P:aS}{w:aL}{K:az}{mg:Str->Option ah}{base:aC}{f:ae}{fd:bK}{R:Cl}{C:Cg}
def HP(K:az)(R:Cl)(C:Cg)(h:Nat):Sp:=λvs H Q E=>∃H0 HS A D t ls ts left τ ar,vs=[.ref A.rd,.ref D.td,.int ((ar:Nat):Int)]/\ar+h=8/\cF K C H0 HS A t ls ts left H/\fj R H0 HS A D τ H/\
 Rr C E H0 (oW t.length (braces ls.length h) τ.act left ts) λu=>∀H' cO D',cF K C H0 cO A t ls u.2 u.1.2 H'->gN HS cO H->fj R H0 cO A D' τ H'->acW R cO D D' u.1.1->Kt A D H H'->Q .aO H'
theorem mG{x:aM}{s:String}:decide (V.str (S x)=V.str (bV s))=decide (x=aE s):=by
 rw[MX.lZ];exact decide_eq_decide.mpr ⟨λz=>by injection z with z;exact MX.lY z,λz=>by rw[z]⟩
theorem acX{h k:Nat}(F:aG K "read_ending" "read_ending" FU f fd)(N:qA P w K mg base C)(e:EK K R)(g:GI mg)(GB:aN P w K mg base (bq P w) (k+7) "read_block" ["reader","around"] (xw K R C h)):aD P w K mg base (bq P w) (k+8) f fd ["reader","told","around"] (HP K R C h):=by
 obtain⟨fa,kY,ma,Ga,ba⟩:=N.m.c_;obtain⟨fp,Oo,mp,Gp,bp⟩:=N.pass;refine F.oX Zs λaF A outer s H vs Q E hr h=> ?_;obtain⟨H0,HS,A,D,t,ls,ts,left,τ,ar,rfl,ha,r,d,q⟩:=h;have mE:=hr.mono (show 6<=k+7 by omega)
 have qB:=hr.mono (show 7<=k+7 by omega)
 refine⟨_,ay (b7 (pW (bW jj (aP (pv 1) rfl) bZ (bQ _)) (pV (bW jj (aP (pv 1) rfl) bZ (bQ _)))).pt
  (ay (bO (jk (pv 0) N.m.k.cls mp Gp qB bp .nil cS (ai bZ aj))) (aw JK)) cJ)
  (ay (cT (pv 1) (aY GB hr cS (ai (pv 0) (ai (pv 2) aj))) rfl)
  (aw (b7 (pW (bW fR (aP (pv 1) rfl) bZ (bQ _)) (pV (bW fR (aP (aP (pv 0) rfl) rfl) bZ (bQ _)))).pt
    (ay (bO (nI (pv 0) N.m.k.cls ma Ga mE ba .nil cS)) (aw (cT (pv 1) (aY GB hr cS (ai (pv 0) (ai (pv 2) aj))) rfl))) cJ))),?_⟩
 obtain⟨tk,h1,_⟩:=r.rd;have es:(bV ";")=S [59]:=by decide+kernel
 refine⟨_,rfl,_,_,_,_,_,rfl,d.td,e.bX,e.mq,rfl,rfl,_,rfl,?_⟩;rw[mG];refine nR (λz1=> ?_) λz1=> ?_
 ·refine⟨_,rfl,_,_,_,_,_,rfl,d.td,e.bX,e.mq,rfl,rfl,_,rfl,?_⟩;rw[mG];refine nR (λz2=> ?_) λz2=> ?_
  ·
   unfold MP.oW at q;rw[if_neg z1,if_neg z2] at q;have q:=q.bind;exact⟨_,rfl,_,_,_,rfl,h1,rfl,H0,HS,A,t,ls,ts,left,59,(by rw[<-es];rfl),by decide,r,q.mono λu hu H' r' k'=>hu H' HS D r' gN.refl (d.kr r k') rfl (Kt.of k')⟩
  ·
   unfold MP.oW at q;rw[if_neg z1,if_pos z2] at q;have q:=q.bind;refine⟨_,rfl,_,rfl,H0,HS,A,t,ls,ts,left,ar,rfl,ha,r,q.mono λb hb H1 qC bl de r1 g1 eN hB k1=> ?_⟩;have d1:=(d.kr r k1).grow d g1;refine⟨_,rfl,_,_,_,_,rfl,d1.td,e.bX,e.uz,(by show 8<1000;decide),?_⟩
   obtain⟨r2,d2⟩:=d1.sub r1 bl D.cc;have ee:aA "body" (.ref bl) (dO D τ)=dO {D with bb:=bl,cc:=D.cc} τ:=rfl
   rw[ee];have k2:Kt A D H (upd H1 D.td (.ins R.ins D.fY (dO {D with bb:=bl,cc:=D.cc} τ))):=λc o eb n1 n2 n3=>by rw[ak n3];exact k1 c o eb n1 n2
   generalize upd H1 D.td (.ins R.ins D.fY (dO {D with bb:=bl,cc:=D.cc} τ))=H2 at r2 d2 k2
   obtain⟨pq,t1,dx,x,en,t2,t3,t4,t5,t6⟩:=r2.rd;refine⟨_,rfl,_,_,_,_,_,rfl,d2.td,e.bX,e.mq,rfl,rfl,_,rfl,?_⟩;rw[mG,decide_eq_true z2];refine dq ⟨_,rfl,_,_,_,_,_,rfl,t1,N.m.k.cls,N.m.k.token,rfl,_,_,_,_,_,rfl,t2,N.m.k.tok.cls,N.m.k.tok.text,rfl,rfl,_,rfl,?_⟩;rw[mG];have he:=t3.LJ (w:=aE "else") (c:=101) (r:=[108,115,101]) (by decide+kernel) (by decide)
   refine bY (λz3=> ?_) λz3=> ?_
   ·have z3:=he.mp z3;simp only[z3,if_true] at hb;have hb:=hb.bind;refine⟨_,rfl,_,_,_,rfl,t1,rfl,H0,qC,A,t,ls,b.2,b.1.2,rfl,r2,(by rw[z3];exactλy=>nomatch y),hb.mono λu hu H3 r3 k3=> ?_⟩
    have d3:=d2.kr r2 k3;have hu:=hu.bind;refine⟨_,rfl,_,rfl,H0,qC,A,t,ls,u.2,b.1.2,ar,rfl,ha,r3,hu.mono λc hc H4 HQ cl sq r4 g4 kO hC k4=> ?_⟩;have d4:=(d3.kr r3 k4).grow d3 g4;refine⟨_,rfl,_,_,_,_,rfl,d4.td,e.bX,e.wV,(by show 8<1000;decide),?_⟩
    obtain⟨r5,d5⟩:=d4.sub r4 bl cl;have ee:aA "otherwise" (.ref cl) (dO {D with bb:=bl,cc:=D.cc} τ)=dO {D with bb:=bl,cc:=cl} τ:=rfl
    rw[ee];refine hc _ HQ {D with bb:=bl,cc:=cl} r5 (g1.trans g4 λc0 my=> ?_) d5 ⟨bl,de,g4.1 _ _ eN,b9.mono g4.1 hB,.inr ⟨cl,sq,rfl,kO,hC⟩⟩ λc0 o eb n1 n2 n3=> ?_
    ·cases y:H c0 with
     |none=>rfl
     |some o=>
      exfalso;by_cases y1:c0=A.rd
      ·obtain⟨_,y2,_⟩:=r3.rd;rw[y1,y2] at my;cases my
      ·by_cases y2:c0=A.cd
       ·rw[y2,r3.cd] at my;cases my
       ·by_cases y3:c0=D.td
        ·rw[y3,d3.td] at my;cases my
        ·rw[k3 _ _ (k2 _ _ y y1 y2 y3) y1 y2] at my;cases my
    ·show upd H4 D.td _ c0=some o;rw[ak n3];exact k4 _ _ (k3 _ _ (k2 _ _ eb n1 n2 n3) n1 n2) n1 n2
   ·have z3: ¬Vaarrj.next b.2=.word (aE "else"):=λy=>z3 (he.mpr y);simp only[z3,if_false] at hb;exact hb H2 qC {D with bb:=bl,cc:=D.cc} r2 g1 d2 ⟨bl,de,eN,hB,.inl ⟨rfl,rfl⟩⟩ k2
 ·
  unfold MP.oW at q;rw[if_pos z1] at q;have q:=q.bind;refine dW ⟨_,rfl,_,rfl,H0,HS,A,t,ls,ts,left,ar,rfl,ha,r,q.mono λb hb H1 qC bl de r1 g1 eN hB k1=> ?_⟩;have d1:=(d.kr r k1).grow d g1;refine⟨_,rfl,_,_,_,_,rfl,d1.td,e.bX,e.uz,(by show 8<1000;decide),?_⟩
  obtain⟨r2,d2⟩:=d1.sub r1 bl D.cc;have ee:aA "body" (.ref bl) (dO D τ)=dO {D with bb:=bl,cc:=D.cc} τ:=rfl
  rw[ee];have k2:Kt A D H (upd H1 D.td (.ins R.ins D.fY (dO {D with bb:=bl,cc:=D.cc} τ))):=λc o eb n1 n2 n3=>by rw[ak n3];exact k1 c o eb n1 n2
  generalize upd H1 D.td (.ins R.ins D.fY (dO {D with bb:=bl,cc:=D.cc} τ))=H2 at r2 d2 k2
  refine⟨_,rfl,_,_,_,_,_,rfl,d2.td,e.bX,e.mq,rfl,rfl,_,rfl,?_⟩;have nw: ¬τ.act=aE "when":=by rw[z1];decide+kernel
  rw[mG,decide_eq_false nw];exact dW (hb H2 qC {D with bb:=bl,cc:=D.cc} r2 g1 d2 ⟨bl,de,rfl,eN,hB⟩ k2)
end
open MP (fG)
theorem acY{x:Str}{g:TG}{tb:TS}{D:Ends}{σ:L2.St}{H:Hp}(Pv:Nat->L2.St->Hp->Prop)(h0:Pv 0 σ H)
 (hs:∀i c σ H,x.cps[i]? =some c->Pv i σ H->g (.str ⟨#[c]⟩) σ H λσ2 H2=>tb {D with nx:=Pv (i+1),ct:=Pv (i+1),bk:=D.nx} σ2 H2) (hd:∀σ H,Pv x.cps.size σ H->D.nx σ H):
 ∃W:Nat->Nat->L2.St->Hp->Prop,(∃m,W 0 m σ H)/\ ∀i m σ H,W i m σ H->
  ((qg x).stop i H/\D.nx σ H)\/((qg x).go i H/\ ∃N:L2.St->Hp->Prop,(∀σ' H',N σ' H'->∃m',m'<m/\W (i+1) m' σ' H')/\ ∀x' H',(qg x).oI i H x' H'->g x' σ H' λσ2 H2=>tb {D with nx:=N,ct:=N,bk:=D.nx} σ2 H2):=by
 refine⟨λi m σ H=>m=x.cps.size-i/\i<=x.cps.size/\Pv i σ H,⟨x.cps.size,by simp,eV _,h0⟩,?_⟩
 rintro i m σ H ⟨rfl,hi,p⟩;by_cases dR:i<x.cps.size
 ·refine .inr ⟨dR,Pv (i+1),λσ' H' p'=>⟨x.cps.size-(i+1),by omega,rfl,dR,p'⟩,λv H' y=> ?_⟩
  obtain⟨e,c,hc,y⟩:=y;subst e y;exact hs i c σ _ hc p
 ·have e:i=x.cps.size:=by omega
  subst e;exact .inl ⟨bE _,hd σ H p⟩
section
variable{K:az}{R:Cl}{C:Cg}{H0 HS cO H H':Hp}{A:Ra}{D:Ta}{t:aM}{ls:List Nat}{ts us:aX}{left:Nat}{τ τ':MP.Told}
theorem cF.size(r:cF K C H0 HS A t ls ts left H)(h0:left≠0):cF K C H0 HS A t ls ts (left-1) (upd H A.cd (.ins C.code A.gU (n9 A (512-(left-1)))))/\Kr A H (upd H A.cd (.ins C.code A.gU (n9 A (512-(left-1))))):=by
 obtain⟨tk,a1,dx,y,e,a2,a3⟩:=r.rd;have c1:A.rd≠A.cd:=Ne.symm (N5 r);have c2:tk≠A.cd:=cE a2 r.cd (by intro z;injection z with _ _ z;injection z with z _;injection z with z _;revert z;decide)
 have c3:A.ll≠A.cd:=cE r.ll r.cd (by intro z;cases z)
 have kk:∀b o,H b=some o->b≠A.cd->upd H A.cd (.ins C.code A.gU (n9 A (512-(left-1)))) b=some o:=λb o e n=>by rw[ak n];exact e
 refine⟨⟨⟨tk,kk _ _ a1 c1,dx,y,e,kk _ _ a2 c2,a3⟩,aB,kk _ _ r.ll c3,r.tx,r.tl,r.good,by have:=r.le;omega,r.ln,λb o q=>kk _ _ (r.old b o q) (λz=>by rw[z,r.n0.2.1] at q;cases q),λb o q=>kk _ _ (r.set b o q) (λz=>by rw[z,r.nS.2.1] at q;cases q),r.n0,r.nS,r.sn,?_⟩,λb o e _ n=>kk b o e n⟩
 obtain⟨xs,hb⟩:=r.bt;exact⟨xs,kk _ _ hb (cE hb r.cd (by intro z;cases z))⟩
theorem cF.settle(r:cF K C H0 HS A t ls ts left H){x:ae}{o:HO}(hx:H x=some o)(h0:H0 x=none)(n1:x≠A.rd)(n2:x≠A.cd)(n3:x≠A.ll)(n4:x≠A.bl):cF K C H0 (upd HS x o) A t ls ts left H:=by
 refine⟨r.rd,r.cd,r.ll,r.tx,r.tl,r.good,r.le,r.ln,r.old,λb u e=> ?_,r.n0,⟨by rw[ak (Ne.symm n1)];exact r.nS.1,by rw[ak (Ne.symm n2)];exact r.nS.2.1,by rw[ak (Ne.symm n3)];exact r.nS.2.2.1,by rw[ak (Ne.symm n4)];exact r.nS.2.2.2⟩,λb u e=> ?_,r.bt⟩
 ·by_cases z:b=x
  ·rw[z,aB] at e;cases e;rw[z];exact hx
  ·rw[ak z] at e;exact r.set b u e
 ·by_cases z:b=x
  ·rw[z];exact h0
  ·rw[ak z] at e;exact r.sn b u e
theorem gN.one{x:ae}{o:HO}{H1:Hp}(g:gN HS cO H)(hS:∀b u,HS b=some u->H b=some u)(hx:H x=Option.none):gN HS (upd cO x o) H:=by
 refine⟨λb u e=> ?_,λb u e=> ?_⟩
 ·rw[ak λz=>by rw[z] at e;rw[hS _ _ e] at hx;cases hx];exact g.1 b u e
 ·by_cases z:b=x
  ·rw[z];exact .inr hx
  ·rw[ak z] at e;exact g.2 b u e
theorem acZ{HS:Hp}{i:cw}{D:Ta}{τ:MP.Told}(hi:MP.toldOf i=τ)(h1:HS D.td=some (.ins R.ins D.fY (dO D τ)))(h2:HS D.pl=some (.lst (τ.parts.map λx=>V.str (S x))))(h3:HS D.ol=some (.lst (τ.args.map V.int))):Told R HS D.td (r_ i D.bb D.cc):=by
 subst hi;refine⟨D.fY,_,D.ol,h1,rfl,rfl,rfl,h3,rfl,rfl,rfl,rfl,D.pl,rfl,?_⟩;show HS D.pl=some (.lst (((MP.toldOf i).parts.map MX.S).map V.str));rw[iO];exact h2
end
section
variable{P:aS}{w:aL}{K:az}{mg:Str->Option ah}{base:aC}{f:ae}{fd:bK}{R:Cl}{C:Cg}
theorem ac0{h k:Nat}(F:aG K "read_instruction" "read_instruction" FV f fd)(N:qA P w K mg base C)(e:EK K R)(g:GI mg)(GS:aN P w K mg base au 1 "shape_of" ["word"] HB)(GI:aN P w K mg base au 3 "instruction_of" ["word"] (HJ R))(GP:aN P w K mg base (bq P w) 9 "read_part" ["reader","part","told"] (Bg K R C))
 (GE:aN P w K mg base (bq P w) (k+9) "read_ending" ["reader","told","around"] (HP K R C h)):aD P w K mg base (bq P w) (k+10) f fd ["reader","around"] (Bj K R C h):=by
 obtain⟨fa,kY,ma,Ga,ba⟩:=N.m.c_;obtain⟨fr,ip,mr,Gr,br⟩:=N.m.ref;refine F.oX wJ λaF A outer s H vs Q E hr h=> ?_;obtain⟨H0,HS,A,t,ls,ts,left,ar,rfl,ha,r,q⟩:=h;have cN:=hr.mono (show 1<=k+9 by omega)
 have fh:=hr.mono (show 3<=k+9 by omega)
 have mE:=hr.mono (show 6<=k+9 by omega)
 have hr9:=hr.mono (show 9<=k+9 by omega)
 refine⟨_,ay (bH (i:=2) wJ.nd rfl (aZ rfl) (aP (aP (pv 0) rfl) rfl))
  (ay (bH (i:=3) wJ.nd rfl (aZ rfl) (aY GS cN a_ (ai (pv 2) aj)))
  (ay (bO (jk (pv 0) N.m.k.cls mr Gr fh br .nil cS (ai (JH (yw (yu (pv 3))) (Cn (oM gz (aP (aP (pv 0) rfl) rfl) (b_ g.Z0) (bQ _)))) aj)))
  (ay (cT (aP (pv 0) rfl) (cy i8 (aP (aP (pv 0) rfl) rfl) aQ) rfl)
  (ay (bH (i:=4) wJ.nd rfl (aZ rfl) (aY GI fh a_ (ai (pv 2) aj)))
  (ay (bO (nI (pv 0) N.m.k.cls ma Ga mE ba .nil cS))
  (ay (zu qp ⟨rfl,rfl⟩ rfl (KZ (pv 3)) (λ_ _=>fv (i:=5) wJ.nd rfl (aZ rfl))
    (λpn xe E ht=>aw (bO (aY GP hr9 ht.passes (ai (pv 0) (ai (pv 5) (ai (pv 4) aj)))))))
  (ay (bO (aY GE hr cS (ai (pv 0) (ai (pv 4) (ai (pv 1) aj)))))
  (aw (bw (pv 4)))))))))),?_⟩
 obtain⟨tk,h1,dx,x,en,h2,h3,h4,h5,h6⟩:=r.rd;have le:=r.le;refine⟨_,rfl,_,_,_,_,_,rfl,h1,N.m.k.cls,N.m.k.token,rfl,_,_,_,_,_,rfl,h2,N.m.k.tok.cls,N.m.k.tok.text,rfl,?_⟩;refine⟨_,rfl,x,rfl,?_⟩;have Ox:(MP.shapeOf x=none\/left=0)->pj C E H0 (here ts):=λhb=>by
  have ee:c7 ls.length (braces ls.length h) left ts=.error (here ts):=by
   rcases hb with z|z
   ·by_cases y:∃w,Vaarrj.next ts=.word w
    ·obtain⟨w,hw⟩:=y;have:x=w:=by have:=h3;unfold MP.Tk at this;rw[hw] at this;exact this.1
     subst this;exact MP.T_ hw z
    ·exact MP.DN λw hw=>y ⟨w,hw⟩
   ·subst z;exact MP.T9
  rw[ee] at q;exact q
 refine⟨_,rfl,_,_,_,rfl,h1,rfl,_,rfl,_,rfl,?_⟩;cases sh:MP.shapeOf x with
 |none=>
  exact⟨H0,HS,A,t,ls,ts,left,false,rfl,r,(λz=>nomatch z),λ_=>Ox (.inl sh)⟩
 |some sp=>
  refine⟨_,rfl,_,_,_,_,_,rfl,h1,N.m.k.cls,N.m.k.code,rfl,_,_,_,_,_,rfl,r.cd,N.m.k.jd,N.m.k.size,rfl,_,_,rfl,rfl,H0,HS,A,t,ls,ts,left,_,rfl,r,λz=> ?_,λz=>Ox (.inr ?_)⟩
  ·have l0:left≠0:=λy=>by have:=of_decide_eq_true z;rw[y] at this;exact absurd this (by decide)
   have hw:Vaarrj.next ts=.word x:=h3.shape sh;have Oy:=MP.UZ sh;have wy:=MP.UY (N:=t.length) (n:=ls.length) (sub:=braces ls.length h) (λl=>MP.T6 h l) hw l0 sh;have q2:Rr C E H0 (MP.way t.length ls.length (braces ls.length h) x sp left ts) λy=>∃i,MP.LL y.1 y.2.1.1 i/\ ∀H' cO ti,cF K C H0 cO A t ls y.2.2 y.2.1.2 H'->gN HS cO H->fX R cO i ti->Kr A H H'->Q (.ref ti) H':=by
    cases ew:MP.way t.length ls.length (braces ls.length h) x sp left ts with
    |error p=>rw[ew] at wy;rw[wy] at q;exact q
    |ok y=>
     rw[ew] at wy;obtain⟨i,e1,e2⟩:=wy;rw[e1] at q;exact⟨i,e2,q⟩
   have q3:=Rr.bind q2;refine⟨_,rfl,_,_,_,_,_,rfl,h1,N.m.k.cls,N.m.k.code,rfl,_,_,_,_,_,rfl,r.cd,N.m.k.jd,N.m.k.size,rfl,_,_,rfl,rfl,_,rfl,_,_,_,_,_,rfl,h1,N.m.k.cls,N.m.k.code,rfl,_,_,_,_,rfl,r.cd,N.m.k.jd,N.m.k.size,(by show 3<1000;decide),?_⟩
   obtain⟨r1,k1⟩:=r.size l0;have ee:aA "size" (.int (((512-left:Nat):Int)+1)) (n9 A (512-left))=n9 A (512-(left-1)):=by
    rw[show(((512-left:Nat):Int)+1)=((512-(left-1):Nat):Int) by omega];rfl
   rw[ee];generalize upd H A.cd (.ins C.code A.gU (n9 A (512-(left-1))))=H1 at r1 k1;refine⟨_,rfl,x,rfl,λH2 D tn=> ?_⟩;obtain⟨up,nd,fr,t1,t2,t3,t4,t5,t6,t7,t8⟩:=tn;have r2:=r1.more up;obtain⟨uL,g1,_⟩:=r1.rd;obtain⟨xs,gb⟩:=r1.bt;have f1:H1 D.td=none:=fr _ (by simp)
   have f2:H1 D.pl=none:=fr _ (by simp)
   have f3:H1 D.ol=none:=fr _ (by simp)
   have f5:H1 D.cc=none:=fr _ (by simp)
   have oh:∀{y z:ae} {o:HO},H1 y=none->H1 z=some o->y≠z:=λa b c=>by rw[c,b] at a;cases a
   have z0:∀{y:ae},H1 y=none->H0 y=none:=λ{y} hy=>by
    cases z:H0 y with
    |none=>rfl
    |some o=>rw[r1.old _ _ z] at hy;cases hy
   have zS:∀{y:ae},H1 y=none->HS y=none:=λ{y} hy=>by
    cases z:HS y with
    |none=>rfl
    |some o=>rw[r1.set _ _ z] at hy;cases hy
   have zH:∀{y:ae},H1 y=none->H y=none:=λ{y} hy=>by
    cases z:H y with
    |none=>rfl
    |some o=>
     exfalso;by_cases y1:y=A.rd
     ·rw[y1,g1] at hy;cases hy
     ·by_cases y2:y=A.cd
      ·rw[y2,r1.cd] at hy;cases hy
      ·rw[k1 _ _ z y1 y2] at hy;cases hy
   have d2:fj R H0 HS A D (MP.dN x) H2:=⟨t1,t2,by rw[t3,t6];rfl,⟨oh f1 g1,oh f1 r1.cd,λz=>by simp[z] at nd,oh f2 r1.ll,oh f3 r1.ll⟩,⟨z0 f1,z0 f2,z0 f3⟩,⟨zS f1,zS f2,zS f3⟩,by rw[t8];decide,by rw[t6];decide⟩
   obtain⟨pq,g2,_⟩:=r2.rd;refine⟨_,rfl,_,_,_,rfl,g2,rfl,H0,HS,A,t,ls,ts,left-1,rfl,r2,(by rw[hw];exactλy=>nomatch y),q3.mono λa ha3 H3 r3 k3=> ?_⟩
   have d3:=d2.kr r2 k3;have q4:=Rr.bind ha3;refine⟨_,rfl,S sp,rfl,acY (x:=S sp) (λi σ H'=>∃τ' us v5,σ=[some (.ref A.rd),some (.int (ar:Int)),some (.str (S x)),some (.str (S sp)),some (.ref D.td),v5]/\cF K C H0 HS A t ls us (left-1) H'/\fj R H0 HS A D τ' H'/\τ'.parts.length<=1+i/\τ'.args.length<=i/\ (τ'.mask=none\/i=sp.length)/\τ'.act=(MP.dN x).act/\Kd A D H3 H'/\
    aJ t.length (fG ls.length sp (MP.dN x) a.2)=aJ t.length (fG ls.length (sp.drop i) τ' us)) ⟨MP.dN x,a.2,none,rfl,r3,d3,by rw[t8];decide,by rw[t6];decide,.inl t7,rfl,Kd.of Kr.refl,rfl⟩ (λi c σ H' hi p=> ?_) λσ H' p=> ?_⟩
   ·obtain⟨τ',us,v5,rfl,r4,d4,l1,l2,mk,ac,k4,eq⟩:=p;have hi:sp[i]? =some c:=by
     have:(S sp).cps[i]? =sp[i]? :=by show sp.toArray[i]? =_;simp
     rw[<-this];exact hi
    obtain⟨pc,lst⟩:=MP.U1 Oy hi;have il:=(dy.mp hi).1;have l5:=MP.U0 Oy;have dr:sp.drop i=c::sp.drop (i+1):=by
     obtain⟨hl,e1⟩:=dy.mp hi;rw[<-e1];exact qO hl
    rw[eq,dr,MP.Lh] at q4;have q5:=Rr.bind q4;refine⟨_,rfl,_,rfl,_,rfl,H0,HS,A,D,t,ls,us,left-1,τ',c,rfl,pc,r4,d4,by omega,by omega,λz=>mk.elim id λy=>by omega,?_⟩
    unfold Be;cases ep:aJ t.length (dX ls.length c τ' us) with
    |error p=>rw[ep] at q5;exact q5
    |ok y=>
     have pa:=MP.LM (MP.nQ ep).1;intro H5 r5 d5 k5;refine⟨y.1,y.2,_,rfl,r5,d5,by omega,by omega,?_,by rw[pa.1];exact ac,k4.trans k5,?_⟩
     ·by_cases Oz:c=63
      ·exact .inr (lst Oz)
      ·rcases mk with z|z
       ·exact .inl (by rw[MP.UT Oz (MP.nQ ep).1];exact z)
       ·omega
     ·rw[eq,dr,MP.Lh,ep];rfl
   ·obtain⟨τ',us,v5,rfl,r4,d4,l1,l2,mk,ac,k4,eq⟩:=p;have sz:(S sp).cps.size=sp.length:=by show sp.toArray.size=_;simp
    rw[sz,BY] at eq;have eq:aJ t.length (fG ls.length sp (MP.dN x) a.2)=.ok (τ',us):=by
     rw[eq];exact MP.i_ (x:=(τ',us)) r4.good
    rw[eq] at q4;have q5:=Rr.bind q4;rw[<-ac] at q5;refine⟨_,rfl,_,rfl,_,rfl,H0,HS,A,D,t,ls,us,left-1,τ',ar,rfl,ha,r4,d4,q5.mono λu hu H5 qD D5 r5 g5 d5 oj k5=> ?_⟩;obtain⟨i,⟨ti,hi⟩,hk⟩:=hu;have c1:D.cc≠A.rd:=oh f5 g1;have c2:D.cc≠A.cd:=oh f5 r1.cd;have c3:D.cc≠D.td:=λz=>by simp[z] at nd
    have c4:D.cc≠D.pl:=λz=>by simp[z] at nd
    have c5:D.cc≠D.ol:=λz=>by simp[z] at nd
    have OA:H' D.cc=some (.lst []):=k4 _ _ (k3 _ _ t5 c1 c2) c1 c2 c3 c4 c5;have cc5:H5 D.cc=some (.lst []):=k5 _ _ OA c1 c2 c3;have ccS:qD D.cc=none:=g5.none (zS f5) OA;have eD:D5.td=D.td/\D5.fY=D.fY/\D5.pl=D.pl/\D5.ol=D.ol:=by
     cases eu:u.1.1 with
     |plain=>rw[eu] at oj;have:D5=D:=oj;rw[this];exact⟨rfl,rfl,rfl,rfl⟩
     |one b=>rw[eu] at oj;obtain⟨bb,de,z,_⟩:=oj;rw[z];exact⟨rfl,rfl,rfl,rfl⟩
     |two b c=>
      rw[eu] at oj;obtain⟨bb,de,_,_,⟨_,z⟩|⟨cc,sq,z,_⟩⟩:=oj
      ·rw[z];exact⟨rfl,rfl,rfl,rfl⟩
      ·rw[z];exact⟨rfl,rfl,rfl,rfl⟩
    have nT:∀{y:ae},H1 y=none->y≠A.ll/\y≠A.bl/\y≠A.rd/\y≠A.cd:=λhy=>⟨oh hy r1.ll,oh hy gb,oh hy g1,oh hy r1.cd⟩;obtain⟨dt,dp,px,pz⟩:=eD;have s1:=(((r5.settle cc5 (z0 f5) c1 c2 (nT f5).1 (nT f5).2.1).settle (x:=D5.ol) d5.ol (by rw[pz];exact z0 f3) (by rw[pz];exact(nT f3).2.2.1) (by rw[pz];exact(nT f3).2.2.2) (by rw[pz];exact(nT f3).1) (by rw[pz];exact(nT f3).2.1)).settle (x:=D5.pl) d5.pl (by rw[px];exact z0 f2) (by rw[px];exact(nT f2).2.2.1) (by rw[px];exact(nT f2).2.2.2) (by rw[px];exact(nT f2).1) (by rw[px];exact(nT f2).2.1)).settle (x:=D5.td) d5.td (by rw[dt];exact z0 f1) (by rw[dt];exact(nT f1).2.2.1) (by rw[dt];exact(nT f1).2.2.2) (by rw[dt];exact(nT f1).1) (by rw[dt];exact(nT f1).2.1)
    have pA:∀b o,qD b=some o->upd (upd (upd (upd qD D.cc (.lst [])) D5.ol (.lst (τ'.args.map V.int))) D5.pl (.lst (τ'.parts.map λx=>V.str (S x)))) D5.td (.ins R.ins D5.fY (dO D5 τ')) b=some o:=λb o eb=>by
     rw[ak (bD eb d5.nS.1),ak (bD eb d5.nS.2.1),ak (bD eb d5.nS.2.2),ak (bD eb ccS)];exact eb
    have g6:gN HS qD H:=⟨g5.1,λb o eb=>(g5.2 b o eb).imp id λy=> ?_⟩
    ·have g7:gN HS (upd (upd (upd (upd qD D.cc (.lst [])) D5.ol (.lst (τ'.args.map V.int))) D5.pl (.lst (τ'.parts.map λx=>V.str (S x)))) D5.td (.ins R.ins D5.fY (dO D5 τ'))) H:=
      (((g6.one (H1:=H) r.set (zH f5)).one (H1:=H) r.set (by rw[pz];exact zH f3)).one (H1:=H) r.set (by rw[px];exact zH f2)).one (H1:=H) r.set (by rw[dt];exact zH f1)
     have pt:D5.pl≠D5.td:=by rw[px,dt];exactλz=>by simp[z] at nd
     have ot:D5.ol≠D5.td:=by rw[pz,dt];exactλz=>by simp[z] at nd
     have op:D5.ol≠D5.pl:=by rw[pz,px];exactλz=>by simp[z] at nd
     have xx:=acZ (R:=R) (HS:=upd (upd (upd (upd qD D.cc (.lst [])) D5.ol (.lst (τ'.args.map V.int))) D5.pl (.lst (τ'.parts.map λx=>V.str (S x)))) D5.td (.ins R.ins D5.fY (dO D5 τ'))) ti aB (by rw[ak pt,aB]) (by rw[ak ot,ak op,aB])
     have HR:upd (upd (upd (upd qD D.cc (.lst [])) D5.ol (.lst (τ'.args.map V.int))) D5.pl (.lst (τ'.parts.map λx=>V.str (S x)))) D5.td (.ins R.ins D5.fY (dO D5 τ')) D.cc=some (.lst []):=by rw[ak (by rw[dt];exact c3),ak (by rw[px];exact c4),ak (by rw[pz];exact c5),aB]
     have kf:Kr A H H5:=λb o eb n1 n2=>by
      have nb:∀{y:ae},H1 y=none->b≠y:=λhy z=>by rw[z,zH hy] at eb;cases eb
      exact k5 _ _ (k4 _ _ (k3 _ _ (up _ _ (k1 _ _ eb n1 n2)) n1 n2) n1 n2 (nb f1) (nb f2) (nb f3)) n1 n2 (nb f1)
     generalize upd (upd (upd (upd qD D.cc (.lst [])) D5.ol (.lst (τ'.args.map V.int))) D5.pl (.lst (τ'.parts.map λx=>V.str (S x)))) D5.td (.ins R.ins D5.fY (dO D5 τ'))=HS6 at s1 pA g7 xx HR;refine⟨_,rfl,?_⟩;rw[<-dt];refine hk H5 HS6 D5.td s1 g7 ?_ kf;cases eu:u.1.1 with
     |plain=>
      rw[eu] at hi;obtain⟨n1,n2⟩:=hi;cases i with
      |for_ d c b=>exact absurd rfl (n1 d c b)
      |when s b c=>exact absurd rfl (n2 s b c)
      |_=>simp only[fX];exact⟨_,_,xx⟩
     |one b=>
      rw[eu] at hi oj;obtain⟨d,c,rfl⟩:=hi;obtain⟨bb,de,z,hb,hB⟩:=oj;simp only[fX];exact⟨_,_,de,xx,by rw[z];exact pA _ _ hb,b9.mono pA hB,by rw[z];exact HR⟩
     |two b c=>
      rw[eu] at hi oj;obtain⟨s,rfl⟩:=hi;obtain⟨bb,de,hb,hB,⟨rfl,z⟩|⟨cc,sq,z,hc,hC⟩⟩:=oj
      ·simp only[fX];exact⟨_,_,de,[],xx,by rw[z];exact pA _ _ hb,b9.mono pA hB,by rw[z];exact HR,by simp only[b9]⟩
      ·simp only[fX];exact⟨_,_,de,sq,xx,by rw[z];exact pA _ _ hb,b9.mono pA hB,by rw[z];exact pA _ _ hc,b9.mono pA hC⟩
    ·
     cases z:H b with
     |none=>rfl
     |some o2=>
      exfalso;by_cases y1:b=A.rd
      ·obtain⟨_,y2,_⟩:=r4.rd;rw[y1,y2] at y;cases y
      ·by_cases y2:b=A.cd
       ·rw[y2,r4.cd] at y;cases y
       ·have nb:∀{v:ae},H1 v=none->b≠v:=λhv w=>by rw[w,zH hv] at z;cases z
        rw[k4 _ _ (k3 _ _ (up _ _ (k1 _ _ z y1 y2)) y1 y2) y1 y2 (nb f1) (nb f2) (nb f3)] at y;cases y
  ·have:=of_decide_eq_false z;omega
end
section
variable{P:aS}{w:aL}{K:az}{mg:Str->Option ah}{base:aC}{f:ae}{fd:bK}{R:Cl}{C:Cg}
def OB(C:Cg):Sp:=λvs H Q _=>∃p dx,vs=[.ref p]/\H p=some (.ins C.code dx [])/\ ∀H' ll bl,Made p H H' [ll,bl]->H' p=some (.ins C.code dx [("lengths",.ref ll),("body",.ref bl),("size",.int 0)])->H' ll=some (.lst [])->H' bl=some (.lst [])->Q .aO H'
theorem ac1(F:aG K "__init__" "Code.__init__" z7 f fd)(k:jU K C):aD P w K mg base au 1 f fd ["self"] (OB C):=by
 refine F.oK Y3 λaF A outer s H vs Q E hr h=> ?_;obtain⟨a,dx,rfl,ha,q⟩:=h;refine⟨_,ay (cT (pv 0) (cR aj) rfl) (ay (cT (pv 0) (cR aj) rfl) (aw (cT (pv 0) aQ rfl))),?_⟩;have m0:Made a H H []:=Made.refl ⟨_,ha⟩;refine⟨eV _,λll Bm=> ?_⟩;have nl:ll≠a:=λz=>by rw[z,ha] at Bm;cases Bm
 have m1:=m0.one (o:=.lst []) Bm (λb u eb=>by rw[ak (bD eb Bm)];exact eb) aB
 have v1:upd H ll (.lst []) ll=some (.lst []):=aB;have a1:upd H ll (.lst []) a=some (.ins C.code dx []):=by rw[ak (Ne.symm nl)];exact ha
 generalize upd H ll (.lst [])=H1 at m1 v1 a1;refine⟨_,rfl,_,_,_,_,rfl,a1,k.jd,k.lengths,(by show 0<1000;decide),?_⟩
 have m2:=m1.write (o:=.ins C.code dx (aA "lengths" (.ref ll) []));have v2:upd H1 a (.ins C.code dx (aA "lengths" (.ref ll) [])) ll=some (.lst []):=by rw[ak nl];exact v1
 have a2:upd H1 a (.ins C.code dx (aA "lengths" (.ref ll) [])) a=some (.ins C.code dx (aA "lengths" (.ref ll) [])):=aB;generalize upd H1 a (.ins C.code dx (aA "lengths" (.ref ll) []))=H2 at m2 v2 a2;refine⟨eV _,λbl eN=> ?_⟩;have nb:bl≠a:=λz=>by rw[z,a2] at eN;cases eN
 have lb:ll≠bl:=bD v2 eN;have m3:=m2.one (o:=.lst []) eN (λb u eb=>by rw[ak (bD eb eN)];exact eb) aB
 have v3:upd H2 bl (.lst []) ll=some (.lst []):=by rw[ak lb];exact v2
 have w3:upd H2 bl (.lst []) bl=some (.lst []):=aB;have a3:upd H2 bl (.lst []) a=some (.ins C.code dx (aA "lengths" (.ref ll) [])):=by rw[ak (Ne.symm nb)];exact a2
 generalize upd H2 bl (.lst [])=H3 at m3 v3 w3 a3;refine⟨_,rfl,_,_,_,_,rfl,a3,k.jd,k.body,(by show 1<1000;decide),?_⟩
 refine⟨_,rfl,_,_,_,_,rfl,aB,k.jd,k.size,(by show 2<1000;decide),?_⟩
 exact q _ ll bl (m3.write.write) (by rw[aB];rfl) (by rw[ak nl,ak nl];exact v3) (by rw[ak nb,ak nb];exact w3)
structure HU(K:az)(mg:Str->Option ah)(C:Cg):Prop where
 code:∃f fd,Mk K C.code f/\aG K "__init__" "Code.__init__" z7 f fd/\mg "Code"=some (.ref C.code)
 dv:∃f fd,Mk K C.dv f/\aG K "__init__" "Reader.__init__" z8 f fd/\mg "Reader"=some (.ref C.dv)
def mH:Hp:=λ_=>none
def OC(K:az)(C:Cg):Sp:=λvs H Q E=>∃H0 p dx tx t,vs=[.ref p,.ref tx]/\H p=some (.ins C.dv dx [])/\H0 p=none/\ (∀b o,H0 b=some o->H b=some o)/\aI K H0 tx (dQ t)/\t.length<=20000/\ (bad t.length (T t 0)->pj C E H0 (here (T t 0)))/\
 (¬bad t.length (T t 0)->∀H' A,A.rd=p->cF K C H0 mH A t [] (T t 0) 512 H'->H' A.bl=some (.lst [])->A.ll≠A.bl->Q .aO H')
theorem ac2(F:aG K "__init__" "Reader.__init__" z8 f fd)(k:jU K C)(RC:HU K mg C)(GT:aN P w K mg base (bq P w) 5 "token_at" ["text","at"] (xp K C)):aD P w K mg base (bq P w) 6 f fd ["self","text"] (OC K C):=by
 obtain⟨fc,fdc,Mc,Fc,mC⟩:=RC.code;have GC:aD P w K mg base au 1 fc fdc ["self"] (OB C):=ac1 Fc k;have bC:=Fc.b1 "self";refine F.oX Y5 λaF A outer s H vs Q E hr h=> ?_;obtain⟨H0,p,dx,tx,t,rfl,hp,ph,old,Bn,tl,qb,q⟩:=h;have iX:=hr.mono (show 2<=5 by decide)
 refine⟨_,ay (cT (pv 0) (pv 1) rfl) (ay (cT (pv 0) (aY GT hr cS (ai (pv 1) (ai aQ aj))) rfl) (aw (cT (pv 0) (Ka Mc GC iX rfl mC bC .nil a_) rfl))),?_⟩;refine⟨_,rfl,_,rfl,_,_,_,_,rfl,hp,k.cls,k.text,(by show 0<1000;decide),?_⟩
 have Bo:∀b o,H0 b=some o->upd H p (.ins C.dv dx (aA "text" (.ref tx) [])) b=some o:=λb o e=>by rw[ak λz=>by rw[z,ph] at e;cases e];exact old b o e
 have p1:upd H p (.ins C.dv dx (aA "text" (.ref tx) [])) p=some (.ins C.dv dx (aA "text" (.ref tx) [])):=aB;generalize upd H p (.ins C.dv dx (aA "text" (.ref tx) []))=H1 at Bo p1;refine⟨_,rfl,H0,tx,t,0,rfl,tY.seq Bo Bn,eV _,tl,Bo,qb,λnb H2 tk k2 hk tkA=> ?_⟩;refine⟨_,rfl,_,_,_,_,rfl,k2 _ _ p1,k.cls,k.token,(by show 1<1000;decide),?_⟩
 have tp:tk≠p:=λz=>by rw[z,p1] at hk;cases hk
 have HV:∀b o,H0 b=some o->upd H2 p (.ins C.dv dx (aA "token" (.ref tk) (aA "text" (.ref tx) []))) b=some o:=λb o e=>by rw[ak λz=>by rw[z,ph] at e;cases e];exact k2 _ _ (Bo b o e)
 have p3:upd H2 p (.ins C.dv dx (aA "token" (.ref tk) (aA "text" (.ref tx) []))) p=some (.ins C.dv dx (aA "token" (.ref tk) (aA "text" (.ref tx) []))):=aB;have t3:pk C t (T t 0) tk (upd H2 p (.ins C.dv dx (aA "token" (.ref tk) (aA "text" (.ref tx) [])))):=by
  obtain⟨d1,x,e,a1,a2⟩:=tkA;exact⟨d1,x,e,by rw[ak tp];exact a1,a2⟩
 generalize upd H2 p (.ins C.dv dx (aA "token" (.ref tk) (aA "text" (.ref tx) [])))=H3 at HV p3 t3;refineλc dc nc nd ne=>⟨c,dc,rfl,aB,λH4 ll bl m h1 h2 h3=>⟨rfl,?_⟩⟩;obtain⟨m4,k4⟩:=Made.nest p3 nc nd m;refine⟨_,rfl,_,_,_,_,rfl,k4 _ _ p3,k.cls,k.code,(by show 2<1000;decide),?_⟩
 have np:∀a∈[c,ll,bl],a≠p:=λa ha z=>by have:=m4.fr a ha;rw[z,p3] at this;cases this
 have f0:∀a∈[c,ll,bl],H0 a=none:=λa ha=>by
  cases z:H0 a with
  |none=>rfl
  |some o=>have:=m4.fr a ha;rw[HV _ _ z] at this;cases this
 have kk:∀b o,H4 b=some o->b≠p->upd H4 p (.ins C.dv dx (aA "code" (.ref c) (aA "token" (.ref tk) (aA "text" (.ref tx) [])))) b=some o:=λb o e n=>by rw[ak n];exact e
 have lb:ll≠bl:=λz=>by have:=m.nd;simp[z] at this
 refine q nb _ ⟨p,dx,tx,c,dc,ll,bl⟩ rfl ⟨⟨tk,aB,?_⟩,kk _ _ h1 (np c (by simp)),kk _ _ h2 (np ll (by simp)),Bn,tl,nb,bE _,by simp,λb o e=>kk _ _ (k4 _ _ (HV b o e)) (λz=>by rw[z,ph] at e;cases e),(λb o e=>nomatch e),⟨ph,f0 c (by simp),f0 ll (by simp),f0 bl (by simp)⟩,⟨rfl,rfl,rfl,rfl⟩,(λb o e=>nomatch e),[],kk _ _ h3 (np bl (by simp))⟩ (kk _ _ h3 (np bl (by simp))) lb
 obtain⟨d1,x,e,a1,a2⟩:=t3;exact⟨d1,x,e,kk _ _ (k4 _ _ a1) tp,a2⟩
end
structure HW(K:az)(mg:Str->Option ah):Prop where
 ac3:Dd K mg "is_digit" zM
 ac4:Dd K mg "is_letter" zN
 character:Dd K mg "character" zO
 ac5:Dd K mg "characters" wD
 decimal:Dd K mg "decimal" zQ
 ac6:Dd K mg "remark_end" zR
 ac7:Dd K mg "token_start" zT
 ac8:Dd K mg "word_at" zV
 ac9:Dd K mg "number_at" zW
 ada:Dd K mg "token_at" zY
 adb:Dd K mg "how_many" z9
 ade:Dd K mg "read_named" z_
 adf:Dd K mg "read_operator" FN
 adg:Dd K mg "read_signed" FO
 adh:Dd K mg "read_place" FP
 adi:Dd K mg "read_mask" FQ
 adj:Dd K mg "read_part" Ab
 adk:Dd K mg "shape_of" Ad
 adl:Dd K mg "instruction_of" Ae
 adm:Dd K mg "read_block" Af
 adn:Dd K mg "read_ending" FU
 ado:Dd K mg "read_instruction" FV
 adp:Dd K mg "read_array" FW
def Md(K:az)(C:ae)(x q:Str)(st:cD):Prop:=∃f fd,Meth K C x f/\aG K x q st f fd
structure Gr(K:az)(w:aL)(mg:Str->Option ah)(R:Cl)(C:Cg):Prop where
 d:HW K mg
 g:GI mg
 e:EK K R
 k:jU K C
 fc:n6 K mg C
 tc:qy K mg C
 bl:AY K mg
 sg:A6 K w mg
 on:so K w mg
 sh:Shapes K w mg
 ic:Bi K mg R
 rc:HU K mg C
 c_:Md K C.dv "advance" "Reader.advance" wF
 ref:Md K C.dv "refuse_unless" "Reader.refuse_unless" wG
 pass:Md K C.dv "pass_by" "Reader.pass_by" wH
 up:Md K C.dv "number_up_to" "Reader.number_up_to" wI
section
variable{P:aS}{w:aL}{K:az}{mg:Str->Option ah}{base:aC}{R:Cl}{C:Cg}
theorem OE(G:Gr K w mg R C):aN P w K mg base (bq P w) 5 "token_at" ["text","at"] (xp K C):=by
 obtain⟨_,_,F1⟩:=G.d.ac3;obtain⟨_,_,F2⟩:=G.d.ac4;obtain⟨_,_,F3⟩:=G.d.character;obtain⟨_,_,F4⟩:=G.d.ac5;obtain⟨_,_,F5⟩:=G.d.decimal;obtain⟨_,_,F6⟩:=G.d.ac6;obtain⟨_,_,F7⟩:=G.d.ac7;obtain⟨_,_,F8⟩:=G.d.ac8;obtain⟨_,_,F9⟩:=G.d.ac9;obtain⟨_,_,F10⟩:=G.d.ada;have GD:=abN (P:=P) (w:=w) (base:=base) F1 G.g;have GL:=abO (P:=P) (w:=w) (base:=base) F2 G.g;have GC:=abZ F4 (abS (P:=P) (w:=w) (base:=base) F3 G.g GD);have GN:=NW (P:=P) (w:=w) (base:=base) F5 G.g;exact acb F10 G.g G.tc G.fc G.sg (ab4 F7 G.g G.bl (ab1 F6 G.g)) GL GD (ab6 F8 G.g G.tc GL GD GC) (ab9 F9 G.g G.tc G.fc GD GC GN)
theorem OF(G:Gr K w mg R C):aN P w K mg base au 1 "decimal" ["digits","most"] qx:=by
 obtain⟨_,_,F5⟩:=G.d.decimal;exact NW F5 G.g
theorem uM(G:Gr K w mg R C):qz P w K mg base C:=by
 obtain⟨_,_,m1,F1⟩:=G.c_;obtain⟨_,_,m2,F2⟩:=G.ref;exact⟨G.k,⟨_,_,m1,acq F1 G.k (OE G),F1.b1 "self"⟩,⟨_,_,m2,acv F2 G.k G.fc,F2.b2 "self" "fits"⟩⟩
theorem sr(G:Gr K w mg R C):qA P w K mg base C:=by
 obtain⟨_,_,m1,F1⟩:=G.pass;obtain⟨_,_,m2,F2⟩:=G.up;exact⟨uM G,⟨_,_,m1,acx F1 (uM G),F1.b2 "self" "text"⟩,⟨_,_,m2,acz F2 (uM G) (OF G),F2.b2 "self" "most"⟩⟩
theorem adq(G:Gr K w mg R C):aN P w K mg base (bq P w) 9 "read_part" ["reader","part","told"] (Bg K R C):=by
 obtain⟨_,_,F1⟩:=G.d.adb;obtain⟨_,_,F2⟩:=G.d.ade;obtain⟨_,_,F3⟩:=G.d.adf;obtain⟨_,_,F4⟩:=G.d.adg;obtain⟨_,_,F5⟩:=G.d.adh;obtain⟨_,_,F6⟩:=G.d.adi;obtain⟨_,_,F7⟩:=G.d.adj;have GN:=acF (P:=P) (w:=w) (base:=base) F2 (uM G) (OF G) (acB F1 G.k G.g);have b:∀{x:Str} {st:cD} {f:ae} {fd:bK},(∀us:List ah,us.length=2->True)->True:=λ_=>trivial;exact acL F7 G.e G.g
  (Bf F3 (F3.1.b2 "reader" "told") (acG F3.1 (uM G) G.e G.on))
  (Bf F4 (F4.1.b2 "reader" "told") (acJ F4.1 (sr G) G.e G.g))
  (Bf F5 (F5.1.b2 "reader" "told") (acH F5.1 (sr G) G.e G.g))
  (Bf F6 (F6.1.b2 "reader" "told") (acI F6.1 (uM G) G.e G.g GN)) GN
theorem OG{h k:Nat}(G:Gr K w mg R C)(GB:aN P w K mg base (bq P w) (k+7) "read_block" ["reader","around"] (xw K R C h)):aN P w K mg base (bq P w) (k+10) "read_instruction" ["reader","around"] (Bj K R C h):=by
 obtain⟨_,_,F1⟩:=G.d.adk;obtain⟨_,_,F2⟩:=G.d.adl;obtain⟨_,_,F3⟩:=G.d.adn;obtain⟨_,_,F4⟩:=G.d.ado;have GE:aN P w K mg base (bq P w) (k+9) "read_ending" ["reader","told","around"] (HP K R C h):=
  ⟨_,_,(acX F3.1 (sr G) G.e G.g GB).mono (by omega),F3.2,F3.1.kp,F3.1.b3 "reader" "told" "around"⟩
 exact⟨_,_,ac0 F4.1 (sr G) G.e G.g (acO F1 G.g G.on G.sh) (acS F2 G.e G.on G.ic) (adq G) GE,F4.2,F4.1.kp,F4.1.b2 "reader" "around"⟩
theorem ads(G:Gr K w mg R C):∀h,aN P w K mg base (bq P w) (4*h+7) "read_block" ["reader","around"] (xw K R C h):=by
 obtain⟨f,fd,F⟩:=G.d.adm;have b:=F.1.b2 "reader" "around";intro h
 induction h with
 |zero=>exact⟨f,fd,acT (k:=3) F.1 (sr G) G.g,F.2,F.1.kp,b⟩
 |succ h ih=>
  have GI:=OG (k:=4*h) G ih;exact⟨f,fd,acU (k:=4*h+2) F.1 (sr G) G.g GI,F.2,F.1.kp,b⟩
theorem adt(G:Gr K w mg R C):aN P w K mg base (bq P w) 42 "read_instruction" ["reader","around"] (Bj K R C 8):=OG (k:=32) G (ads G 8)
def OH(K:az)(C:Cg):Sp:=λvs H Q E=>∃H0 A t ls ts,vs=[.ref A.rd]/\cF K C H0 mH A t ls ts 512 H/\A.ll≠A.bl/\Vaarrj.next ts=.word (aE "array")/\ (32<=ls.length->pj C E H0 (here ts))/\
 (ls.length<32->Rr C E H0 (aJ t.length (MP.lR ts)) λu=>∀H',cF K C H0 mH A t (ls++[u.1]) u.2 512 H'->H' A.bl=H A.bl->Q .aO H')
theorem adu{f:ae}{fd:bK}(F:aG K "read_array" "read_array" FW f fd)(N:qA P w K mg base C)(g:GI mg):aD P w K mg base (bq P w) 8 f fd ["reader"] (OH K C):=by
 obtain⟨fr,ip,mr,Gr,br⟩:=N.m.ref;obtain⟨fa,kY,ma,Ga,ba⟩:=N.m.c_;obtain⟨fp,Oo,mp,Gp,bp⟩:=N.pass;obtain⟨fu,fdu,mu,Gu,bu⟩:=N.up;refine F.oX Zv λaF A outer s H vs Q E hr h=> ?_;obtain⟨H0,A,t,ls,ts,rfl,r,uN,hw,q1,q2⟩:=h;have fh:=hr.mono (show 3<=7 by decide)
 have mE:=hr.mono (show 6<=7 by decide)
 refine⟨_,ay (bO (jk (pv 0) N.m.k.cls mr Gr fh br .nil cS (ai (oM gz (eS iA (by rfl) g.fW gj (ai (aP (aP (pv 0) rfl) rfl) aj)) (b_ g.ZZ) (bQ _)) aj)))
  (ay (bO (nI (pv 0) N.m.k.cls ma Ga mE ba .nil cS))
  (ay (bO (iS i5 lD lE kd (aP (aP (pv 0) rfl) rfl) (ai (jk (pv 0) N.m.k.cls mu Gu hr bu .nil cS (ai (b_ g.Nk) aj)) aj)))
  (aw (bO (jk (pv 0) N.m.k.cls mp Gp hr bp .nil cS (ai bZ aj)))))),?_⟩
 obtain⟨tk,h1,dx,x,en,h2,h3,h4,h5,h6⟩:=r.rd;have es:(bV ";")=S [59]:=by decide+kernel
 have el:(iq ls).length=ls.length:=by unfold iq;rw[bx]
 refine⟨_,rfl,_,_,_,rfl,h1,rfl,_,rfl,_,_,_,_,_,rfl,h1,N.m.k.cls,N.m.k.code,rfl,_,_,_,_,_,rfl,r.cd,N.m.k.jd,N.m.k.lengths,rfl,_,_,rfl,.inl (aI.of r.ll),_,_,rfl,rfl,H0,mH,A,t,ls,ts,512,_,rfl,r,λz=> ?_,λz=>q1 ?_⟩
 ·have z:=of_decide_eq_true z;rw[el] at z;have HX:ls.length<32:=by omega
  have q:=q2 HX;rw[MP.Uk] at q;have q:=Rr.bind q;refine⟨_,rfl,_,_,_,rfl,h1,rfl,H0,mH,A,t,ls,ts,512,rfl,r,(by rw[hw];exactλy=>nomatch y),q.mono λa ha H1 r1 k1=> ?_⟩
  obtain⟨uL,g1,g2⟩:=r1.rd;have ha:=Rr.bind ha;have c1:A.ll≠A.rd:=cE r.ll h1 (by intro z;cases z)
  have c2:A.ll≠A.cd:=cE r.ll r.cd (by intro z;cases z)
  obtain⟨xs,rM⟩:=r.bt;have b1:A.bl≠A.rd:=cE rM h1 (by intro z;cases z)
  have b2:A.bl≠A.cd:=cE rM r.cd (by intro z;cases z)
  refine⟨_,rfl,_,_,_,_,_,rfl,g1,N.m.k.cls,N.m.k.code,rfl,_,_,_,_,_,rfl,r1.cd,N.m.k.jd,N.m.k.lengths,rfl,.inl ⟨rfl,_,aI.of r1.ll⟩,?_⟩;refine⟨_,rfl,_,_,_,rfl,g1,rfl,H0,mH,A,t,ls,a.2,512,1024,rfl,by decide,r1,ha.mono λv hv H2 r2 k2=> ?_⟩
  refine⟨_,_,_,rfl,rfl,r2.ll,(by rw[el,aR];omega),?_⟩
  obtain⟨pq,m1,AJ,x2,e2,m2,m3⟩:=r2.rd;have kk:∀b o,H2 b=some o->b≠A.ll->upd H2 A.ll (.lst (iq ls++[.int ((v.1:Nat):Int)])) b=some o:=λb o e n=>by rw[ak n];exact e
  have r3:cF K C H0 mH A t (ls++[v.1]) v.2 512 (upd H2 A.ll (.lst (iq ls++[.int ((v.1:Nat):Int)]))):=
   ⟨⟨pq,kk _ _ m1 (Ne.symm c1),AJ,x2,e2,kk _ _ m2 (cE m2 r2.ll (by intro z;cases z)),m3⟩,kk _ _ r2.cd (Ne.symm c2),(by rw[aB];unfold iq;rw[iw];rfl),r2.tx,r2.tl,r2.good,r2.le,(by rw[bU];simp;omega),λb o e=>kk _ _ (r2.old b o e) (λz=>by rw[z,r2.n0.2.2.1] at e;cases e),(λb o e=>nomatch e),r2.n0,r2.nS,r2.sn,xs,kk _ _ (k2 _ _ (k1 _ _ rM b1 b2) b1 b2) (Ne.symm uN)⟩
  have ev:aJ t.length ((Js 59 v.2).bind λu=>.ok (v.1,u.2))=j3 (λ_=>v.1) (aJ t.length (Js 59 v.2)):=by rw[<-MP.gk,MP.gL]
  rw[ev] at hv;have hv:=hv.also;obtain⟨tk3,n1,_⟩:=r3.rd;refine⟨_,rfl,_,_,_,rfl,n1,rfl,H0,mH,A,t,ls++[v.1],v.2,512,59,(by rw[<-es];rfl),by decide,r3,hv.mono λu hu H4 r4 k4=>hu H4 r4 ?_⟩
  rw[k4 _ _ (kk _ _ (k2 _ _ (k1 _ _ rM b1 b2) b1 b2) (Ne.symm uN)) b1 b2,rM]
 ·have:=of_decide_eq_false z;rw[el] at this;omega
end
open Vaarrj (readCode lengths)
open MP (tt)
def HY(R:Cl)(C:Cg)(HC:Hp)(cd:ae)(c:Ca):Prop:=∃gU ll bl ts,HC cd=some (.ins C.code gU [("lengths",.ref ll),("body",.ref bl),("size",.int ((c.body.size:Nat):Int))])/\HC ll=some (.lst (iq c.lengths))/\HC bl=some (.lst (ts.map V.ref))/\b9 R HC c.body ts
def HZ(R:Cl)(C:Cg)(H:Hp)(r:Except Nat Ca)(Q:VK)(E:XK):Prop:=match r with
 | .error p=>pj C E H p
 | .ok c=>MP.Good c->∀H' HC cd,(∀b o,H b=some o->H' b=some o)->(∀b o,HC b=some o->H' b=some o/\H b=none)->HY R C HC cd c->Q (.ref cd) H'
def xy(K:az)(R:Cl)(C:Cg):Sp:=λvs H Q E=>∃tx t,vs=[.ref tx]/\aI K H tx (dQ t)/\t.length<=20000/\HZ R C H (readCode t) Q E
section
variable{P:aS}{w:aL}{K:az}{mg:Str->Option ah}{base:aC}{R:Cl}{C:Cg}{f:ae}{fd:bK}
theorem adw{ts:aX}{N:Nat}{x:Nat×aX}(h:aJ N (MP.lR ts)=.ok x)(hw:Vaarrj.next ts=.word (aE "array")):x.2.length<ts.length:=by
 have h:=(MP.nQ h).1;unfold MP.lR at h;cases e:MP.fT 1024 (ts.drop 1) with
 |error p=>rw[e] at h;cases h
 |ok y=>
  rw[e] at h;simp only[i4] at h;have l1:y.2.length<=(ts.drop 1).length:=by
   unfold MP.fT at e
   split at e
   ·split at e
    ·cases e
    ·cases e;exact MP.qj _
   ·cases e
  cases e2:Js 59 y.2 with
  |error p=>rw[e2] at h;cases h
  |ok z=>
   rw[e2] at h;cases h;have l2:=MP.vI 59 _ _ e2;have l3:=MP.Lm (ts:=ts) (by rw[hw];exactλy=>nomatch y)
   show z.2.length<_;omega
theorem adx(F:aG K "read_code" "read_code" Ag f fd)(G:Gr K w mg R C):aD P w K mg base (bq P w) 43 f fd ["text"] (xy K R C):=by
 obtain⟨fi,e_,Mi,Fi,mI⟩:=G.rc.dv;have GR:aD P w K mg base (bq P w) 6 fi e_ ["self","text"] (OC K C):=ac2 Fi G.k G.rc (OE G);have bR:=Fi.b2 "self" "text";obtain⟨_,_,F1⟩:=G.d.adp;have GA:aN P w K mg base (bq P w) 8 "read_array" ["reader"] (OH K C):=⟨_,_,adu F1.1 (sr G) G.g,F1.2,F1.1.kp,F1.1.b1 "reader"⟩;have GI:=adt (P:=P) (base:=base) G;refine F.oX M_ λaF A outer s H vs Q E hr h=> ?_;obtain⟨tx,t,rfl,Bn,tl,q⟩:=h;have qB:=hr.mono (show 7<=42 by decide)
 have hr8:=hr.mono (show 8<=42 by decide)
 refine⟨_,ay (bH (i:=1) M_.nd rfl (aZ rfl) (j' Mi GR qB rfl mI bR .nil cS (ai (pv 0) aj)))
  (ay (zt qp ⟨rfl,rfl⟩ (λ_ _=>bW fR (jR (K:=K) rfl (jR (K:=K) rfl (pv 1) rfl) rfl) bZ (bQ _)) (λpn xe E ht=>aw (bO (aY GA hr8 ht.passes (ai (pv 1) aj)))))
  (ay (zt qp ⟨rfl,rfl⟩ (λ_ _=>bW jj (jR (K:=K) rfl (jR (K:=K) rfl (pv 1) rfl) rfl) bZ (bQ _))
    (λpn xe E ht=>aw (bO (Ol (K:=K) rfl i5 lD lE kd (jR (K:=K) rfl (jR (K:=K) rfl (pv 1) rfl) rfl) (ai (aY GI hr ht.passes (ai (pv 1) (ai aQ aj))) aj)))))
  (aw (bw (aP (pv 1) rfl))))),?_⟩
 rw[MP.Ul,<-MT.Lf] at q;refine⟨_,rfl,λp dx np nd ne=> ?_⟩;have up:∀b o,H b=some o->upd (upd H dx (.own p)) p (.ins C.dv dx []) b=some o:=λb o e=>by rw[ak (bD e np),ak (bD e nd)];exact e
 refine⟨H,p,dx,tx,t,rfl,aB,np,up,Bn,tl,λb=> ?_,λgd H1 A eA r1 AN uN=>⟨rfl,?_⟩⟩
 ·rw[MP.Ly 32 _ b] at q;exact q
 subst eA;have E1:Rr C E H (aJ t.length (lengths 32 (T t 0))) λl=>HZ R C H ((aJ t.length (tt t.length l.1.length (braces l.1.length 8) 512 l.2)).bind λb=>.ok ⟨l.1,b.1.1⟩) Q E:=by
  cases e:aJ t.length (lengths 32 (T t 0)) with
  |error p=>rw[e] at q;exact q
  |ok l=>rw[e] at q;exact q
 refine⟨λm σ H'=>∃ls us,m=us.length/\σ=[some (.ref tx),some (.ref A.rd)]/\cF K C H mH A t ls us 512 H'/\H' A.bl=some (.lst [])/\aJ t.length (lengths 32 (T t 0))=j3 (λl=>ls++l) (aJ t.length (lengths (32-ls.length) us)),⟨_,[],T t 0,rfl,rfl,r1,AN,?_⟩,?_⟩
 ·show _=j3 (λl=>l) (aJ t.length (lengths 32 (T t 0)));cases aJ t.length (lengths 32 (T t 0))<;>rfl
 rintro m σ H' ⟨ls,us,rfl,rfl,r2,ck,eq⟩;obtain⟨pq,g1,AJ,x,en,g2,g3,g4,g5,g6⟩:=r2.rd;have hs:=g3.LJ (w:=aE "array") (c:=97) (r:=[114,114,97,121]) (by decide+kernel) (by decide)
 have ln:=r2.ln;refine⟨_,rfl,_,_,_,_,_,rfl,g1,G.k.cls,G.k.token,rfl,_,_,_,_,_,rfl,g2,G.k.tok.cls,G.k.tok.text,rfl,rfl,_,rfl,?_⟩;rw[mG];refine bY (λz=> ?_) λz=> ?_
 ·
  have z:=hs.mp z;rw[eq] at E1;have E2:=E1.also;refine⟨_,λσ' H' x=>x,_,rfl,H,A,t,ls,us,rfl,r2,uN,z,λHX=> ?_,λHX=> ?_⟩
  ·rw[show 32-ls.length=0 by omega,MP.Lw z] at E2
   exact E2
  ·rw[show 32-ls.length=(32-(ls.length+1))+1 by omega,MP.Lz z] at E2
   have E3:=Rr.bind E2;cases ea:aJ t.length (MP.lR us) with
   |error p=>rw[ea] at E3;exact E3
   |ok v=>
    intro H3 r3 eh;have lt:=adw ea z;refine⟨v.2.length,lt,ls++[v.1],v.2,rfl,rfl,r3,by rw[eh];exact ck,?_⟩
    rw[eq,show 32-ls.length=(32-(ls.length+1))+1 by omega,MP.Lz z,ea,MP.fz,MP.DD,bU]
    show j3 (λx=>ls++v.1::x) _=j3 (λl=>(ls++[v.1])++l) _
    congr 1
    funext l
    rw[lq];rfl
 ·
  have z: ¬Vaarrj.next us=.word (aE "array"):=λy=>z (hs.mpr y);rw[MP.y4 z,MP.i_ (x:=(([]:List Nat),us)) r2.good] at eq;have eq:aJ t.length (lengths 32 (T t 0))=.ok (ls,us):=by rw[eq];show BZ (ls++[],us)=_;rw[dz]
  rw[eq] at E1;have E1:HZ R C H ((aJ t.length (tt t.length ls.length (braces ls.length 8) 512 us)).bind λb=>.ok ⟨ls,b.1.1⟩) Q E:=E1;have sh:∀l,MP.cz (braces ls.length 8 l):=λl=>MP.DP _ _ l;refine⟨λm σ H'=>∃vs eK cO is de,m=vs.length/\σ=[some (.ref tx),some (.ref A.rd)]/\cF K C H cO A t ls vs eK H'/\H' A.bl=some (.lst (de.map V.ref))/\b9 R cO (pre is .nil) de/\de.length+eK<=512/\
   aJ t.length (tt t.length ls.length (braces ls.length 8) 512 us)=j3 (λx=>(pre is x.1,x.2)) (aJ t.length (tt t.length ls.length (braces ls.length 8) eK vs)),⟨_,us,512,mH,[],[],rfl,rfl,r2,ck,(by show b9 R mH .nil [];simp only[b9]),by simp,?_⟩,?_⟩
  ·cases aJ t.length (tt t.length ls.length (braces ls.length 8) 512 us)<;>rfl
  rintro m σ H3 ⟨vs,eK,cO,is,de,rfl,rfl,r3,eh,hB,lnn,eq2⟩;obtain⟨tk3,m1,dx3,x3,en3,m2,m3,m4,m5,m6⟩:=r3.rd;have e0:(bV "")=S []:=by decide+kernel
  refine⟨_,rfl,_,_,_,_,_,rfl,m1,G.k.cls,G.k.token,rfl,_,_,_,_,_,rfl,m2,G.k.tok.cls,G.k.tok.text,rfl,rfl,_,rfl,?_⟩;rw[e0];have hx:(V.str (S x3)=V.str (S []))↔Vaarrj.next vs=.none:=⟨λy=>m3.none.mp (by injection y with y;exact MX.lY y),λy=>by rw[m3.none.mpr y]⟩
  refine nR (λy=> ?_) λy=> ?_
  ·have y:Vaarrj.next vs≠ .none:=λn=>y (hx.mpr n);have E2:Rr C E H (aJ t.length (c7 ls.length (braces ls.length 8) eK vs)) λ_=>True:=by
    cases ei:aJ t.length (c7 ls.length (braces ls.length 8) eK vs) with
    |ok i=>trivial
    |error p=>
     rw[eq2,MP.Ls sh y,ei] at E1;exact E1
   refine⟨_,λσ' H' x=>x,_,rfl,_,_,_,_,_,rfl,m1,G.k.cls,G.k.code,rfl,_,_,_,_,_,rfl,r3.cd,G.k.jd,G.k.body,rfl,.inl ⟨rfl,_,aI.of eh⟩,_,rfl,H,cO,A,t,ls,vs,eK,0,rfl,rfl,r3,?_⟩;cases ei:aJ t.length (c7 ls.length (braces ls.length 8) eK vs) with
   |error p=>rw[ei] at E2;exact E2
   |ok i=>
    have dn:=MP.D7 (MP.D8 ls.length 8) (MP.nQ ei).1;have lt:=MP.t_ sh (MP.nQ ei).1;intro H4 HQ ti r4 g4 hI k4;have b1:A.bl≠A.rd:=cE eh m1 (by intro z;cases z)
    have b2:A.bl≠A.cd:=cE eh r3.cd (by intro z;cases z)
    have mw:H4 A.bl=some (.lst (de.map V.ref)):=k4 _ _ eh b1 b2;refine⟨_,_,_,rfl,rfl,mw,(by rw[bx,aR];omega),i.2.length,lt,i.2,i.1.2,HQ,is++[i.1.1],de++[ti],rfl,rfl,r4.uI b1 b2 (Ne.symm uN) (λ_ _ _ _ z=>by rw[mw] at z;cases z) r4.n0.2.2.2 r4.nS.2.2.2 (λ_=>⟨_,rfl⟩),by rw[aB,iw];rfl,HK hI (b9.mono g4.1 hB),(by rw[bU];simp;omega),?_⟩
    rw[eq2,MP.Ls sh y,ei,MP.fz,MP.DD]
    congr 1
    funext x
    rw[MP.LO]
  ·have y:=hx.mp y;have hN:here vs=t.length:=by have:=m3;unfold MP.Tk at this;rw[y] at this;exact this.2
   rw[MP.T7 y hN,MP.i_ (x:=((c6.nil,eK),vs)) r3.good] at eq2;have eq2:aJ t.length (tt t.length ls.length (braces ls.length 8) 512 us)=.ok ((pre is .nil,eK),vs):=eq2;rw[eq2] at E1;have E1:MP.Good ⟨ls,pre is .nil⟩->_:=E1;obtain⟨gd,sz⟩:=MP.U5 (t:=t) (l:=(ls,us)) (b:=((pre is .nil,eK),vs)) (by rw[<-MT.Lf];exact eq) eq2
   have sz:(pre is .nil).size+eK=512:=sz;refine⟨_,rfl,_,_,_,_,_,rfl,m1,G.k.cls,G.k.code,rfl,?_⟩;have lc:A.ll≠A.cd:=cE r3.ll r3.cd (by intro z;cases z)
   have bc:A.bl≠A.cd:=cE eh r3.cd (by intro z;cases z)
   have up5:∀b o,cO b=some o->upd (upd (upd cO A.bl (.lst (de.map V.ref))) A.ll (.lst (iq ls))) A.cd (.ins C.code A.gU (n9 A (512-eK))) b=some o:=λb o e=>by
    rw[ak (bD e r3.nS.2.1),ak (bD e r3.nS.2.2.1),ak (bD e r3.nS.2.2.2)];exact e
   refine E1 gd H3 (upd (upd (upd cO A.bl (.lst (de.map V.ref))) A.ll (.lst (iq ls))) A.cd (.ins C.code A.gU (n9 A (512-eK)))) A.cd r3.old (λb o e=> ?_) ⟨A.gU,A.ll,A.bl,de,?_,by rw[ak lc,aB],by rw[ak bc,ak (Ne.symm uN),aB],b9.mono up5 hB⟩
   ·by_cases y1:b=A.cd
    ·rw[y1,aB] at e;cases e;rw[y1];exact⟨r3.cd,r3.n0.2.1⟩
    ·rw[ak y1] at e;by_cases y2:b=A.ll
     ·rw[y2,aB] at e;cases e;rw[y2];exact⟨r3.ll,r3.n0.2.2.1⟩
     ·rw[ak y2] at e;by_cases y3:b=A.bl
      ·rw[y3,aB] at e;cases e;rw[y3];exact⟨eh,r3.n0.2.2.2⟩
      ·rw[ak y3] at e;exact⟨r3.set _ _ e,r3.sn _ _ e⟩
   ·rw[aB];show some (HO.ins C.code A.gU (n9 A (512-eK)))=_;rw[show 512-eK=(pre is .nil).size by omega];rfl
theorem ady(F:Df K mg "read_code" Ag f fd)(G:Gr K w mg R C):aN P w K mg base (bq P w) 43 "read_code" ["text"] (xy K R C):=
 ⟨_,_,adx F.1 G,F.2,F.1.kp,F.1.b1 "text"⟩
end
open Vaarrj (spaced)
open MP (bG du)
theorem adz{x:Str}{g:TG}{tt:TT}{te:TE}{vs:List Nat}{σ:L2.St}{H1:Hp}{D:ae}{Qd:Hp->Prop}(Pv:Nat->Hp->Prop)(h0:Pv 0 (upd H1 D (.lst [])))
 (hs:∀i c H,x.cps[i]? =some c->Pv i H->g (.str ⟨#[c]⟩) (wipe σ vs) H λσ2 H2=>wipe σ2 vs=wipe σ vs/\tt σ2 H2 λb H3=>
   if b=true then te σ2 H3 λy H4=>∃acc,H4 D=some (.lst acc)/\acc.length<sizeLine/\Pv (i+1) (upd H4 D (.lst (acc++[y]))) else Pv (i+1) H3) (hd:∀H,Pv x.cps.size H->Qd H):
 ∃W:Nat->Nat->Hp->Prop,(∃m,W 0 m (upd H1 D (.lst [])))/\ ∀i m H,W i m H->
  ((qg x).stop i H/\Qd H)\/((qg x).go i H/\ ∃Nx:Hp->Prop,(∀H',Nx H'->∃m',m'<m/\W (i+1) m' H')/\ ∀v H',(qg x).oI i H v H'->g v (wipe σ vs) H' λσ2 H2=>wipe σ2 vs=wipe σ vs/\tt σ2 H2 λb H3=>
    if b=true then te σ2 H3 λy H4=>∃acc,H4 D=some (.lst acc)/\acc.length<sizeLine/\Nx (upd H4 D (.lst (acc++[y]))) else Nx H3):=by
 refine⟨λi m H=>m=x.cps.size-i/\i<=x.cps.size/\Pv i H,⟨x.cps.size,by simp,eV _,h0⟩,?_⟩
 rintro i m H ⟨rfl,hi,p⟩;by_cases dR:i<x.cps.size
 ·refine .inr ⟨dR,Pv (i+1),λH' p'=>⟨x.cps.size-(i+1),by omega,rfl,dR,p'⟩,λv H' y=> ?_⟩
  obtain⟨e,c,hc,y⟩:=y;subst e y;exact hs i c _ hc p
 ·have e:i=x.cps.size:=by omega
  subst e;exact .inl ⟨bE _,hd H p⟩
section
variable{P:aS}{w:aL}{K:az}{mg:Str->Option ah}{base:aC}{R:Cl}{C:Cg}{f:ae}{fd:bK}
theorem boot_ord:mU "ord"=some (.builtin "ord"):=by decide+kernel
def Bp:Sp:=λvs H Q _=>∃t,vs=[.str (S t)]/\t.length<=1000000/\ ∀H' l,(∀b o,H b=some o->H' b=some o)->H' l=some (.lst (dQ t))->Q (.ref l) H'
theorem adA(F:aG K "to_bytes" "to_bytes" Ah f fd)(g:GI mg):aD P w K mg base au 1 f fd ["text"] Bp:=by
 refine F.oK FX λaF A outer s H vs Q E hr h=> ?_;obtain⟨t,rfl,tl,q⟩:=h;refine⟨_,aw (bw (nL (own:=[("sign",1)]) rfl FX.nd (KZ (pv 0)) (show jn M' (aK Ah) _ _ from⟨rfl,by decide+kernel,by decide+kernel,by decide+kernel,by decide+kernel⟩) (λ_ _ _ _ _=>fv (i:=1) FX.nd rfl (aZ rfl))
  (λ_ _ _ _ _=>oQ) (λ_ _ _ _ _=>eS Q_ (by rfl) g.aag boot_ord (ai (pv 1) aj)))),?_⟩
 refine⟨_,rfl,S t,rfl,λD hD=>adz (x:=S t) (λi H'=>(∀b o,H b=some o->H' b=some o)/\H' D=some (.lst (dQ (t.take i)))) ⟨λb o e=>by rw[ak (bD e hD)];exact e,by rw[aB];rfl⟩ (λi c H' hi p=> ?_) λH' p=> ?_⟩
 ·have hi:t[i]? =some c:=by
   have:(S t).cps[i]? =t[i]? :=by show t.toArray[i]? =_;simp
   rw[<-this];exact hi
  refine⟨rfl,_,rfl,_,rfl,rfl,_,p.2,?_,λb o e=> ?_,?_⟩
  ·rw[ik,jY,aR];omega
  ·rw[ak (bD e hD)];exact p.1 _ _ e
  ·rw[aB,MR.take_snoc hi];unfold dQ;rw[iw];rfl
 ·have sz:(S t).cps.size=t.length:=by show t.toArray.size=_;simp
  rw[sz,oE] at p;exact q H' D p.1 p.2
def dG(l:List aM):List V:=l.map λx=>V.str (S x)
theorem kz(l:List aM):(dG l).length=l.length:=by unfold dG;rw[bx]
theorem su(l r:List aM):dG (l++r)=dG l++dG r:=by unfold dG;rw[iw]
theorem OI(l:List aM):xV (S [32]) (l.map S)=S (spaced l):=by
 refine TL.rq ?_;rw[TL.join_eq,TL.yO,MX.kU,MX.kU,iO];have e:l.map (TL.tl∘S)=l:=by
  conv=>rhs;rw[<-Jk l]
  rfl
 rw[e];clear e
 induction l with
 |nil=>rfl
 |cons c r ih=>
  cases r with
  |nil=>rfl
  |cons d r=>exact congrArg (λz=>c++(32::z)) ih
def Bq(R:Cl)(h:Nat):Sp:=λvs H Q _=>∃HC a ts b n,vs=[.ref a]/\ (∀c o,HC c=some o->H c=some o)/\HC a=some (.lst (ts.map V.ref))/\b9 R HC b ts/\fI n b h/\b.size<=512/\ ∀H' l,(∀c o,H c=some o->H' c=some o)->H l=none->H' l=some (.lst (dG (du b)))->Q (.ref l) H'
def xA(R:Cl)(h:Nat):Sp:=λvs H Q _=>∃HC t i n,vs=[.ref t]/\ (∀c o,HC c=some o->H c=some o)/\fX R HC i t/\d_ n i h/\i.size<=512/\ ∀H' l,(∀c o,H c=some o->H' c=some o)->H l=none->H' l=some (.lst (dG (bG i)))->Q (.ref l) H'
theorem OJ{h k:Nat}(F:aG K "block_lines" "block_lines" FY f fd)(GI:aN P w K mg base au k "instruction_lines" ["told"] (xA R h)):aD P w K mg base au (k+1) f fd ["body"] (Bq R h):=by
 refine F.oK FZ λaF A outer s H vs Q E hr h=> ?_;obtain⟨HC,a,ts,b,n,rfl,hc,ha,hB,ok,sz,q⟩:=h;refine⟨_,ay (bH (i:=1) FZ.nd rfl (aZ rfl) (cR aj))
  (ay (lI j6 rfl (g8 (pv 0)) (fv (i:=2) FZ.nd rfl (aZ rfl))
    (aw (bO (iS i5 Cb Cc vv (pv 1) (ai (aY GI hr a_ (ai (pv 2) aj)) aj)))))
  (aw (bw (pv 1)))),?_⟩
 refine⟨eV _,λl hl=> ?_⟩;have up:∀c o,H c=some o->upd H l (.lst []) c=some o:=λc o e=>by rw[ak (bD e hl)];exact e
 refine⟨_,rfl,a,rfl,⟨_,aI.of (up _ _ (hc _ _ ha))⟩,lK (xs:=ts.map V.ref) (λi σ H'=>(∃v,σ=[some (.ref a),some (.ref l),v])/\ ∃done rest,(∀c o,H c=some o->H' c=some o)/\H' l=some (.lst (dG done))/\b9 R HC rest (ts.drop i)/\fI n rest h/\done.length+3*rest.size<=1536/\rest.size<=512/\du b=done++du rest)
  ⟨⟨_,rfl⟩,[],b,up,by rw[aB];rfl,hB,ok,by simp;omega,sz,rfl⟩ (λi σ H' _ p=> ?_) (λi v σ H' hi p=> ?_) λσ H' p=> ?_⟩
 ·obtain⟨_,done,rest,k1,_⟩:=p;exact aI.of (k1 _ _ (hc _ _ ha))
 ·obtain⟨⟨v0,rfl⟩,done,rest,k1,hd,hR,Br,ln,rs,eq⟩:=p;obtain⟨t,ht,rfl⟩:∃t,ts[i]? =some t/\v=.ref t:=by
   rw[dH] at hi;cases y:ts[i]? with
   |none=>rw[y] at hi;cases hi
   |some t=>rw[y] at hi;exact⟨t,rfl,by injection hi with hi;exact hi.symm⟩
  have dr:ts.drop i=t::ts.drop (i+1):=by
   obtain⟨hl,e1⟩:=dy.mp ht;rw[<-e1];exact qO hl
  cases rest with
  |nil=>
   have hB:ts.drop i=[]:=by simpa only[b9] using hR
   rw[dr] at hB;cases hB
  |cons j OK=>
   simp only[b9] at hR;obtain⟨t2,us,e2,hI,hR⟩:=hR;rw[dr] at e2;obtain⟨rfl,rfl⟩:=oB e2;simp only[fI] at Br;rw[lA] at rs ln;have li:=(MP.D0 j).1;refine⟨_,rfl,.inl ⟨rfl,_,aI.of hd⟩,_,rfl,HC,t,j,n,rfl,λc o e=>k1 _ _ (hc _ _ e),hI,Br.1,by omega,λH3 l3 k3 hl3 h3=> ?_⟩
   refine⟨_,_,_,_,rfl,rfl,k3 _ _ hd,h3,(by rw[kz,kz,aR];omega),⟨_,rfl⟩,done++bG j,OK,λc o e=> ?_,?_,hR,Br.2,by rw[bU];omega,by omega,?_⟩
   ·rw[ak (bD e hl)];exact k3 _ _ (k1 _ _ e)
   ·rw[aB,su]
   ·rw[eq,du,lq]
 ·obtain⟨⟨v0,rfl⟩,done,rest,k1,hd,hR,Br,ln,rs,eq⟩:=p;rw[bx,BY] at hR;cases rest with
  |nil=>
   rw[du,dz] at eq;rw[<-eq] at hd;exact⟨_,rfl,q H' l k1 hl hd⟩
  |cons j OK=>
   simp only[b9] at hR;obtain⟨t2,us,e2,_⟩:=hR;cases e2
end
section
variable{P:aS}{w:aL}{K:az}{mg:Str->Option ah}{base:aC}{R:Cl}{C:Cg}{f:ae}{fd:bK}
theorem OL(l:List aM):((l.map S).map (·.length)).sum+(l.map S).length*(S [32]).length=(l.map λx=>x.length+1).sum:=by
 induction l with
 |nil=>rfl
 |cons x r ih=>
  simp only[i0,u5,cI,MX.cM,eJ] at ih⊢;omega
theorem OM{i:cw}(h1: ¬(MP.toldOf i).act=aE "for")(h2: ¬(MP.toldOf i).act=aE "when"):bG i=[spaced (MP.toldOf i).parts++aE ";"]:=by
 cases i with
 |for_ d c b=>exact absurd rfl h1
 |when s b c=>exact absurd rfl h2
 |_=>simp only[bG]
theorem OO{i:cw}(h:(MP.toldOf i).act=aE "for"):∃d c b,i=.for_ d c b:=by
 cases i with
 |for_ d c b=>exact⟨d,c,b,rfl⟩
 |_=>exact absurd h (by simp only[MP.toldOf];decide+kernel)
theorem OP{i:cw}(h:(MP.toldOf i).act=aE "when"):∃s b c,i=.when s b c:=by
 cases i with
 |when s b c=>exact⟨s,b,c,rfl⟩
 |_=>exact absurd h (by simp only[MP.toldOf];decide+kernel)
theorem Bs:(bV " ")=S [32]:=by decide+kernel
theorem sx:(bV ";")=S (aE ";"):=MX.lZ ";"
theorem OQ:(bV " {")=S (aE " {"):=MX.lZ " {"
theorem adB:(bV "} else {")=S (aE "} else {"):=MX.lZ "} else {"
theorem adC:(bV "}")=S (aE "}"):=MX.lZ "}"
theorem adD(F:aG K "instruction_lines" "instruction_lines" Ai f fd)(e:EK K R):aD P w K mg base au 1 f fd ["told"] (xA R 0):=by
 refine F.oK wK λaF A outer s H vs Q E hr h=> ?_;obtain⟨HC,t,i,n,rfl,hc,hI,ok,sz,q⟩:=h;refine⟨_,ay (bH (i:=1) wK.nd rfl (aZ rfl) (yP bZ (aP (pv 0) rfl)))
  (ay (b7 (pW (bW jj (aP (pv 0) rfl) bZ (bQ _)) (pV (bW jj (aP (pv 0) rfl) bZ (bQ _)))).pt (aw (bw (cR (ai (cy iR (pv 1) bZ) aj)))) cJ) JL),?_⟩
 obtain⟨ba,ca,dx,fs,ol,T⟩:=hI.told;have T:=T.mono hc;obtain⟨pl,H_,nV⟩:=T.pt;have nV:H pl=some (.lst (((MP.toldOf i).parts.map S).map V.str)):=nV;have adE:=MP.DZ i;have sl:=OL (MP.toldOf i).parts;refine⟨⟨_,rfl⟩,_,rfl,_,_,_,_,_,rfl,T.ob,e.bX,e.o_,H_,_,_,(MP.toldOf i).parts.map S,rfl,rfl,.inl (aI.of nV),(by rw[Bs,sl];omega),?_⟩
 rw[Bs,OI];have hz:=MP.oU i;have nf: ¬(MP.toldOf i).act=aE "for":=λy=>by
  obtain⟨d,c,b,rfl⟩:=OO y;simp only[d_] at ok;obtain⟨_,_,k,hk,_⟩:=ok;cases hk
 have nw: ¬(MP.toldOf i).act=aE "when":=λy=>by
  obtain⟨s,b,c,rfl⟩:=OP y;simp only[d_] at ok;obtain⟨_,k,hk,_⟩:=ok;cases hk
 have ac:fs.lookup ("action":Str)=some (.str (S (MP.toldOf i).act)):=T.ac;refine⟨_,rfl,_,_,_,_,_,rfl,T.ob,e.bX,e.mq,ac,rfl,_,rfl,?_⟩;rw[mG,decide_eq_false nf];refine⟨_,rfl,_,_,_,_,_,rfl,T.ob,e.bX,e.mq,ac,rfl,_,rfl,?_⟩;rw[mG,decide_eq_false nw];have ls:(aE ";").length=1:=rfl;refine⟨_,rfl,_,_,rfl,rfl,(by rw[sx,MX.cM,MX.cM,ls,aR];omega),(by show 1<=sizeLine;rw[aR];decide),λl hl=> ?_⟩
 rw[sx,MX.dF];refine q _ l (λc o e=>by rw[ak (bD e hl)];exact e) hl ?_
 rw[aB,OM nf nw];rfl
def sy:c6->List aM
 | .nil=>[]
 | .cons i r=>aE "} else {"::(bG i++du r)
structure Two(R:Cl)(HC:Hp)(n h:Nat)(i:cw)(t:ae)(b c:c6)(ba ca:ae)(ts us:List ae)(dx:ae)(fs:List (Str×V))(ol:ae):Prop where
 T:wW R HC t (r_ i ba ca) dx fs ol
 ba:HC ba=some (.lst (ts.map V.ref))
 bb:b9 R HC b ts
 ca:HC ca=some (.lst (us.map V.ref))
 cb:b9 R HC c us
 okb:fI n b h
 xf:fI n c h
 sz:b.size+c.size<=511
 ln:bG i=(spaced (MP.toldOf i).parts++aE " {")::(du b++(sy c++[aE "}"]))
theorem adF{HC:Hp}{n h:Nat}{i:cw}{t:ae}(hI:fX R HC i t)(ok:d_ n i (h+1))(sz:i.size<=512)(hp:(MP.toldOf i).act=aE "for"\/(MP.toldOf i).act=aE "when"):∃b c ba ca ts us dx fs ol,Two R HC n h i t b c ba ca ts us dx fs ol:=by
 rcases hp with y|y
 ·obtain⟨d,c,b,rfl⟩:=OO y;simp only[d_] at ok;obtain⟨_,_,k0,tV,jo⟩:=ok;obtain rfl:h=k0:=by omega
  simp only[fX] at hI;obtain⟨ba,ca,ts,⟨dx,fs,ol,T⟩,fL,hB,xb⟩:=hI;refine⟨b,.nil,ba,ca,ts,[],dx,fs,ol,T,fL,hB,xb,by simp only[b9],jo,by simp only[fI],?_,?_⟩
  ·simp only[eB] at sz;simp only[lA];omega
  ·simp only[bG];rfl
 ·obtain⟨s,b,c,rfl⟩:=OP y;simp only[d_] at ok;obtain⟨_,k0,tV,jo,G_⟩:=ok;obtain rfl:h=k0:=by omega
  simp only[fX] at hI;obtain⟨ba,ca,ts,us,⟨dx,fs,ol,T⟩,fL,hB,xb,hC⟩:=hI;refine⟨b,c,ba,ca,ts,us,dx,fs,ol,T,fL,hB,xb,hC,jo,G_,?_,?_⟩
  ·simp only[eB] at sz;omega
  ·cases c with
   |nil=>simp only[bG];rfl
   |cons i r=>simp only[bG];rfl
theorem adG{h k:Nat}(F:aG K "instruction_lines" "instruction_lines" Ai f fd)(e:EK K R)(g:GI mg)(GB:aN P w K mg base au k "block_lines" ["body"] (Bq R h)):aD P w K mg base au (k+1) f fd ["told"] (xA R (h+1)):=by
 refine F.oK wK λaF A outer s H vs Q E hr h=> ?_;obtain⟨HC,t,i,n,rfl,hc,hI,ok,sz,q⟩:=h;refine⟨_,ay (bH (i:=1) wK.nd rfl (aZ rfl) (yP bZ (aP (pv 0) rfl)))
  (ay (b7 (pW (bW jj (aP (pv 0) rfl) bZ (bQ _)) (pV (bW jj (aP (pv 0) rfl) bZ (bQ _)))).pt (aw (bw (cR (ai (cy iR (pv 1) bZ) aj)))) cJ)
  (ay (bH (i:=2) wK.nd rfl (aZ rfl) (cR (ai (cy iR (pv 1) bZ) aj)))
  (ay (bO (iS i5 Cb Cc vv (pv 2) (ai (aY GB hr a_ (ai (aP (pv 0) rfl) aj)) aj)))
  (ay (b7 (bW lL (eS iA (by rfl) g.fW gj (ai (aP (pv 0) rfl) aj)) aQ (bQ _))
    (ay (bO (iS i5 lD lE kd (pv 2) (ai bZ aj)))
      (aw (bO (iS i5 Cb Cc vv (pv 2) (ai (aY GB hr a_ (ai (aP (pv 0) rfl) aj)) aj))))) cJ)
  (ay (bO (iS i5 lD lE kd (pv 2) (ai bZ aj)))
  (aw (bw (pv 2)))))))),?_⟩
 obtain⟨ba,ca,dx,fs,ol,T⟩:=hI.told;have T:=T.mono hc;obtain⟨pl,H_,nV⟩:=T.pt;have nV:H pl=some (.lst (((MP.toldOf i).parts.map S).map V.str)):=nV;have adE:=MP.DZ i;have sl:=OL (MP.toldOf i).parts;refine⟨⟨_,rfl⟩,_,rfl,_,_,_,_,_,rfl,T.ob,e.bX,e.o_,H_,_,_,(MP.toldOf i).parts.map S,rfl,rfl,.inl (aI.of nV),(by rw[Bs,sl];omega),?_⟩
 rw[Bs,OI];have hz:=MP.oU i;have ac:fs.lookup ("action":Str)=some (.str (S (MP.toldOf i).act)):=T.ac;have ls:(aE ";").length=1:=rfl;have lo:(aE " {").length=2:=rfl;refine⟨_,rfl,_,_,_,_,_,rfl,T.ob,e.bX,e.mq,ac,rfl,_,rfl,?_⟩;rw[mG];by_cases pl:(MP.toldOf i).act=aE "for"\/(MP.toldOf i).act=aE "when"
 ·obtain⟨b,c,ba,ca,ts,us,dx,fs,ol,W⟩:=adF hI ok sz pl;have lb:=(MP.oV b).1;have lc:=(MP.oV c).1;have ws:=W.sz;have T2:=W.T.mono hc;rcases pl with nf|nw
  case' inl=>rw[decide_eq_true nf]
  case' inr=>
   have nf: ¬(MP.toldOf i).act=aE "for":=by rw[nw];decide+kernel
   rw[decide_eq_false nf];refine⟨_,rfl,_,_,_,_,_,rfl,T.ob,e.bX,e.mq,ac,rfl,_,rfl,?_⟩;rw[mG,decide_eq_true nw]
  all_goals
   refine⟨_,rfl,_,_,rfl,rfl,(by rw[OQ,MX.cM,MX.cM,lo,aR];omega),(by show 1<=sizeLine;rw[aR];decide),λl hl=> ?_⟩
   rw[OQ,MX.dF];have up:∀c o,H c=some o->upd H l (.lst [.str (S (spaced (MP.toldOf i).parts++aE " {"))]) c=some o:=λc o e=>by rw[ak (bD e hl)];exact e
   have l1:upd H l (.lst [.str (S (spaced (MP.toldOf i).parts++aE " {"))]) l=some (.lst (dG [spaced (MP.toldOf i).parts++aE " {"])):=aB;generalize upd H l (.lst [.str (S (spaced (MP.toldOf i).parts++aE " {"))])=H1 at up l1;refine⟨_,rfl,.inl ⟨rfl,_,aI.of l1⟩,_,rfl,_,_,_,_,_,rfl,up _ _ T2.ob,e.bX,e.uz,T2.b,HC,ba,ts,b,n,rfl,λx o ex=>up _ _ (hc _ _ ex),W.ba,W.bb,W.okb,by omega,λH3 l3 k3 hl3 h3=> ?_⟩
   refine⟨_,_,_,_,rfl,rfl,k3 _ _ l1,h3,(by rw[kz,kz,aR];simp;omega),?_⟩
   have k4:∀x o,H x=some o->upd H3 l (.lst (dG [spaced (MP.toldOf i).parts++aE " {"]++dG (du b))) x=some o:=λx o ex=>by rw[ak (bD ex hl)];exact k3 _ _ (up _ _ ex)
   have l4:upd H3 l (.lst (dG [spaced (MP.toldOf i).parts++aE " {"]++dG (du b))) l=some (.lst (dG ([spaced (MP.toldOf i).parts++aE " {"]++du b))):=by rw[aB,su]
   generalize upd H3 l (.lst (dG [spaced (MP.toldOf i).parts++aE " {"]++dG (du b)))=H4 at k4 l4;refine⟨_,rfl,_,_,_,_,_,rfl,k4 _ _ T2.ob,e.bX,e.wV,T2.c,_,_,rfl,.inl (aI.of (k4 _ _ (hc _ _ W.ca))),_,_,rfl,rfl,_,rfl,?_⟩;rw[bx];have fin:∀(H5:Hp),(∀x o,H x=some o->H5 x=some o)->H5 l=some (.lst (dG (([spaced (MP.toldOf i).parts++aE " {"]++du b)++sy c)))->(sy c).length<=3*c.size+1->
    ∃v,([some (.ref t),some (.str (S (spaced (MP.toldOf i).parts))),some (.ref l)]:L2.St)[2]? =some (some v)/\C1 K "list" v H5/\Ky v [.str (bV "}")] H5 λ_ H6=>∃v2,([some (.ref t),some (.str (S (spaced (MP.toldOf i).parts))),some (.ref l)]:L2.St)[2]? =some (some v2)/\Q v2 H6:=λH5 k5 l5 le=>by
    refine⟨_,rfl,.inl ⟨rfl,_,aI.of l5⟩,_,_,_,rfl,rfl,l5,(by rw[kz,bU,bU,aR];simp;omega),_,rfl,q _ l (λx o ex=>by rw[ak (bD ex hl)];exact k5 _ _ ex) hl ?_⟩
    rw[aB,W.ln,adC,lq];unfold dG;simp[iw]
   cases c with
   |nil=>
    have:us=[]:=by have:=W.cb;simpa only[b9] using this
    subst this;exact dW (fin H4 k4 (by rw[l4];simp[sy]) (by simp[sy]))
   |cons j r=>
    have hus:0<us.length:=by
     have:=W.cb;simp only[b9] at this;obtain⟨u0,us0,e0,_⟩:=this;rw[e0];simp
    rw[decide_eq_true (by omega)]
    have lel:(aE "} else {").length=8:=rfl;refine dq ⟨_,rfl,.inl ⟨rfl,_,aI.of l4⟩,_,_,_,rfl,rfl,l4,(by rw[kz,bU,aR];simp;omega),?_⟩
    have k5:∀x o,H x=some o->upd H4 l (.lst (dG ([spaced (MP.toldOf i).parts++aE " {"]++du b)++[.str (bV "} else {")])) x=some o:=λx o ex=>by rw[ak (bD ex hl)];exact k4 _ _ ex
    have l5:upd H4 l (.lst (dG ([spaced (MP.toldOf i).parts++aE " {"]++du b)++[.str (bV "} else {")])) l=some (.lst (dG (([spaced (MP.toldOf i).parts++aE " {"]++du b)++[aE "} else {"]))):=by rw[aB,adB,su (_++_)];rfl
    generalize upd H4 l (.lst (dG ([spaced (MP.toldOf i).parts++aE " {"]++du b)++[.str (bV "} else {")]))=H5 at k5 l5;refine⟨_,rfl,.inl ⟨rfl,_,aI.of l5⟩,_,rfl,_,_,_,_,_,rfl,k5 _ _ T2.ob,e.bX,e.wV,T2.c,HC,ca,us,.cons j r,n,rfl,λx o ex=>k5 _ _ (hc _ _ ex),W.ca,W.cb,W.xf,by omega,λH6 l6 k6 hl6 h6=> ?_⟩
    refine⟨_,_,_,_,rfl,rfl,k6 _ _ l5,h6,(by rw[kz,kz,bU,bU,aR];simp;omega),?_⟩
    refine fin _ (λx o ex=>by rw[ak (bD ex hl)];exact k6 _ _ (k5 _ _ ex)) ?_ (by rw[du] at lc;simp[sy];simp at lc;omega)
    rw[aB,<-su,du];simp[sy]
 ·have nf: ¬(MP.toldOf i).act=aE "for":=λy=>pl (.inl y);have nw: ¬(MP.toldOf i).act=aE "when":=λy=>pl (.inr y);rw[decide_eq_false nf];refine⟨_,rfl,_,_,_,_,_,rfl,T.ob,e.bX,e.mq,ac,rfl,_,rfl,?_⟩;rw[mG,decide_eq_false nw];refine⟨_,rfl,_,_,rfl,rfl,(by rw[sx,MX.cM,MX.cM,ls,aR];omega),(by show 1<=sizeLine;rw[aR];decide),λl hl=> ?_⟩
  rw[sx,MX.dF];refine q _ l (λc o e=>by rw[ak (bD e hl)];exact e) hl ?_
  rw[aB,OM nf nw];rfl
end
section
variable{P:aS}{w:aL}{K:az}{mg:Str->Option ah}{base:aC}{R:Cl}{C:Cg}{f:ae}{fd:bK}
theorem adH(l:List aM):xV (S []) (l.map S)=S l.flatten:=by
 refine TL.rq ?_;rw[TL.join_eq,TL.yO,MX.kU,MX.kU,iO];have e:l.map (TL.tl∘S)=l:=by
  conv=>rhs;rw[<-Jk l]
  rfl
 rw[e];clear e
 induction l with
 |nil=>rfl
 |cons c r ih=>
  cases r with
  |nil=>show c=c++[];rw[dz]
  |cons d r=>exact congrArg (λz=>c++z) ih
def Ia(R:Cl)(C:Cg):Sp:=λvs H Q _=>∃HC cd c,vs=[.ref cd]/\ (∀b o,HC b=some o->H b=some o)/\HY R C HC cd c/\MP.Good c/\ ∀H' l,(∀b o,H b=some o->H' b=some o)->H' l=some (.lst (dQ (yj c)))->Q (.ref l) H'
theorem OR{c:Ca}(g:MP.Good c):(MP.iT c).length<=1568/\ ∀l∈MP.iT c,l.length<=302:=by
 have lb:=MP.oV c.body;have:=g.ln;have:=g.size;unfold MP.iT;refine⟨by rw[bU,bx];omega,λl hl=> ?_⟩
 rcases gO.mp hl with z|z
 ·obtain⟨n,_,rfl⟩:=mY.mp z;have:=MP.iU n;have a:(aE "array ").length=6:=rfl;have b:(aE ";").length=1:=rfl;rw[bU,bU];omega
 ·exact lb.2 l z
theorem adI(F:aG K "plain_text" "plain_text" wL f fd)(g:GI mg)(k:jU K C)(GB:aN P w K mg base au 18 "block_lines" ["body"] (Bq R 8))(GT:aN P w K mg base au 1 "to_bytes" ["text"] Bp):aD P w K mg base au 19 f fd ["code"] (Ia R C):=by
 refine F.oK wM λaF A outer s H vs Q E hr h=> ?_;obtain⟨HC,cd,c,rfl,hc,⟨gU,ll,bl,ts,h1,h2,h3,h4⟩,gd,q⟩:=h;have cN:=hr.mono (show 1<=18 by decide)
 refine⟨_,ay (Sl (i:=1) (own:=[("length",2)]) rfl wM.nd rfl rfl (Sq rfl rfl rfl (by decide+kernel)) (g8 (aP (pv 0) rfl)) (show jn F_ (aK wL) _ _ from⟨rfl,by decide+kernel,by decide+kernel,by decide+kernel,by decide+kernel⟩) (λ_ _ _ _ _=>fv (i:=2) wM.nd rfl (aZ rfl))
  (λ_ _ _ _ _=>oQ) (λ_ _ _ _ _=>wg (jt bZ (jt (rT (pv 2)) (jt bZ we)))))
  (ay (bO (iS i5 Cb Cc vv (pv 1) (ai (aY GB hr a_ (ai (aP (pv 0) rfl) aj)) aj)))
  (aw (bw (aY GT cN a_ (ai (yP bZ (nL (own:=[("line",3)]) rfl wM.nd (g8 (pv 1)) (show jn F_ (aK wL) _ _ from⟨rfl,by decide+kernel,by decide+kernel,by decide+kernel,by decide+kernel⟩) (λ_ _ _ _ _=>fv (i:=3) wM.nd rfl (aZ rfl))
    (λ_ _ _ _ _=>oQ) (λ_ _ _ _ _=>cy iR (pv 3) bZ))) aj))))),?_⟩
 have gln:=gd.ln;have e0:sP=S []:=by decide+kernel
 have ea:bV "array "=S (aE "array "):=MX.lZ "array ";have en:bV "\n"=S [10]:=by decide+kernel
 have la:(aE "array ").length=6:=rfl;have lsm:(aE ";").length=1:=rfl;refine⟨_,rfl,_,_,_,_,_,rfl,hc _ _ h1,k.jd,k.lengths,rfl,ll,rfl,⟨_,aI.of (hc _ _ h2)⟩,λD hD=> ?_⟩;refine qf (K:=K) (a:=ll) (xs:=iq c.lengths) (λi H'=>(∀b o,H b=some o->H' b=some o)/\H' D=some (.lst (dG ((c.lengths.take i).map λn=>(aE "array "++dec n)++aE ";")))) ⟨λb o e=>by rw[ak (bD e hD)];exact e,by rw[aB];rfl⟩ (λi H' _ p=>aI.of (p.1 _ _ (hc _ _ h2))) (λi v H' hi p=> ?_) λH1 p=> ?_
 ·obtain⟨n,hn,rfl⟩:∃n,c.lengths[i]? =some n/\v=.int ((n:Nat):Int):=by
   unfold iq at hi;rw[dH] at hi;cases y:c.lengths[i]? with
   |none=>rw[y] at hi;cases hi
   |some n=>rw[y] at hi;exact⟨n,rfl,by injection hi with hi;exact hi.symm⟩
  have adJ:=gd.le n (d7 hn);have sA:n<10^40:=by omega
  have uG:=MP.iU n;have il:=(dy.mp hn).1;refine⟨rfl,_,rfl,?_,_,rfl,_,.inl ⟨_,rfl,n_ (show((n:Nat):Int).natAbs<2^64 by omega),rfl⟩,_,rfl,?_,_,rfl,?_,?_,_,p.2,?_,λb o e=> ?_,?_⟩
  ·rw[e0,ea,MX.dF,MX.cM,aR];simp;omega
  ·rw[e0,ea,MX.gq sA,MX.dF,MX.dF,MX.cM,aR];simp;omega
  ·rw[e0,ea,MX.gq sA,sx,MX.dF,MX.dF,MX.dF,MX.cM,aR];simp;omega
  ·rw[e0,ea,MX.gq sA,sx,MX.dF,MX.dF,MX.dF,MX.cM,aR];simp;omega
  ·rw[kz,bx,jY,aR];omega
  ·rw[ak (bD e hD)];exact p.1 _ _ e
  ·rw[aB,e0,ea,MX.gq sA,sx,MX.dF,MX.dF,MX.dF,MR.take_snoc hn,iw,su];rfl
 obtain⟨k1,d1⟩:=p;have el:(iq c.lengths).length=c.lengths.length:=by unfold iq;rw[bx]
 rw[el,oE] at d1;obtain⟨lc1,OS⟩:=OR gd;have lb:=(MP.oV c.body).1;have sz:=gd.size;refine⟨_,rfl,.inl ⟨rfl,_,aI.of d1⟩,_,rfl,_,_,_,_,_,rfl,k1 _ _ (hc _ _ h1),k.jd,k.body,rfl,HC,bl,ts,c.body,_,rfl,λb o e=>k1 _ _ (hc _ _ e),h3,h4,gd.ok,sz,λH2 l2 k2 jJ h2'=> ?_⟩;refine⟨_,_,_,_,rfl,rfl,k2 _ _ d1,h2',(by rw[kz,kz,bx,aR];omega),?_⟩
 have k3:∀b o,H b=some o->upd H2 D (.lst (dG (c.lengths.map λn=>(aE "array "++dec n)++aE ";")++dG (du c.body))) b=some o:=λb o e=>by rw[ak (bD e hD)];exact k2 _ _ (k1 _ _ e)
 have d3:upd H2 D (.lst (dG (c.lengths.map λn=>(aE "array "++dec n)++aE ";")++dG (du c.body))) D=some (.lst (dG (MP.iT c))):=by rw[aB,<-su];rfl
 generalize upd H2 D (.lst (dG (c.lengths.map λn=>(aE "array "++dec n)++aE ";")++dG (du c.body)))=H3 at k3 d3;refine⟨⟨_,rfl⟩,_,rfl,D,rfl,⟨_,aI.of d3⟩,λJ hJ=> ?_⟩;refine qf (K:=K) (a:=D) (xs:=dG (MP.iT c)) (λi H'=>(∀b o,H3 b=some o->H' b=some o)/\H' J=some (.lst (dG (((MP.iT c).take i).map λx=>x++[10])))) ⟨λb o e=>by rw[ak (bD e hJ)];exact e,by rw[aB];rfl⟩ (λi H' _ p=>aI.of (p.1 _ _ d3)) (λi v H' hi p=> ?_) λH4 p=> ?_
 ·obtain⟨x,hx,rfl⟩:∃x,(MP.iT c)[i]? =some x/\v=.str (S x):=by
   unfold dG at hi;rw[dH] at hi;cases y:(MP.iT c)[i]? with
   |none=>rw[y] at hi;cases hi
   |some n=>rw[y] at hi;exact⟨n,rfl,by injection hi with hi;exact hi.symm⟩
  have xl:=OS x (d7 hx);have il:=(dy.mp hx).1;refine⟨rfl,_,rfl,_,_,rfl,rfl,?_,_,p.2,?_,λb o e=> ?_,?_⟩
  ·rw[en,MX.cM,MX.cM,aR];simp;omega
  ·rw[kz,bx,jY,aR];omega
  ·rw[ak (bD e hJ)];exact p.1 _ _ e
  ·rw[aB,en,MX.dF,MR.take_snoc hx,iw,su];rfl
 obtain⟨k4,j4⟩:=p;rw[kz,oE] at j4;have jl:=MP.y6 (k:=302) (MP.iT c) OS;have jl2:(MP.joined (MP.iT c)).length<=500000:=dw jl (by omega)
 have sm:∀l:List aM,((l.map S).map (·.length)).sum=l.flatten.length:=λl=>by
  induction l with
  |nil=>rfl
  |cons x r ih=>rw[i0,i0,u5,ih,uY,bU,MX.cM]
 refine⟨_,J,((MP.iT c).map λx=>x++[10]).map S,rfl,rfl,.inl (aI.of (by rw[j4];unfold dG;rw[iO,iO,iO];rfl)),?_,?_⟩
 ·have ee:bV ""=S []:=by decide+kernel
  rw[sm,ee,MX.cM];have:((MP.iT c).map λx=>x++[10]).flatten.length<=500000:=jl2;simp only[eJ,Nat.mul_zero,Nat.add_zero];omega
 ·have ee:bV ""=S []:=by decide+kernel
  rw[ee,adH];refine⟨_,rfl,by show(MP.joined (MP.iT c)).length<=1000000;omega,λH5 l5 k5 h5=>q H5 l5 (λb o e=>k5 _ _ (k4 _ _ (k3 _ _ e))) ?_⟩
  rw[h5,MP.DX];rfl
end
theorem map_eq(o n p:Nat):pM o n p=((((((((aE "array "++dec n)++aE ";")++((aE "array "++dec n)++aE ";"))++((aE "array "++dec n)++aE ";"))++(((aE "num s1 "++dec n)++aE ";")++aE "width s0;num s2 1;calc add s3 s1 s0 @0;calc sub s3 s3 s2 @0;calc quo s3 s3 s0 @0;"))++aE "for s4 s3 {")++(((aE "calc mul s5 s4 s0 @0;fill v0 s5;lanes v1;add v0 v0 v1 @0;calc sub s6 s1 s5 @0;tail m0 s6;"++aE "read v2 a0 v0 ?m0;read v3 a1 v0 ?m0;")++(((fO eX o++aE " v4 v2 v3 @")++dec p)++aE " ?m0;"))++aE "write a2 v0 v4 ?m0;raise;"))++aE "}"):=by
 unfold pM Vaarrj.at_;have e1:aE ";array "=aE ";"++aE "array ":=by decide+kernel
 have e2:aE ";num s1 "=aE ";"++aE "num s1 ":=by decide+kernel
 have e3:aE ";width s0;num s2 1;calc add s3 s1 s0 @0;calc sub s3 s3 s2 @0;calc quo s3 s3 s0 @0;for s4 s3 {calc mul s5 s4 s0 @0;fill v0 s5;lanes v1;add v0 v0 v1 @0;calc sub s6 s1 s5 @0;tail m0 s6;read v2 a0 v0 ?m0;read v3 a1 v0 ?m0;"=
  aE ";"++(aE "width s0;num s2 1;calc add s3 s1 s0 @0;calc sub s3 s3 s2 @0;calc quo s3 s3 s0 @0;"++(aE "for s4 s3 {"++(aE "calc mul s5 s4 s0 @0;fill v0 s5;lanes v1;add v0 v0 v1 @0;calc sub s6 s1 s5 @0;tail m0 s6;"++aE "read v2 a0 v0 ?m0;read v3 a1 v0 ?m0;"))):=by decide+kernel
 have e4:aE " ?m0;write a2 v0 v4 ?m0;raise;}"=aE " ?m0;"++(aE "write a2 v0 v4 ?m0;raise;"++aE "}"):=by decide+kernel
 have e5:aE " v4 v2 v3 @"=aE " v4 v2 v3 "++[64]:=by decide+kernel
 rw[e1,e2,e3,e4,e5];simp only[uY,List.flatten_nil,lq,dz,B0,sU]
section
variable{P:aS}{w:aL}{K:az}{mg:Str->Option ah}{base:aC}{R:Cl}{C:Cg}{f:ae}{fd:bK}
theorem gE(x y:Str):(x++y).length=x.length+y.length:=by
 rw[<-MX.Mb x,<-MX.Mb y,MX.dF,MX.cM,MX.cM,MX.cM,bU]
def Ib:Sp:=λvs H Q _=>∃o n p,vs=[.str (S (fO eX o)),.int ((n:Nat):Int),.int ((p:Nat):Int)]/\n<=1024/\p<=1000000000000000000/\ ∀H' l,(∀b o,H b=some o->H' b=some o)->H' l=some (.lst (dQ (pM o n p)))->(pM o n p).length<=1000000->Q (.ref l) H'
theorem adK(F:aG K "map_text" "map_text" F' f fd)(g:GI mg)(GT:aN P w K mg base au 1 "to_bytes" ["text"] Bp):aD P w K mg base au 2 f fd ["operator","length","place"] Ib:=by
 refine F.oK Aj λaF A outer s H vs Q E hr h=> ?_;obtain⟨o,n,p,rfl,hn,hp,q⟩:=h;refine⟨_,ay (bH (i:=3) Aj.nd rfl (aZ rfl) (wg (jt bZ (jt (rT (pv 1)) (jt bZ we)))))
  (ay (bH (i:=4) Aj.nd rfl (aZ rfl) (cy iR (wg (jt bZ (jt (rT (pv 1)) (jt bZ we)))) bZ))
  (ay (bH (i:=5) Aj.nd rfl (aZ rfl) (cy iR (cy iR (cy iR bZ bZ) (wg (jt (rT (pv 0)) (jt bZ (jt (rT (pv 2)) (jt bZ we)))))) bZ))
  (aw (bw (aY GT hr a_ (ai (cy iR (cy iR (cy iR (cy iR (cy iR (cy iR (pv 3) (pv 3)) (pv 3)) (pv 4)) bZ) (pv 5)) bZ) aj)))))),?_⟩
 have sA:n<10^40:=by omega
 have OT:p<10^40:=by omega
 have ln:=MP.iU n;have lp:=MP.iU p;have lo:=MP.DY o;have e0:sP=S []:=by decide+kernel
 have l0:(sP).length=0:=by decide+kernel
 have a1:(bV "array ").length=6:=by decide+kernel
 have a2:(bV ";").length=1:=by decide+kernel
 have a3:(bV "num s1 ").length=7:=by decide+kernel
 have a4:(bV "width s0;num s2 1;calc add s3 s1 s0 @0;calc sub s3 s3 s2 @0;calc quo s3 s3 s0 @0;").length<=200:=by decide+kernel
 have a5:(bV "calc mul s5 s4 s0 @0;fill v0 s5;lanes v1;add v0 v0 v1 @0;calc sub s6 s1 s5 @0;tail m0 s6;").length<=200:=by decide+kernel
 have a6:(bV "read v2 a0 v0 ?m0;read v3 a1 v0 ?m0;").length<=200:=by decide+kernel
 have a7:(bV " v4 v2 v3 @").length<=200:=by decide+kernel
 have a8:(bV " ?m0;").length<=200:=by decide+kernel
 have a9:(bV "write a2 v0 v4 ?m0;raise;").length<=200:=by decide+kernel
 have a10:(bV "for s4 s3 {").length<=200:=by decide+kernel
 have a11:(bV "}").length<=200:=by decide+kernel
 have dn:(bV (toString ((n:Nat):Int))).length<=40:=by rw[MX.gq sA,MX.cM];exact ln
 have dp:(bV (toString ((p:Nat):Int))).length<=40:=by rw[MX.gq OT,MX.cM];exact lp
 have ol:(S (fO eX o)).length<=4:=by rw[MX.cM];exact lo
 have gn:=n_ (show((n:Nat):Int).natAbs<2^64 by omega)
 have gp:=n_ (show((p:Nat):Int).natAbs<2^64 by omega)
 refine⟨_,rfl,(by rw[aR];simp only[gE,l0];omega),_,rfl,_,.inl ⟨_,rfl,gn,rfl⟩,_,rfl,(by rw[aR];simp only[gE,l0];omega),_,rfl,(by rw[aR];simp only[gE,l0];omega),(by rw[aR];simp only[gE,l0];omega),?_⟩
 refine⟨_,rfl,(by rw[aR];simp only[gE,l0];omega),_,rfl,_,.inl ⟨_,rfl,gn,rfl⟩,_,rfl,(by rw[aR];simp only[gE,l0];omega),_,rfl,(by rw[aR];simp only[gE,l0];omega),(by rw[aR];simp only[gE,l0];omega),_,_,rfl,rfl,(by rw[aR];simp only[gE,l0];omega),?_⟩
 refine⟨_,_,rfl,rfl,(by rw[aR];omega),_,rfl,_,.inr ⟨rfl,(by rw[aR];omega)⟩,_,rfl,(by rw[aR];simp only[gE,l0];omega),_,rfl,(by rw[aR];simp only[gE,l0];omega),_,rfl,_,.inl ⟨_,rfl,gp,rfl⟩,_,rfl,(by rw[aR];simp only[gE,l0];omega),_,rfl,(by rw[aR];simp only[gE,l0];omega),(by rw[aR];simp only[gE,l0];omega),?_⟩
 refine⟨_,_,rfl,rfl,(by rw[aR];simp only[gE,l0];omega),_,_,rfl,rfl,(by rw[aR];simp only[gE,l0];omega),?_⟩
 refine⟨_,rfl,_,rfl,_,_,rfl,rfl,(by rw[aR];simp only[gE,l0];omega),_,rfl,_,_,rfl,rfl,(by rw[aR];simp only[gE,l0];omega),_,rfl,_,_,rfl,rfl,(by rw[aR];simp only[gE,l0];omega),_,_,rfl,rfl,(by rw[aR];simp only[gE,l0];omega),_,rfl,_,_,rfl,rfl,(by rw[aR];simp only[gE,l0];omega),_,_,rfl,rfl,(by rw[aR];simp only[gE,l0];omega),?_⟩
 have ml:(pM o n p).length<=1000000:=by
  have st:∀s:String,(aE s).length=(bV s).length:=λs=>by rw[MX.lZ,MX.cM]
  rw[map_eq];simp only[bU,st];omega
 refine⟨pM o n p,?_,ml,λH' l k h=>q H' l k h ml⟩;rw[map_eq,MX.gq sA,MX.gq OT,e0];simp only[MX.lZ,MX.dF,sU];rfl
end
open Vaarrj (State Call step)
def cV(cv:V)(ar rg:ae):List (Str×V):=[("code",cv),("arrays",.ref ar),("registers",.ref rg)]
structure pB(R:Cl)(C:Cg)(m:ae)(s:State)(HM:Hp)(cu:ae)(cv:V)(ar:ae)(as:List ae)(G:Rg)(HC:Hp):Prop where
 ob:HM m=some (.ins C.cq cu (cV cv ar G.reg))
 arr:uB HM ar as s.machine.arrays
 reg:nZ R HM G s.machine
 tb:jc R HM
 hc:∀b o,HC b=some o->HM b=some o
 hm:HC m=none
 hr:HC ar=none
 ht:∀t∈R.cf,HC t=none
 ao:ar∉as
 ag:ar∉G.all
 wf:MR.WF s.machine
 nums:MR.Nums s.machine
 cd:match s.code with
  |none=>cv=.aO/\s.machine.arrays=[]
  |some c=>∃cd,cv=.ref cd/\HY R C HC cd c/\MP.Good c/\MR.lW s.machine=c.lengths
def kZ(R:Cl)(C:Cg)(m:ae)(s:State)(HM:Hp):Prop:=∃cu cv ar as G HC,pB R C m s HM cu cv ar as G HC
def Out(F H:Hp):Hp:=λb=>if(F b).isSome=true then none else H b
def Sub(F H:Hp):Prop:=∀b o,F b=some o->H b=some o
section
variable{R:Cl}{C:Cg}{F H H' HM iY:Hp}{m:ae}{s:State}
theorem bS{b:ae}{o:HO}(h:Out F H b=some o):H b=some o/\F b=none:=by
 unfold Out at h;by_cases z:(F b).isSome=true
 ·rw[if_pos z] at h;cases h
 ·rw[if_neg z] at h;exact⟨h,by cases q:F b with|none=>rfl|some _=>rw[q] at z;exact absurd rfl z⟩
theorem fB{b:ae}{o:HO}(h:H b=some o)(hf:F b=none):Out F H b=some o:=by
 unfold Out;rw[hf,if_neg (by simp)];exact h
theorem Ic(k:Sub H H'):Sub (Out F H) (Out F H'):=λb o e=>let ⟨a,c⟩:=bS e;fB (k b o a) c
theorem ir{l:ae}{o:HO}(hl:H l=none):Sub H (upd H l o):=λb u e=>by rw[ak (bD e hl)];exact e
theorem Sub.trans{H1 H2 H3:Hp}(a:Sub H1 H2)(b:Sub H2 H3):Sub H1 H3:=λc o e=>b c o (a c o e)
theorem Sub.none{b:ae}(a:Sub F H)(h:H b=none):F b=Option.none:=by
 cases z:F b with
 |none=>rfl
 |some o=>rw[a _ _ z] at h;cases h
theorem pB.mono{cu ar:ae}{cv:V}{as:List ae}{G:Rg}{HC:Hp}(h:pB R C m s HM cu cv ar as G HC)(k:Sub HM iY):pB R C m s iY cu cv ar as G HC:=
 ⟨k _ _ h.ob,⟨k _ _ h.arr.l,h.arr.n,λj b e=>k _ _ (h.arr.at_ j b e)⟩,h.reg.mono λb o e _=>k b o e,h.tb.mono k,λb o e=>k _ _ (h.hc b o e),h.hm,h.hr,h.ht,h.ao,h.ag,h.wf,h.nums,h.cd⟩
theorem kZ.mono(h:kZ R C m s HM)(k:Sub HM iY):kZ R C m s iY:=by
 obtain⟨cu,cv,ar,as,G,HC,h⟩:=h;exact⟨cu,cv,ar,as,G,HC,h.mono k⟩
end
structure MK(K:az)(R:Cl)(C:Cg):Prop where
 cls:iz K C.cq
 code:dC K C.cq "code"
 arrays:dC K C.cq "arrays"
 pC:dC K C.cq "registers"
 tl:R.cf.length=R.rY.length
 tn:R.cf.Nodup
def bB(l:List Int):List V:=l.map V.int
def Bt(R:Cl)(C:Cg)(F:Hp)(m:ae)(r:State×Cd)(Q:VK):Prop:=∀H' al,Sub F H'->kZ R C m r.1 (Out F H')->H' al=some (.lst (bB (kJ r.2)))->F al=none->Q (.ref al) H'
def mJ(R:Cl)(C:Cg)(q:Nat):Sp:=λvs H Q _=>∃F m s nl rl nums row k,vs=[.ref m,.ref nl,.ref rl]/\MC.Is q nums row k/\Sub F H/\kZ R C m s (Out F H)/\F nl=some (.lst (bB nums))/\F rl=some (.lst (bB row))/\Bt R C F m (step s k) Q
section
variable{P:aS}{w:aL}{K:az}{mg:Str->Option ah}{base:aC}{R:Cl}{C:Cg}{f:ae}{fd:bK}
theorem fZ{F H H1:Hp}{m:ae}{s:State}{a:Cd}{Q:VK}{l:ae}{vs:List V}(q:Bt R C F m (s,a) Q)(hF:Sub F H)(hM:kZ R C m s (Out F H))(k:Sub H H1)(hl:H1 l=none)(e:vs=bB (kJ a)):Q (.ref l) (upd H1 l (.lst vs)):=by
 subst e;have k2:=k.trans (ir (o:=.lst (bB (kJ a))) hl);exact q _ l (hF.trans k2) (hM.mono (Ic k2)) aB ((hF.trans k).none hl)
def xB(K:az):Sp:=λvs H Q _=>∃a ys k,vs=[.ref a,.int k]/\aI K H a ys/\Q (.bl (decide (0<=k/\k<(ys.length:Int)))) H
theorem adL(F:aG K "is_there" "is_there" Gg f fd)(g:GI mg):aD P w K mg base au 1 f fd ["rows","wanted"] (xB K):=by
 refine F.oK ZK λaF A outer s H vs Q E hr h=> ?_;obtain⟨a,ys,k,rfl,ha,q⟩:=h;refine⟨_,aw (bw (yE iQ gz aQ (pv 1) (eS iA (by rfl) g.fW gj (ai (pv 0) aj)))),?_⟩
 refine⟨_,rfl,_,_,rfl,rfl,_,rfl,bY (λz=> ?_) λz=> ?_⟩
 ·refine⟨_,rfl,_,_,rfl,.inl ha,_,_,rfl,rfl,?_⟩;have e:decide (k<(ys.length:Int))=decide (0<=k/\k<(ys.length:Int)):=decide_eq_decide.mpr ⟨λy=>⟨z,y⟩,λy=>y.2⟩;show Q (.bl (decide (k<(ys.length:Int)))) H;rw[e];exact q
 ·rw[decide_eq_false λy=>z y.1] at q;exact q
def xC:Sp:=λvs H Q _=>∃(a:ae) (as:List ae) (k:Int),∃rows:List (List V),vs=[.ref a,.int k]/\H a=some (.lst (as.map V.ref))/\as.length=rows.length/\ (∀(j:Nat) (b:ae),as[j]? =some b->H b=some (.lst ((rows[j]?).getD [])))/\ (∀r∈rows,r.length<=1000000)/\
 (¬(0<=k/\k<(as.length:Int))->∀l,H l=none->Q (.ref l) (upd H l (.lst [.int (-5)])))/\
 (0<=k/\k<(as.length:Int)->∀H1 l,Sub H H1->H1 l=none->Q (.ref l) (upd H1 l (.lst (.int 0::(rows[k.toNat]?).getD []))))
theorem adM(F:aG K "row_held" "row_held" Gi f fd)(g:GI mg)(GT:aN P w K mg base au 1 "is_there" ["rows","wanted"] (xB K)):aD P w K mg base au 2 f fd ["rows","wanted"] xC:=by
 refine F.oK ZN λaF A outer s H vs Q E hr h=> ?_;obtain⟨a,as,k,rows,rfl,ha,hl,iX,hz,q1,q2⟩:=h;refine⟨_,ay (b7 (lF (gZ (aY GT hr a_ (ai (pv 0) (ai (pv 1) aj))))) (aw (bw (cR (ai (b_ g.Gx) aj)))) cJ)
  (aw (bw (cy C7 (cR (ai aQ aj)) (cj cH (pv 0) (pv 1) (λ_ _=>rfl))))),?_⟩
 refine⟨_,rfl,_,rfl,a,_,k,rfl,aI.of ha,_,rfl,?_⟩;rw[bx];by_cases z:0<=k/\k<(as.length:Int)
 ·rw[decide_eq_true z];obtain⟨j,rfl⟩:∃j:Nat,k=(j:Int):=⟨k.toNat,by omega⟩
  have jl:j<as.length:=by omega
  obtain⟨b,hb⟩:∃b,as[j]? =some b:=⟨_,eI jl⟩;have hB:=iX j b hb;have fh:rows[j]? =some rows[j]:=eI (by omega)
  have hzz:((rows[j]?).getD []).length<=1000000:=by rw[fh];exact hz _ (x6 _)
  refine⟨(by show 1<=sizeLine;rw[aR];decide),λl jJ=> ?_⟩
  have s1:Sub H (upd H l (.lst [.int 0])):=ir jJ;refine⟨_,rfl,_,rfl,_,_,_,_,rfl,rfl,aI.of (s1 _ _ ha),cX (k:=j) (by rw[dH,hb];rfl),?_⟩
  refine⟨_,_,_,_,rfl,rfl,aB,s1 _ _ hB,(by rw[aR];simp;omega),λp hp=> ?_⟩
  have q3:=q2 z _ p s1 hp;rw[gW] at q3;exact q3
 ·rw[decide_eq_false z];exact⟨(by show 1<=sizeLine;rw[aR];decide),λl jJ=>q1 z l jJ⟩
end
section
variable{P:aS}{w:aL}{K:az}{mg:Str->Option ah}{base:aC}{R:Cl}{C:Cg}{f:ae}{fd:bK}
theorem qE(n:Int):kb (bB [n]) 0=some (.int n):=cX (k:=0) rfl
theorem adN(F:aG K "answer_vector" "answer_vector" Gk f fd)(M:MK K R C)(e:EK K R)(g:GI mg)(GR:aN P w K mg base au 2 "row_held" ["rows","wanted"] xC):aD P w K mg base au 3 f fd ["machine","numbers","row"] (mJ R C 7):=by
 refine F.oK ZR λaF A outer s H vs Q E hr h=> ?_;obtain⟨F0,m,s,nl,rl,nums,row,k,rfl,is,hF,hM,hn,hw,q⟩:=h;cases is with
 |vector n hb=>
 refine⟨_,aw (bw (aY GR hr a_ (ai (aP (aP (pv 0) rfl) rfl) (ai (cj cH (pv 1) aQ (λ_ _=>rfl)) aj)))),?_⟩;have f7:=hM;obtain⟨cu,cv,ar,as,G,HC,I⟩:=hM;refine⟨_,rfl,_,_,_,_,_,rfl,(bS I.ob).1,M.cls,M.pC,rfl,_,_,_,_,_,rfl,(bS I.reg.reg).1,e.iG,e.GY,rfl,_,rfl,_,_,_,_,rfl,rfl,aI.of (hF _ _ hn),qE n,?_⟩;refine⟨G.vs,G.va,n,s.machine.vs.map λv=>v.map V.int,rfl,(bS I.reg.vs).1,by rw[I.reg.va,bx,I.wf.vs],λj b hb=> ?_,λr hr=> ?_,λz l hl=> ?_,λz H1 l k1 hl=> ?_⟩
 ·rw[(bS (I.reg.v j b hb)).1];unfold c8;rw[dH];cases s.machine.vs[j]? <;>rfl
 ·obtain⟨v,hv,rfl⟩:=mY.mp hr;have:=I.wf.vl v hv;have:=I.wf.fA;rw[bx];omega
 ·have ea:step s (.vector n)=(s,i6 tq):=by
   show(s,_)=_;unfold nj;rw[if_neg (by rw[I.reg.va] at z;exact z)]
  rw[ea] at q;exact fZ q hF f7 (λ_ _ e=>e) hl rfl
 ·have ea:step s (.vector n)=(s,j8 (c8 s.machine n.toNat)):=by
   show(s,_)=_;unfold nj;rw[if_pos (by rw[I.reg.va] at z;exact z)]
  rw[ea] at q;refine fZ q hF f7 k1 hl ?_;show _=V.int 0::bB (c8 s.machine n.toNat);unfold c8;rw[dH];cases s.machine.vs[n.toNat]? <;>rfl
theorem adO(F:aG K "answer_mask" "answer_mask" Gs f fd)(M:MK K R C)(e:EK K R)(g:GI mg)(GR:aN P w K mg base au 2 "row_held" ["rows","wanted"] xC):aD P w K mg base au 3 f fd ["machine","numbers","row"] (mJ R C 9):=by
 refine F.oK ZU λaF A outer s H vs Q E hr h=> ?_;obtain⟨F0,m,s,nl,rl,nums,row,k,rfl,is,hF,hM,hn,hw,q⟩:=h;cases is with
 |mask n hb=>
 refine⟨_,aw (bw (aY GR hr a_ (ai (aP (aP (pv 0) rfl) rfl) (ai (cj cH (pv 1) aQ (λ_ _=>rfl)) aj)))),?_⟩;have f7:=hM;obtain⟨cu,cv,ar,as,G,HC,I⟩:=hM;refine⟨_,rfl,_,_,_,_,_,rfl,(bS I.ob).1,M.cls,M.pC,rfl,_,_,_,_,_,rfl,(bS I.reg.reg).1,e.iG,e.AE,rfl,_,rfl,_,_,_,_,rfl,rfl,aI.of (hF _ _ hn),qE n,?_⟩;refine⟨G.ms,G.ma,n,s.machine.ms.map λv=>v.map bit,rfl,(bS I.reg.ms).1,by rw[I.reg.ma,bx,I.wf.ms],λj b hb=> ?_,λr hr=> ?_,λz l hl=> ?_,λz H1 l k1 hl=> ?_⟩
 ·rw[(bS (I.reg.m j b hb)).1];unfold maskOf;rw[dH];cases s.machine.ms[j]? <;>rfl
 ·obtain⟨v,hv,rfl⟩:=mY.mp hr;have:=I.wf.ml v hv;have:=I.wf.fA;rw[bx];omega
 ·have ea:step s (.mask n)=(s,i6 tq):=by
   show(s,_)=_;unfold nj;rw[if_neg (by rw[I.reg.ma] at z;exact z)]
  rw[ea] at q;exact fZ q hF f7 (λ_ _ e=>e) hl rfl
 ·have ea:step s (.mask n)=(s,j8 ((maskOf s.machine n.toNat).map λb=>if b=true then 1 else 0)):=by
   show(s,_)=_;unfold nj;rw[if_pos (by rw[I.reg.ma] at z;exact z)]
  rw[ea] at q;refine fZ q hF f7 k1 hl ?_;show _=V.int 0::bB ((maskOf s.machine n.toNat).map λb=>if b=true then 1 else 0)
  unfold maskOf bB;rw[dH,iO];cases s.machine.ms[n.toNat]? <;>rfl
theorem adP(F:aG K "answer_scalar" "answer_scalar" Gm f fd)(M:MK K R C)(e:EK K R)(g:GI mg)(GT:aN P w K mg base au 1 "is_there" ["rows","wanted"] (xB K)):aD P w K mg base au 2 f fd ["machine","numbers","row"] (mJ R C 8):=by
 refine F.oK Nf λaF A outer s H vs Q E hr h=> ?_;obtain⟨F0,m,s,nl,rl,nums,row,k,rfl,is,hF,hM,hn,hw,q⟩:=h;cases is with
 |scalar n hb=>
 refine⟨_,ay (bH (i:=3) Nf.nd rfl (aZ rfl) (aP (aP (pv 0) rfl) rfl))
  (ay (b7 (lF (gZ (aY GT hr a_ (ai (pv 3) (ai (cj cH (pv 1) aQ (λ_ _=>rfl)) aj))))) (aw (bw (cR (ai (b_ g.Gx) aj)))) cJ)
  (aw (bw (cR (ai aQ (ai (cj cH (pv 3) (cj cH (pv 1) aQ (λ_ _=>rfl)) (λ_ _=>rfl)) aj)))))),?_⟩
 have f7:=hM;obtain⟨cu,cv,ar,as,G,HC,I⟩:=hM;refine⟨_,rfl,_,_,_,_,_,rfl,(bS I.ob).1,M.cls,M.pC,rfl,_,_,_,_,_,rfl,(bS I.reg.reg).1,e.iG,e.AD,rfl,?_⟩;have hs:=(bS I.reg.ss).1;have el:(s.machine.ss.map V.int).length=16:=by rw[bx,I.wf.ss]
 refine⟨_,rfl,_,rfl,_,_,_,_,rfl,rfl,aI.of (hF _ _ hn),qE n,_,_,_,rfl,aI.of hs,_,rfl,?_⟩;rw[el];by_cases z:0<=n/\n<((16:Nat):Int)
 ·rw[decide_eq_true z];have ea:step s (.scalar n)=(s,j8 [dI s.machine n.toNat]):=by
   show(s,_)=_;unfold nj;rw[if_pos z]
  rw[ea] at q;obtain⟨j,rfl⟩:∃j:Nat,n=(j:Int):=⟨n.toNat,by omega⟩
  have jl:j<s.machine.ss.length:=by rw[I.wf.ss];omega
  refine⟨_,rfl,_,rfl,_,_,_,_,rfl,rfl,aI.of (hF _ _ hn),qE _,_,_,_,_,rfl,rfl,aI.of hs,cX (k:=j) (by rw[dH,eI jl];rfl),(by show 2<=sizeLine;rw[aR];decide),λl hl=> ?_⟩
  refine fZ q hF f7 (λ_ _ e=>e) hl ?_;show[V.int 0,V.int _]=[V.int 0,V.int (dI s.machine ((j:Nat):Int).toNat)];unfold dI;rw[gW,eI jl];rfl
 ·rw[decide_eq_false z];have ea:step s (.scalar n)=(s,i6 tq):=by
   show(s,_)=_;unfold nj;rw[if_neg z]
  rw[ea] at q;exact⟨(by show 1<=sizeLine;rw[aR];decide),λl hl=>fZ q hF f7 (λ_ _ e=>e) hl rfl⟩
theorem Bu{s:State}{c:Ca}(g:MP.Good c)(h:MR.lW s.machine=c.lengths):s.machine.arrays.length<=32/\ ∀v∈s.machine.arrays,v.length<=1024:=by
 unfold MR.lW at h;refine⟨?_,λv hv=> ?_⟩
 ·have:=congrArg jX h;rw[bx] at this;rw[this];exact g.ln
 ·exact g.le _ (by rw[<-h];exact mY.mpr ⟨v,hv,rfl⟩)
theorem adQ(F:aG K "answer_array" "answer_array" Gj f fd)(M:MK K R C)(e:EK K R)(g:GI mg)(GR:aN P w K mg base au 2 "row_held" ["rows","wanted"] xC):aD P w K mg base au 3 f fd ["machine","numbers","row"] (mJ R C 6):=by
 refine F.oK ZP λaF A outer s H vs Q E hr h=> ?_;obtain⟨F0,m,s,nl,rl,nums,row,k,rfl,is,hF,hM,hn,hw,q⟩:=h;cases is with
 |array n hb=>
 refine⟨_,ay (b7 (jh (oG (aP (pv 0) rfl))) (aw (bw (cR (ai (b_ g.Au) aj)))) cJ)
  (aw (bw (aY GR hr a_ (ai (aP (pv 0) rfl) (ai (cj cH (pv 1) aQ (λ_ _=>rfl)) aj))))),?_⟩
 have f7:=hM;obtain⟨cu,cv,ar,as,G,HC,I⟩:=hM;refine⟨_,rfl,_,_,_,_,_,rfl,(bS I.ob).1,M.cls,M.code,rfl,_,rfl,?_⟩;have cd:=I.cd;cases ec:s.code with
 |none=>
  rw[ec] at cd;obtain⟨rfl,ea⟩:=cd;have es:step s (.array n)=(s,i6 Jt):=by show eR s _=_;unfold eR;rw[ec]
  rw[es] at q;exact dq ⟨(by show 1<=sizeLine;rw[aR];decide),λl hl=>fZ q hF f7 (λ_ _ e=>e) hl rfl⟩
 |some c=>
  rw[ec] at cd;obtain⟨cd,rfl,cA,gd,el⟩:=cd;obtain⟨al,av⟩:=Bu gd el;have le:s.machine.arrays.length=c.lengths.length:=by have:=congrArg jX el;unfold MR.lW at this;rw[bx] at this;exact this
  refine dW ⟨_,rfl,_,_,_,_,_,rfl,(bS I.ob).1,M.cls,M.arrays,rfl,_,rfl,_,_,_,_,rfl,rfl,aI.of (hF _ _ hn),qE n,?_⟩;refine⟨ar,as,n,s.machine.arrays.map λv=>v.map V.int,rfl,(bS I.arr.l).1,by rw[I.arr.n,bx],λj b hb=> ?_,λr hr=> ?_,λz l hl=> ?_,λz H1 l k1 hl=> ?_⟩
  ·rw[(bS (I.arr.at_ j b hb)).1,dH];cases s.machine.arrays[j]? <;>rfl
  ·obtain⟨v,hv,rfl⟩:=mY.mp hr;have:=av v hv;rw[bx];omega
  ·have es:step s (.array n)=(s,i6 tq):=by
    show eR s _=_;unfold eR yk;rw[ec];simp only;rw[if_neg (by rw[I.arr.n,le] at z;exact z)]
   rw[es] at q;exact fZ q hF f7 (λ_ _ e=>e) hl rfl
  ·have es:step s (.array n)=(s,j8 (dJ s.machine n.toNat)):=by
    show eR s _=_;unfold eR yk;rw[ec];simp only;rw[if_pos (by rw[I.arr.n,le] at z;exact z)]
   rw[es] at q;refine fZ q hF f7 k1 hl ?_;show _=V.int 0::bB (dJ s.machine n.toNat);unfold dJ;rw[dH];cases s.machine.arrays[n.toNat]? <;>rfl
end
section
variable{R:Cl}{C:Cg}{HM iY HC:Hp}{m cu ar:ae}{s:State}{cv:V}{as:List ae}{G:Rg}
theorem pB.rest(I:pB R C m s HM cu cv ar as G HC)(k:∀b o,HM b=some o->b≠m->iY b=some o):uB iY ar as s.machine.arrays/\nZ R iY G s.machine/\jc R iY/\Sub HC iY:=by
 have n1:∀{b:ae} {xs:List V},HM b=some (.lst xs)->b≠m:=λh=>cE h I.ob (by intro z;cases z)
 have n2:G.reg≠m:=cE I.reg.reg I.ob (by intro z;injection z with _ _ z;injection z with z _;injection z with z _;revert z;decide)
 refine⟨⟨k _ _ I.arr.l (n1 I.arr.l),I.arr.n,λj b e=>k _ _ (I.arr.at_ j b e) (n1 (I.arr.at_ j b e))⟩,⟨k _ _ I.reg.reg n2,k _ _ I.reg.vs (n1 I.reg.vs),k _ _ I.reg.ms (n1 I.reg.ms),k _ _ I.reg.ss (n1 I.reg.ss),I.reg.va,I.reg.ma,λj b e=>k _ _ (I.reg.v j b e) (n1 (I.reg.v j b e)),λj b e=>k _ _ (I.reg.m j b e) (n1 (I.reg.m j b e))⟩,λi b e=> ?_,λb o e=>k _ _ (I.hc b o e) (λz=>by rw[z,I.hm] at e;cases e)⟩
 obtain⟨q,e1,e2⟩:=I.tb i b e;refine⟨q,e1,e2.imp (λz=>k _ _ z (cE z I.ob (by intro z;cases z))) λz=> ?_⟩
 obtain⟨c,h1,h2⟩:=z;exact⟨c,k _ _ h1 (cE h1 I.ob (by intro z;cases z)),k _ _ h2 (cE h2 I.ob (by unfold iE;intro z;cases z))⟩
end
section
variable{P:aS}{w:aL}{K:az}{mg:Str->Option ah}{base:aC}{R:Cl}{C:Cg}{f:ae}{fd:bK}
theorem D9{c:Ca}(g:MP.Good c):(yj c).length<=500000:=by
 obtain⟨l1,l2⟩:=OR g;have jl:=MP.y6 (k:=302) (MP.iT c) l2;rw[MP.DX];exact dw jl (by omega)
theorem OU(t:aM):bB (Vaarrj.ints t)=dQ t:=by unfold bB Vaarrj.ints dQ;rw[iO];rfl
theorem adR(F:aG K "answer_plain" "answer_plain" Gd f fd)(M:MK K R C)(g:GI mg)(GP:aN P w K mg base au 19 "plain_text" ["code"] (Ia R C)):aD P w K mg base au 20 f fd ["machine","numbers","row"] (mJ R C 2):=by
 refine F.oK ZF λaF A outer s H vs Q E hr h=> ?_;obtain⟨F0,m,s,nl,rl,nums,row,k,rfl,is,hF,hM,hn,hw,q⟩:=h;cases is with
 |plain=>
 refine⟨_,ay (b7 (jh (oG (aP (pv 0) rfl))) (aw (bw (cR (ai (b_ g.Au) aj)))) cJ)
  (aw (bw (cy C7 (cR (ai aQ aj)) (aY GP hr a_ (ai (aP (pv 0) rfl) aj))))),?_⟩
 have f7:=hM;obtain⟨cu,cv,ar,as,G,HC,I⟩:=hM;refine⟨_,rfl,_,_,_,_,_,rfl,(bS I.ob).1,M.cls,M.code,rfl,_,rfl,?_⟩;have cd:=I.cd;cases ec:s.code with
 |none=>
  rw[ec] at cd;obtain⟨rfl,ea⟩:=cd;have es:step s .plain=(s,i6 Jt):=by show eR s _=_;unfold eR;rw[ec]
  rw[es] at q;exact dq ⟨(by show 1<=sizeLine;rw[aR];decide),λl hl=>fZ q hF f7 (λ_ _ e=>e) hl rfl⟩
 |some c=>
  rw[ec] at cd;obtain⟨cd,rfl,cA,gd,el⟩:=cd;have es:step s .plain=(s,j8 (Vaarrj.ints (yj c))):=by show eR s _=_;unfold eR;rw[ec]
  rw[es] at q;refine dW ⟨(by show 1<=sizeLine;rw[aR];decide),λl hl=> ?_⟩
  have s1:Sub H (upd H l (.lst [.int 0])):=ir hl;refine⟨_,rfl,_,_,_,_,_,rfl,s1 _ _ (bS I.ob).1,M.cls,M.code,rfl,HC,cd,c,rfl,λb o e=>s1 _ _ (bS (I.hc b o e)).1,cA,gd,λH2 l2 k2 h2=> ?_⟩;refine⟨_,_,_,_,rfl,rfl,k2 _ _ aB,h2,(by rw[ik,aR];have:=D9 gd;simp;omega),λp hp=> ?_⟩
  refine fZ q hF f7 (s1.trans k2) hp ?_;show[V.int 0]++dQ (yj c)=V.int 0::bB (Vaarrj.ints (yj c));rw[OU];rfl
theorem Ie{l:List Int}{j:Nat}{n:Int}(h:l[j]? =some n):kb (bB l) (j:Int)=some (.int n):=cX (by unfold bB;exact ia h)
theorem adS(F:aG K "answer_width" "answer_width" Ge f fd)(M:MK K R C)(e:EK K R)(g:GI mg)(RC:sj K mg R):aD P w K mg base au 3 f fd ["machine","numbers","row"] (mJ R C 3):=by
 obtain⟨fr,ip,Mr,Fr,mR⟩:=RC.reg;have GR:aD P w K mg base au 1 fr ip ["self","width"] (xh R):=AQ Fr g e;have bR:=Fr.b2 "self" "width";refine F.oK Nc λaF A outer s H vs Q E hr h=> ?_;obtain⟨F0,m,s,nl,rl,nums,row,k,rfl,is,hF,hM,hn,hw,q⟩:=h;cases is with
 |width n hb=>
 refine⟨_,ay (bH (i:=3) Nc.nd rfl (aZ rfl) (cj cH (pv 1) aQ (λ_ _=>rfl)))
  (ay (b7 (kM (bW gz (pv 3) aQ (bQ _)) (nE (bW lL (pv 3) (b_ g.ZY) (bQ _)))).pt (aw (bw (cR (ai (b_ g.Av) aj)))) cJ)
  (ay (cT (pv 0) (j' Mr GR hr rfl mR bR .nil a_ (ai (pv 3) aj)) rfl)
  (aw (bw (cR (ai aQ aj)))))),?_⟩
 have f7:=hM;obtain⟨cu,cv,ar,as,G,HC,I⟩:=hM;refine⟨_,rfl,_,_,_,_,rfl,rfl,aI.of (hF _ _ hn),qE n,?_⟩;have bad:(n<1\/16<n)->∀l,H l=none->Q (.ref l) (upd H l (.lst [.int (-4)])):=λz l hl=>by
  have es:step s (.width n)=(s,i6 Ql):=by
   show(if n<1\/16<n then _ else _)=_
   rw[if_pos z]
  rw[es] at q;exact fZ q hF f7 (λ_ _ e=>e) hl rfl
 refine⟨_,rfl,_,_,rfl,rfl,_,rfl,bY (λz=> ?_) λz=> ?_⟩
 ·exact dq ⟨(by show 1<=sizeLine;rw[aR];decide),λl hl=>bad (.inl z) l hl⟩
 refine⟨_,rfl,_,_,rfl,rfl,_,rfl,bY (λz2=> ?_) λz2=> ?_⟩
 ·exact⟨(by show 1<=sizeLine;rw[aR];decide),λl hl=>bad (.inr z2) l hl⟩
 obtain⟨wd,rfl⟩:∃wd:Nat,n=(wd:Int):=⟨n.toNat,by omega⟩
 have es:step s (.width (wd:Int))=({s with machine:=tj wd s.machine.arrays},{value:=0}):=by
  show(if((wd:Int)<1\/16<(wd:Int)) then _ else _)=_
  rw[if_neg (by omega),gW]
 rw[es] at q;refine⟨_,rfl,λx dx nx nd ne=>⟨x,dx,wd,rfl,aB,by omega,by omega,λH1 G' eg ed rg sk=>⟨rfl,?_⟩⟩⟩
 subst eg ed;obtain⟨m1,k1⟩:=Made.nest (bS I.ob).1 nx nd sk;refine⟨_,rfl,_,_,_,_,rfl,k1 _ _ (bS I.ob).1,M.cls,M.pC,(by show 3<1000;decide),?_⟩
 refine⟨(by show 1<=sizeLine;rw[aR];decide),λl hl=> ?_⟩
 have mF:F0 m=none:=(bS I.ob).2;have ee:aA "registers" (.ref G'.reg) (cV cv ar G.reg)=cV cv ar G'.reg:=rfl;have nm:∀b∈(G'.reg::G'.all),b≠m:=λb hb z=>by have:=m1.fr b hb;rw[z,(bS I.ob).1] at this;cases this
 have frF:∀b∈(G'.reg::G'.all),F0 b=none:=λb hb=>hF.none (m1.fr b hb);have lm:l≠m:=λz=>by rw[z,aB] at hl;cases hl
 rw[ee] at hl⊢;have kk:∀b o,H1 b=some o->b≠m->upd (upd H1 m (.ins C.cq cu (cV cv ar G'.reg))) l (.lst [.int 0]) b=some o:=λb o eb n=>by
  have:upd H1 m (.ins C.cq cu (cV cv ar G'.reg)) b=some o:=by rw[ak n];exact eb
  rw[ak (bD this hl)];exact this
 have ko:∀b o,Out F0 H b=some o->b≠m->Out F0 (upd (upd H1 m (.ins C.cq cu (cV cv ar G'.reg))) l (.lst [.int 0])) b=some o:=λb o eb n=>fB (kk _ _ (k1 _ _ (bS eb).1) n) (bS eb).2;obtain⟨a1,a2,a3,a4⟩:=I.rest ko;refine q _ l (λb o eb=>kk _ _ (k1 _ _ (hF _ _ eb)) (λz=>by rw[z,mF] at eb;cases eb)) ⟨cu,cv,ar,as,G',HC,fB (by rw[ak (Ne.symm lm),aB]) mF,a1,(rg s.machine.arrays).mono λb o eb hb=> ?_,a3,a4,I.hm,I.hr,I.ht,I.ao,λz=> ?_,MR.WF.fresh (by omega) (by omega) _,MR.Nums.fresh wd I.nums.ar,?_⟩ aB (hF.none (Sub.none (F:=H) k1 (by rw[ak lm] at hl;exact hl)))
 ·have hb:b∈(G'.reg::G'.all):=cC.mpr hb;exact fB (kk _ _ eb (nm b hb)) (frF b hb)
 ·have:=m1.fr ar (fD _ z);rw[(bS I.arr.l).1] at this;cases this
 ·exact I.cd
end
section
variable{P:aS}{w:aL}{K:az}{mg:Str->Option ah}{base:aC}{R:Cl}{C:Cg}{f:ae}{fd:bK}
theorem boot_all:mU "all"=some (.builtin "all"):=by decide+kernel
def Ig:Sp:=λvs H Q _=>∃k:Int,vs=[.int k]/\Q (.bl (decide (-1000000000000000000<=k/\k<=1000000000000000000))) H
theorem adT(F:aG K "is_number" "is_number" Gf f fd)(g:GI mg):aD P w K mg base au 1 f fd ["number"] Ig:=by
 refine F.oK ZI λaF A outer s H vs Q E hr h=> ?_;obtain⟨k,rfl,q⟩:=h;refine⟨_,aw (bw (yE iQ iQ (b_ g.As) (pv 0) (b_ g.qr))),?_⟩;refine⟨_,rfl,_,_,rfl,rfl,_,rfl,bY (λz=> ?_) λz=> ?_⟩
 ·refine⟨_,_,rfl,rfl,?_⟩;have e:decide (k<=1000000000000000000)=decide (-1000000000000000000<=k/\k<=1000000000000000000):=decide_eq_decide.mpr ⟨λy=>⟨z,y⟩,λy=>y.2⟩;show Q (.bl (decide (k<=1000000000000000000))) H;rw[e];exact q
 ·rw[decide_eq_false λy=>z y.1] at q;exact q
theorem adU:(eX.map λx=>(kC (S x):Key)).Nodup:=by
 have h:eX.Nodup:=by decide+kernel
 refine List.Pairwise.map _ (λa b hab z=>hab ?_) h;injection z with z
 exact MX.lY z
theorem adV(F:aG K "answer_map" "answer_map" Gv f fd)(g:GI mg)(ON:so K w mg)(GM:aN P w K mg base au 2 "map_text" ["operator","length","place"] Ib):aD P w K mg base au 3 f fd ["machine","numbers","row"] (mJ R C 10):=by
 obtain⟨ta,D,mT,tab,keys⟩:=ON.two;refine F.oK Aq λaF A outer s H vs Q E hr h=> ?_;obtain⟨F0,m,s,nl,rl,nums,row,k,rfl,is,hF,hM,hn,hw,q⟩:=h;cases is with
 |map o n p ho xD hp=>
 refine⟨_,ay (bH (i:=3) Aq.nd rfl (aZ rfl) (cj cH (pv 1) aQ (λ_ _=>rfl)))
  (ay (bH (i:=4) Aq.nd rfl (aZ rfl) (cj cH (pv 1) aQ (λ_ _=>rfl)))
  (ay (bH (i:=5) Aq.nd rfl (aZ rfl) (cj cH (pv 1) aQ (λ_ _=>rfl)))
  (ay (b7 (kM (bW gz (pv 3) aQ (bQ _)) (nE (bW JV (pv 3) (eS WO (by rfl) g.fW gj (ai (iH mT) aj)) (bQ _)))).pt (aw (bw (cR (ai (b_ g.Av) aj)))) cJ)
  (ay (b7 (kM (bW gz (pv 4) aQ (bQ _)) (kM (bW lL (pv 4) (b_ g.Nk) (bQ _)) (kM (bW gz (pv 5) aQ (bQ _)) (nE (bW lL (pv 5) (b_ g.qr) (bQ _)))))).pt (aw (bw (cR (ai (b_ g.Av) aj)))) cJ)
  (aw (bw (cy C7 (cR (ai aQ aj)) (aY GM hr a_ (ai (cj cH (oN (WQ rfl) (by rfl) g.Aw boot_list (ai (iH mT) aj)) (pv 3) (λ_ _=>rfl)) (ai (pv 4) (ai (pv 5) aj))))))))))),?_⟩
 have hN:=aI.of (K:=K) (hF _ _ hn);have eg:qS=1000000000000000000:=rfl;have dl:D.length=13:=by have:=congrArg jX keys;rw[bx,bx] at this;rw[this];decide+kernel
 have dn:(D.map (·.1)).Nodup:=by rw[keys];exact adU
 refine⟨_,rfl,_,_,_,_,rfl,rfl,hN,Ie (j:=0) rfl,?_⟩;refine⟨_,rfl,_,_,_,_,rfl,rfl,hN,Ie (j:=1) rfl,?_⟩;refine⟨_,rfl,_,_,_,_,rfl,rfl,hN,Ie (j:=2) rfl,?_⟩;have bad:(o<0\/12<o\/n<0\/1024<n\/p<0\/qS<p)->∀H1 l,Sub H H1->H1 l=none->Q (.ref l) (upd H1 l (.lst [.int (-4)])):=λz H1 l k1 hl=>by
  have es:step s (.map o n p)=(s,i6 Ql):=by
   show(s,ym o n p)=_;unfold ym;rw[if_pos z]
  rw[es] at q;exact fZ q hF hM k1 hl rfl
 have l1:([V.int (-4)]:List V).length<=sizeLine:=by show 1<=sizeLine;rw[aR];decide
 have rf:Sub H H:=λ_ _ e=>e;refine⟨_,rfl,_,_,rfl,rfl,_,rfl,bY (λz=> ?_) λz1=> ?_⟩
 ·exact dq ⟨l1,λl hl=>bad (.inl z) H l rf hl⟩
 refine⟨_,rfl,_,_,rfl,tab,dn,by omega,_,_,rfl,rfl,_,rfl,bY (λz=> ?_) λz2=> ?_⟩
 ·exact⟨l1,λl hl=>bad (.inr (.inl (by rw[dl] at z;omega))) H l rf hl⟩
 rw[dl] at z2;refine⟨_,rfl,_,_,rfl,rfl,_,rfl,bY (λz=> ?_) λz3=> ?_⟩
 ·exact dq ⟨l1,λl hl=>bad (.inr (.inr (.inl z))) H l rf hl⟩
 refine⟨_,rfl,_,_,rfl,rfl,_,rfl,bY (λz=> ?_) λz4=> ?_⟩
 ·exact dq ⟨l1,λl hl=>bad (.inr (.inr (.inr (.inl z)))) H l rf hl⟩
 refine⟨_,rfl,_,_,rfl,rfl,_,rfl,bY (λz=> ?_) λz5=> ?_⟩
 ·exact dq ⟨l1,λl hl=>bad (.inr (.inr (.inr (.inr (.inl z))))) H l rf hl⟩
 refine⟨_,rfl,_,_,rfl,rfl,_,rfl,bY (λz=> ?_) λz6=> ?_⟩
 ·exact⟨l1,λl hl=>bad (.inr (.inr (.inr (.inr (.inr (by rw[eg];exact z)))))) H l rf hl⟩
 obtain⟨oo,rfl⟩:∃oo:Nat,o=(oo:Int):=⟨o.toNat,by omega⟩
 obtain⟨nn,rfl⟩:∃nn:Nat,n=(nn:Int):=⟨n.toNat,by omega⟩
 obtain⟨pp,rfl⟩:∃pp:Nat,p=(pp:Int):=⟨p.toNat,by omega⟩
 have es:step s (.map (oo:Int) (nn:Int) (pp:Int))=(s,j8 (Vaarrj.ints (pM oo nn pp))):=by
  show(s,ym _ _ _)=_;unfold ym;rw[if_neg (by rw[eg];omega),gW,gW,gW]
 rw[es] at q;refine⟨(by show 1<=sizeLine;rw[aR];decide),λl hl=> ?_⟩
 have s1:Sub H (upd H l (.lst [.int 0])):=ir hl;refine⟨_,_,rfl,tab,dn,by omega,λlt dR=> ?_⟩
 have s2:Sub (upd H l (.lst [.int 0])) (upd (upd H l (.lst [.int 0])) lt (.lst (D.map λp=>kV p.1))):=ir dR;have kD:(D.map λp=>kV p.1)=eX.map λx=>V.str (S x):=by
  have:=congrArg (List.map kV) keys;rw[iO,iO] at this;exact this
 have o13:oo<eX.length:=by show oo<13;omega
 have eo:(eX.map λx=>V.str (S x))[oo]? =some (.str (S (fO eX oo))):=by
  unfold fO;rw[dH,eI o13];rfl
 refine⟨_,rfl,_,_,_,_,rfl,rfl,aI.of aB,(by rw[kD];exact cX eo),?_⟩
 refine⟨_,rfl,_,rfl,oo,nn,pp,rfl,by omega,by omega,λH3 l3 k3 h3 ml=> ?_⟩
 refine⟨_,_,_,_,rfl,rfl,k3 _ _ (s2 _ _ aB),h3,(by rw[ik,aR];simp;omega),λpf hpf=> ?_⟩
 refine fZ q hF hM ((s1.trans s2).trans k3) hpf ?_;show[V.int 0]++dQ (pM oo nn pp)=V.int 0::bB (Vaarrj.ints (pM oo nn pp));rw[OU];rfl
theorem adW(F:aG K "answer_where" "answer_where" Gb f fd)(g:GI mg)(FC:n6 K mg C)(GC:aN P w K mg base (bq P w) 43 "read_code" ["text"] (xy K R C)):aD P w K mg base au 44 f fd ["machine","numbers","text"] (mJ R C 1):=by
 obtain⟨NF,ff,si,FK,mF⟩:=FC.ex;refine F.oK Nb λaF A outer s H vs Q E hr h=> ?_;obtain⟨F0,m,s,nl,rl,nums,row,k,rfl,is,hF,hM,hn,hw,q⟩:=h;cases is with
 |where_ er hb hl=>
 rename_i t;subst er;refine⟨_,ay (b7 (bW lL (eS iA (by rfl) g.fW gj (ai (pv 2) aj)) (b_ g.Nj) (bQ _)) (aw (bw (cR (ai aQ (ai aQ aj))))) cJ)
  (ay (Mt (i:=3) FK.cls ⟨rfl,rfl⟩ rfl Nb.nd rfl rfl rfl mF (λpn xe E hp=>aw (bO (aY GC hr hp (ai (pv 2) aj)))) (λx=>aw (bw (cR (ai aQ (ai (Ek FK.cls FK.pos (pv 3) rfl) aj))))))
  (aw (bw (cR (ai aQ (ai aQ aj)))))),?_⟩
 have eb:bB (t.map λ(c:Nat)=>(c:Int))=dQ t:=by unfold bB dQ;rw[iO];rfl
 rw[eb] at hw;have hT:=aI.of (K:=K) (hF _ _ hw);have l2:∀a b:Int,([V.int a,V.int b]:List V).length<=sizeLine:=λa b=>by show 2<=sizeLine;rw[aR];decide
 refine⟨_,rfl,_,_,rfl,.inl hT,_,_,rfl,rfl,_,rfl,bY (λz=> ?_) λz=> ?_⟩
 ·rw[ik] at z;have es:step s (.where_ t)=(s,{value:=1,list:=[0]}):=by
   show(s,if 16384<t.length then _ else _)=_
   rw[if_pos (by omega)]
  rw[es] at q;exact⟨l2 _ _,λl hl=>fZ q hF hM (λ_ _ e=>e) hl rfl⟩
 ·rw[ik] at z;refine⟨_,rfl,rl,t,rfl,hT,hl,?_⟩;cases er:Ju t with
  |error p=>
   have es:step s (.where_ t)=(s,{value:=2,list:=[((p:Nat):Int)]}):=by
    show(s,if 16384<t.length then _ else _)=_
    rw[if_neg (by omega),er]
   rw[es] at q;intro H' d kk hd;refine⟨rfl,d,rfl,λσ' x hs hx=> ?_⟩;have up:Sub H (upd H' x (qm C.mz x d)):=λb o eb=>by rw[ak (bD (kk _ _ eb) hx)];exact kk _ _ eb
   have xd:d≠x:=λz=>by rw[z,hx] at hd;cases hd
   obtain⟨a0,a1,a2,a3,rfl⟩:∃a0 a1 a2 a3,σ'=[a0,a1,a2,a3]:=by
    have:σ'.length=4:=hs
    match σ',this with
    |[a0,a1,a2,a3],_=>exact⟨a0,a1,a2,a3,rfl⟩
   refine⟨_,rfl,x,d,_,_,rfl,aB,by rw[ak xd];exact hd,rfl,l2 _ _,λl hl=> ?_⟩
   exact fZ q hF hM up hl rfl
  |ok c=>
   have es:step s (.where_ t)=(s,{value:=0,list:=[0]}):=by
    show(s,if 16384<t.length then _ else _)=_
    rw[if_neg (by omega),er]
   rw[es] at q;intro gd H' HC cd kk hc cA;exact⟨l2 _ _,λl hl=>fZ q hF hM kk hl rfl⟩
end
section
variable{R:Cl}{C:Cg}{HM iY HC:Hp}{m cu ar:ae}{s:State}{cv:V}{as:List ae}{G:Rg}
theorem pB.adX(I:pB R C m s HM cu cv ar as G HC)(k:∀b o,HM b=some o->b≠ar->iY b=some o):iY m=some (.ins C.cq cu (cV cv ar G.reg))/\ (∀(j:Nat) (b:ae),as[j]? =some b->iY b=some (.lst (((s.machine.arrays[j]?).getD []).map V.int)))/\nZ R iY G s.machine/\jc R iY/\Sub HC iY:=by
 refine⟨k _ _ I.ob (cE I.ob I.arr.l (by intro z;cases z)),λj b e=>k _ _ (I.arr.at_ j b e) (λz=>I.ao (by rw[<-z];exact d7 e)),I.reg.mono λb o e hb=>k _ _ e ?_,λi b e=> ?_,λb o e=>k _ _ (I.hc b o e) (λz=>by rw[z,I.hr] at e;cases e)⟩
 ·rcases hb with z|z
  ·rw[z];exact cE I.reg.reg I.arr.l (by intro z;cases z)
  ·exactλy=>I.ag (by rw[<-y];exact z)
 ·obtain⟨q,e1,e2⟩:=I.tb i b e;refine⟨q,e1,e2.imp (λz=>k _ _ z (cE z I.arr.l (by intro z;cases z))) λz=> ?_⟩
  obtain⟨c,h1,h2⟩:=z;exact⟨c,k _ _ h1 (cE h1 I.arr.l (by intro z;cases z)),k _ _ h2 (cE h2 I.arr.l (by unfold iE;intro z;cases z))⟩
end
section
variable{P:aS}{w:aL}{K:az}{mg:Str->Option ah}{base:aC}{R:Cl}{C:Cg}{f:ae}{fd:bK}
theorem adY(d:List Int)(h:∀k∈d,-1000000000000000000<=k/\k<=1000000000000000000):(d.map λk=>decide (-1000000000000000000<=k/\k<=1000000000000000000)).all id=true:=by
 rw[List.all_map,kH];intro k hk;exact decide_eq_true (h k hk)
theorem adZ(F:aG K "answer_set" "answer_set" An f fd)(M:MK K R C)(g:GI mg)(GT:aN P w K mg base au 1 "is_there" ["rows","wanted"] (xB K))(GN:aN P w K mg base au 1 "is_number" ["number"] Ig):aD P w K mg base au 2 f fd ["machine","numbers","data"] (mJ R C 4):=by
 refine F.oK Ao λaF A outer s H vs Q E hr h=> ?_;obtain⟨F0,m,s,nl,rl,nums,row,k,rfl,is,hF,hM,hn,hw,q⟩:=h;cases is with
 |set n _ xD hd hdl=>
 refine⟨_,ay (b7 (jh (oG (aP (pv 0) rfl))) (aw (bw (cR (ai (b_ g.Au) aj)))) cJ)
  (ay (bH (i:=3) Ao.nd rfl (aZ rfl) (cj cH (pv 1) aQ (λ_ _=>rfl)))
  (ay (b7 (lF (gZ (aY GT hr a_ (ai (aP (pv 0) rfl) (ai (pv 3) aj))))) (aw (bw (cR (ai (b_ g.Gx) aj)))) cJ)
  (ay (b7 (kM (bW jj (eS iA (by rfl) g.fW gj (ai (pv 2) aj)) (eS iA (by rfl) g.fW gj (ai (cj cH (aP (pv 0) rfl) (pv 3) (λ_ _=>rfl)) aj)) (bQ _))
    (nE (lF (gZ (eS (R0 rfl) (by rfl) g.aad boot_all (ai (nL (own:=[("number",4)]) rfl Ao.nd (g8 (pv 2)) (show jn Nd (aK An) _ _ from⟨rfl,by decide+kernel,by decide+kernel,by decide+kernel,by decide+kernel⟩) (λ_ _ _ _ _=>fv (i:=4) Ao.nd rfl (aZ rfl))
      (λ_ _ _ _ _=>oQ) (λ_ _ _ _ _=>aY GN hr a_ (ai (pv 4) aj))) aj)))))).pt (aw (bw (cR (ai (b_ g.Z9) aj)))) cJ)
  (ay (jE (oN Kq (by rfl) g.Aw boot_list (ai (pv 2) aj)) (jD (aP (pv 0) rfl) (pv 3) set_list))
  (aw (bw (cR (ai aQ aj)))))))),?_⟩
 have f7:=hM;obtain⟨cu,cv,ar,as,G,HC,I⟩:=hM;have l1:∀k:Int,([V.int k]:List V).length<=sizeLine:=λk=>by show 1<=sizeLine;rw[aR];decide
 have hD:=aI.of (K:=K) (hF _ _ hw);refine⟨_,rfl,_,_,_,_,_,rfl,(bS I.ob).1,M.cls,M.code,rfl,_,rfl,?_⟩;have cd:=I.cd;cases ec:s.code with
 |none=>
  rw[ec] at cd;obtain⟨rfl,ea⟩:=cd;have es:step s (.set n row)=(s,i6 Jt):=by show eR s _=_;unfold eR;rw[ec]
  rw[es] at q;exact dq ⟨l1 _,λl hl=>fZ q hF f7 (λ_ _ e=>e) hl rfl⟩
 |some c=>
  rw[ec] at cd;obtain⟨cd,rfl,cA,gd,el⟩:=cd;have le:s.machine.arrays.length=c.lengths.length:=by have:=congrArg jX el;unfold MR.lW at this;rw[bx] at this;exact this
  obtain⟨al,av⟩:=Bu gd el;refine dW ⟨_,rfl,_,_,_,_,rfl,rfl,aI.of (hF _ _ hn),qE n,?_⟩;have hA:=(bS I.arr.l).1;refine⟨_,rfl,_,_,_,_,_,rfl,(bS I.ob).1,M.cls,M.arrays,rfl,_,rfl,ar,_,n,rfl,aI.of hA,_,rfl,?_⟩;rw[bx];by_cases z:0<=n/\n<(as.length:Int)
  ·rw[decide_eq_true z];obtain⟨j,rfl⟩:∃j:Nat,n=(j:Int):=⟨n.toNat,by omega⟩
   have jl:j<as.length:=by omega
   have ja:j<s.machine.arrays.length:=by rw[<-I.arr.n];exact jl
   obtain⟨b,hb⟩:∃b,as[j]? =some b:=⟨_,eI jl⟩;have hB:=(bS (I.arr.at_ j b hb)).1;have hz:dJ s.machine j=(s.machine.arrays[j]?).getD []:=rfl;rw[<-hz] at hB;have Bv:step s (.set (j:Int) row)=if row.length≠(dJ s.machine j).length\/row.all B7=false then(s,i6 Vaarrj.DATA) else({s with machine:={s.machine with arrays:=s.machine.arrays.set j row}},{value:=0}):=by
    show eR s _=_;unfold eR yk;rw[ec];simp only;rw[if_pos (by rw[<-le,<-I.arr.n];exact z),gW]
   have ga:row.all B7=true:=by
    rw[kH];intro k hk;have:=hd k hk;unfold B7;have eg:qS=1000000000000000000:=rfl;rw[eQ,decide_eq_true_iff,decide_eq_true_iff,eg];exact this
   have ld:(bB row).length=row.length:=by unfold bB;rw[bx]
   refine⟨_,rfl,_,_,rfl,.inl hD,_,rfl,_,_,_,_,_,rfl,(bS I.ob).1,M.cls,M.arrays,rfl,_,rfl,_,_,_,_,rfl,rfl,aI.of hA,cX (k:=j) (by rw[dH,hb];rfl),_,_,rfl,.inl (aI.of hB),rfl,_,rfl,?_⟩
   rw[ld,bx];by_cases lz:row.length=(dJ s.machine j).length
   ·rw[decide_eq_true (by rw[lz])]
    rw[if_neg (by intro y;rcases y with y|y;· exact y lz
                  ·rw[ga] at y;cases y)] at Bv
    rw[Bv] at q;refine⟨_,rfl,rl,rfl,⟨_,hD⟩,λJ hJ=>qf (K:=K) (a:=rl) (xs:=bB row) (λi H'=>Sub H H'/\H' J=some (.lst (((row.take i).map λk=>decide (-1000000000000000000<=k/\k<=1000000000000000000)).map V.bl))) ⟨ir hJ,by rw[aB];rfl⟩ (λi H' _ p=>tY.seq p.1 hD) (λi v H' hi p=> ?_) λH1 p=> ?_⟩
    ·obtain⟨x,hx,rfl⟩:∃x,row[i]? =some x/\v=.int x:=by
      unfold bB at hi;rw[dH] at hi;cases y:row[i]? with
      |none=>rw[y] at hi;cases hi
      |some n=>rw[y] at hi;exact⟨n,rfl,by injection hi with hi;exact hi.symm⟩
     refine⟨rfl,_,rfl,x,rfl,_,p.2,?_,λb o e=> ?_,?_⟩
     ·rw[bx,bx,jY,aR];omega
     ·rw[ak (bD e hJ)];exact p.1 _ _ e
     ·rw[aB,MR.take_snoc hx,iw,iw];rfl
    obtain⟨k1,j1⟩:=p;rw[ld,oE] at j1;refine⟨_,_,rfl,aI.of j1,_,rfl,?_⟩;rw[adY row hd];refine⟨_,rfl,_,_,rfl,.inl (tY.seq k1 hD),λnb OV=> ?_⟩;have k2:Sub H (upd H1 nb (.lst (bB row))):=k1.trans (ir OV);have Ih:H nb=none:=k1.none OV;refine⟨_,rfl,_,_,_,_,_,rfl,k2 _ _ (bS I.ob).1,M.cls,M.arrays,rfl,_,rfl,_,_,_,_,rfl,rfl,k2 _ _ hA,jQ (k:=j) (by rw[bx];exact jl),?_⟩
    refine⟨l1 _,λl hl=> ?_⟩;have la:l≠ar:=λz=>by rw[z,aB] at hl;cases hl
    have OW:nb≠ar:=λz=>by rw[z,hA] at Ih;cases Ih
    have OX:F0 ar=none:=(bS I.arr.l).2;have kk:∀b o,upd H1 nb (.lst (bB row)) b=some o->b≠ar->upd (upd (upd H1 nb (.lst (bB row))) ar (.lst ((as.map V.ref).set j (.ref nb)))) l (.lst [.int 0]) b=some o:=λb o eb n=>by
     have:upd (upd H1 nb (.lst (bB row))) ar (.lst ((as.map V.ref).set j (.ref nb))) b=some o:=by rw[ak n];exact eb
     rw[ak (bD this hl)];exact this
    have ko:∀b o,Out F0 H b=some o->b≠ar->Out F0 (upd (upd (upd H1 nb (.lst (bB row))) ar (.lst ((as.map V.ref).set j (.ref nb)))) l (.lst [.int 0])) b=some o:=λb o eb n=>fB (kk _ _ (k2 _ _ (bS eb).1) n) (bS eb).2;obtain⟨b1,b2,b3,b4,b5⟩:=I.adX ko;refine q _ l (λb o eb=>kk _ _ (k2 _ _ (hF _ _ eb)) (λz=>by rw[z,OX] at eb;cases eb)) ⟨cu,.ref cd,ar,as.set j nb,G,HC,b1,⟨fB (by rw[ak (Ne.symm la),aB,u7]) OX,by rw[gV,gV];exact I.arr.n,λi b e=> ?_⟩,⟨b3.reg,b3.vs,b3.ms,b3.ss,b3.va,b3.ma,b3.v,b3.m⟩,b4,b5,I.hm,I.hr,I.ht,λy=> ?_,I.ag,I.wf.arrays _,I.nums.zd (λk hk=> ?_) j,?_⟩ aB (hF.none (k2.none (by rw[ak la] at hl;exact hl)))
    ·by_cases ij:i=j
     ·subst ij;rw[uS jl] at e;cases e;rw[uS ja];exact fB (kk _ _ aB OW) (hF.none Ih)
     ·rw[uT (Ne.symm ij)] at e;show _=some (HO.lst ((((s.machine.arrays.set j row)[i]?).getD []).map V.int));rw[uT (Ne.symm ij)];exact b2 i b e
    ·rcases MR.mem_set y with z|z
     ·exact OW z.symm
     ·exact I.ao z
    ·have:=hd k hk;exact⟨by show-qS<=k;exact this.1,by show k<=qS;exact this.2⟩
    ·show match s.code with|none=>_|some c=>_
     rw[ec];exact⟨cd,rfl,cA,gd,by rw[<-el];exact MR.L5 s.machine j row lz⟩
   ·rw[decide_eq_false (by intro y;injection y with y;exact lz (by omega))]
    rw[if_pos (.inl lz)] at Bv;rw[Bv] at q;exact dq ⟨l1 _,λl hl=>fZ q hF f7 (λ_ _ e=>e) hl rfl⟩
  ·rw[decide_eq_false z];have es:step s (.set n row)=(s,i6 tq):=by
    show eR s _=_;unfold eR yk;rw[ec];simp only;rw[if_neg (by rw[I.arr.n,le] at z;exact z)]
   rw[es] at q;exact⟨l1 _,λl hl=>fZ q hF f7 (λ_ _ e=>e) hl rfl⟩
end
section
variable{P:aS}{w:aL}{K:az}{mg:Str->Option ah}{base:aC}{R:Cl}{C:Cg}{f:ae}{fd:bK}
theorem ad0(F:aG K "answer_load" "answer_load" Al f fd)(M:MK K R C)(e:EK K R)(k:jU K C)(g:GI mg)(RC:sj K mg R)(FC:n6 K mg C)(GC:aN P w K mg base (bq P w) 43 "read_code" ["text"] (xy K R C)):aD P w K mg base au 44 f fd ["machine","numbers","text"] (mJ R C 0):=by
 obtain⟨NF,ff,si,FK,mF⟩:=FC.ex;obtain⟨fr,ip,Mr,Fr,mR⟩:=RC.reg;have GR:aD P w K mg base au 1 fr ip ["self","width"] (xh R):=AQ Fr g e;have bR:=Fr.b2 "self" "width";refine F.oK Am λaF A outer s H vs Q E hr h=> ?_;obtain⟨F0,m,s,nl,rl,nums,row,kc,rfl,is,hF,hM,hn,hw,q⟩:=h;have iX:=hr.mono (show 2<=43 by decide)
 cases is with
 |load er hb hl=>
 rename_i t;subst er;refine⟨_,ay (b7 (bW lL (eS iA (by rfl) g.fW gj (ai (pv 2) aj)) (b_ g.Nj) (bQ _)) (aw (bw (cR (ai (b_ g.Z7) aj)))) cJ)
  (ay (Ww FK.cls ⟨rfl,rfl⟩ rfl mF (λpn xe E hp=>aw (bH (i:=3) Am.nd rfl (aZ rfl) (aY GC hr hp (ai (pv 2) aj)))) (λx=>aw (bw (cR (ai (b_ g.Z8) aj)))))
  (ay (cT (pv 0) (pv 3) rfl)
  (ay (cT (pv 0) (nL (own:=[("length",4)]) rfl Am.nd (g8 (aP (pv 3) rfl)) (show jn Na (aK Al) _ _ from⟨rfl,by decide+kernel,by decide+kernel,by decide+kernel,by decide+kernel⟩) (λ_ _ _ _ _=>fv (i:=4) Am.nd rfl (aZ rfl))
    (λ_ _ _ _ _=>oQ) (λ_ _ _ _ _=>cy vw (cR (ai aQ aj)) (pv 4))) rfl)
  (ay (cT (pv 0) (j' Mr GR iX rfl mR bR .nil a_ (ai (aP (aP (pv 0) rfl) rfl) aj)) rfl)
  (aw (bw (cR (ai (eS iA (by rfl) g.fW gj (ai (aP (pv 3) rfl) aj)) (ai (aP (pv 3) rfl) aj))))))))),?_⟩
 have eb:bB (t.map λ(c:Nat)=>(c:Int))=dQ t:=by unfold bB dQ;rw[iO];rfl
 rw[eb] at hw;have hT:=aI.of (K:=K) (hF _ _ hw);have l1:∀k:Int,([V.int k]:List V).length<=sizeLine:=λk=>by show 1<=sizeLine;rw[aR];decide
 refine⟨_,rfl,_,_,rfl,.inl hT,_,_,rfl,rfl,_,rfl,bY (λz=> ?_) λz=> ?_⟩
 ·rw[ik] at z;have es:step s (.load t)=(s,i6 Vaarrj.LONG):=by
   show tu s t=_;unfold tu;rw[if_pos (by omega)]
  rw[es] at q;exact⟨l1 _,λl hl=>fZ q hF hM (λ_ _ e=>e) hl rfl⟩
 rw[ik] at z;refine⟨_,rfl,rl,t,rfl,hT,hl,?_⟩;cases er:Ju t with
 |error p=>
  have es:step s (.load t)=(s,i6 Vaarrj.FORM):=by
   show tu s t=_;unfold tu;rw[if_neg (by omega),er]
  rw[es] at q;intro H' d kk hd;exact⟨rfl,λσ' hs=>⟨l1 _,λl hl=>fZ q hF hM kk hl rfl⟩⟩
 |ok c=>
  have es:step s (.load t)=({code:=some c,machine:=tj s.machine.width (c.lengths.map λn=>cZ n 0)},{value:=((c.lengths.length:Nat):Int),list:=[((c.body.size:Nat):Int)]}):=by
   show tu s t=_;unfold tu;rw[if_neg (by omega),er]
  rw[es] at q;intro gd H1 HC cd k1 hc cA;have k1:Sub H H1:=k1;obtain⟨cu,cv,ar,as,G,HC0,I⟩:=hM;obtain⟨gU,ll,bl,ts,c1,c2,c3,c4⟩:=cA;have gln:=gd.ln;have om:=k1 _ _ (bS I.ob).1;have qF:F0 m=none:=(bS I.ob).2;refine⟨_,rfl,_,rfl,_,_,_,_,rfl,om,M.cls,M.code,(by show 3<1000;decide),?_⟩
  have e1:aA "code" (.ref cd) (cV cv ar G.reg)=cV (.ref cd) ar G.reg:=rfl;rw[e1];have cm:cd≠m:=λz=>by have:=(hc _ _ c1).2;rw[z,(bS I.ob).1] at this;cases this
  have OY:∀{b:ae} {o:HO},HC b=some o->b≠m:=λ{b o} h z=>by have:=(hc _ _ h).2;rw[z,(bS I.ob).1] at this;cases this
  have p2:upd H1 m (.ins C.cq cu (cV (.ref cd) ar G.reg)) m=some (.ins C.cq cu (cV (.ref cd) ar G.reg)):=aB;have k2:∀b o,H1 b=some o->b≠m->upd H1 m (.ins C.cq cu (cV (.ref cd) ar G.reg)) b=some o:=λb o eb n=>by rw[ak n];exact eb
  have m2:Made m H1 (upd H1 m (.ins C.cq cu (cV (.ref cd) ar G.reg))) []:=(Made.refl ⟨_,om⟩).write;generalize upd H1 m (.ins C.cq cu (cV (.ref cd) ar G.reg))=H2 at p2 k2 m2;have C2:∀{b:ae} {o:HO},HC b=some o->H2 b=some o:=λh=>k2 _ _ (hc _ _ h).1 (OY h);refine⟨_,rfl,_,_,_,_,_,rfl,C2 c1,k.jd,k.lengths,rfl,ll,rfl,⟨_,aI.of (C2 c2)⟩,λD hD=>qf (K:=K) (a:=ll) (xs:=iq c.lengths) (iW H2 D λj=>.lst (((((c.lengths.map λn=>cZ n (0:Int))[j]?).getD [])).map V.int)) (iW.start hD) (λi H' _ rI=> ?_) (λi v H' hi rI=> ?_) λH3 rI=> ?_⟩
  ·obtain⟨_,_,_,kp,_⟩:=rI;exact aI.of (kp _ _ (C2 c2))
  ·obtain⟨n,xD,rfl⟩:∃n,c.lengths[i]? =some n/\v=.int ((n:Nat):Int):=by
    unfold iq at hi;rw[dH] at hi;cases y:c.lengths[i]? with
    |none=>rw[y] at hi;cases hi
    |some n=>rw[y] at hi;exact⟨n,rfl,by injection hi with hi;exact hi.symm⟩
   have adJ:=gd.le n (d7 xD);have il:=(dy.mp xD).1;refine⟨rfl,(by show 1<=sizeLine;rw[aR];decide),λx hx=>⟨_,rfl,x,_,_,rfl,rfl,aB,by omega,by omega,(by show 1*_<=sizeLine;rw[aR,gW];omega),λr fh=> ?_⟩⟩
   have lr:r≠x:=λz=>by rw[z,aB] at fh;cases fh
   have se:H' r=none:=by rw[ak lr] at fh;exact fh
   rw[gW,Hc];refine rI.next hD se (λb o eb=>by rw[ak (bD eb se),ak (bD eb hx)];exact eb) ?_ (by omega)
   rw[aB,dH,xD];show some (HO.lst (cZ n (V.int 0)))=some (HO.lst ((cZ n (0:Int)).map V.int));rw[Qk]
  obtain⟨aa,xq,Ho,Hq,m3⟩:=rI.made m2 hD;have k3:Sub H2 H3:=by obtain⟨_,_,_,kp,_⟩:=rI;exact kp
  have el:(iq c.lengths).length=c.lengths.length:=by unfold iq;rw[bx]
  rw[el] at xq;refine⟨_,rfl,_,_,_,_,rfl,k3 _ _ p2,M.cls,M.arrays,(by show 3<1000;decide),?_⟩
  have e2:aA "arrays" (.ref D) (cV (.ref cd) ar G.reg)=cV (.ref cd) D G.reg:=rfl;rw[e2];have m4:=m3.write (o:=.ins C.cq cu (cV (.ref cd) D G.reg));have p4:upd H3 m (.ins C.cq cu (cV (.ref cd) D G.reg)) m=some (.ins C.cq cu (cV (.ref cd) D G.reg)):=aB;have k4:∀b o,H3 b=some o->b≠m->upd H3 m (.ins C.cq cu (cV (.ref cd) D G.reg)) b=some o:=λb o eb n=>by rw[ak n];exact eb
  generalize upd H3 m (.ins C.cq cu (cV (.ref cd) D G.reg))=H4 at m4 p4 k4;have gm:G.reg≠m:=cE (bS I.reg.reg).1 (bS I.ob).1 (by intro z;injection z with _ _ z;injection z with z _;injection z with z _;revert z;decide)
  have rg4:=k4 _ _ (k3 _ _ (k2 _ _ (k1 _ _ (bS I.reg.reg).1) gm)) gm;have w1:=I.wf.w1;have fA:=I.wf.fA;refine⟨_,rfl,_,_,_,_,_,rfl,p4,M.cls,M.pC,rfl,_,_,_,_,_,rfl,rg4,e.iG,e.r0,rfl,λx dx nx nd ne=>⟨x,dx,s.machine.width,rfl,aB,w1,fA,λH5 G' eg ed rg sk=>⟨rfl,?_⟩⟩⟩;subst eg ed;obtain⟨m5,k5⟩:=Made.nest p4 nx nd sk;refine⟨_,rfl,_,_,_,_,rfl,k5 _ _ p4,M.cls,M.pC,(by show 3<1000;decide),?_⟩
  have e3:aA "registers" (.ref G'.reg) (cV (.ref cd) D G.reg)=cV (.ref cd) D G'.reg:=rfl;rw[e3];have m6:=(m4.trans m5).write (o:=.ins C.cq cu (cV (.ref cd) D G'.reg));have p6:upd H5 m (.ins C.cq cu (cV (.ref cd) D G'.reg)) m=some (.ins C.cq cu (cV (.ref cd) D G'.reg)):=aB;have k6:∀b o,H5 b=some o->b≠m->upd H5 m (.ins C.cq cu (cV (.ref cd) D G'.reg)) b=some o:=λb o eb n=>by rw[ak n];exact eb
  generalize upd H5 m (.ins C.cq cu (cV (.ref cd) D G'.reg))=H6 at m6 p6 k6;have xE:∀b o,H3 b=some o->b≠m->H6 b=some o:=λb o eb n=>k6 _ _ (k5 _ _ (k4 _ _ eb n)) n;have C6:∀{b:ae} {o:HO},HC b=some o->H6 b=some o:=λh=>xE _ _ (k3 _ _ (C2 h)) (OY h);refine⟨_,rfl,_,_,_,_,_,rfl,C6 c1,k.jd,k.lengths,rfl,_,_,rfl,.inl (aI.of (C6 c2)),_,rfl,_,_,_,_,_,rfl,C6 c1,k.jd,k.size,rfl,(by show 2<=sizeLine;rw[aR];decide),λl jJ=> ?_⟩
  rw[el];have f6:∀b∈([]++(D::aa))++(G'.reg::G'.all),H1 b=none:=m6.fr;have fH:∀b∈([]++(D::aa))++(G'.reg::G'.all),H b=none:=λb hb=>k1.none (f6 b hb);have fF:∀b∈([]++(D::aa))++(G'.reg::G'.all),F0 b=none:=λb hb=>hF.none (fH b hb);have fm:∀b∈([]++(D::aa))++(G'.reg::G'.all),b≠m:=λb hb z=>by have:=fH b hb;rw[z,(bS I.ob).1] at this;cases this
  have fC:∀b∈([]++(D::aa))++(G'.reg::G'.all),HC b=none:=λb hb=>by
   cases y:HC b with
   |none=>rfl
   |some o=>have:=f6 b hb;rw[(hc _ _ y).1] at this;cases this
  have iD:D∈([]++(D::aa))++(G'.reg::G'.all):=by simp
  have OZ:(([]++(D::aa))++(G'.reg::G'.all)).Nodup:=m6.nd;have s7:Sub H6 (upd H6 l (.lst [.int ((c.lengths.length:Nat):Int),.int ((c.body.size:Nat):Int)])):=ir jJ;have l7:upd H6 l (.lst [.int ((c.lengths.length:Nat):Int),.int ((c.body.size:Nat):Int)]) l=some (.lst [.int ((c.lengths.length:Nat):Int),.int ((c.body.size:Nat):Int)]):=aB;generalize upd H6 l (.lst [.int ((c.lengths.length:Nat):Int),.int ((c.body.size:Nat):Int)])=H7 at s7 l7⊢;have kp:∀b o,H b=some o->b≠m->H7 b=some o:=λb o eb n=>s7 _ _ (xE _ _ (k3 _ _ (k2 _ _ (k1 _ _ eb) n)) n);have ko:∀b o,Out F0 H b=some o->b≠m->Out F0 H7 b=some o:=λb o eb n=>fB (kp _ _ (bS eb).1 n) (bS eb).2;obtain⟨_,_,a3,_⟩:=I.rest ko;refine q H7 l (λb o eb=>kp _ _ (hF _ _ eb) (λy=>by rw[y,qF] at eb;cases eb)) ⟨cu,.ref cd,D,aa,G',HC,fB (s7 _ _ p6) qF,⟨fB (s7 _ _ (xE _ _ Hq (fm D iD))) (fF D iD),(by rw[xq];show _=(c.lengths.map λn=>cZ n (0:Int)).length;rw[bx]),λj b ck=> ?_⟩,(rg _).mono λb o eb ck=> ?_,a3,λb o h=>fB (s7 _ _ (C6 h)) (hF.none (hc _ _ h).2),?_,fC D iD,λt ht=> ?_,λy=> ?_,λy=> ?_,MR.WF.fresh w1 fA _,MR.Nums.fresh _ λv hv n yH=> ?_,?_⟩ l7 (Sub.none (H:=H6) (λb o eb=>xE _ _ (k3 _ _ (k2 _ _ (k1 _ _ (hF _ _ eb)) (λy=>by rw[y,qF] at eb;cases eb))) (λy=>by rw[y,qF] at eb;cases eb)) jJ)
  ·have ib:b∈([]++(D::aa))++(G'.reg::G'.all):=by simp[d7 ck]
   exact fB (s7 _ _ (xE _ _ (Ho j b ck) (fm b ib))) (fF b ib)
  ·have ib:b∈([]++(D::aa))++(G'.reg::G'.all):=by rcases ck with y|y<;>simp[y]
   exact fB (s7 _ _ (k6 _ _ eb (fm b ib))) (fF b ib)
  ·cases y:HC m with
   |none=>rfl
   |some o=>have:=(hc _ _ y).2;rw[(bS I.ob).1] at this;cases this
  ·cases y:HC t with
   |none=>rfl
   |some o=>
    exfalso;have:=(hc _ _ y).2;obtain⟨i,hi⟩:=lC ht;obtain⟨qq,_,h1|⟨cc,h1,_⟩⟩:=I.tb i t hi
    ·rw[(bS h1).1] at this;cases this
    ·rw[(bS h1).1] at this;cases this
  ·have nd7:(D::aa).Nodup:=(u6.mp OZ).1;exact(fE.mp nd7).1 y
  ·exact(u6.mp OZ).2.2 D (by simp) D (fD _ y) rfl
  ·obtain⟨x,_,rfl⟩:=mY.mp hv;rw[(x8.mp yH).2];exact MR.zb
  ·refine⟨cd,rfl,⟨gU,ll,bl,ts,c1,c2,c3,c4⟩,gd,?_⟩;show(c.lengths.map λn=>cZ n (0:Int)).map jX=c.lengths;rw[iO]
   conv=>rhs;rw[<-Jk c.lengths]
   exact pJ λn _=>qK
end
def k_(F:Hp):Prop:=∀b φ,F b≠some (.ext φ)
def ad1(R:Cl)(C:Cg):Sp:=λvs H Q E=>(∃F m s nl rl nums row k,vs=[.ref m,.ref nl,.ref rl]/\MC.Is 5 nums row k/\Sub F H/\kZ R C m s (Out F H)/\F nl=some (.lst (bB nums))/\F rl=some (.lst (bB row))/\k_ F/\Bt R C F m (step s k) Q)
section
variable{P:aS}{w:aL}{K:az}{mg:Str->Option ah}{base:aC}{R:Cl}{C:Cg}{f:ae}{fd:bK}
theorem Ii{F H:Hp}(hF:Sub F H)(hE:k_ F)(ht:∀t∈R.cf,F t=none)(h:jc R H):jc R (Out F H):=λi b e=>by
 obtain⟨q,e1,e2⟩:=h i b e;have fb:=ht b (d7 e);refine⟨q,e1,e2.imp (λz=>fB z fb) λz=> ?_⟩;obtain⟨c,h1,h2⟩:=z;refine⟨c,fB h1 fb,fB h2 ?_⟩;cases y:F c with
 |none=>rfl
 |some o=>
  have:=hF _ _ y;rw[h2] at this;cases this;exact absurd y (hE c _)
theorem ad2(F:aG K "answer_run" "answer_run" Gh f fd)(M:MK K R C)(e:EK K R)(k:jU K C)(g:GI mg)(SC:nX K mg R)(GF:aN P w K mg base (bq P w) 22 "finished_run" ["code","width","arrays","budget"] (Hx R C)):aD P w K mg base au 23 f fd ["machine","numbers","row"] (ad1 R C):=by
 obtain⟨NS,fS,fdS,SK,mS⟩:=SC.ex;refine F.oK Ap λaF A outer s H vs Q E hr h=> ?_;obtain⟨F0,m,s,nl,rl,nums,row,kc,rfl,is,hF,hM,hn,hw,hE,q⟩:=h;cases is with
 |run n hb=>
 refine⟨_,ay (b7 (jh (oG (aP (pv 0) rfl))) (aw (bw (cR (ai (b_ g.Au) aj)))) cJ)
  (ay (bH (i:=3) Ap.nd rfl (aZ rfl) (cj cH (pv 1) aQ (λ_ _=>rfl)))
  (ay (b7 (kM (bW gz (pv 3) aQ (bQ _)) (nE (bW lL (pv 3) (b_ g.Z1) (bQ _)))).pt (aw (bw (cR (ai (b_ g.Av) aj)))) cJ)
  (ay (Mt (i:=5) SK.cls ⟨rfl,rfl⟩ rfl Ap.nd rfl rfl rfl mS (λpn xe E hp=>aw (bH (i:=4) Ap.nd rfl (aZ rfl) (aY GF hr hp (ai (jR (K:=K) rfl (pv 0) rfl) (ai (jR (K:=K) rfl (jR (K:=K) rfl (pv 0) rfl) rfl) (ai (jR (K:=K) rfl (pv 0) rfl) (ai (pv 3) aj)))))))
    (λx=>aw (bw (cR (ai aQ (ai (Ek SK.cls SK.kind (pv 5) rfl) (ai (Ek SK.cls SK.place (pv 5) rfl) aj)))))))
  (ay (cT (pv 0) (aP (pv 4) rfl) rfl)
  (ay (cT (pv 0) (aP (pv 4) rfl) rfl)
  (aw (bw (cR (ai aQ (ai (cy p9 (pv 3) (aP (pv 4) rfl)) aj)))))))))),?_⟩
 have f7:=hM;obtain⟨cu,cv,ar,as,G,HC,I⟩:=hM;have l1:∀k:Int,([V.int k]:List V).length<=sizeLine:=λk=>by show 1<=sizeLine;rw[aR];decide
 refine⟨_,rfl,_,_,_,_,_,rfl,(bS I.ob).1,M.cls,M.code,rfl,_,rfl,?_⟩;have Bw:=I.cd;cases ec:s.code with
 |none=>
  rw[ec] at Bw;obtain⟨rfl,ea⟩:=Bw;have es:step s (.run n)=(s,i6 Jt):=by show eR s _=_;unfold eR;rw[ec]
  rw[es] at q;exact dq ⟨l1 _,λl hl=>fZ q hF f7 (λ_ _ e=>e) hl rfl⟩
 |some c=>
  rw[ec] at Bw;obtain⟨cd,rfl,cA,gd,el⟩:=Bw;have le:s.machine.arrays.length=c.lengths.length:=by have:=congrArg jX el;unfold MR.lW at this;rw[bx] at this;exact this
  obtain⟨al,av⟩:=Bu gd el;refine dW ⟨_,rfl,_,_,_,_,rfl,rfl,aI.of (hF _ _ hn),qE n,?_⟩;have bad:(n<0\/100000<n)->∀l,H l=none->Q (.ref l) (upd H l (.lst [.int (-4)])):=λz l hl=>by
   have es:step s (.run n)=(s,i6 Ql):=by
    show eR s _=_;unfold eR;rw[ec];simp only;rw[if_pos z]
   rw[es] at q;exact fZ q hF f7 (λ_ _ e=>e) hl rfl
  refine⟨_,rfl,_,_,rfl,rfl,_,rfl,bY (λz=> ?_) λz=> ?_⟩
  ·exact dq ⟨l1 _,λl hl=>bad (.inl z) l hl⟩
  refine⟨_,rfl,_,_,rfl,rfl,_,rfl,bY (λz2=> ?_) λz2=> ?_⟩
  ·exact⟨l1 _,λl hl=>bad (.inr z2) l hl⟩
  obtain⟨bu,rfl⟩:∃bu:Nat,n=(bu:Int):=⟨n.toNat,by omega⟩
  have es:step s (.run (bu:Int))=match Jv c s.machine.width s.machine.arrays bu with
   | .ok y=>({s with machine:=y.1},j8 [((bu-y.2:Nat):Int)])
   | .error e=>(s,{value:=1,list:=Vaarrj.ints [e.1,e.2]}):=by
   show eR s _=_;unfold eR;rw[ec];simp only;rw[if_neg (by omega),gW]
   cases Jv c s.machine.width s.machine.arrays bu<;>simp only[ec]
  rw[es] at q;obtain⟨gU,ll,bl,ts,c1,c2,c3,c4⟩:=cA;have Ij:∀{b:ae} {o:HO},HC b=some o->H b=some o:=λh=>(bS (I.hc _ _ h)).1;have ttb:jc R H:=I.tb.mono λb o e=>(bS e).1;have tF:∀t∈R.cf,F0 t=none:=λt ht=>by
   obtain⟨i,hi⟩:=lC ht;obtain⟨qq,_,h1|⟨cc,h1,_⟩⟩:=I.tb i t hi
   ·exact(bS h1).2
   ·exact(bS h1).2
  have tK:∀t∈R.cf,∃a,H t=some (.dM a):=λt ht=>by
   obtain⟨i,hi⟩:=lC ht;obtain⟨qq,_,h1|⟨cc,h1,_⟩⟩:=I.tb i t hi
   ·exact⟨_,(bS h1).1⟩
   ·exact⟨_,(bS h1).1⟩
  have rdy:xj R HC H s.machine.width ar as s.machine.arrays:=⟨I.wf.w1,I.wf.fA,⟨(bS I.arr.l).1,I.arr.n,λj b hb=>(bS (I.arr.at_ j b hb)).1⟩,al,I.nums.ar,ttb,M.tl,M.tn,λb o h=>Ij h,I.ht⟩;refine⟨_,rfl,_,_,_,_,_,rfl,(bS I.ob).1,M.cls,M.code,rfl,_,rfl,_,_,_,_,_,rfl,(bS I.ob).1,M.cls,M.pC,rfl,_,_,_,_,_,rfl,(bS I.reg.reg).1,e.iG,e.r0,rfl,_,rfl,_,_,_,_,_,rfl,(bS I.ob).1,M.cls,M.arrays,rfl,_,rfl,?_⟩;refine⟨HC,cd,gU,_,bl,ts,c.lengths,c.body,s.machine.width,ar,as,s.machine.arrays,bu,rfl,Ij c1,rfl,rdy,c3,c4,by rw[le];exact gd.ok,?_⟩
  have sC:∀{b:ae} {o:HO},H b=some o->(∀a,o≠ .dM a)->b∉R.cf:=λh hn hm=>by
   obtain⟨a,ha⟩:=tK _ hm;rw[h] at ha;cases ha;exact hn a rfl
  cases er:Jv c s.machine.width s.machine.arrays bu with
  |error fe=>
   rw[er] at q;intro H' d kp tb hd;refine⟨rfl,d,rfl,λσ' x hs hx=> ?_⟩;have xd:d≠x:=λz=>by rw[z,hx] at hd;cases hd
   obtain⟨a0,a1,a2,a3,a4,a5,rfl⟩:∃a0 a1 a2 a3 a4 a5,σ'=[a0,a1,a2,a3,a4,a5]:=by
    have:σ'.length=6:=hs
    match σ',this with
    |[a0,a1,a2,a3,a4,a5],_=>exact⟨a0,a1,a2,a3,a4,a5,rfl⟩
   have s1:Sub H' (upd H' x (qm R.stop x d)):=ir hx;have O0:upd H' x (qm R.stop x d) d=some (fJ d [("kind",.int (fe.1:Nat)),("place",.int (fe.2:Nat))]):=by rw[ak xd];exact hd
   refine⟨_,rfl,x,d,_,_,rfl,aB,O0,rfl,_,rfl,x,d,_,_,rfl,aB,O0,rfl,(by show 3<=sizeLine;rw[aR];decide),λl hl=> ?_⟩
   have s2:=s1.trans (ir (o:=.lst [.int 1,.int ((fe.1:Nat):Int),.int ((fe.2:Nat):Int)]) hl);have uO:Sub F0 H':=λb o eb=>kp _ _ (hF _ _ eb) (λht=>by rw[tF b ht] at eb;cases eb)
   have ko:∀b o,Out F0 H b=some o->b∉R.cf->Out F0 H' b=some o:=λb o eb n=>fB (kp _ _ (bS eb).1 n) (bS eb).2;refine q _ l (uO.trans s2) ?_ aB ((uO.trans s1).none hl);refine kZ.mono (HM:=Out F0 H') ?_ (Ic s2);have nl:∀{b:ae} {xs:List V},Out F0 H b=some (.lst xs)->b∉R.cf:=λh=>sC (bS h).1 (λa z=>by cases z)
   exact⟨cu,.ref cd,ar,as,G,HC,ko _ _ I.ob (sC (bS I.ob).1 λa z=>by cases z),⟨ko _ _ I.arr.l (nl I.arr.l),I.arr.n,λj b hb=>ko _ _ (I.arr.at_ j b hb) (nl (I.arr.at_ j b hb))⟩,
    ⟨ko _ _ I.reg.reg (sC (bS I.reg.reg).1 λa z=>by cases z),ko _ _ I.reg.vs (nl I.reg.vs),ko _ _ I.reg.ms (nl I.reg.ms),ko _ _ I.reg.ss (nl I.reg.ss),I.reg.va,I.reg.ma,λj b hb=>ko _ _ (I.reg.v j b hb) (nl (I.reg.v j b hb)),λj b hb=>ko _ _ (I.reg.m j b hb) (nl (I.reg.m j b hb))⟩,
    Ii uO hE tF tb,λb o h=>ko _ _ (I.hc b o h) (λht=>by rw[I.ht b ht] at h;cases h),I.hm,I.hr,I.ht,I.ao,I.ag,I.wf,I.nums,I.cd⟩
  |ok y=>
   rw[er] at q;intro H' L r kp fr a1 a2;obtain⟨un,hu,hR,hU⟩:=r.ju;have mT:m∉R.cf:=sC (bS I.ob).1 λa z=>by cases z
   have om:H' m=some (.ins C.cq cu (cV (.ref cd) ar G.reg)):=kp _ _ (bS I.ob).1 mT;have rm:L.run≠m:=cE hR om (by intro z;injection z with _ _ z;injection z with z _;injection z with z _;revert z;decide)
   have gm:L.reg≠m:=cE r.reg.2 om (by intro z;injection z with _ _ z;injection z with z _;injection z with z _;revert z;decide)
   refine⟨_,rfl,_,_,_,_,_,rfl,hR,e.eU,e.AB,rfl,_,rfl,_,_,_,_,rfl,om,M.cls,M.arrays,(by show 3<1000;decide),?_⟩
   have e1:aA "arrays" (.ref L.ar) (cV (.ref cd) ar G.reg)=cV (.ref cd) L.ar G.reg:=rfl;rw[e1];have k2:∀b o,H' b=some o->b≠m->upd H' m (.ins C.cq cu (cV (.ref cd) L.ar G.reg)) b=some o:=λb o eb n=>by rw[ak n];exact eb
   have p2:upd H' m (.ins C.cq cu (cV (.ref cd) L.ar G.reg)) m=some (.ins C.cq cu (cV (.ref cd) L.ar G.reg)):=aB;generalize upd H' m (.ins C.cq cu (cV (.ref cd) L.ar G.reg))=H2 at k2 p2;refine⟨_,rfl,_,_,_,_,_,rfl,k2 _ _ hR rm,e.eU,e.mn,rfl,_,rfl,_,_,_,_,rfl,p2,M.cls,M.pC,(by show 3<1000;decide),?_⟩
   have e2:aA "registers" (.ref L.reg) (cV (.ref cd) L.ar G.reg)=cV (.ref cd) L.ar L.reg:=rfl;rw[e2];have k3:∀b o,H' b=some o->b≠m->upd H2 m (.ins C.cq cu (cV (.ref cd) L.ar L.reg)) b=some o:=λb o eb n=>by rw[ak n];exact k2 _ _ eb n
   have p3:upd H2 m (.ins C.cq cu (cV (.ref cd) L.ar L.reg)) m=some (.ins C.cq cu (cV (.ref cd) L.ar L.reg)):=aB;generalize upd H2 m (.ins C.cq cu (cV (.ref cd) L.ar L.reg))=H3 at k3 p3;refine⟨_,rfl,_,rfl,_,_,_,_,_,rfl,k3 _ _ hR rm,e.eU,e.wQ,rfl,_,_,rfl,rfl,(by show 2<=sizeLine;rw[aR];decide),λl hl=> ?_⟩
   have yl:=MR.Vy er;have el2:([V.int 0,V.int ((bu:Int)-((y.2:Nat):Int))]:List V)=bB (kJ (j8 [((bu-y.2:Nat):Int)])):=by
    show _=[V.int 0,V.int ((bu-y.2:Nat):Int)];rw[show((bu:Int)-((y.2:Nat):Int))=((bu-y.2:Nat):Int) by omega]
   show Q (.ref l) (upd H3 l (.lst [V.int 0,V.int ((bu:Int)-((y.2:Nat):Int))]));rw[el2];have s4:Sub H3 (upd H3 l (.lst (bB (kJ (j8 [((bu-y.2:Nat):Int)]))))):=ir hl;have l4:upd H3 l (.lst (bB (kJ (j8 [((bu-y.2:Nat):Int)])))) l=some (.lst (bB (kJ (j8 [((bu-y.2:Nat):Int)])))):=aB;generalize upd H3 l (.lst (bB (kJ (j8 [((bu-y.2:Nat):Int)]))))=H4 at s4 l4⊢;have kk:∀b o,H' b=some o->b≠m->H4 b=some o:=λb o eb n=>s4 _ _ (k3 _ _ eb n);have qF:F0 m=none:=(bS I.ob).2;have uO:Sub F0 H':=λb o eb=>kp _ _ (hF _ _ eb) (λht=>by rw[tF b ht] at eb;cases eb)
   have O1:Sub F0 H4:=λb o eb=>kk _ _ (uO _ _ eb) (λz=>by rw[z,qF] at eb;cases eb)
   have fF:∀b∈(L.reg::L.vs::L.ms::L.ar::L.ss::L.fa::(L.va++(L.ma++L.aa))),F0 b=none:=λb hb=>hF.none (fr b hb);have lk:∀{b:ae} {xs:List V},H' b=some (.lst xs)->b∈(L.reg::L.vs::L.ms::L.ar::L.ss::L.fa::(L.va++(L.ma++L.aa)))->Out F0 H4 b=some (.lst xs):=λh hb=>fB (kk _ _ h (cE h om (by intro z;cases z))) (fF _ hb)
   have tb4:jc R H4:=λi b eb=>by
    obtain⟨qq,e5,e6⟩:=r.wO i b eb;refine⟨qq,e5,e6.imp (λz=>kk _ _ z (cE z om (by intro z;cases z))) λz=> ?_⟩
    obtain⟨cc,h1,h2⟩:=z;exact⟨cc,kk _ _ h1 (cE h1 om (by intro z;cases z)),kk _ _ h2 (cE h2 om (by unfold iE;intro z;cases z))⟩
   refine q H4 l O1 ⟨cu,.ref cd,L.ar,L.aa,⟨L.reg,L.uy,L.vs,L.ss,L.ms,L.va,L.ma⟩,HC,fB (s4 _ _ p3) qF,⟨lk r.ar.2 (by simp),r.aa,λj b ck=> ?_⟩,⟨fB (kk _ _ r.reg.2 gm) (fF _ (by simp)),lk r.vs.2 (by simp),lk r.ms.2 (by simp),lk r.GV (by simp),r.va,r.ma,λj b ck=> ?_,λj b ck=> ?_⟩,Ii O1 hE tF tb4,λb o h=>fB (kk _ _ (r.old b o h) (λz=>by rw[z,I.hm] at h;cases h)) (bS (I.hc b o h)).2,I.hm,?_,I.ht,λz=> ?_,λz=> ?_,r.wf,r.nums,?_⟩ l4 (Sub.none (H:=H3) (λb o eb=>k3 _ _ (uO _ _ eb) (λz=>by rw[z,qF] at eb;cases eb)) hl)
   ·obtain⟨o,h1,rfl⟩:=r.all (.a j) b ck;exact lk h1 (by simp[d7 ck])
   ·obtain⟨o,h1,rfl⟩:=r.all (.v j) b ck;have ck:b∈L.va:=d7 ck;exact lk h1 (by simp[ck])
   ·obtain⟨o,h1,rfl⟩:=r.all (.m j) b ck;have ck:b∈L.ma:=d7 ck;exact lk h1 (by simp[ck])
   ·cases z:HC L.ar with
    |none=>rfl
    |some o=>have:=fr L.ar (by simp);rw[Ij z] at this;cases this
   ·obtain⟨j,hj⟩:=lC z;exact r.ar.1 ⟨.a j,hj⟩
   ·have z:L.ar∈L.vs::L.va++(L.ss::(L.ms::L.ma)):=z;simp only[cC,gO,B0] at z;rcases z with z|z|z|z|z
    ·exact a1 z
    ·obtain⟨j,hj⟩:=lC z;exact r.ar.1 ⟨.v j,hj⟩
    ·exact r.ar.1 ⟨.ss,by show some L.ss=some L.ar;rw[z]⟩
    ·exact a2 z
    ·obtain⟨j,hj⟩:=lC z;exact r.ar.1 ⟨.m j,hj⟩
   ·show match s.code with|none=>_|some c=>_
    rw[ec];refine⟨cd,rfl,⟨gU,ll,bl,ts,c1,c2,c3,c4⟩,gd,?_⟩;rw[<-el];exact MR.Vw er
end
section
variable{P:aS}{w:aL}{K:az}{mg:Str->Option ah}{base:aC}{R:Cl}{C:Cg}{f:ae}{fd:bK}
theorem ad3{m cu ar:ae}{s:State}{HM HC:Hp}{cv:V}{as:List ae}{G:Rg}{q:Nat}{nums row:List Int}{k:Call}(I:pB R C m s HM cu cv ar as G HC)(is:MC.Is q nums row k):(kJ (step s k).2).length<=170000:=by
 have enc:∀a:Cd,(kJ a).length=a.list.length+1:=λa=>rfl;rw[enc];have fA:=I.wf.fA;cases is with
 |load er hb hl=>
  rename_i t;show(tu s t).2.list.length+1<=_;unfold tu
  split
  ·show 0+1<=_;omega
  ·cases Ju t with
   |error p=>show 0+1<=_;omega
   |ok c=>show 1+1<=_;omega
 |where_ er hb hl=>
  rename_i t;show(if 16384<t.length then _ else _:Cd).list.length+1<=_
  split
  ·show 1+1<=_;omega
  ·cases Ju t with
   |error p=>show 1+1<=_;omega
   |ok c=>show 1+1<=_;omega
 |plain=>
  show(eR s _).2.list.length+1<=_;unfold eR;have cd:=I.cd;cases ec:s.code with
  |none=>show 0+1<=_;omega
  |some c=>
   rw[ec] at cd;obtain⟨_,_,_,gd,_⟩:=cd;have:=MP.D9 gd;show(Vaarrj.ints (yj c)).length+1<=_;unfold Vaarrj.ints;rw[bx];omega
 |width n hb=>
  show(if n<1\/16<n then _ else _:State×Cd).2.list.length+1<=_
  split<;>(show 0+1<=_;omega)
 |set n _ h1 h2 h3=>
  show(eR s _).2.list.length+1<=_;unfold eR;cases s.code with
  |none=>show 0+1<=_;omega
  |some c=>
   simp only;cases yk c n with
   |none=>show 0+1<=_;omega
   |some r=>
    simp only
    split<;>(show 0+1<=_;omega)
 |run n hb=>
  show(eR s _).2.list.length+1<=_;unfold eR;cases s.code with
  |none=>show 0+1<=_;omega
  |some c=>
   simp only
   split
   ·show 0+1<=_;omega
   ·cases Jv c s.machine.width s.machine.arrays n.toNat with
    |ok y=>show 1+1<=_;omega
    |error e=>show 2+1<=_;omega
 |array n hb=>
  show(eR s _).2.list.length+1<=_;unfold eR;have cd:=I.cd;cases ec:s.code with
  |none=>show 0+1<=_;omega
  |some c=>
   rw[ec] at cd;obtain⟨_,_,_,gd,el⟩:=cd;obtain⟨al,av⟩:=Bu gd el;simp only;cases yk c n with
   |none=>show 0+1<=_;omega
   |some r=>
    show(dJ s.machine r).length+1<=_;unfold dJ;cases ea:s.machine.arrays[r]? with
    |none=>show 0+1<=_;omega
    |some v=>have:=av v (d7 ea);show v.length+1<=_;omega
 |vector n hb=>
  show(match nj 16 n with|some r=>j8 (c8 s.machine r)|none=>i6 tq).list.length+1<=_
  cases nj 16 n with
  |none=>show 0+1<=_;omega
  |some r=>
   show(c8 s.machine r).length+1<=_;unfold c8;cases ea:s.machine.vs[r]? with
   |none=>show 0+1<=_;omega
   |some v=>have:=I.wf.vl v (d7 ea);show v.length+1<=_;omega
 |scalar n hb=>
  show(match nj 16 n with|some r=>j8 [dI s.machine r]|none=>i6 tq).list.length+1<=_
  cases nj 16 n with
  |none=>show 0+1<=_;omega
  |some r=>show 1+1<=_;omega
 |mask n hb=>
  show(match nj 8 n with|some r=>j8 ((maskOf s.machine r).map λb=>if b=true then 1 else 0)|none=>i6 tq).list.length+1<=_
  cases nj 8 n with
  |none=>show 0+1<=_;omega
  |some r=>
   show((maskOf s.machine r).map λb=>if b=true then(1:Int) else 0).length+1<=_
   rw[bx];unfold maskOf;cases ea:s.machine.ms[r]? with
   |none=>show 0+1<=_;omega
   |some v=>have:=I.wf.ml v (d7 ea);show v.length+1<=_;omega
 |map o n p h1 h2 h3=>
  show(ym o n p).list.length+1<=_;unfold ym
  split
  ·show 0+1<=_;omega
  ·show(Vaarrj.ints (pM o.toNat n.toNat p.toNat)).length+1<=_;unfold Vaarrj.ints;rw[bx,map_eq];have ln:=MP.iU n.toNat;have lp:=MP.iU p.toNat;have lo:=MP.DY o.toNat;have st:∀s:String,(aE s).length=s.length:=λs=>by unfold aE;rw[bx];rfl
   have a4:(aE "width s0;num s2 1;calc add s3 s1 s0 @0;calc sub s3 s3 s2 @0;calc quo s3 s3 s0 @0;").length<=200:=by decide+kernel
   have a5:(aE "calc mul s5 s4 s0 @0;fill v0 s5;lanes v1;add v0 v0 v1 @0;calc sub s6 s1 s5 @0;tail m0 s6;").length<=200:=by decide+kernel
   have a6:(aE "read v2 a0 v0 ?m0;read v3 a1 v0 ?m0;").length<=200:=by decide+kernel
   have a7:(aE " v4 v2 v3 @").length<=200:=by decide+kernel
   have a8:(aE " ?m0;").length<=200:=by decide+kernel
   have a9:(aE "write a2 v0 v4 ?m0;raise;").length<=200:=by decide+kernel
   have a10:(aE "for s4 s3 {").length<=200:=by decide+kernel
   have a11:(aE "}").length<=200:=by decide+kernel
   have a1:(aE "array ").length<=200:=by decide+kernel
   have a2:(aE ";").length<=200:=by decide+kernel
   have a3:(aE "num s1 ").length<=200:=by decide+kernel
   simp only[bU];omega
def O2(R:Cl)(C:Cg):Sp:=λvs H Q _=>∃p dx,vs=[.ref p]/\H p=some (.ins C.cq dx [])/\ ∀H' ar G,Made p H H' (ar::(G.reg::G.all))->H' p=some (.ins C.cq dx (cV .aO ar G.reg))->H' ar=some (.lst [])->nZ R H' G (tj 4 [])->Q .aO H'
theorem ad4(F:aG K "__init__" "Machine.__init__" Ak f fd)(M:MK K R C)(e:EK K R)(g:GI mg)(RC:sj K mg R):aD P w K mg base au 3 f fd ["self"] (O2 R C):=by
 obtain⟨fr,ip,Mr,Fr,mR⟩:=RC.reg;have GR:aD P w K mg base au 1 fr ip ["self","width"] (xh R):=AQ Fr g e;have bR:=Fr.b2 "self" "width";refine F.oK ZC λaF A outer s H vs Q E hr h=> ?_;obtain⟨p,dx,rfl,hp,q⟩:=h;refine⟨_,ay (cT (pv 0) jC rfl) (ay (cT (pv 0) (cR aj) rfl) (aw (cT (pv 0) (j' Mr GR hr rfl mR bR .nil a_ (ai (b_ g.ZX) aj)) rfl))),?_⟩;have m0:Made p H H []:=Made.refl ⟨_,hp⟩;refine⟨_,rfl,_,_,_,_,rfl,hp,M.cls,M.code,(by show 0<1000;decide),?_⟩
 have m1:=m0.write (o:=.ins C.cq dx (aA "code" .aO []));have p1:upd H p (.ins C.cq dx (aA "code" .aO [])) p=some (.ins C.cq dx (aA "code" .aO [])):=aB;generalize upd H p (.ins C.cq dx (aA "code" .aO []))=H1 at m1 p1;refine⟨eV _,λar sD=> ?_⟩;have m2:=m1.one (o:=.lst []) sD (ir sD) aB;have s2:Sub H1 (upd H1 ar (.lst [])):=ir sD;have a2:upd H1 ar (.lst []) ar=some (.lst []):=aB;generalize upd H1 ar (.lst [])=H2 at m2 s2 a2;refine⟨_,rfl,_,_,_,_,rfl,s2 _ _ p1,M.cls,M.arrays,(by show 1<1000;decide),?_⟩
 have m3:=m2.write (o:=.ins C.cq dx (aA "arrays" (.ref ar) (aA "code" .aO [])));have ap:ar≠p:=λz=>by rw[z,p1] at sD;cases sD
 have a3:upd H2 p (.ins C.cq dx (aA "arrays" (.ref ar) (aA "code" .aO []))) ar=some (.lst []):=by rw[ak ap];exact a2
 have p3:upd H2 p (.ins C.cq dx (aA "arrays" (.ref ar) (aA "code" .aO []))) p=some (.ins C.cq dx (aA "arrays" (.ref ar) (aA "code" .aO []))):=aB;generalize upd H2 p (.ins C.cq dx (aA "arrays" (.ref ar) (aA "code" .aO [])))=H3 at m3 a3 p3;refineλx dg nx nd ne=>⟨x,dg,4,rfl,aB,by decide,by decide,λH4 G eg ed rg sk=>⟨rfl,?_⟩⟩
 subst eg ed;obtain⟨m4,k4⟩:=Made.nest p3 nx nd sk;refine⟨_,rfl,_,_,_,_,rfl,k4 _ _ p3,M.cls,M.pC,(by show 2<1000;decide),?_⟩
 have m5:=(m3.trans m4).write (o:=.ins C.cq dx (cV .aO ar G.reg));have gp:∀b∈(G.reg::G.all),b≠p:=λb hb z=>by have:=m4.fr b hb;rw[z,p3] at this;cases this
 have ee:aA "registers" (.ref G.reg) (aA "arrays" (.ref ar) (aA "code" .aO []))=cV .aO ar G.reg:=rfl;rw[ee];refine q _ ar G m5 aB (by rw[ak ap];exact k4 _ _ a3) ((rg []).mono λb o eb hb=> ?_)
 rw[ak (gp b (cC.mpr hb))];exact eb
end
def Ik(R:Cl)(C:Cg)(q:Nat):List V->Hp->VK->Prop:=λvs H Q=>∃F m s nl rl nums row k,vs=[.ref m,.ref nl,.ref rl]/\MC.Is q nums row k/\Sub F H/\kZ R C m s (Out F H)/\F nl=some (.lst (bB nums))/\F rl=some (.lst (bB row))/\k_ F/\Bt R C F m (step s k) Q
structure O3(P:aS)(w:aL)(K:az)(mg:Str->Option ah)(base:aC)(R:Cl)(C:Cg):Prop where
 an:∃ta D,mg "ANSWERERS"=some (.ref ta)/\Tab K w ta D/\ ∀q,q<=10->∃f fd ps iV,dU D (.inl ((q:Nat):Int))=some (.ref f)/\iN K (.ref f)=true/\aD P w K mg base au 44 f fd ps iV/\Binds K fd ps []/\ ∀vs H Q,Ik R C q vs H Q->iV vs H Q E0
 wh:∃ta D,mg "WHOLE_NUMBERS"=some (.ref ta)/\Tab K w ta D/\ ∀q,q<=10->dU D (.inl ((q:Nat):Int))=some (.int ((MC.dP q:Nat):Int))
 wr:∃ta,mg "WITH_ROW"=some (.ref ta)/\ ∀H,fQ K H ta [.int 0,.int 1,.int 4]
section
variable{P:aS}{w:aL}{K:az}{mg:Str->Option ah}{base:aC}{R:Cl}{C:Cg}{f:ae}{fd:bK}
theorem ad5{q:Nat}(h:q<=10):jI (.int ((q:Nat):Int)) [.int 0,.int 1,.int 4]=MC.kT q:=by
 have:∀d:Fin 11,jI (.int ((d.val:Nat):Int)) [.int 0,.int 1,.int 4]=MC.kT d.val:=by decide+kernel
 exact this ⟨q,by omega⟩
theorem O4{l:List Int}{a b:Nat}(h1:a<=b)(h2:b<=l.length):qc (bB l) (some (a:Int)) (some (b:Int))=bB ((l.drop a).take (b-a)):=by
 have el:(bB l).length=l.length:=by unfold bB;rw[bx]
 unfold qc HT.cK;rw[el];simp only[show¬((a:Int)<0) by omega,show¬((b:Int)<0) by omega,if_false,gW]
 rw[Jq (by omega),Jq (by omega)]
 unfold bB;rw[<-List.map_drop,<-List.map_take]
theorem O5{F H:Hp}{a:ae}{xs:List V}(k:Sub F H)(h:aI K F a xs):aI K H a xs:=by
 rcases h with(h|⟨o,h⟩)|h
 ·exact .inl (.inl (k _ _ h))
 ·exact .inl (.inr ⟨o,k _ _ h⟩)
 ·exact .inr h
theorem Bx{F H:Hp}{l:ae}{o:HO}(k:Sub F H):Sub (upd F l o) (upd H l o):=λb u e=>by
 by_cases z:b=l
 ·subst z;rw[aB] at e⊢;exact e
 ·rw[ak z] at e⊢;exact k _ _ e
theorem xF{F H:Hp}{l:ae}{o o2:HO}(hl:Out F H l=none):Sub (Out F H) (Out (upd F l o) (upd H l o2)):=λb u e=>by
 have n:b≠l:=bD e hl;obtain⟨e1,e2⟩:=bS e;exact fB (by rw[ak n];exact e1) (by rw[ak n];exact e2)
theorem xG{F:Hp}{l:ae}{vs:List V}(h:k_ F):k_ (upd F l (.lst vs)):=λb φ e=>by
 by_cases z:b=l
 ·subst z;rw[aB] at e;cases e
 ·rw[ak z] at e;exact h _ _ e
def Il(K:az)(R:Cl):Sp:=λvs H Q _=>∃a l,vs=[.ref a]/\aI K H a (bB l)/\P' l=true/\l.length<=1000000/\jc R H/\k_ H/\ ∀H' p,H' p=some (.lst (bB (Jl l)))->Q (.ref p) H'
def O6(K:az)(mg:Str->Option ah)(C:Cg):Prop:=∃f fd,Mk K C.cq f/\aG K "__init__" "Machine.__init__" Ak f fd/\mg "Machine"=some (.ref C.cq)
theorem ad6(F:aG K "answers" "answers" Ar f fd)(M:MK K R C)(e:EK K R)(g:GI mg)(RC:sj K mg R)(MM:O6 K mg C)(T:O3 P w K mg base R C):aD P w K mg base au 45 f fd ["calls"] (Il K R):=by
 obtain⟨fm,fdm,Mm,Fm,mM⟩:=MM;have GM:aD P w K mg base au 3 fm fdm ["self"] (O2 R C):=ad4 Fm M e g RC;have bM:=Fm.b1 "self";obtain⟨tan,Dan,mAn,ad7,hAn⟩:=T.an;obtain⟨tw,Dw,mW,ad8,hW⟩:=T.wh;obtain⟨tr,mR,hR⟩:=T.wr;refine F.oK ks λaF A outer s H vs Q E hr h=> ?_;obtain⟨a,l,rfl,hS,Im,hlen,mi,hE,q⟩:=h;have hr4:=hr.mono (show 4<=44 by decide)
 refine⟨_,ay (bH (i:=1) ks.nd rfl (aZ rfl) (Ka Mm GM hr4 rfl mM bM .nil a_))
  (ay (bH (i:=2) ks.nd rfl (aZ rfl) (cR aj))
  (ay (bH (i:=3) ks.nd rfl (aZ rfl) aQ)
  (ay (yz j6 (bW gz (pv 3) (eS iA (by rfl) g.fW gj (ai (pv 0) aj)) (bQ _))
    (ay (bH (i:=4) ks.nd rfl (aZ rfl) (cj cH (pv 0) (pv 3) (λ_ _=>rfl)))
    (ay (bH (i:=5) ks.nd rfl (aZ rfl) (cy i8 (cy i8 (pv 3) aQ) (rS (iH mW) (pv 4) (λ_ _=>rfl))))
    (ay (bH (i:=6) ks.nd rfl (aZ rfl) (vq CY (pv 0) (qa (cy i8 (pv 3) aQ)) (qa (pv 5))))
    (ay (bH (i:=7) ks.nd rfl (aZ rfl) (cR aj))
    (ay (bH (i:=3) ks.nd rfl (aZ rfl) (pv 5))
    (ay (b7 (bW yK (pv 4) (iH mR) rfl)
      (ay (bH (i:=3) ks.nd rfl (aZ rfl) (cy i8 (cy i8 (pv 5) aQ) (cj cH (pv 0) (pv 5) (λ_ _=>rfl))))
        (aw (bH (i:=7) ks.nd rfl (aZ rfl) (vq CY (pv 0) (qa (cy i8 (pv 5) aQ)) (qa (pv 3)))))) cJ)
    (ay (bH (i:=8) ks.nd rfl (aZ rfl) (rS (iH mAn) (pv 4) (λ_ _=>rfl)))
    (ay (bH (i:=9) ks.nd rfl (aZ rfl) (zo (i:=8) rfl (aZ rfl) (ai (pv 1) (ai (pv 6) (ai (pv 7) aj)))))
    (ay (bO (iS i5 lD lE kd (pv 2) (ai (eS iA (by rfl) g.fW gj (ai (pv 9) aj)) aj)))
    (aw (bO (iS i5 Cb Cc vv (pv 2) (ai (pv 9) aj))))))))))))))
  (aw (bw (pv 2)))))),?_⟩
 have hT:∀t∈R.cf,∃o,H t=some (.dM o):=λt ht=>by
  obtain⟨i,hi⟩:=lC ht;obtain⟨qq,_,h1|⟨cc,h1,_⟩⟩:=mi i t hi
  ·exact⟨_,h1⟩
  ·exact⟨_,h1⟩
 obtain⟨F0,sE⟩:∃F0:Hp,F0=λb=>if b∈R.cf then none else H b:=⟨_,rfl⟩
 have f0t:∀t∈R.cf,F0 t=none:=λt ht=>by rw[sE];exact if_pos ht
 have xH:Sub F0 H:=λb o eb=>by
  rw[sE] at eb;by_cases z:b∈R.cf
  ·have eb:(if b∈R.cf then none else H b)=some o:=eb
   rw[if_pos z] at eb;cases eb
  ·have eb:(if b∈R.cf then none else H b)=some o:=eb
   rw[if_neg z] at eb;exact eb
 have O7:∀b,H b=none->F0 b=none:=λb hb=>xH.none hb;have O8:k_ F0:=λb φ z=>hE b φ (xH _ _ z);have f0l:aI K F0 a (bB l):=by
  have keep:∀o,H a=some o->(∀y,o≠ .dM y)->F0 a=some o:=λo ho hn=>by
   rw[sE];show(if a∈R.cf then none else H a)=some o
   rw[if_neg,ho];intro z;obtain⟨y,hy⟩:=hT a z;rw[ho] at hy;cases hy;exact hn y rfl
  rcases hS with(h|⟨o,h⟩)|h
  ·exact .inl (.inl (keep _ h λy z=>by cases z))
  ·exact .inl (.inr ⟨o,keep _ h λy z=>by cases z⟩)
  ·exact .inr h
 clear sE;intro cq dx nx nd ne;refine⟨cq,dx,rfl,aB,λH1 ar G md hob sD hrg=>⟨rfl,?_⟩⟩;have up:∀b u,H b=some u->upd (upd H dx (.own cq)) cq (.ins C.cq dx []) b=some u:=λb u e=>by rw[ak (bD e nx),ak (bD e nd)];exact e
 have s1:Sub H H1:=λb u e=>md.kp b u (up b u e) (bD e nx);have fr:∀b∈(ar::(G.reg::G.all)),F0 b=none:=λb hb=>O7 b (by
  cases z:H b with
  |none=>rfl
  |some u=>have:=md.fr b hb;rw[up b u z] at this;cases this)
 have xk:=md.nd;have M1:kZ R C cq Vaarrj.start (Out F0 H1):=by
  refine⟨dx,.aO,ar,[],G,λ_=>none,fB hob (O7 _ nx),⟨fB sD (fr _ (iL ..)),rfl,λj b e=>nomatch e⟩,hrg.mono λb o eb hb=>fB eb (fr b (fD _ ?_)),Ii (xH.trans s1) O8 f0t (mi.mono s1),(λb o e=>nomatch e),rfl,rfl,(λ_ _=>rfl),(λz=>nomatch z),?_,MR.WF.fresh (by decide) (by decide) [],MR.Nums.fresh 4 (λv hv=>nomatch hv),rfl,rfl⟩
  ·rcases hb with rfl|hb
   ·exact iL ..
   ·exact fD _ hb
  ·have:=(fE.mp xk).1;exactλz=>this (fD _ z)
 refine⟨eV _,λan O9=> ?_⟩;have F1s:Sub (upd F0 an (.lst [])) (upd H1 an (.lst [])):=Bx (xH.trans s1);have a0:F0 an=none:=(xH.trans s1).none O9;refine⟨λm σ H'=>∃at_ s F done left v4 v5 v6 v7 v8 v9,m=l.length-at_/\σ=[some (.ref a),some (.ref cq),some (.ref an),some (.int ((at_:Nat):Int)),v4,v5,v6,v7,v8,v9]/\MC.Rest l at_ s done left/\Sub F H'/\F an=some (.lst (bB done))/\kZ R C cq s (Out F H')/\k_ F/\Sub F0 F/\done.length+left*170001<=40*170001,
  ⟨_,0,Vaarrj.start,_,[],40,_,_,_,_,_,_,rfl,rfl,MC.VF Im,F1s,aB,M1.mono (xF (by unfold Out;rw[a0,if_neg (by simp)];exact O9)),xG O8,ir a0,by simp⟩,?_⟩
 rintro m σ H' ⟨at_,s,F,done,left,v4,v5,v6,v7,v8,v9,rfl,rfl,Io,sF,O_,hM,hFe,sE,hb⟩;have sl:∀H2,Sub F H2->aI K H2 a (bB l):=λH2 k=>O5 (sE.trans k) f0l;have il:∀u:List Int,(bB u).length=u.length:=λu=>by unfold bB;rw[bx]
 refine⟨_,rfl,_,rfl,_,_,rfl,.inl (sl _ sF),_,_,rfl,rfl,_,rfl,bY (λz=> ?_) λz=> ?_⟩
 ·rw[il] at z;obtain⟨qn,nums,row,k,eK,rfl,hq,hl1,hn,is,en,hle,ad9,hnr,r9⟩:=MC.VH Io (by omega)
  have gi:∀{i:Nat} {c:Int},l[i]? =some c->(bB l)[i]? =some (.int c):=λh=>by unfold bB;rw[dH,h];rfl
  refine⟨_,λσ' H' x=>x,_,rfl,_,rfl,_,_,_,_,rfl,rfl,sl _ sF,cX (gi hl1),?_⟩;refine⟨_,rfl,_,_,rfl,rfl,_,rfl,tw,Dw,.inl ((qn:Nat):Int),_,rfl,rfl,ad8,hW qn hq,_,_,rfl,rfl,?_⟩;have e1:((at_:Int)+1+((MC.dP qn:Nat):Int))=((at_+1+MC.dP qn:Nat):Int):=by omega
  dsimp only;rw[e1];refine⟨_,rfl,_,rfl,_,_,rfl,rfl,_,rfl,_,rfl,_,rfl,_,_,rfl,sl _ sF,λnl Ip=> ?_⟩;have e2:((at_:Int)+1)=((at_+1:Nat):Int):=by omega
  dsimp only;rw[e2,O4 (by omega) hle,show at_+1+MC.dP qn-(at_+1)=MC.dP qn by omega,<-en]
  have k1:Sub F (upd H' nl (.lst (bB nums))):=sF.trans (ir Ip);have on1:Out F H' nl=none:=by unfold Out;rw[Ip];split<;>rfl
  have M1:=hM.mono (xF (o:=.lst (bB nums)) (o2:=.lst (bB nums)) on1);have s1:Sub (upd F nl (.lst (bB nums))) (upd H' nl (.lst (bB nums))):=Bx sF;have x1:k_ (upd F nl (.lst (bB nums))):=xG hFe;have fn:F nl=none:=sF.none Ip;have g1:Sub F (upd F nl (.lst (bB nums))):=ir fn;have n1:upd F nl (.lst (bB nums)) nl=some (.lst (bB nums)):=aB;generalize upd F nl (.lst (bB nums))=F1 at*;generalize upd H' nl (.lst (bB nums))=H1 at*;refine⟨eV _,λrl Iq=> ?_⟩;have on2:Out F1 H1 rl=none:=by unfold Out;rw[Iq];split<;>rfl
  refine⟨_,rfl,?_⟩;refine⟨_,rfl,_,_,rfl,.inr (hR _),rfl,rfl,_,rfl,?_⟩;dsimp only;rw[if_neg cW,ad5 hq];refine j7 (λy=> ?g1) λy=> ?g2
  case' g1=>
   obtain⟨jJ,er,Pa⟩:=ad9 y;rw[if_pos y] at r9;have By:Sub H1 (upd H1 rl (.lst [])):=ir Iq;have k2:Sub F (upd H1 rl (.lst [])):=k1.trans By;refine⟨_,rfl,_,_,rfl,rfl,_,rfl,_,rfl,_,_,_,_,rfl,rfl,sl _ k2,cX (gi jJ),_,_,rfl,rfl,?_⟩;have e3:(((at_+1+MC.dP qn:Nat):Int)+1+((row.length:Nat):Int))=((at_+1+MC.dP qn+1+row.length:Nat):Int):=by omega
   dsimp only;rw[e3];refine⟨_,rfl,_,rfl,_,_,rfl,rfl,_,rfl,_,rfl,_,rfl,_,_,rfl,sl _ k2,λpD Ir=> ?_⟩;have e4:(((at_+1+MC.dP qn:Nat):Int)+1)=((at_+1+MC.dP qn+1:Nat):Int):=by omega
   dsimp only;rw[e4,O4 (by omega) Pa,show at_+1+MC.dP qn+1+row.length-(at_+1+MC.dP qn+1)=row.length by omega,<-er]
   have Iu:Sub F1 (upd H1 rl (.lst [])):=s1.trans By;have Pb:kZ R C cq s (Out F1 (upd H1 rl (.lst []))):=M1.mono (Ic By);generalize upd H1 rl (.lst [])=Iv at*;have Pc:Out F1 Iv pD=none:=by unfold Out;rw[Ir];split<;>rfl
   have M2:=Pb.mono (xF (o:=.lst (bB row)) (o2:=.lst (bB row)) Pc);have s2:Sub (upd F1 pD (.lst (bB row))) (upd Iv pD (.lst (bB row))):=Bx Iu;have x2:k_ (upd F1 pD (.lst (bB row))):=xG x1;have g2:Sub F1 (upd F1 pD (.lst (bB row))):=ir (Iu.none Ir);have r2:upd F1 pD (.lst (bB row)) pD=some (.lst (bB row)):=aB;generalize upd F1 pD (.lst (bB row))=F2 at*;generalize upd Iv pD (.lst (bB row))=H2 at*;have lt:at_<at_+1+MC.dP qn+1+row.length:=by omega
   generalize at_+1+MC.dP qn+1+row.length=at2 at*;clear By k2 Iu Pb Ir Pc jJ er Pa e3 e4
  case' g2=>
   obtain rfl:=hnr y;rw[if_neg (by rw[y];decide)] at r9
   have M2:=M1.mono (xF (o:=.lst (bB [])) (o2:=.lst (bB [])) on2);have s2:Sub (upd F1 rl (.lst (bB []))) (upd H1 rl (.lst (bB []))):=Bx s1;have x2:k_ (upd F1 rl (.lst (bB []))):=xG x1;have g2:Sub F1 (upd F1 rl (.lst (bB []))):=ir (s1.none Iq);have r2:upd F1 rl (.lst (bB [])) rl=some (.lst (bB [])):=aB;have eH:upd H1 rl (.lst [])=upd H1 rl (.lst (bB [])):=rfl;rw[eH];generalize upd F1 rl (.lst (bB []))=F2 at*;generalize upd H1 rl (.lst (bB []))=H2 at*;have lt:at_<at_+1+MC.dP qn:=by omega
   generalize at_+1+MC.dP qn=at2 at*
  all_goals
   obtain⟨fa,kY,psa,spa,eA,kA,okA,bA,imA⟩:=hAn qn hq;refine⟨_,rfl,tan,Dan,.inl ((qn:Nat):Int),_,rfl,rfl,ad7,eA,?_⟩;refine⟨fa,rfl,kA,_,rfl,_,rfl,_,rfl,?_⟩;refine⟨Ik R C qn,⟨au,44,kY,psa,spa,E0,okA,hr,bA,a_,imA⟩,F2,cq,s,nl,_,nums,_,k,rfl,is,s2,M2,g2 _ _ n1,r2,x2,λH3 al k3 M3 h3 Pd=> ?_⟩;have uP:F2 an=some (.lst (bB done)):=g2 _ _ (g1 _ _ O_);have ne2:al≠an:=λz=>by rw[z,uP] at Pd;cases Pd
   have len:(kJ (step s k).2).length<=170000:=by
    obtain⟨cu,cv,ar2,as2,G2,HC2,I2⟩:=M2;exact ad3 I2 is
   generalize kJ (step s k).2=mK at*;refine⟨_,rfl,.inl ⟨rfl,_,aI.of (k3 _ _ uP)⟩,_,rfl,_,_,rfl,.inl (aI.of h3),?_⟩;refine⟨_,_,_,rfl,rfl,k3 _ _ uP,(by rw[il,aR];omega),?_⟩
   have p4:upd H3 an (.lst (bB done++[.int ((bB mK).length:Int)])) an=some (.lst (bB done++[.int ((bB mK).length:Int)])):=aB;have h4:upd H3 an (.lst (bB done++[.int ((bB mK).length:Int)])) al=some (.lst (bB mK)):=by rw[ak ne2];exact h3
   refine⟨_,rfl,.inl ⟨rfl,_,aI.of p4⟩,_,rfl,?_⟩;refine⟨_,_,_,_,rfl,rfl,p4,h4,(by rw[bU,il,il,aR];simp;omega),?_⟩
   have eD:bB done++[.int ((bB mK).length:Int)]++bB mK=bB (done++((mK.length:Int)::mK)):=by
    rw[il];unfold bB;rw[iw,i0,lq];rfl
   rw[eD];have NY:=r9.le;refine⟨l.length-at2,by omega,at2,_,upd F2 an (.lst (bB (done++((mK.length:Int)::mK)))),_,eK,_,_,_,_,_,_,rfl,rfl,r9,?_,aB,?_,xG x2,?_,?_⟩
   ·intro b o eb;by_cases zz:b=an
    ·subst zz;rw[aB] at eb⊢;exact eb
    ·rw[ak zz] at eb;rw[ak zz,ak zz];exact k3 _ _ eb
   ·have oan:Out F2 H3 an=none:=by unfold Out;rw[uP];rfl
    have aea:Out F2 (upd H3 an (.lst (bB done++[.int ((bB mK).length:Int)]))) an=none:=by unfold Out;rw[uP];rfl
    refine(M3.mono ?_).mono (xF aea);intro b o eb;obtain⟨e1,e2⟩:=bS eb;have nb:b≠an:=λz=>by rw[z,uP] at e2;cases e2
    exact fB (by rw[ak nb];exact e1) e2
   ·intro b o eb;rw[ak (bD eb a0)];exact g2 _ _ (g1 _ _ (sE _ _ eb))
   ·rw[bU,cI];omega
 ·rw[il] at z;have:at_=l.length:=by have:=Io.le;omega
  subst this;refine⟨_,rfl,q H' an ?_⟩;rw[MC.VG Io];exact sF _ _ O_
end
end Lm
namespace L2
open PySem PySem.Spec PyProof.Rows
open PySem.W (Codec OpenSpec WData WellAll ReadsW ReadsAllW)
theorem aeb{P:aS}{w:aL}{K:az}{mg mb:Str->Option ah}{k:Nat}{fa:ae}{fd:bK}{ps:List Str}{sp:Sp}{s₁:aq}{vals:List ah}{ds:List WData}{R:PySem.W.WRecords}{cl:Str->Option ae}{d0:WData}{cf:List ae}
 (KX:K.In s₁.heap) (zl:s₁.heap.Ns mQ mg) (hb:s₁.heap.Ns BG mb) (mv:∀x:Str,x≠"__name__"->mb x=mU x) (aec:s₁.heap.NoLimit) (hbm:BM mg s₁.heap) (hg:s₁.gens= #[])
 (mi:∀t∈cf,K.lookup t=none/\ ∃c,B6 s₁.heap c t/\s₁.heap.get? t=some (yc #[]))
 (xI:sW w.params s₁.heap vals ds) (dE:kP ds=true) (hwt:∀d∈ds,d.weight<=1048576) (hr:dD k callerA)
 (F:∀base:aC,K.In base->base.Ns mQ mg->BM mg base->aD P w K mg base au k fa fd ps sp) (aed:∀(s:aq) (us:List ah),us.length=ps.length->BindsTo s fd ⟨us,[]⟩ (ps.zip us)) (hlen:ds.length=ps.length)
 (kN:∀(H0 H:Hp) (xs:List V),vC H0->(∀b o,H0 b=some o->H b=some o)->(∀t∈cf,H t=some (.dM #[]))->(∀b,b∉cf->H b=H0 b)->lN K H0 xs ds->sp xs H (λv H'=>Dw K H' v d0) E0):
 pF (model P w) callerA (.call (.ref fa) ⟨vals,[]⟩) (λr s'=>∃u as,r=.ok (.ret u)/\ReadsW R cl s'.heap u d0 as/\OldK s₁.heap s'.heap/\s'.os=s₁.os/\sL s'.gens) s₁:=by
 obtain⟨A,ho,ar⟩:=yR ds vals xI dE hwt;have hO:vC (gK K s₁.heap A):=S6 ar;have aU:∀(H:Hp) b u,gK K s₁.heap A b=some u->df P w H s₁.heap b u:=λH b u q=>by
  obtain⟨_,vs,h1,h2,⟨e,rfl⟩|⟨e,rfl⟩⟩:=vD ar q
  ·exact⟨e,by rw[bx];exact h1,vs,_,tZ h2,e⟩
  ·exact⟨e,by rw[bx];exact h1,vs,tZ h2,_,e,rfl,_,rfl⟩
 have hS:=yV KX ar ds vals xI dE ho;have hV:=tZ ho;have hK:∀b u,gK K s₁.heap A b=some u->K.lookup b=none:=λb u q=>(vD ar q).1;have isA:∀{b:ae} {o:Obj},s₁.heap.get? b=some o->o.cls≠ .type "list"->o.cls≠ .type "tuple"->gK K s₁.heap A b=none:=λ{b o} e n1 n2=>by
  cases q:gK K s₁.heap A b with
  |none=>rfl
  |some u=>
   obtain⟨_,vs,_,_,⟨e2,_⟩|⟨e2,_⟩⟩:=vD ar q
   ·rw[e2] at e;cases e;exact absurd rfl n1
   ·rw[e2] at e;cases e;exact absurd rfl n2
 have tQ:∀{b:ae} {o:Obj} {es:Array yb} {ep:Nat},s₁.heap.get? b=some o->o.data=.dict es ep->gK K s₁.heap A b=none:=λ{b o es ep} e d=>by
  cases q:gK K s₁.heap A b with
  |none=>rfl
  |some u=>
   obtain⟨_,vs,_,_,⟨e2,_⟩|⟨e2,_⟩⟩:=vD ar q
   ·rw[e2] at e;cases e;have d':Data.seq vs.toArray _=Data.dict es ep:=d;cases d'
   ·rw[e2] at e;cases e;have d':Data.seq vs.toArray _=Data.dict es ep:=d;cases d'
 have tN:∀t∈cf,gK K s₁.heap A t=none:=λt ht=>by
  obtain⟨_,c,_,e⟩:=mi t ht;exact isA e (by intro z;cases z) (by intro z;cases z)
 generalize gK K s₁.heap A=H0 at hO aU hS hK tQ isA tN;obtain⟨H,hH⟩:∃H:Hp,H=λb=>if b∈cf then some (.dM #[]) else H0 b:=⟨_,rfl⟩
 have Ht:∀t∈cf,H t=some (.dM #[]):=λt ht=>by rw[hH];exact if_pos ht
 have Hn:∀b,b∉cf->H b=H0 b:=λb hb=>by rw[hH];exact if_neg hb
 have Hs:∀b o,H0 b=some o->H b=some o:=λb o e=>by
  rw[Hn b λz=>by rw[tN b z] at e;cases e];exact e
 clear hH;have sC:∀{b:ae} {o:Obj},s₁.heap.get? b=some o->(∀v,o.data≠ .fields v)->b∉cf:=λ{b o} e n z=>by
  obtain⟨_,c,_,e2⟩:=mi b z;rw[e] at e2;cases e2;exact n _ rfl
 have Pe:c9 P w H s₁.heap:=λb o e=>by
  by_cases z:b∈cf
  ·rw[Ht b z] at e;cases e;obtain⟨_,c,_,e2⟩:=mi b z;exact e2
  ·rw[Hn b z] at e;exact aU H b o e
 have Iw:∀{b:ae} {o:Obj},s₁.heap.get? b=some o->H b=none->(ny s₁.heap H).get? b=some o:=λe n=>Qy e n;have Bz:∀{b:ae} {m:Str->Option ah},s₁.heap.Ns b m->(ny s₁.heap H).Ns b m:=λ{b m} ⟨o,es,ep,e,d,r⟩=>⟨o,es,ep,Iw e (by rw[Hn b (sC e λv z=>by rw[d] at z;cases z)];exact tQ e d),d,r⟩
 have nK:∀b o,K.lookup b=some o->H b=none:=λb o e=>by
  by_cases z:b∈cf
  ·rw[(mi b z).1] at e;cases e
  ·rw[Hn b z];cases q:H0 b with
   |none=>rfl
   |some u=>
    rw[hK b u q] at e;cases e
 have Pf:K.In (ny s₁.heap H):=λb o e=>Iw (KX b o e) (nK b o e);have hM:Mod K mg (ny s₁.heap H):=⟨Pf,Bz zl,⟨mb,Bz hb,mv⟩,let ⟨mc,h1,h2⟩:=aec;⟨mc,Bz h1,h2⟩⟩;have hBM:BM mg (ny s₁.heap H):=by
  obtain⟨bm,ob,h1,h2,h3,h4,h5,h6⟩:=hbm;refine⟨bm,ob,h1,h2,Iw h3 ?_,h4,h5,h6⟩;rw[Hn bm (sC h3 λv z=>by rw[h6] at z;cases z)]
  exact isA h3 (by rw[h4];decide) (by rw[h4];decide)
 have e0:rh P w K mg (ny s₁.heap H) callerA [] s₁ H:=⟨rfl,hM,λb o e=>Qz e,BL (Qx _ _),trivial,λb hb=>absurd (show b∈([]:List ae) from hb) (by simp),Pe,.of_eq hg⟩
 have hl:vals.length=ps.length:=by rw[yQ xI];exact hlen
 refine xQ ((F _ Pf (Bz zl) hBM).run callerA [] s₁ H ⟨vals,[]⟩ vals (vals.map toV) _ _ hr e0 (aed s₁ vals hl) hV (kN H0 H _ hO Hs Ht Hn hS)) λr s' x=> ?_;cases r with
 |error e=>exact gw x
 |ok fl=>
  cases fl with
  |next=>exact gw x
  |brk=>exact gw x
  |cont=>exact gw x
  |ret u=>
   obtain⟨v,H',os,bare,un,Iy,r',q⟩:=x;have kept:∀b o,s₁.heap.get? b=some o->b∉cf->s'.heap.get? b=some o:=λb o e nt=>by
    cases q2:H b with
    |none=>exact un.keep b o e q2 (by intro z;exact absurd (show b∈([]:List ae) from z) (by simp)) (by simp)
    |some u2=>
     rcases hO b with z|⟨ob,u3,z⟩
     ·rw[Hn b nt,z] at q2;cases q2
     ·have z:=Hs _ _ z;have z2:=un.jf b ob _ z;obtain⟨e1,_⟩:=Pe b _ z;obtain⟨e2,_⟩:=Iy b _ z2;rw[e] at e1;cases e1;exact e2
   have KX':K.In s'.heap:=λb o e=>kept b o (KX b o e) λz=>by rw[(mi b z).1] at e;cases e
   obtain⟨as,Pg⟩:=Dw.reads (R:=R) (cl:=cl) Iy KX' d0 v u q r';have tab:∀b∈cf,∃more,s'.heap.get? b=some (yc more):=λb z=>by
    obtain⟨more,z2⟩:=un.jz b _ (Ht b z);exact⟨_,Iy b _ z2⟩
   refine⟨u,as,rfl,Pg,⟨λb o e=> ?_,λb o e=> ?_⟩,os,bare⟩
   ·by_cases z:b∈cf
    ·obtain⟨_,c,⟨oc,vs,_,_,_,_,_,_,_,g1,g2,g3,g4,_⟩,e2⟩:=mi b z;rw[e2] at e;cases e;obtain⟨more,e3⟩:=tab b z;exact .inr (.inl ⟨⟨c,oc,vs,g1,g2,g3,g4⟩,rfl,#[],more,rfl,by rw[e3];simp⟩)
    ·exact .inl (kept b o e z)
   ·by_cases z:b∈cf
    ·obtain⟨more,e3⟩:=tab b z;exact⟨_,e3⟩
    ·exact⟨_,kept b o e z⟩
theorem post_fit{r:OpenSpec}(k:r.args.all Codec.fits=true){a:PY r.args}(h:Codec.withinAll r.args a=true)(ds:List WData):r.claim.post (BW r.args a) (r.ret.enc (Codec.app r.args r.f a)) ds=true:=by
 show r.post (BW r.args a) _=true;unfold OpenSpec.post;rw[Codec.decAll_encAll r.args (Codec.ok_all r.args k) a h];exact PySem.W.same_iff.mpr rfl
theorem aee{r:OpenSpec}{k:Nat}{q:aS}{loose:List Str}{XP:(Str->Option ah)->aC->Prop}{YP:aL->aC->Prop}{d:DefRec}{K:Params->az}{ps:List Str}{cf:Params->List ae}{sp:az->List ae->Sp}
 (aef:r.args.all Codec.fits=true) (hlen:r.args.length=ps.length) (hr:dD k callerA)
 (hY:∀(w:aL) (h:aC),YP w h->(K w.params).In h)
 (hT:∀(p:Params) (h:aC) (mg mb:Str->Option ah) (lo:List Str) (BA:ExcName->Option ah),Top q lo BA mg mb h->(K p).In h->∀t∈cf p,(K p).lookup t=none/\ ∃c,B6 h c t/\h.get? t=some (yc #[]))
 (F:∀(w:aL) (mg:Str->Option ah) (fa:ae) (h:aC),YP w h->(K w.params).In h->h.Ns mQ mg->mg d.name=some (.ref fa)->
   ∃fd:bK,(∀(s:aq) (us:List ah),us.length=ps.length->BindsTo s fd ⟨us,[]⟩ (ps.zip us))/\
    ∀base:aC,(K w.params).In base->base.Ns mQ mg->BM mg base->aD r.prog w (K w.params) mg base au k fa fd ps (sp (K w.params) (cf w.params)))
 (kN:∀(p:Params) (H0 H:Hp) (xs:List V) (a:PY r.args),vC H0->(∀b o,H0 b=some o->H b=some o)->(∀t∈cf p,H t=some (.dM #[]))->(∀b,b∉cf p->H b=H0 b)->Codec.withinAll r.args a=true->Codec.app r.args r.asked a=true->lN (K p) H0 xs (BW r.args a)->
   sp (K p) (cf p) xs H (λv H'=>Dw (K p) H' v (r.ret.enc (Codec.app r.args r.f a))) E0):
 PySem.W.WalkOS q loose XP YP r d [] (λf vs=>PySem.call f vs):=by
 intro w dB s₁ mg mb G Y fa o pm cd doc dV kV ho hd fq hD xJ hg args vals as aeg aeh Pg xI l8;obtain⟨a,e1,e2⟩:=PySem.W.os_pre_some aeg;obtain⟨e3,BB⟩:=Codec.encAll_of_decAll r.args args a e1;subst e3;have KX:=hY w _ Y;obtain⟨fd,hb,hF⟩:=F w mg fa _ Y KX G.T.g xJ;refine PySem.W.enter_call (xQ (aeb (R:=[]) (cl:=classAt dB.heap) (d0:=r.ret.enc (Codec.app r.args r.f a)) KX G.T.g G.T.b G.T.builtins G.T.nolimit G.T.bmain hg (hT _ _ _ _ _ _ G.T KX) xI (K8 _ _) (S_ aeh) hr hF hb (by rw[Ld];exact hlen)
  (λH0 H xs hO h1 h2 h3 hS=>kN w.params H0 H xs a hO h1 h2 h3 BB e2 hS)) λr' s' hq=> ?_)
 obtain⟨u,as',rfl,h1,h2,h3,h4⟩:=hq;exact⟨.inl ⟨u,_,as',rfl,λ_=>rfl,h1,post_fit aef BB _,λz=>kG (show false=true from z)⟩,h2,h3,h4⟩
end L2
namespace Lm
open PySem PySem.Spec PyProof.Rows L2
open MX (S)
def En(K:az)(D:List (Key×V))(k:Key)(x:Str)(st:cD):Prop:=∃f fd,dU D k=some (.ref f)/\aG K x x st f fd
structure BC(K:az)(w:aL)(mg:Str->Option ah)(a1 a2:ae)(D1 D2:List (Key×V)):Prop where
 m1:mg "OF_ONE"=some (.ref a1)
 t1:Tab K w a1 D1
 k1:D1.map (λp:Key×V=>p.1)=s_.map λx=>kC (S x)
 m2:mg "OF_TWO"=some (.ref a2)
 t2:Tab K w a2 D2
 k2:D2.map (λp:Key×V=>p.1)=eX.map λx=>kC (S x)
 neg:En K D1 (.inr (S (fO s_ 0))) "negative" ES
 abs:En K D1 (.inr (S (fO s_ 1))) "magnitude" ET
 sign:En K D1 (.inr (S (fO s_ 2))) "sign_of" EU
 not:En K D1 (.inr (S (fO s_ 3))) "opposite" EV
 add:En K D2 (.inr (S (fO eX 0))) "plus" ED
 sub:En K D2 (.inr (S (fO eX 1))) "minus" EE
 mul:En K D2 (.inr (S (fO eX 2))) "times" EF
 quo:En K D2 (.inr (S (fO eX 3))) "quotient" EG
 rem:En K D2 (.inr (S (fO eX 4))) "remainder" EH
 min:En K D2 (.inr (S (fO eX 5))) "smaller" EI
 max:En K D2 (.inr (S (fO eX 6))) "larger" uo
 lt:En K D2 (.inr (S (fO eX 7))) "is_less" EJ
 le:En K D2 (.inr (S (fO eX 8))) "is_at_most" EL
 eq:En K D2 (.inr (S (fO eX 9))) "is_equal" EM
 ne:En K D2 (.inr (S (fO eX 10))) "is_unequal" EN
 aei:En K D2 (.inr (S (fO eX 11))) "both_true" EO
 or_:En K D2 (.inr (S (fO eX 12))) "either_true" ER
 tr:Dd K mg "is_truth" rV
 la:Dd K mg "larger" uo
structure Ph(K:az)(mg:Str->Option ah):Prop where
 aej:Dd K mg "to_bytes" Ah
 aek:Dd K mg "block_lines" FY
 ael:Dd K mg "instruction_lines" Ai
 plain_text:Dd K mg "plain_text" wL
 aem:Dd K mg "map_text" F'
 aen:Dd K mg "is_number" Gf
 aeo:Dd K mg "is_there" Gg
 aep:Dd K mg "row_held" Gi
 aeq:Dd K mg "finished_run" FD
 aer:Dd K mg "read_code" Ag
structure Pj(K:az)(w:aL)(mg:Str->Option ah)(ta:ae)(D:List (Key×V)):Prop where
 m:mg "ANSWERERS"=some (.ref ta)
 t:Tab K w ta D
 e0:En K D (.inl ((0:Nat):Int)) "answer_load" Al
 e1:En K D (.inl ((1:Nat):Int)) "answer_where" Gb
 e2:En K D (.inl ((2:Nat):Int)) "answer_plain" Gd
 e3:En K D (.inl ((3:Nat):Int)) "answer_width" Ge
 e4:En K D (.inl ((4:Nat):Int)) "answer_set" An
 e5:En K D (.inl ((5:Nat):Int)) "answer_run" Gh
 e6:En K D (.inl ((6:Nat):Int)) "answer_array" Gj
 e7:En K D (.inl ((7:Nat):Int)) "answer_vector" Gk
 e8:En K D (.inl ((8:Nat):Int)) "answer_scalar" Gm
 e9:En K D (.inl ((9:Nat):Int)) "answer_mask" Gs
 e10:En K D (.inl ((10:Nat):Int)) "answer_map" Gv
structure Facts(K:az)(w:aL)(mg:Str->Option ah)(R:Cl)(C:Cg)(a1 a2 ta:ae)(D D1 D2 DA:List (Key×V)):Prop where
 d:HW K mg
 g:GI mg
 e:EK K R
 k:jU K C
 fc:n6 K mg C
 tc:qy K mg C
 bl:AY K mg
 sg:A6 K w mg
 sh:Shapes K w mg
 ic:Bi K mg R
 rc:HU K mg C
 c_:Md K C.dv "advance" "Reader.advance" wF
 ref:Md K C.dv "refuse_unless" "Reader.refuse_unless" wG
 pass:Md K C.dv "pass_by" "Reader.pass_by" wH
 up:Md K C.dv "number_up_to" "Reader.number_up_to" wI
 ed:A7 K mg
 sc:nX K mg R
 an:Hu K R D
 at_:Hv K w mg D
 xK:sj K mg R
 mP:MK K R C
 mc:O6 K mg C
 op:BC K w mg a1 a2 D1 D2
 md:Ph K mg
 af:Pj K w mg ta DA
 wh:∃ta D,mg "WHOLE_NUMBERS"=some (.ref ta)/\Tab K w ta D/\ ∀q,q<=10->dU D (.inl ((q:Nat):Int))=some (.int ((MC.dP q:Nat):Int))
 wr:∃ta,mg "WITH_ROW"=some (.ref ta)/\ ∀H,fQ K H ta [.int 0,.int 1,.int 4]
section
variable{P:aS}{w:aL}{K:az}{mg:Str->Option ah}{base:aC}{R:Cl}{C:Cg}{a1 a2 ta:ae}{D D1 D2 DA:List (Key×V)}
theorem Facts.gr(F:Facts K w mg R C a1 a2 ta D D1 D2 DA):Gr K w mg R C:=
 ⟨F.d,F.g,F.e,F.k,F.fc,F.tc,F.bl,F.sg,⟨⟨a2,D2,F.op.m2,F.op.t2,F.op.k2⟩,⟨a1,D1,F.op.m1,F.op.t1,F.op.k1⟩⟩,F.sh,F.ic,F.rc,F.c_,F.ref,F.pass,F.up⟩
theorem BC.opT(O:BC K w mg a1 a2 D1 D2)(g:GI mg)(hk:Dd K mg "refusal_kind" wk):wZ P w K mg base:=by
 obtain⟨ft,o9,FT,mT⟩:=O.tr;obtain⟨fl,GO,FL,mL⟩:=O.la;refine⟨⟨a1,D1,O.m1,O.t1,λo ho=> ?_⟩,⟨a2,D2,O.m2,O.t2,λo ho=> ?_⟩,let ⟨_,_,F⟩:=hk;aaY F g⟩
 ·match o,ho with
  |0,_=>
   obtain⟨f,fd,e,F⟩:=O.neg;exact⟨f,fd,["a"],e,F.kp,(aav F).mono (by decide),F.b1 "a"⟩
  |1,_=>
   obtain⟨f,fd,e,F⟩:=O.abs;exact⟨f,fd,["a"],e,F.kp,(aaw F g).mono (by decide),F.b1 "a"⟩
  |2,_=>
   obtain⟨f,fd,e,F⟩:=O.sign;exact⟨f,fd,["a"],e,F.kp,(aax F).mono (by decide),F.b1 "a"⟩
  |3,_=>
   obtain⟨f,fd,e,F⟩:=O.not;exact⟨f,fd,["a"],e,F.kp,aay F FT mT,F.b1 "a"⟩
  |o+4,h=>exact absurd h (by omega)
 ·match o,ho with
  |0,_=>
   obtain⟨f,fd,e,F⟩:=O.add;exact⟨f,fd,["a","b"],e,F.kp,(aai F g).mono (by decide),F.b2 "a" "b"⟩
  |1,_=>
   obtain⟨f,fd,e,F⟩:=O.sub;exact⟨f,fd,["a","b"],e,F.kp,(aak F g).mono (by decide),F.b2 "a" "b"⟩
  |2,_=>
   obtain⟨f,fd,e,F⟩:=O.mul;exact⟨f,fd,["a","b"],e,F.kp,(aal F g).mono (by decide),F.b2 "a" "b"⟩
  |3,_=>
   obtain⟨f,fd,e,F⟩:=O.quo;exact⟨f,fd,["a","b"],e,F.kp,(aam F).mono (by decide),F.b2 "a" "b"⟩
  |4,_=>
   obtain⟨f,fd,e,F⟩:=O.rem;exact⟨f,fd,["a","b"],e,F.kp,(aan F).mono (by decide),F.b2 "a" "b"⟩
  |5,_=>
   obtain⟨f,fd,e,F⟩:=O.min;exact⟨f,fd,["a","b"],e,F.kp,(aao F).mono (by decide),F.b2 "a" "b"⟩
  |6,_=>
   obtain⟨f,fd,e,F⟩:=O.max;exact⟨f,fd,["a","b"],e,F.kp,(Nq F).mono (by decide),F.b2 "a" "b"⟩
  |7,_=>
   obtain⟨f,fd,e,F⟩:=O.lt;exact⟨f,fd,["a","b"],e,F.kp,(aap F).mono (by decide),F.b2 "a" "b"⟩
  |8,_=>
   obtain⟨f,fd,e,F⟩:=O.le;exact⟨f,fd,["a","b"],e,F.kp,(aaq F).mono (by decide),F.b2 "a" "b"⟩
  |9,_=>
   obtain⟨f,fd,e,F⟩:=O.eq;exact⟨f,fd,["a","b"],e,F.kp,(aar F).mono (by decide),F.b2 "a" "b"⟩
  |10,_=>
   obtain⟨f,fd,e,F⟩:=O.ne;exact⟨f,fd,["a","b"],e,F.kp,(aas F).mono (by decide),F.b2 "a" "b"⟩
  |11,_=>
   obtain⟨f,fd,e,F⟩:=O.aei;exact⟨f,fd,["a","b"],e,F.kp,aat F FT mT,F.b2 "a" "b"⟩
  |12,_=>
   obtain⟨f,fd,e,F⟩:=O.or_;exact⟨f,fd,["a","b"],e,F.kp,aau F FT mT FL mL,F.b2 "a" "b"⟩
  |o+13,h=>exact absurd h (by omega)
theorem Facts.eng(F:Facts K w mg R C a1 a2 ta D D1 D2 DA)(bm:BM mg base)(dA:K.In base):A_ P w K mg base R D:=
 ⟨F.ed,F.g,F.e,F.op.opT F.g F.ed.acm,F.sc,F.an,bm,dA⟩
theorem Facts.lines(F:Facts K w mg R C a1 a2 ta D D1 D2 DA):∀h,aN P w K mg base au (2*h+2) "block_lines" ["body"] (Bq R h):=by
 obtain⟨f,fd,F1,m1⟩:=F.md.ael;obtain⟨f2,Pk,F2,m2⟩:=F.md.aek;have b1:=F1.b1 "told";have b2:=F2.b1 "body";intro h
 induction h with
 |zero=>
  have G:aN P w K mg base au 1 "instruction_lines" ["told"] (xA R 0):=⟨f,fd,adD F1 F.e,m1,F1.kp,b1⟩;exact⟨f2,Pk,OJ F2 G,m2,F2.kp,b2⟩
 |succ h ih=>
  have G:aN P w K mg base au (2*h+3) "instruction_lines" ["told"] (xA R (h+1)):=⟨f,fd,adG F1 F.e F.g ih,m1,F1.kp,b1⟩;exact⟨f2,Pk,OJ F2 G,m2,F2.kp,b2⟩
theorem oq{q:Nat}{vs:List V}{H:Hp}{Q:VK}{E:XK}(h:Ik R C q vs H Q):mJ R C q vs H Q E:=by
 obtain⟨F,m,s,nl,rl,nums,row,k,e,h1,h2,h3,h4,h5,_,h7⟩:=h;exact⟨F,m,s,nl,rl,nums,row,k,e,h1,h2,h3,h4,h5,h7⟩
theorem Facts.anT(F:Facts K w mg R C a1 a2 ta D D1 D2 DA)(bm:BM mg base)(dA:K.In base):O3 P w K mg base R C:=by
 have GT:aN P w K mg base au 1 "is_there" ["rows","wanted"] (xB K):=by
  obtain⟨f,fd,F1,m1⟩:=F.md.aeo;exact⟨f,fd,adL F1 F.g,m1,F1.kp,F1.b2 "rows" "wanted"⟩
 have GN:aN P w K mg base au 1 "is_number" ["number"] Ig:=by
  obtain⟨f,fd,F1,m1⟩:=F.md.aen;exact⟨f,fd,adT F1 F.g,m1,F1.kp,F1.b1 "number"⟩
 have GR:aN P w K mg base au 2 "row_held" ["rows","wanted"] xC:=by
  obtain⟨f,fd,F1,m1⟩:=F.md.aep;exact⟨f,fd,adM F1 F.g GT,m1,F1.kp,F1.b2 "rows" "wanted"⟩
 have GB:aN P w K mg base au 1 "to_bytes" ["text"] Bp:=by
  obtain⟨f,fd,F1,m1⟩:=F.md.aej;exact⟨f,fd,adA F1 F.g,m1,F1.kp,F1.b1 "text"⟩
 have GP:aN P w K mg base au 19 "plain_text" ["code"] (Ia R C):=by
  obtain⟨f,fd,F1,m1⟩:=F.md.plain_text;exact⟨f,fd,adI F1 F.g F.k (F.lines 8) GB,m1,F1.kp,F1.b1 "code"⟩
 have GM:aN P w K mg base au 2 "map_text" ["operator","length","place"] Ib:=by
  obtain⟨f,fd,F1,m1⟩:=F.md.aem;exact⟨f,fd,adK F1 F.g GB,m1,F1.kp,F1.b3 "operator" "length" "place"⟩
 have GC:aN P w K mg base (bq P w) 43 "read_code" ["text"] (xy K R C):=by
  obtain⟨f,fd,F1⟩:=F.md.aer;exact ady F1 F.gr
 have GF:aN P w K mg base (bq P w) 22 "finished_run" ["code","width","arrays","budget"] (Hx R C):=by
  obtain⟨f,fd,F1,m1⟩:=F.md.aeq;exact⟨f,fd,acu F1 (F.eng bm dA) F.at_ F.xK F.k,m1,F1.kp,F1.b4 "code" "width" "arrays" "budget"⟩
 refine⟨⟨ta,DA,F.af.m,F.af.t,λq hq=> ?_⟩,F.wh,F.wr⟩
 match q,hq with
 |0,_=>
  obtain⟨f,fd,e,F1⟩:=F.af.e0;exact⟨f,fd,["machine","numbers","text"],_,e,F1.kp,ad0 F1 F.mP F.e F.k F.g F.xK F.fc GC,F1.b3 "machine" "numbers" "text",λvs H Q h=>oq h⟩
 |1,_=>
  obtain⟨f,fd,e,F1⟩:=F.af.e1;exact⟨f,fd,["machine","numbers","text"],_,e,F1.kp,adW F1 F.g F.fc GC,F1.b3 "machine" "numbers" "text",λvs H Q h=>oq h⟩
 |2,_=>
  obtain⟨f,fd,e,F1⟩:=F.af.e2;exact⟨f,fd,["machine","numbers","row"],_,e,F1.kp,(adR F1 F.mP F.g GP).mono (by decide),F1.b3 "machine" "numbers" "row",λvs H Q h=>oq h⟩
 |3,_=>
  obtain⟨f,fd,e,F1⟩:=F.af.e3;exact⟨f,fd,["machine","numbers","row"],_,e,F1.kp,(adS F1 F.mP F.e F.g F.xK).mono (by decide),F1.b3 "machine" "numbers" "row",λvs H Q h=>oq h⟩
 |4,_=>
  obtain⟨f,fd,e,F1⟩:=F.af.e4;exact⟨f,fd,["machine","numbers","data"],_,e,F1.kp,(adZ F1 F.mP F.g GT GN).mono (by decide),F1.b3 "machine" "numbers" "data",λvs H Q h=>oq h⟩
 |5,_=>
  obtain⟨f,fd,e,F1⟩:=F.af.e5;exact⟨f,fd,["machine","numbers","row"],_,e,F1.kp,(ad2 F1 F.mP F.e F.k F.g F.sc GF).mono (by decide),F1.b3 "machine" "numbers" "row",λvs H Q h=>h⟩
 |6,_=>
  obtain⟨f,fd,e,F1⟩:=F.af.e6;exact⟨f,fd,["machine","numbers","row"],_,e,F1.kp,(adQ F1 F.mP F.e F.g GR).mono (by decide),F1.b3 "machine" "numbers" "row",λvs H Q h=>oq h⟩
 |7,_=>
  obtain⟨f,fd,e,F1⟩:=F.af.e7;exact⟨f,fd,["machine","numbers","row"],_,e,F1.kp,(adN F1 F.mP F.e F.g GR).mono (by decide),F1.b3 "machine" "numbers" "row",λvs H Q h=>oq h⟩
 |8,_=>
  obtain⟨f,fd,e,F1⟩:=F.af.e8;exact⟨f,fd,["machine","numbers","row"],_,e,F1.kp,(adP F1 F.mP F.e F.g GT).mono (by decide),F1.b3 "machine" "numbers" "row",λvs H Q h=>oq h⟩
 |9,_=>
  obtain⟨f,fd,e,F1⟩:=F.af.e9;exact⟨f,fd,["machine","numbers","row"],_,e,F1.kp,(adO F1 F.mP F.e F.g GR).mono (by decide),F1.b3 "machine" "numbers" "row",λvs H Q h=>oq h⟩
 |10,_=>
  obtain⟨f,fd,e,F1⟩:=F.af.e10;exact⟨f,fd,["machine","numbers","row"],_,e,F1.kp,(adV F1 F.g F.gr.on GM).mono (by decide),F1.b3 "machine" "numbers" "row",λvs H Q h=>oq h⟩
 |q+11,h=>exact absurd h (by omega)
theorem Facts.answers{f:ae}{fd:bK}(F:Facts K w mg R C a1 a2 ta D D1 D2 DA)(bm:BM mg base)(dA:K.In base)(FA:aG K "answers" "answers" Ar f fd):aD P w K mg base au 45 f fd ["calls"] (Il K R):=
 ad6 FA F.mP F.e F.g F.xK F.mc (F.anT bm dA)
end
section
variable{K:az}{w:aL}{mg:Str->Option ah}{h:aC}
theorem uQ{x:Str}{st:cD}{f:ae}{oc:ah}{od an:Option ae}{gI:Array (Option ah)}{kV doc pm aF ct:ah}(X:K.In h)(G:h.Ns mQ mg)(a:lB K mQ x=some (some (.ref f)))
 (l:K.lookup f=some ⟨oc,od,.func (j0 x x (ke st) (hX st) (aK st) .none kV doc pm an aF ct),gI⟩) (c:sS K aF x=true) (k:iN K (.ref f)=true):Dd K mg x st:=⟨f,_,rC l c k,kK X G a⟩
theorem Iz{D:List (Key×V)}{ky:Key}{x:Str}{st:cD}{f:ae}{oc:ah}{od an:Option ae}{gI:Array (Option ah)}{kV doc pm aF ct:ah}(v:dU D ky=some (.ref f))
 (l:K.lookup f=some ⟨oc,od,.func (j0 x x (ke st) (hX st) (aK st) .none kV doc pm an aF ct),gI⟩) (c:sS K aF x=true) (k:iN K (.ref f)=true):En K D ky x st:=⟨f,_,v,rC l c k⟩
theorem BD{C:ae}{x q:Str}{st:cD}{f:ae}{oc:ah}{od an:Option ae}{gI:Array (Option ah)}{kV doc pm aF ct:ah}(a:jv K (.ref C) x=some (some (.ref f)))(i:uV K (.ref f)=true)
 (l:K.lookup f=some ⟨oc,od,.func (j0 x q (ke st) (hX st) (aK st) .none kV doc pm an aF ct),gI⟩) (c:sS K aF q=true) (k:iN K (.ref f)=true):Md K C x q st:=⟨f,_,⟨a,i,k⟩,rC l c k⟩
theorem sG{C:ae}{x q:Str}{st:cD}{f:ae}{oc:ah}{od an:Option ae}{gI:Array (Option ah)}{kV doc pm aF ct:ah}(X:K.In h)(G:h.Ns mQ mg)(n:lB K mQ x=some (some (.ref C)))(m:Pz K C=true)(kc:iN K (.ref C)=true)
 (a:jv K (.ref C) "__init__"=some (some (.ref f))) (i:uV K (.ref f)=true)
 (l:K.lookup f=some ⟨oc,od,.func (j0 "__init__" q (ke st) (hX st) (aK st) .none kV doc pm an aF ct),gI⟩) (c:sS K aF q=true) (k:iN K (.ref f)=true):
 ∃f fd,Mk K C f/\aG K "__init__" q st f fd/\mg x=some (.ref C):=⟨f,_,⟨m,a,i,kc⟩,rC l c k,kK X G n⟩
theorem aes{R:Cl}{D:List (Key×V)}{a:String}{x:Str}{st:cD}{j:Nat}{q:Str}{f cd Pl:ae}{oc:ah}{od an:Option ae}{gI:Array (Option ah)}{kV doc pm ct:ah}{o2:Option ae}{vs:Array ah}{sl2:Array (Option ah)}{file:Str}{tf tg tt:Tok}{flags text:Int}{Pn:Bool}
 (v:dU D (.inr (S (aE a)))=some (.ref f))
 (l:K.lookup f=some ⟨oc,od,.func (j0 x x (ke st) (hX st) (aK st) .none kV doc pm an (.ref cd) ct),gI⟩) (c:sS K (.ref cd) x=true) (k:iN K (.ref f)=true)
 (lc:K.lookup cd=some ⟨.type "code",o2,.fields vs,sl2⟩) (h1:vs[11]? =some (.ref Pl)) (h2:vs.getD 11 .none=.ref Pl) (h3:vs.getD 18 .none=.str file tf) (h4:vs.getD 7 .none=.int flags tg) (h5:vs.getD 9 .none=.bool Pn) (h6:vs.getD 10 .none=.int text tt) (h7:cd≠Pl)
 (t:R.cf[j]? =some Pl) (m:R.rY[j]? =some (qv st,q)):A8 K R D a x st j q:=
 ⟨f,_,cd,Pl,v,rC l c k,λbase X=>⟨rfl,⟨_,vs,file,tf,flags,tg,Pn,text,tt,X _ _ lc,rfl,rfl,h1,h2,h3,h4,h5,h6,h7⟩,t,m⟩⟩
theorem sH{a:ae}{D:List (Key×V)}{es:Array yb}{n:Nat}(s:(a==sysModules)=false)(l:K.lookup a=some ⟨.type "dict",none,.dict es n,#[]⟩)(p:Paired (Ent w) D es.toList):Tab K w a D:=⟨s,es,n,l,p⟩
theorem Po{a:ae}{o:Obj}{aH:Array ah}{n:Nat}{xs:List V}(l:K.lookup a=some o)(c:o.cls=.type "tuple")(d:o.data=.seq aH n)(s:aH.size<=sizeLine)(v:Vals xs aH.toList):∀H,fQ K H a xs:=λ_=>.inr ⟨o,aH,n,l,c,d,s,v⟩
theorem BE{C:ae}(pg:BK K C sP=true)(hd:IM K C=true)(po:Px K C=true)(sa:jv K (.ref C) "__setattr__"=some (some (.builtin "object.__setattr__"))):iz K C:=⟨pg,hd,po,sa⟩
theorem Pp{C N f:ae}{nm q:Str}{bs:List ah}{sn:List Str}{sub:List ah}{ab:Bool}{col:Option Bool}{dd:Option ae}{k0 k1 k2 k3 k5:Option ah}(l:K.lookup C=some (m_ nm q C N bs vZ true sn sub ab col dd k0 k1 k2 k3 k5 "Exception.__new__"))(o:PySem.W.nsOkIn K N=true)(i:lB K N "__init__"=some (some (.ref f)))
 (fn:uV K (.ref f)=true) (k:iN K (.ref C)=true) (s:lB K N "__setattr__"=some none) (g:lB K N "__getattribute__"=some none) (gh:lB K N "__getattr__"=some none):jb K C N f:=⟨⟨_,_,_,_,_,_,_,_,_,_,_,_,_,l⟩,o,i,fn,k,s,g,gh⟩
end
def RR:Cl:=⟨203,184,594,166,[(qv wA,"do_both.<locals>.<lambda>"),(qv wB,"do_less.<locals>.<lambda>"),(qv wC,"do_either.<locals>.<lambda>")],[352,359,366]⟩
def CC:Cg:=⟨483,503,664,615,814⟩
section
variable{w:aL}{mg:Str->Option ah}{h:aC}(X:(Lm.zzH.heap_1 w.params).In h)(G:h.Ns mQ mg)
include X G
theorem aet:A7 (Lm.zzH.heap_1 w.params) mg:=by
 constructor<;>(refine' uQ X G ?a ?l ?c ?k;(case a=>k_is);(case l=>k_is);(case c=>k_is);(case k=>k_is))
theorem aeu:HW (Lm.zzH.heap_1 w.params) mg:=by
 constructor<;>(refine' uQ X G ?a ?l ?c ?k;(case a=>k_is);(case l=>k_is);(case c=>k_is);(case k=>k_is))
theorem aev:Ph (Lm.zzH.heap_1 w.params) mg:=by
 constructor<;>(refine' uQ X G ?a ?l ?c ?k;(case a=>k_is);(case l=>k_is);(case c=>k_is);(case k=>k_is))
theorem aew:Dd (Lm.zzH.heap_1 w.params) mg "is_truth" rV:=by(refine' uQ X G ?a ?l ?c ?k;(case a=>k_is);(case l=>k_is);(case c=>k_is);(case k=>k_is))
theorem aex:Dd (Lm.zzH.heap_1 w.params) mg "larger" uo:=by(refine' uQ X G ?a ?l ?c ?k;(case a=>k_is);(case l=>k_is);(case c=>k_is);(case k=>k_is))
theorem aey:Dd (Lm.zzH.heap_1 w.params) mg "answers" Ar:=by(refine' uQ X G ?a ?l ?c ?k;(case a=>k_is);(case l=>k_is);(case c=>k_is);(case k=>k_is))
theorem aez:∃f fd,Mk (Lm.zzH.heap_1 w.params) 203 f/\aG (Lm.zzH.heap_1 w.params) "__init__" "Run.__init__" wo f fd/\mg "Run"=some (.ref 203):=by(refine' sG X G ?n ?m ?kc ?a ?i ?l ?c ?k;(case n=>k_is);(case m=>k_is);(case kc=>k_is);(case a=>k_is);(case i=>k_is);(case l=>k_is);(case c=>k_is);(case k=>k_is))
theorem aeA:∃f fd,Mk (Lm.zzH.heap_1 w.params) 184 f/\aG (Lm.zzH.heap_1 w.params) "__init__" "Registers.__init__" uq f fd/\mg "Registers"=some (.ref 184):=by(refine' sG X G ?n ?m ?kc ?a ?i ?l ?c ?k;(case n=>k_is);(case m=>k_is);(case kc=>k_is);(case a=>k_is);(case i=>k_is);(case l=>k_is);(case c=>k_is);(case k=>k_is))
theorem aeB:∃f fd,Mk (Lm.zzH.heap_1 w.params) 594 f/\aG (Lm.zzH.heap_1 w.params) "__init__" "Instruction.__init__" zZ f fd/\mg "Instruction"=some (.ref 594):=by(refine' sG X G ?n ?m ?kc ?a ?i ?l ?c ?k;(case n=>k_is);(case m=>k_is);(case kc=>k_is);(case a=>k_is);(case i=>k_is);(case l=>k_is);(case c=>k_is);(case k=>k_is))
theorem aeC:∃f fd,Mk (Lm.zzH.heap_1 w.params) 503 f/\aG (Lm.zzH.heap_1 w.params) "__init__" "Token.__init__" zL f fd/\mg "Token"=some (.ref 503):=by(refine' sG X G ?n ?m ?kc ?a ?i ?l ?c ?k;(case n=>k_is);(case m=>k_is);(case kc=>k_is);(case a=>k_is);(case i=>k_is);(case l=>k_is);(case c=>k_is);(case k=>k_is))
theorem aeD:∃f fd,Mk (Lm.zzH.heap_1 w.params) 664 f/\aG (Lm.zzH.heap_1 w.params) "__init__" "Reader.__init__" z8 f fd/\mg "Reader"=some (.ref 664):=by(refine' sG X G ?n ?m ?kc ?a ?i ?l ?c ?k;(case n=>k_is);(case m=>k_is);(case kc=>k_is);(case a=>k_is);(case i=>k_is);(case l=>k_is);(case c=>k_is);(case k=>k_is))
theorem aeE:∃f fd,Mk (Lm.zzH.heap_1 w.params) 615 f/\aG (Lm.zzH.heap_1 w.params) "__init__" "Code.__init__" z7 f fd/\mg "Code"=some (.ref 615):=by(refine' sG X G ?n ?m ?kc ?a ?i ?l ?c ?k;(case n=>k_is);(case m=>k_is);(case kc=>k_is);(case a=>k_is);(case i=>k_is);(case l=>k_is);(case c=>k_is);(case k=>k_is))
theorem aeF:∃f fd,Mk (Lm.zzH.heap_1 w.params) 814 f/\aG (Lm.zzH.heap_1 w.params) "__init__" "Machine.__init__" Ak f fd/\mg "Machine"=some (.ref 814):=by(refine' sG X G ?n ?m ?kc ?a ?i ?l ?c ?k;(case n=>k_is);(case m=>k_is);(case kc=>k_is);(case a=>k_is);(case i=>k_is);(case l=>k_is);(case c=>k_is);(case k=>k_is))
omit X G
theorem aeG:EK (Lm.zzH.heap_1 w.params) RR:=by
 constructor<;>first|(refine' BE ?a ?b ?c ?d;(case a=>k_is);(case b=>k_is);(case c=>k_is);(case d=>k_is))|(refine'(show jv _ _ _=some none from ?a);(case a=>k_is))|rfl|decide
theorem Pq:AV (Lm.zzH.heap_1 w.params) CC:=by
 constructor<;>first|(refine' BE ?a ?b ?c ?d;(case a=>k_is);(case b=>k_is);(case c=>k_is);(case d=>k_is))|(refine'(show jv _ _ _=some none from ?a);(case a=>k_is))|rfl|decide
theorem aeH:jU (Lm.zzH.heap_1 w.params) CC:=by
 constructor<;>first|exact Pq|first|(refine' BE ?a ?b ?c ?d;(case a=>k_is);(case b=>k_is);(case c=>k_is);(case d=>k_is))|(refine'(show jv _ _ _=some none from ?a);(case a=>k_is))|rfl|decide
theorem aeI:MK (Lm.zzH.heap_1 w.params) RR CC:=by
 constructor<;>first|(refine' BE ?a ?b ?c ?d;(case a=>k_is);(case b=>k_is);(case c=>k_is);(case d=>k_is))|(refine'(show jv _ _ _=some none from ?a);(case a=>k_is))|rfl|decide
theorem aeJ:jb (Lm.zzH.heap_1 w.params) 166 165 163:=by
 refine' Pp ?l ?o ?i ?f ?k ?s ?g ?h
 case o=>kernel_rfl
 (case l=>k_is);(case i=>k_is);(case f=>k_is);(case k=>k_is);(case s=>k_is);(case g=>k_is);(case h=>k_is)
theorem aeK:mh (Lm.zzH.heap_1 w.params) 165 "kind":=⟨by k_is,rfl⟩
theorem aeL:mh (Lm.zzH.heap_1 w.params) 165 "place":=⟨by k_is,rfl⟩
theorem aeM:∃fd,aG (Lm.zzH.heap_1 w.params) "__init__" "Stop.__init__" EW 163 fd:=by
 refine'⟨_,rC ?l ?c ?k⟩
 (case l=>k_is);(case c=>k_is);(case k=>k_is)
theorem aeN:jb (Lm.zzH.heap_1 w.params) 483 482 480:=by
 refine' Pp ?l ?o ?i ?f ?k ?s ?g ?h
 case o=>kernel_rfl
 (case l=>k_is);(case i=>k_is);(case f=>k_is);(case k=>k_is);(case s=>k_is);(case g=>k_is);(case h=>k_is)
theorem aeO:mh (Lm.zzH.heap_1 w.params) 482 "position":=⟨by k_is,rfl⟩
theorem aeP:∃fd,aG (Lm.zzH.heap_1 w.params) "__init__" "FormError.__init__" FE 480 fd:=by
 refine'⟨_,rC ?l ?c ?k⟩
 (case l=>k_is);(case c=>k_is);(case k=>k_is)
theorem aeQ:Md (Lm.zzH.heap_1 w.params) 664 "advance" "Reader.advance" wF:=by
 refine' BD ?a ?i ?l ?c ?k
 (case a=>k_is);(case i=>k_is);(case l=>k_is);(case c=>k_is);(case k=>k_is)
theorem aeR:Md (Lm.zzH.heap_1 w.params) 664 "refuse_unless" "Reader.refuse_unless" wG:=by
 refine' BD ?a ?i ?l ?c ?k
 (case a=>k_is);(case i=>k_is);(case l=>k_is);(case c=>k_is);(case k=>k_is)
theorem aeS:Md (Lm.zzH.heap_1 w.params) 664 "pass_by" "Reader.pass_by" wH:=by
 refine' BD ?a ?i ?l ?c ?k
 (case a=>k_is);(case i=>k_is);(case l=>k_is);(case c=>k_is);(case k=>k_is)
theorem aeT:Md (Lm.zzH.heap_1 w.params) 664 "number_up_to" "Reader.number_up_to" wI:=by
 refine' BD ?a ?i ?l ?c ?k
 (case a=>k_is);(case i=>k_is);(case l=>k_is);(case c=>k_is);(case k=>k_is)
def ky(s:String)(a:ae):Key×V:=(.inr (S (aE s)),.ref a)
def IA:List (Key×V):=[ky "neg" 119,ky "abs" 126,ky "sign" 133,ky "not" 140]
def IB:List (Key×V):=[ky "add" 21,ky "sub" 28,ky "mul" 35,ky "quo" 42,ky "rem" 49,ky "min" 56,ky "max" 63,ky "lt" 70,ky "le" 77,ky "eq" 84,ky "ne" 91,ky "and" 105,ky "or" 112]
def ID:List (Key×V):=[ky "lanes" 259,ky "const" 273,ky "fill" 280,ky "copy" 287,ky "one" 294,ky "two" 301,ky "read" 315,ky "pick" 322,ky "write" 329,ky "test" 336,ky "tail" 343,ky "both" 357,ky "less" 364,ky "either" 371,ky "count" 378,ky "num" 385,ky "width" 392,ky "calc" 399,ky "get" 413,ky "put" 420,ky "for" 427,ky "when" 434,ky "raise" 448]
def IE:List (Key×V):=[(.inl 0,.ref 823),(.inl 1,.ref 830),(.inl 2,.ref 837),(.inl 3,.ref 844),(.inl 4,.ref 863),(.inl 5,.ref 870),(.inl 6,.ref 884),(.inl 7,.ref 891),(.inl 8,.ref 898),(.inl 9,.ref 905),(.inl 10,.ref 912)]
def IF:List (Key×V):=[(.inl 0,.int 0),(.inl 1,.int 0),(.inl 2,.int 0),(.inl 3,.int 1),(.inl 4,.int 1),(.inl 5,.int 1),(.inl 6,.int 1),(.inl 7,.int 1),(.inl 8,.int 1),(.inl 9,.int 1),(.inl 10,.int 3)]
theorem aeU:Tab (Lm.zzH.heap_1 w.params) w 142 IA:=by
 refine' sH rfl ?l ?p
 case l=>k_is
 case p=>repeat' first|exact .nil|refine .cons ⟨rfl,rfl,rfl⟩ ?_|refine .cons ⟨rfl,rfl,_,rfl⟩ ?_
theorem aeV:Tab (Lm.zzH.heap_1 w.params) w 141 IB:=by
 refine' sH rfl ?l ?p
 case l=>k_is
 case p=>repeat' first|exact .nil|refine .cons ⟨rfl,rfl,rfl⟩ ?_|refine .cons ⟨rfl,rfl,_,rfl⟩ ?_
theorem aeW:Tab (Lm.zzH.heap_1 w.params) w 449 ID:=by
 refine' sH rfl ?l ?p
 case l=>k_is
 case p=>repeat' first|exact .nil|refine .cons ⟨rfl,rfl,rfl⟩ ?_|refine .cons ⟨rfl,rfl,_,rfl⟩ ?_
theorem aeX:Tab (Lm.zzH.heap_1 w.params) w 913 IE:=by
 refine' sH rfl ?l ?p
 case l=>k_is
 case p=>repeat' first|exact .nil|refine .cons ⟨rfl,rfl,rfl⟩ ?_|refine .cons ⟨rfl,rfl,_,rfl⟩ ?_
theorem aeY:Tab (Lm.zzH.heap_1 w.params) w 914 IF:=by
 refine' sH rfl ?l ?p
 case l=>k_is
 case p=>repeat' first|exact .nil|refine .cons ⟨rfl,rfl,rfl⟩ ?_|refine .cons ⟨rfl,rfl,_,rfl⟩ ?_
theorem aeZ:Tab (Lm.zzH.heap_1 w.params) w 465 A5:=by
 refine' sH rfl ?l ?p
 case l=>k_is
 case p=>repeat' first|exact .nil|refine .cons ⟨rfl,rfl,rfl⟩ ?_|refine .cons ⟨rfl,rfl,_,rfl⟩ ?_
theorem ae0:Tab (Lm.zzH.heap_1 w.params) w 576 Bh:=by
 refine' sH rfl ?l ?p
 case l=>k_is
 case p=>repeat' first|exact .nil|refine .cons ⟨rfl,rfl,rfl⟩ ?_|refine .cons ⟨rfl,rfl,_,rfl⟩ ?_
include X G
theorem ae1:BC (Lm.zzH.heap_1 w.params) w mg 142 141 IA IB:=by
 constructor
 case m1=>exact kK X G (by k_is)
 case m2=>exact kK X G (by k_is)
 case t1=>exact aeU
 case t2=>exact aeV
 case k1=>decide+kernel
 case k2=>decide+kernel
 case tr=>exact aew X G
 case la=>exact aex X G
 all_goals (refine' Iz ?v ?l ?c ?k;(case v=>exact rfl);(case l=>k_is);(case c=>k_is);(case k=>k_is))
theorem ae2:Pj (Lm.zzH.heap_1 w.params) w mg 913 IE:=by
 constructor
 case m=>exact kK X G (by k_is)
 case t=>exact aeX
 all_goals (refine' Iz ?v ?l ?c ?k;(case v=>exact rfl);(case l=>k_is);(case c=>k_is);(case k=>k_is))
omit X G
theorem ae3:Hu (Lm.zzH.heap_1 w.params) RR ID:=by
 constructor<;>first|(refine' Iz ?v ?l ?c ?k;(case v=>exact rfl);(case l=>k_is);(case c=>k_is);(case k=>k_is))|(refine' aes ?v ?l ?c ?k ?lc ?h1 ?h2 ?h3 ?h4 ?h5 ?h6 ?h7 ?t ?m;(case v=>exact rfl);(case l=>k_is);(case c=>k_is);(case k=>k_is);(case lc=>k_is);(case h1=>rfl);(case h2=>rfl);(case h3=>rfl);(case h4=>rfl);(case h5=>rfl);(case h6=>rfl);(case h7=>decide);(case t=>rfl);(case m=>rfl))
include X G
theorem ae4:GI mg:=by
 constructor<;>first|exact⟨_,kK X G (by k_is)⟩|exact PySem.W.mg_none_of X G (by k_is)
omit X G
theorem ae5:∀H,fQ (Lm.zzH.heap_1 w.params) H 466 [.int 32,.int 9,.int 10,.int 13]:=by
 refine' Po (n:= ?n) ?l ?c ?d ?s ?v
 case l=>k_is
 case c=>rfl
 case d=>rfl
 case s=>decide
 case v=>exact .cons ⟨_,rfl⟩ (.cons ⟨_,rfl⟩ (.cons ⟨_,rfl⟩ (.cons ⟨_,rfl⟩ (.nil))))
theorem ae6:∀H,fQ (Lm.zzH.heap_1 w.params) H 915 [.int 0,.int 1,.int 4]:=by
 refine' Po (n:= ?n) ?l ?c ?d ?s ?v
 case l=>k_is
 case c=>rfl
 case d=>rfl
 case s=>decide
 case v=>exact .cons ⟨_,rfl⟩ (.cons ⟨_,rfl⟩ (.cons ⟨_,rfl⟩ (.nil)))
include X G
theorem ae7:nX (Lm.zzH.heap_1 w.params) mg RR:=by
 obtain⟨fd,F⟩:=aeM (w:=w);exact⟨165,163,fd,⟨aeJ,aeK,aeL,F⟩,kK X G (by k_is)⟩
theorem ae8:n6 (Lm.zzH.heap_1 w.params) mg CC:=by
 obtain⟨fd,F⟩:=aeP (w:=w);exact⟨482,480,fd,⟨aeN,aeO,F⟩,kK X G (by k_is)⟩
theorem ae9:Facts (Lm.zzH.heap_1 w.params) w mg RR CC 142 141 913 ID IA IB IE:=by
 exact{d:=aeu X G,g:=ae4 X G,e:=aeG,k:=aeH,fc:=ae8 X G,tc:=⟨Pq,aeC X G⟩,bl:=⟨466,kK X G (by k_is),ae5⟩,sg:=⟨465,kK X G (by k_is),aeZ⟩,sh:=⟨576,kK X G (by k_is),ae0⟩,ic:=aeB X G,rc:=⟨aeE X G,aeD X G⟩,c_:=aeQ,ref:=aeR,pass:=aeS,up:=aeT,ed:=aet X G,sc:=ae7 X G,an:=ae3,at_:=⟨449,kK X G (by k_is),aeW⟩,xK:=⟨aeA X G,aez X G⟩,mP:=aeI,mc:=aeF X G,op:=ae1 X G,md:=aev X G,af:=ae2 X G,wh:=⟨914,IF,kK X G (by k_is),aeY,λq hq=>(by decide+kernel:∀d:Fin 11,dU IF (.inl ((d.val:Nat):Int))=some (.int ((MC.dP d.val:Nat):Int))) ⟨q,by omega⟩⟩,wr:=⟨915,kK X G (by k_is),ae6⟩}
end
open PySem.W (Codec)
theorem afa{p:Params}{h:aC}{q:aS}{mg mb:Str->Option ah}{lo:List Str}{BA:ExcName->Option ah}(h1:∃d,(recsOf q).find? (λe:DefRec=>e.name==("do_both":Str))=some d)(h2:∃d,(recsOf q).find? (λe:DefRec=>e.name==("do_less":Str))=some d)(h3:∃d,(recsOf q).find? (λe:DefRec=>e.name==("do_either":Str))=some d)
 (T:Top q lo BA mg mb h) (X:(Lm.zzH.heap_1 p).In h):∀t∈RR.cf,(Lm.zzH.heap_1 p).lookup t=none/\ ∃c,B6 h c t/\h.get? t=some (yc #[]):=by
 obtain⟨d1,h1⟩:=h1;obtain⟨d2,h2⟩:=h2;obtain⟨d3,h3⟩:=h3;intro t ht;rcases cC.mp ht with rfl|ht
 ·exact⟨by kernel_rfl,356,Qm T X h1 (by kernel_rfl)⟩
 rcases cC.mp ht with rfl|ht
 ·exact⟨by kernel_rfl,363,Qm T X h2 (by kernel_rfl)⟩
 rcases cC.mp ht with rfl|ht
 ·exact⟨by kernel_rfl,370,Qm T X h3 (by kernel_rfl)⟩
 ·cases ht
theorem afb{H0 H:Hp}{ts:List ae}(hO:vC H0)(h1:∀t∈ts,H t=some (.dM #[]))(h2:∀b,b∉ts->H b=H0 b):k_ H:=λb φ z=>by
 by_cases y:b∈ts
 ·rw[h1 b y] at z;cases z
 ·rw[h2 b y] at z;rcases hO b with e|⟨o,u,e⟩<;>rw[e] at z<;>cases z
theorem afx{q:aS}{loose:List Str}{XP:(Str->Option ah)->aC->Prop}{YP:aL->aC->Prop}{d:DefRec}(hY:∀(w:aL) (h:aC),YP w h->(Lm.zzH.heap_1 w.params).In h)(hd:d.name="answers")
 (h1:∃d,(recsOf q).find? (λe:DefRec=>e.name==("do_both":Str))=some d) (h2:∃d,(recsOf q).find? (λe:DefRec=>e.name==("do_less":Str))=some d) (h3:∃d,(recsOf q).find? (λe:DefRec=>e.name==("do_either":Str))=some d):
 PySem.W.WalkOS q loose XP YP afp d [] (λf vs=>PySem.call f vs):=by
 refine aee (r:=afp) (k:=45) (K:=Lm.zzH.heap_1) (ps:=["calls"]) (cf:=λ_=>RR.cf) (sp:=λK _=>Il K RR) (by decide+kernel) rfl ⟨rfl,by decide,by decide⟩ hY (λp h mg mb lo BA T X=>afa h1 h2 h3 T X) ?F ?S
 case F=>
  intro w mg fa h Y KX G xJ;obtain⟨f,fd,F,m⟩:=aey KX G;rw[hd] at xJ;obtain rfl:f=fa:=by rw[m] at xJ;cases xJ;rfl
  have Fx:=ae9 KX G;refine⟨fd,λs us hu=> ?_,λbase X B bm=>Facts.answers Fx bm X F⟩;obtain⟨oc,od,kV,doc,pm,an,aF,ct,gI,rfl,lk,fq⟩:=F.ex;exact match us,hu with|[_],_=>.of_eq rfl
 case S=>
  intro p H0 H xs a hO hS hT hN BB Im hx;cases hx with
  |cons x1 x2=>
   cases x2;cases x1 with
   |lst hs ha=>
    have e:=L2.K6 a.1 _ ha;subst e;have q:((Codec.inLen 0 17000 a.1&&a.1.all (Codec.inInt (-1000000000000000000) 1000000000000000000))&&true)=true:=BB;rw[eQ,eQ] at q;have len:=(Codec.inNat_iff.mp q.1.1).2;refine⟨_,a.1,rfl,O5 hS hs,Im,dw len (by decide),λi b e=> ?_,afb hO hT hN,λH' p hp=>.lst (L2.aI.of hp) (L2.K5 _)⟩
    have il:i<3:=(dy.mp e).1;obtain⟨q1,hq⟩:∃q1,RR.rY[i]? =some q1:=⟨_,eI il⟩;exact⟨q1,hq,.inl (hT b (d7 e))⟩
end Lm
theorem PySem.Challenge.cw_lanemachine_s01_answers_holds : PySem.Challenge.rw_lanemachine_s01_answers.Holds :=
  Lm.zzH (Lm.afx (fun w h Y => PySem.W.kIn_of Y) rfl (Option.isSome_iff_exists.mp (by decide +kernel)) (Option.isSome_iff_exists.mp (by decide +kernel)) (Option.isSome_iff_exists.mp (by decide +kernel)))
#print axioms PySem.Challenge.cw_lanemachine_s01_answers_holds
