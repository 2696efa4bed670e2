import PyProof.Rows.All
import Wide.All
import OpenK.AllK
import Wide.FinOn
import PyProof.EqAt
import PyProof.EqKinds
import PyProof.TupleCall
import KE.BitLaws
import Open.SpecLaws
import KE.OsHead
import KE.OsGo
import PySem.Challenge.RW_lanemachine_s01_answers
set_option Elab.async false
set_option linter.all false
set_option maxRecDepth 100000
set_option maxHeartbeats 4000000
set_option maxHeartbeats 0
local macro_rules | `(tactic| o_law) => `(tactic| skip)
local macro_rules | `(tactic| k_head) => `(tactic| k_headS)
local macro_rules | `(tactic| w_witness2) => `(tactic| exact ⟨[.list [.int 2]], by decide +kernel, by decide +kernel⟩)
structure PySem.W.Fast:Prop where(tw18130485261119443163 tw1769166701501706896 tw3200209788159680029 tw6298900467166407364 tw14769132673226653827 tw16537693736275915380 tw8380590248747962959 tw11843279058969162298 tw10351352412985935094 tw10046302412146340301 tw14878362431053678164 tw12142920076560941761 tw2959783996366844982 tw13993214319226580457 tw3680897034478462144 tw2432301465565848105 tw11760138190531514860 tw3510430050515662102 tw8304777374806240473 tw1233657775742674676 tw16340872874468050996 tw17846292459122716423 tw16403469873173166897 tw6375650632554460481 tw3419301632960304506 tw12529130171599138554 tw10975003658289746717 tw11857890963346669620 tw14218314259608362509 tw17670804872265709677 tw1238293245730572616 tw1042840857890792048 tw16324912871267619484 tw8295944128178658257 tw16493439064182221412 tw14901557622634161510 tw14468184802312024456 tw5759466864998340343 tw3668421505636781551 tw2395027206961035012 tw12712722774648568453 tw4059286883270598279 tw10098076214907787228 tw15068101982635285885 tw2465333980260245330 tw9219416847576805087 tw1481825960005517789 tw15530038229801738006 tw14290535806668193625 tw7231016782829762957 tw6628740135766932431 tw10662354406188530397 tw3969508082159231136 tw4904575828175982387 tw15633530751684011888 tw4997885954646189154 tw13428355155479329770 tw14243676889048702903 tw8289819388620318161 tw15083629663617919089 tw18422299887802289156 tw11444769125827747871 tw13310800174241140689 tw6566914933687121697 tw17676590673314992269 tw674222429082899603 tw1524839108896934794 tw12847101143715362411 tw7490304597006020732 tw4606342127051986926 tw4876341717065647501 tw14736895167856644955 tw1541326289395833760 tw11091733608958644352 tw7307597727611335807 tw18133621971594384884 tw6808892607334267761 tw16533791165580648270 tw3939616023213104946 tw16463097019439748313 tw12714646746986533016 tw6900816388127486773 tw18035058450323935267 tw9977826708973669525 tw179865024234135274 tw6575858217632552376 tw17974642541152049382 tw1573034664605021784 tw4344017313112760990 tw17204840583756575336 tw811386605784373728 tw12629639339285678820 tw3560275893433005277 tw6615309608456263051 tw3594587807090504494 tw17278946237164997425 tw8107843429557463173 tw8604900638046613305 tw16164578315717125760 tw1759898455059101370 tw16531087917592900038 tw4363482080350630073 tw4316417960063275549 tw10156097094858605035 tw17549733275842739112 tw5015578749560977936 tw860205990841827517 tw3090647149762820793 tw8994256289965236760 tw9970461892598625972 tw1861800265175116430 tw10640489409858391934 tw7495192204171171521 tw10105236837493057153 tw3910807115279010158 tw2586945008010672370 tw5785977950983942307 tw10954666221904033136 tw17321896812336118866 tw17041938549683772521 tw14738367024386751802 tw6753312226462913748 tw10460129966597765841 tw10548348233922186695 tw7209233861211083595 tw4027251446587201130 tw3739291850624158114 tw11529950700444570097 tw10339685286045949608 tw18087572956652931636 tw7978196080801420292 tw16126347986991427543 tw6982983969021690429 tw12372941043905088879 tw1232225854367192825 tw10765265656383431010 tw7309693113495413960 tw3651038448958118956 tw17391726516881783508 tw384332662677696867 tw5844847506313882509 tw4849750892919860600 tw11998192268914508181 tw651668873068335446 tw12434300794357651981 tw5887112823438375160 tw16355297470932398418 tw12665807130966329534 tw12383340789326554554 tw4398637381219843439 tw4920306519952543234 tw4810336604256264053 tw10244708254042384565 tw4274783960385871857 tw17219225674352331389 tw15038348204785140698 tw2742733810543488247 tw9040721091388840553 tw10518112278971087719 tw13375089800384668536 tw13800113685844928170 tw602756658511544469 tw1613798059400079809 tw9723838948072770116 tw11207521141895963403 tw16769729279484887524 tw11945623857007718657 tw8204432804743613815 tw14600891375164633733 tw17342152638158030390 tw12492874621777796460 tw3229365399947575144 tw5864707833137730804 tw601399552747609543 tw4320179614138189937 tw6707086029166855109 tw9554528638754069203 tw10985422178722156619 tw9130954746594333823 tw4357314123826796451 tw1334544379440807435 tw9777054929977170318 tw603598323385932999 tw7466730261876680008 tw14225988703502871568 tw7352342855524268749 tw14063436792997585448 tw6948365655268995572 tw14568343615484948327 tw329826804233410785 tw434552232568605846 tw14246509803977474726 tw17695419721162984034 tw1579976219379929094 tw5010917927205310962 tw17183281546745590875 tw18184524738356385241 tw14652886937296917694 tw2951958719421337115 tw12890486183173047287 tw675169204111216856 tw5881218714930596072 tw10643174267221815692 tw5136397363120787513 tw12123881747182934856 tw16805250096213273160 tw18226872697951106724 tw12098258595022216183 tw13905820719186419150 tw17388038757019742865 tw18135571946443468040 tw5201800836983669279 tw13015963275348771930 tw16942714568346887862 tw7309204210929868175 tw15269147057540465641 tw257669249221184233 tw4589732407941676547 tw17741182304001566196 tw6229963917713362499 tw617529427857390686 tw5007119140088047551 tw8402444275416593798 tw11158882363417271900 tw16733612942980636376 tw14101555382803824999 tw3840138376923691182 tw15408157218546183714 tw3133724169206704800 tw2947368917134784193 tw16581671361996705545 tw13233800595591964157 tw6683192451222369871 tw10764348225859074326 tw9689914596753502748 tw11062459861502257767 tw193404665685472333 tw2287763451937092427 tw11913790860931807055 tw16862865156802405050 tw6671975385961574799 tw6862258765159826405 tw15846451977609247390 tw11211427775517314512 tw5498707339844693322 tw615184518898389525 tw7067307110042947774 tw15012785079719787173 tw17473708790338085582 tw11518156728520054429 tw1022884886239412303 tw14329260898085200527 tw5114613893136875074 tw4948396191869021752 tw12196776501278638948 tw17600729485297789593 tw8932682736589885649 tw14180636617377136039 tw17617946462348425516 tw17385643704618842551 tw9817126831479264957 tw1847046062177987031 tw9630777716226122906 tw12839488878479562692 tw11879366959188054608 tw9909532815993461147 tw6083754094061749418 tw18409819320859969990 tw9911621780763650420 tw8801980781604390278 tw8441840514769246971 tw11791587392975984516 tw12686762538250121414 tw11249676837162631869 tw9202912632350015168 tw11345159578194504474 tw165780405844006209 tw3611290650627196774 tw7474616823465495713 tw15002028524692819438 tw6525504366704885364 tw9296392054967631233 tw1251909404716795748 tw12399160770167851445 tw15046602129027058995 tw14427812100643684336 tw16669418062312048081 tw16259858239997808422 tw8397653095878481523 tw17100067898253647305 tw11945722947408155875 tw5302815979205663632 tw17283422275779255083 tw2836604970036478581 tw2666565618283588683 tw14696634239257953476 tw7417983285972771388 tw17579116148524935344 tw256363946588998802 tw15252662933830857945 tw12275869390821336215 tw9405360321656017018 tw3651542972883732275 tw5720075850493183109 tw5275357360492933483 tw14646490256212757448 tw2909467828538503709 tw17727993747584985558 tw12641222656150843338 tw16687170823580519249 tw9690368944999639863 tw50029340181401048 tw7238050884056989106 tw6641694326543828716 tw15387941537393776988 tw8817020707460143936 tw15572579927760331640 tw12356632597220480617 tw6082843494001407872 tw3636637285865820060 tw4005016668316011174 tw4980140477791285240 tw8685411299769440557 tw17510821358483411478 tw15411011488918633835 tw7467224570784339670 tw14771918798254287782 tw9711090191522282975 tw9666688642060510109 tw6686391857330339251 tw941671855369478269 tw9099903252760790614 tw10254304259367379741 tw6236129258736188784 tw17047385134519659459 tw9665681550725556996 tw16347681148117220632 tw2143232616242183100 tw10650569713740474948 tw17897705232651361751 tw17623304169097569879 tw15876393493285767150 tw4319448214012889437 tw2122310840534719978 tw2752794195104018400 tw2395503160067720043 tw13028560010201393647 tw13656146123963531748 tw11039736371972603934 tw15898878436613803558 tw4482540382011171823 tw5623206531457209577 tw13514102019689774556 tw9847327933448186830 tw1887125647366143306 tw1183178744245352730 tw13242121375164270528 tw11189869412735168756 tw16875686150796931973 tw5734359668224114354 tw2941461111664591418 tw12663081187485125160 tw5330714957974619752 tw13981960283321531647 tw5623098655552124407 tw9016917999714044817 tw1480425157806491260 tw4398874091762404774 tw16808286481558447322 tw3520343415430525717 tw7410984837049294072 tw10763314413006228638 tw18277722480455839701 tw3099247420644422024 tw5014199024501935202 tw3743019326155454977 tw6915927070744096050 tw17226280870747187211 tw17167451782978106849 tw2646428281118207173 tw14840030542118460989 tw15677985715234373848 tw9500317158148842104 tw10601840017066125107 tw9620582823601429641 tw5718033164686778692 tw8565530861522239662 tw10513514311588252743 tw13206998814620069115 tw1845409465012535993 tw15165076082171191869 tw4452201913760444303 tw1933194692587171516 tw14141506422481563169 tw5273733705683139054 tw6572048156864724615 tw16754902183794454389 tw3571890438235588525 tw846593141764434165 tw5204698363232389138 tw16454377090350804023 tw5924684585574058450 tw18201017479647973547 tw5668420911076557500 tw5116031882747546934 tw12367503559876507067 tw8325413875257817320 tw5116648455879995410 tw15264781682273122769 tw1417501860345817162 tw8618485372659193027 tw6971317492431434301 tw16065286293955730688 tw14046382653050438071 tw15257649022037404025 tw2692844382350897793 tw188944281614031759 tw11131740480506439826 tw13967911940965640145 tw11283174171033287653 tw1347679189537161547 tw549707655875553388 tw11625264565189230034 tw9349314834607116271 tw60014652101986531 tw14199450729754422664 tw13392344443818469460 tw14908045392725436805 tw16694848117908842184 tw8792651942848184787 tw7826590230642601755 tw12447832939917171120 tw6937286661839348764 tw8205848492461797241 tw9078895548607532391 tw11735913758473272539 tw3441131398915176814 tw10762060366981103349 tw16922549085803827489 tw6627363633410612078 tw5041322996044084546 tw15965083716011587307 tw5200704070289626051 tw13429905240948264181 tw1251577685417457279 tw787476609599819593 tw17612637435788934482 tw5674221369951244975 tw15864765043914646025 tw2895675569655514688 tw14049162582436998912 tw4899052626759353288 tw5000682185116110975 tw13377867342571404784 tw15107651011089114081 tw5030396935413775903 tw16919380706358083454 tw5648384503049524537 tw18133538270764069463 tw15833423824848379348 tw9415836311955865175 tw3644032917414335885 tw7947804391910632914 tw6823487909494094825 tw6418813795088310039 tw13362482023671170344 tw4647102168087453072 tw12552676527119754403 tw93742101771438777 tw7015918163382766492 tw1504192741481834266 tw3301009204649819815 tw11865996606439924567 tw16717470379858401261 tw634803606547396773 tw4033369598128230849 tw12519471571836777453 tw16062826366057438508 tw2324081548513453675 tw10305404526197589826 tw15233645831720040090 tw6984609075209336286 tw13994729600840104908 tw15335618195988005406 tw13016865777934190502 tw17459098301293444731 tw5902893932860466763 tw4693986385685369526 tw16136201659653749897 tw15265787863643430886 tw6590155347128220063 tw8180373909109309469 tw10880899876836042886 tw10878544740547627830 tw3669214426751363411 tw2080524092060109506 tw888214838714579595 tw6093083976624700729 tw14756892736227610339 tw16953420250426500920 tw2379664602477620323 tw6325482737185624070 tw5521532170507693114 tw3790088508446291220 tw6088770789009716255 tw17583347393492426200 tw3300116612551932072 tw3503083953246246275 tw11908002016357418649 tw1885807003715487560 tw5620455274410336442 tw9173809133133510354 tw15122137738089525244 tw12696033881254580438 tw15474217670902692621 tw6268251846470024602 tw12593114830980969926 tw11494842679565714613 tw10167707306091329587 tw12903747992294696348 tw11274674580486234092 tw11747723459334589544 tw9102024417649131985 tw18389463847894189416 tw2206130306664473389 tw2852337560003754176 tw9671160410309481391 tw5935037258411051965 tw16720833117066435696 tw5417868519160064598 tw9102460647648740573 tw16914940288391349138 tw11842299918621861085 tw11405139530924033566 tw5826544765950011891 tw16748206178752842169 tw6738401526119099371 tw12631100614614629907 tw12911247304996106438 tw8398012772430944103 tw9533044466488710464 tw1249615406814154808 tw9643884768022335113 tw5069960034893983710 tw13839875854202870702 tw4809436482472320248 tw1020616966140581005 tw8678077947809818996 tw17563489918618954341 tw2082007559727975531 tw14337823666828542791 tw15549328154714280482 tw17941588447575170562 tw12873955308258312740 tw10302727629206529999 tw14433691681608312059 tw6085276848481710 tw6864273143555877121 tw13903247950314899184 tw15365928038127959802 tw12615386665491672190 tw11791989944568139611 tw4317159755338794286 tw4394250182651398103 tw11481741666256262651 tw11173797040918664284 tw2106653097981067286 tw1737495529585034109 tw13550275208155300316 tw692285973675056357 tw3140667487408913980 tw5696872729245188017 tw14166736769075446864 tw2116750644178864841 tw1501307786341834783 tw11487548623907567384 tw14039629511076998880 tw2737153817059105944 tw2358985361938392186 tw16399870913836917935 tw9072108654791260840 tw11566824366543274867 tw7113441664196997869 tw5747825458411159969 tw16352056387325190373 tw7901715851889917856 tw17121789125875385901 tw6872213582420887967 tw8676496180023719261 tw2475135646103695215 tw12174394544607937677 tw648503429130234329 tw11214422954829485542 tw7332599166028163 tw8259357980810321786 tw4242600632971311462 tw2197393828527059383 tw1740561713495355663 tw14413939655280460699 tw17373768814821661584 tw15938071632459104141 tw16117699151787836412 tw17995863177336255539 tw14722275483995945180 tw7407120544362431570 tw5484589584725589180 tw6524109297279367695 tw15851119681080245872 tw4238912460017683791 tw1159789003420868267 tw1041721114331200281 tw682743989436423335 tw14819830736752427137 tw11480703123205712466 tw5881870176271518956 tw14573885806139544831 tw10381560783717708688 tw16614753123375768797 tw2330720170557122616 tw3934838760643903109 tw10984932260615248300 tw12491631761635358509 tw16053703910838563956 tw7887636229372013660 tw18162662080665154185 tw12676034955545817997 tw14584305994560976747 tw8722362065506709916 tw8685320516503767620 tw7699221708970245278 tw158871388348891814 tw15451287231806222262 tw8971412842888773709 tw13103752848927736746 tw16871654178903151640 tw1985706751817773391 tw912969405702965718 tw8974226482054623382 tw16893045337438009229 tw4775871008707033071 tw8637906004840255399 tw9462828728046214214 tw13859804378650002977 tw1595538571326401481 tw7761508764416307865 tw14631297749966384303 tw11306694014781332143 tw3284627982062540795 tw8342230538626156218 tw1462992556077479054 tw5865575346949099104 tw12275411117624341398:True)
namespace Lm
open PySem PySem.W PyProof.Rows
open_top zzH for PySem.Challenge.rw_lanemachine_s01_answers
end Lm
set_option maxHeartbeats 4000000
open Bool renaming and_eq_true->eS,eq_iff_iff->BL,false_eq_true->Jb,false_ne_true->cW,noConfusion->kG,or_eq_false_iff->P4,or_eq_true->pM,or_false->sU
open Char renaming toNat->Jd
open Except renaming bind->i5,error->Pw,ok->uT
open Except.error renaming inj->P6
open Except.ok renaming inj->bG
open False renaming elim->gw
open ForInStep renaming yield->Ja
open Function renaming comp->Jj
open Int renaming fmod_def->Jl,toNat_natCast->gW,toNat_of_nonneg->Ju,zero_add->vh
open List renaming all_cons->k_,all_eq_true->kH,any_cons->qN,any_nil->B_,append_assoc->lh,append_nil->dA,cons_append->B0,contains_cons->P5,dropWhile_cons->P2,drop_drop->Jr,drop_eq_getElem_cons->qP,drop_left'->Qg,drop_length->BZ,filterMap_cons->IJ,filter_congr->P_,filter_cons->Jk,find?_cons->Jc,flatMap_cons->P7,flatten_cons->u5,foldl_append->Qm,foldl_cons->u6,getElem?_append_left->PX,getElem?_append_right->PV,getElem?_eq_getElem->eK,getElem?_eq_none->pJ,getElem?_eq_some_iff->dz,getElem?_map->dI,getElem?_of_mem->lA,getElem?_range->qR,getElem?_replicate->BU,getElem?_set_ne->uW,getElem?_set_self->uV,getElem?_take_of_lt->af4,getElem_mem->x_,length->jX,length_append->bS,length_cons->cI,length_drop->kF,length_eq_zero_iff->Qa,length_filter_le->B9,length_map->bq,length_nil->eN,length_range->iy,length_replicate->qL,length_set->gV,length_take->jY,lookup->oA,lookup_cons->u7,map_append->iw,map_congr_left->pL,map_cons->i4,map_id->Jp,map_map->iO,map_nil->IX,map_replicate->Qn,map_set->vd,mem_append->gO,mem_append_left->IK,mem_append_right->mY,mem_cons->cC,mem_cons_of_mem->fG,mem_cons_self->iL,mem_filter->BH,mem_map->mZ,mem_of_getElem?->d7,mem_range->qG,mem_replicate->ya,mem_singleton->oC,nil_append->sV,nodup_append->vc,nodup_cons->fI,of_mem_zip->IU,range->cB,replicate->cZ,replicate_succ->xW,set_eq_of_length_le->af6,size_toArray->fO,sum_cons->vb,take_append_drop->P',take_left'->Qe,take_length->oG,take_of_length_le->IY,take_succ_cons->x5
open List.cons renaming inj->oE
open Nat renaming le_of_eq->BO,le_of_lt->xR,le_of_succ_le->I_,le_refl->bz,le_succ->BS,le_trans->dy,lt_irrefl->iK,lt_of_le_of_lt->BY,lt_of_lt_of_le->eC,lt_or_ge->B1,lt_succ_of_lt->P0,lt_succ_self->BP,min_eq_left->Jv,min_le_right->PY,ne_of_gt->IM,ne_of_lt->iu,not_lt_zero->Jh,pow_succ->Ji,toDigits->xZ,zero_le->eX
open Option renaming getD_some->P9,isSome_iff_exists->xV,map_some->P8
open Option.some renaming inj->aZ
open PyFlat renaming call->Jn,calls->sZ,played->Qb,told->B3
open PyProof.Rows renaming AllBare->sN,callWith_type1->Pz,RelV->b7,ite_bool->j7,join_one->gQ
open PySem renaming Addr->ae,Around->cQ,DictEntry->ye,Expr->bj,FuncData->dP,Heap->aR,NameKind->jw,Program->bQ,Within->xQ,mem_of_lookup->jZ,Scope->d6,Shared->aq,Stmt->cD,Value->ai,World->bB,attributeBase->oB,backTo->f_,backToKw->sR,behindInMarks->sO,binaryOp->oz,bindArgs->qJ,bootBuiltins->mX,boot_len->gj,builtinsNs->BI,cameBackBy->yg,cellsFrom->gP,codeAny->pH,codeAny_mono->xT,compEnvC->lj,compareOp->kE,excClassObj->ng,foldedSetIterable->BK,keywordEach->sS,letOwnedTupleGo->IP,mainGlobals->mU,noteFrame->u9,notedBy->pK,plainObj_wpAny_Assign_Attribute->PL,pushCells->sW,pushCells_keeps->IZ,rawInt->gG,setFlight->yd,sizeLine_eq->aP,sliceBounds->u1,starEach->cG,swapsWith->qI,typeIs_str->BV,typeLookup->qM,wpAny->aU,wpAny_Call_Name_kw->qK,wpAny_bind->cg,wpAny_call->BR,wpAny_execs_nil->sP,wpAny_field->s_,wpAny_holding->IL,wpAny_isSubtype_exc->Qh,wpAny_loadPart_at->pN,wpAny_mono->fN,wpAny_passesOwn->uX,wpAny_pure->gc,wpAny_setField->Js,wpAny_standAt->BJ,wpAny_truthy_bool->qH,wpAny_typeLookup_exc->yb
open PySem.Around renaming under->PN
open PySem.Builtin.List renaming listTooLong->IW
open PySem.Builtin.Range renaming rangeSize->af3
open PySem.Builtin.Str renaming strSliceIndices->qO
open PySem.Calls renaming Name_function_global->af2,callWith_builtin->IV,evalArgs_plain->PZ,spliced_cons->PR,spliced_nil->PQ
open PySem.Challenge renaming rw_lanemachine_s01_answers->agd
open PySem.EntryCells renaming newEntry->aga
open PySem.F renaming plainAttrs_list->i6,slot_dict_get->agc,slot_list_append->lB,slot_list_extend->Cb,store_Exception->agb,type_list_append->lC,type_list_extend->Cc
open PySem.Heap renaming SameBut->xS,get?_none_of_le->Py,get?_push_of_some->eR,get?_push_size->iM,get?_update_other->uZ,get?_update_self->BX,lt_size->cY,size_push->kZ
open PySem.Heap.Ns1 renaming of_empty->PK
open PySem.NameKind renaming cell->P1,free->xX
open PySem.NumText renaming digitsVal->af9
open PySem.Obj renaming data_mapFields->B5,isFreed_of_fields->Qi,mapFields->yc,mapSeq->BW
open PySem.PassesOwn renaming never->j6
open PySem.SeqAt.EqAt renaming int_str->af0,str_int->af1
open PySem.Str renaming empty->sQ,ofString->bU
open PySem.StrLaws renaming sliceText->x4
open PySem.Txt renaming isdigit->Je,join->xY
open PySem.Unicode renaming isDigit->Jw
open PySem.Value renaming bool->xP,builtin->B4,none->i0,ref->di,type->uU
open PySem.Value.ref renaming inj->u4
open PySem.W renaming CodeHd->B6,Frag->aI,callWith_K->xU,cellsFrom_some->PU,codeIn->sT,emptyDict->jW,findIn->jv,fnOf->j0,hasDictIn->IT,instObj->sM,isFn->uY,keepIn->iN,kla_fn->Qk,kla_obj->Qj,length_le_weightAllW->af5,lookIn->IS,makesIn->PH,methodCall_KW->PM,methodObj->Px,mg_of->kK,nsIn->ly,ns_none_of->vg,plainGet->BN,plainGet_of->PB,plainOver->PD,tabObj->yf,tab_of->Qp,takerIn->PF,WellAll->sX
open PySem.W.Codec renaming denoteAll->Jf,encAll->u_
open PySem.W.WData renaming weightAll->Jg
open PyVaarrj renaming answers->Jq,answers_asked->Qc,shape->m_,whole->Jm
open Sum renaming inl->sL,inr->kC
open Vaarrj renaming Block->c6,Instr->cw,Machine->a_,ReadBlock->gH,Text->aJ,Toks->aL,ABSENT->tu,Answer->Cd,BIG->oF,Code->Ca,DOMAIN->nj,GREAT->qT,LIMIT->Qo,NONE->Jy,Run->yi,ZERO->vi,also->j3,arrayNumber->yo,below->nk,codeText->yn,fresh->tq,good->B7,isTruth->jx,load->tD,mapCall->yp,mapText->pO,no->i7,onCode->eU,opAt->ym,opName->fQ,ops1->tj,ops2->eZ,readCode->Jz,reg->qQ,runCode->JA,setMask->Jt,setVec->B8,sign->Jx,signedText->oH,small->yh,str->aC,told->j8,truth->Ql,arrayOf->dM,digitsFrom->x9,doAll->eY,doOne->cx,elementOf->yj,firstFault->yk,instrText->gf,laneNumber->sY,laneOf->bN,maskText->kI,onIn->fv,plainInstr->c8,scalarOf->dJ,tokensIn->jf,vecOf->c9,writeLanes->B2
open Vaarrj.Block renaming cons->x8,size->lq
open Vaarrj.Instr renaming for_->x6,size->eE,when->j5
open VaarrjNeutral renaming asked1->af8,encode->kJ,natural->af7,step->qS,text->Jo,whole60->ve
theorem ns{α:Type _}{x:α}{P:Prop}(h:none=some x):P:=nomatch h
theorem sn{α:Type _}{x:α}{P:Prop}(h:some x=none):P:=nomatch h
theorem eo{α β:Type _}{x:α}{y:β}{P:Prop}(h:Pw x=uT y):P:=nomatch h
theorem oe{α β:Type _}{x:α}{y:β}{P:Prop}(h:uT y=Pw x):P:=nomatch h
theorem ft{P:Prop}(h:false=true):P:=nomatch h
theorem tf{P:Prop}(h:true=false):P:=nomatch h
namespace L2
open PySem PySem.Spec PyProof.Rows
abbrev Key:=Sum Int Str
def qU:Key->ai->Bool
 | .inl k,v=>ai.isInt k v
 | .inr x,v=>ai.isStrOf x v
def JB(w:bB):Key->Int
 | .inl k=>hashInt k
 | .inr x=>hashStr w x
def nq:∀{k:Key} {v:ai},qU k v=true->(∃i t,k=sL i/\v=ai.int i t)\/(∃x t,k=kC x/\v=ai.str x t)
 | .inl i,v,h=>by
   obtain⟨t,e⟩:=ai.isInt_shape (k:=i) (v:=v) h;exact .inl ⟨i,t,rfl,e⟩
 | .inr x,v,h=>by
   obtain⟨t,e⟩:=ai.isStrOf_shape (x:=x) (v:=v) h;exact .inr ⟨x,t,rfl,e⟩
def Qq(i:Int)(t:Tok):qU (.inl i) (.int i t)=true:=by simp[qU,ai.isInt]
def Qr(x:Str)(t:Tok):qU (.inr x) (.str x t)=true:=by simp[qU,ai.isStrOf]
def Qs(a b:Int):decide ((sL a:Key)=sL b)=(a==b):=by
 by_cases e:a=b
 ·subst e;simp
 ·have h: ¬(sL a:Key)=sL b:=λq=>e (sL.inj q);rw[decide_eq_false h];exact(beq_eq_false_iff_ne.mpr e).symm
def Qt(a b:Str):decide ((kC a:Key)=kC b)=decide (a=b):=by
 by_cases e:a=b
 ·subst e;simp
 ·have h: ¬(kC a:Key)=kC b:=λq=>e (kC.inj q);rw[decide_eq_false h,decide_eq_false e]
def Qu(a:Int)(b:Str):decide ((sL a:Key)=kC b)=false:=decide_eq_false (λq=>nomatch q)
def Qv(a:Str)(b:Int):decide ((kC a:Key)=sL b)=false:=decide_eq_false (λq=>nomatch q)
def i8(prog:bQ)(w:bB):PySem.KeyKind prog w Key where
 is:=qU
 hash:=JB w
 inj:=λv a b ha hb=>by
  rcases nq ha with⟨i,t,rfl,rfl⟩|⟨x,t,rfl,rfl⟩
  ·rcases nq hb with⟨j,u,rfl,e⟩|⟨y,u,rfl,e⟩
   ·injection e with e1 _;rw[e1]
   ·exact nomatch e
  ·rcases nq hb with⟨j,u,rfl,e⟩|⟨y,u,rfl,e⟩
   ·exact nomatch e
   ·injection e with e1 _;rw[e1]
 byValue:=λk v h=>by
  rcases nq h with⟨i,t,rfl,rfl⟩|⟨x,t,rfl,rfl⟩<;>rfl
 pyHash:=λhv h=>by
  rcases nq hv with⟨i,t,rfl,rfl⟩|⟨x,t,rfl,rfl⟩
  ·exact wpAny_pyHash_int h
  ·exact wpAny_pyHash_str h
 eqBool:=λhu hv h=>by
  rcases nq hu with⟨i,t,rfl,rfl⟩|⟨x,t,rfl,rfl⟩
  ·rcases nq hv with⟨j,u,rfl,rfl⟩|⟨y,u,rfl,rfl⟩
   ·rw[Qs] at h;exact wpAny_eqBool_int h
   ·rw[Qu] at h;exact af0 i t y u _ _ _ _ h
  ·rcases nq hv with⟨j,u,rfl,rfl⟩|⟨y,u,rfl,rfl⟩
   ·rw[Qv] at h;exact af1 x t j u _ _ _ _ h
   ·rw[Qt] at h;exact wpAny_eqBool_str h
 «strs»:=λk x t v h=>by
  rcases nq h with⟨i,u,rfl,e⟩|⟨y,u,rfl,e⟩
  ·exact nomatch e
  ·injection e with e1 _
   subst e1;cases v<;>rfl
def Qw(prog:bQ)(w:bB)(i:Int)(t:Tok):(i8 prog w).is (.inl i) (.int i t)=true:=Qq i t
def Qx(prog:bQ)(w:bB)(x:Str)(t:Tok):(i8 prog w).is (.inr x) (.str x t)=true:=Qr x t
inductive V where
 |aM|bl (b:Bool)|int (i:Int)|str (x:Str)|iP (b:Array UInt8)|vj (b:UInt64)|ref (a:ae)|ty (n:String)
 deriving DecidableEq
def b7:V->ai->Prop
 | .aM,u=>u=i0
 | .bl b,u=>u=xP b
 | .int i,u=>∃t,u=ai.int i t
 | .str x,u=>∃t,u=ai.str x t
 | .iP b,u=>∃t,u=ai.bytes b t
 | .vj b,u=>∃t,u=ai.float b t
 | .ref a,u=>u=di a
 | .ty n,u=>u=uU n
abbrev Vals:List V->List ai->Prop:=Paired b7
theorem Vals.length{xs:List V}{us:List ai}(r:Vals xs us):xs.length=us.length:=Paired.length r
theorem Vals.get:∀{xs:List V} {us:List ai} {i:Nat} {x:V},Vals xs us->xs[i]? =some x->∃u,us[i]? =some u/\b7 x u
 |_,_,_,_,.nil,e=>by simp at e
 |_,_,0,_,.cons r _,e=>by simp at e;subst e;exact⟨_,rfl,r⟩
 |_,_,i+1,x,.cons _ t,e=>by
  obtain⟨u,h1,h2⟩:=Vals.get (i:=i) (x:=x) t (by simpa using e)
  exact⟨u,by simpa using h1,h2⟩
theorem Vals.set{x:V}{u:ai}(r:b7 x u):∀{xs:List V} {us:List ai} (i:Nat),Vals xs us->Vals (xs.set i x) (us.set i u)
 |_,_,_,.nil=>.nil
 |_,_,0,.cons _ t=>.cons r t
 |_,_,i+1,.cons q t=>.cons q (Vals.set r i t)
theorem Vals.append:∀{xs ys:List V} {us ws:List ai},Vals xs us->Vals ys ws->Vals (xs++ys) (us++ws)
 |_,_,_,_,.nil,s=>s
 |_,_,_,_,.cons r t,s=>.cons r (Vals.append t s)
theorem Vals.take:∀{xs:List V} {us:List ai} (n:Nat),Vals xs us->Vals (xs.take n) (us.take n)
 |_,_,0,_=>.nil
 |_,_,_+1,.nil=>.nil
 |_,_,n+1,.cons r t=>.cons r (Vals.take n t)
theorem Vals.drop:∀{xs:List V} {us:List ai} (n:Nat),Vals xs us->Vals (xs.drop n) (us.drop n)
 |_,_,0,r=>r
 |_,_,_+1,.nil=>.nil
 |_,_,n+1,.cons _ t=>Vals.drop n t
def gx:Option V->Option ai->Prop
 |some v,some u=>b7 v u
 |none,none=>True
 |_,_=>False
def KV{κ:Type}:List (κ×V)->List (κ×ai)->Prop:=Paired λ(p:κ×V) (q:κ×ai)=>p.1=q.1/\b7 p.2 q.2
def kV:Key->V
 | .inl i=>.int i
 | .inr x=>.str x
inductive HO where
 |lst (xs:List V)
 |tup (xs:List V)
 |dK (kvs:List (Key×V))|dT (kvs:List (List Key×V))
 |set (S:Int->Bool) (n:Nat)
 |ins (C dx:ae) (fs:List (Str×V))
 |own (x:ae)
 |xd (fs:List (Str×V))
 |met (f x:ae)
 |kL (lo hi:Int)
 |gX (o:Obj) (u:HO)
 |dN (ps:Array ai)
 |ext (φ:aR->Prop)
abbrev Hp:=ae->Option HO
def upd(H:Hp)(a:ae)(o:HO):Hp:=λb=>if b=a then some o else H b
def aA{H:Hp}{a:ae}{o:HO}:upd H a o a=some o:=by unfold upd;rw[if_pos rfl]
def ak{H:Hp}{a b:ae}{o:HO}(h:b≠a):upd H a o b=H b:=by unfold upd;rw[if_neg h]
def cE{H:Hp}{a b:ae}{o u:HO}(h:H a=some o)(h':H b=some u)(d:o≠u):a≠b:=by
 intro e;subst e;rw[h] at h';exact d (aZ h')
def bw{H:Hp}{a b:ae}{o:HO}(h:H a=some o)(h':H b=none):a≠b:=by
 intro e;subst e;rw[h] at h';exact sn h'
section
variable(P:bQ)(w:bB)
def df(H:Hp)(h:aR)(a:ae):HO->Prop
 | .lst xs=>xs.length<=sizeLine/\ ∃(aE:List ai) (n:Nat),Vals xs aE/\h.get? a=some {cls:=.type "list",data:=.seq aE.toArray n}
 | .tup xs=>xs.length<=sizeLine/\ ∃aE:List ai,Vals xs aE/\IsTup h a aE.toArray
 | .dK kvs=>kvs.length<=sizeLine/\ (a==sysModules)=false/\ ∃vs,KV kvs vs/\h.DictOf (i8 P w) a vs
 | .dT kvs=>kvs.length<=sizeLine/\ (a==sysModules)=false/\ ∃xs:List (List Key×ae×ai),
    Paired (λ(p:List Key×V) (q:List Key×ae×ai)=>p.1=q.1/\H q.2.1=some (.tup (p.1.map kV))/\b7 p.2 q.2.2) kvs xs/\
    ∃o es ep,h.get? a=some o/\o.ExactDict/\o.data=.dict es ep/\es.toList=xs.map (entryOfKey (tupleKind (i8 P w)))/\ (xs.map (·.1)).Nodup
 | .set S n=>h.SetOf (intKind P w) a S n
 | .ins C dx fs=>H dx=some (.own a)/\fs.length<=1000/\dx≠a/\h.get? a=some (sM C dx)/\
    ∃mA,h.Ns1 dx mA/\ (∀f,gx (fs.lookup f) (mA f))/\xQ mA (fs.map (·.1))
 | .own _=>∃o,h.get? a=some o
 | .xd fs=>∃mA,h.Ns1 a mA/\ ∀f,gx (fs.lookup f) (mA f)
 | .kL lo hi=>∃t u v,h.get? a=some {cls:=.type "range",data:=.fields #[.int lo t,.int hi u,.int 1 v]}
 | .gX o u=>h.get? a=some o/\df H h a u
 | .dN ps=>h.get? a=some {cls:=.none,data:=.fields ps}
 | .met f x=>h.get? a=some (Px (.ref f) (.ref x))
 | .ext φ=>φ h/\ (∃o,h.get? a=some o)/\ ∀h1 h2:aR,φ h1->(∀o,h1.get? a=some o->h2.get? a=some o)->φ h2
def c_(H:Hp)(h:aR):Prop:=∀a o,H a=some o->df P w H h a o
end
section
variable{P:bQ}{w:bB}{H H':Hp}{h h':aR}{a:ae}{o:HO}
theorem df.lt(x:df P w H h a o):a<h.objs.size:=by
 cases o with
 |lst xs=>obtain⟨_,_,_,_,e⟩:=x;exact cY e
 |tup xs=>obtain⟨_,_,_,p⟩:=x;exact p.lt
 |dK kvs=>obtain⟨_,_,_,_,o,_,_,e,_⟩:=x;exact cY e
 |dT kvs=>obtain⟨_,_,_,_,o,_,_,e,_⟩:=x;exact cY e
 |set S n=>obtain⟨o,_,_,_,e,_⟩:=x;exact cY e
 |ins C dx fs=>obtain⟨_,_,_,e,_⟩:=x;exact cY e
 |own y=>obtain⟨_,e⟩:=x;exact cY e
 |xd fs=>obtain⟨_,⟨_,_,_,e,_⟩,_⟩:=x;exact cY e
 |kL lo hi=>obtain⟨_,_,_,e⟩:=x;exact cY e
 |gX ob u=>obtain⟨e,_⟩:=x;exact cY e
 |dN ps=>exact cY (show h.get? a=some _ from x)
 |met f y=>exact cY (show h.get? a=some _ from x)
 |ext φ=>obtain⟨_,⟨_,e⟩,_⟩:=x;exact cY e
theorem Paired.JC{α β:Type}{F G:α->β->Prop}:∀{l₁:List α} {l₂:List β},Paired F l₁ l₂->(∀a b,F a b->G a b)->Paired G l₁ l₂
 |_,_,.nil,_=>.nil
 |_,_,.cons r t,f=>.cons (f _ _ r) (Paired.JC t f)
def df.ny(x:df P w H h a o)(k:∀b u,(b=a\/H b=some (.own a))->h.get? b=some u->h'.get? b=some u)
 (ho:∀b,H b=some (.own a)->H' b=some (.own a)) (ht:∀b xs,H b=some (.tup xs)->H' b=some (.tup xs)):df P w H' h' a o:=by
 induction o with
 |lst xs=>obtain⟨z,aE,n,r,e⟩:=x;exact⟨z,aE,n,r,k _ _ (.inl rfl) e⟩
 |tup xs=>obtain⟨z,aE,r,ob,e,c⟩:=x;exact⟨z,aE,r,ob,k _ _ (.inl rfl) e,c⟩
 |dK kvs=>obtain⟨z,y,vs,r,ob,es,ep,e,c⟩:=x;exact⟨z,y,vs,r,ob,es,ep,k _ _ (.inl rfl) e,c⟩
 |dT kvs=>
  obtain⟨z,y,xs,r,ob,es,ep,e,c⟩:=x;exact⟨z,y,xs,Paired.JC r λp q z=>⟨z.1,ht _ _ z.2.1,z.2.2⟩,ob,es,ep,k _ _ (.inl rfl) e,c⟩
 |set S n=>obtain⟨ob,es,ep,t,e,c⟩:=x;exact⟨ob,es,ep,t,k _ _ (.inl rfl) e,c⟩
 |ins C dx fs=>
  obtain⟨d,z,ne,e,mA,⟨od,es,ep,e2,c⟩,r⟩:=x;exact⟨ho _ d,z,ne,k _ _ (.inl rfl) e,mA,⟨od,es,ep,k _ _ (.inr d) e2,c⟩,r⟩
 |own y=>obtain⟨ob,e⟩:=x;exact⟨ob,k _ _ (.inl rfl) e⟩
 |xd fs=>obtain⟨mA,⟨od,es,ep,e,c⟩,r⟩:=x;exact⟨mA,⟨od,es,ep,k _ _ (.inl rfl) e,c⟩,r⟩
 |kL lo hi=>obtain⟨t,u,v,e⟩:=x;exact⟨t,u,v,k _ _ (.inl rfl) e⟩
 |gX ob u ih=>obtain⟨e,q⟩:=x;exact⟨k _ _ (.inl rfl) e,ih q⟩
 |dN ps=>
  have e:h.get? a=some {cls:=.none,data:=.fields ps}:=x;show h'.get? a=some {cls:=.none,data:=.fields ps};exact k a _ (.inl rfl) e
 |met f y=>
  have e:h.get? a=some (Px (.ref f) (.ref y)):=x;show h'.get? a=some (Px (.ref f) (.ref y));exact k a _ (.inl rfl) e
 |ext φ=>obtain⟨p,⟨o,e⟩,st⟩:=x;exact⟨st _ _ p λo q=>k _ _ (.inl rfl) q,⟨o,k _ _ (.inl rfl) e⟩,st⟩
theorem c_.lt(x:c_ P w H h)(e:H a=some o):a<h.objs.size:=(x a o e).lt
def c_.fresh(x:c_ P w H h)(e:h.objs.size<=a):H a=none:=by
 cases q:H a with
 |none=>rfl
 |some u=>exact absurd (eC (x.lt q) e) (iK _)
def c_.kept(x:c_ P w H h)(k:∀b u,h.get? b=some u->h'.get? b=some u):c_ P w H h':=λa o e=>
 (x a o e).ny (λb u _ q=>k b u q) (λ_ q=>q) λ_ _ q=>q
def c_.laid(x:c_ P w H h)(k:∀b u,h.get? b=some u->h'.get? b=some u)(hp:h.objs.size<=a)(new:df P w (upd H a o) h' a o):c_ P w (upd H a o) h':=λb u e=>by
 have hn:=x.fresh hp;by_cases hb:b=a
 ·subst hb;rw[aA] at e;obtain rfl:=aZ e;exact new
 ·rw[ak hb] at e;exact(x b u e).ny (λc v _ q=>k c v q) (λc q=>by rw[ak (bw q hn)];exact q) λc xs q=>by rw[ak (bw q hn)];exact q
end
def Rd(H:Hp)(a:ae)(u:HO):Prop:=H a=some u\/∃o,H a=some (.gX o u)
def Rd.ok{P:bQ}{w:bB}{H:Hp}{h:aR}{a:ae}{u:HO}(r:Rd H a u)(x:c_ P w H h):df P w H h a u:=by
 rcases r with r|⟨o,r⟩
 ·exact x a u r
 ·obtain⟨_,q⟩:=x a _ r;exact q
def yq:Option HO->Prop
 |some (.lst _)=>True
 |some (.dK _)=>True
 |some (.dT _)=>True
 |some (.set _ _)=>True
 |some (.ins _ _ _)=>True
 |some (.ext _)=>True
 |_=>False
section
variable{P:bQ}{w:bB}{H:Hp}{h h':aR}{x e:ae}{o':HO}
def c_.write(ok:c_ P w H h)(mu:yq (H x))(he:e=x\/H e=some (.own x))(k:∀b u,b≠e->h.get? b=some u->h'.get? b=some u)(tE:∃u,h'.get? e=some u)
 (new:df P w (upd H x o') h' x o'):c_ P w (upd H x o') h':=λb u q=>by
 have JD:∀c y,H c=some (.own y)->c≠x:=λc y r z=>by subst z;rw[r] at mu;exact mu
 have Qy:∀c xs,H c=some (.tup xs)->c≠x:=λc xs r z=>by subst z;rw[r] at mu;exact mu
 by_cases hb:b=x
 ·subst hb;rw[aA] at q;obtain rfl:=aZ q;exact new
 ·rw[ak hb] at q;by_cases j9:b=e
  ·have q':H b=some (.own x):=by
    rcases he with z|z
    ·exact absurd (j9.trans z) hb
    ·rw[j9];exact z
   rw[q] at q';obtain rfl:=aZ q';obtain⟨v,hv⟩:=tE;exact⟨v,by rw[j9];exact hv⟩
  ·refine(ok b u q).ny (λc v hc r=>k c v ?_ r) (λc r=>by rw[ak (JD c b r)];exact r) λc xs r=>by rw[ak (Qy c xs r)];exact r
   rcases hc with rfl|hc
   ·exact j9
   ·rintro rfl;rcases he with z|z
    ·exact JD c b hc z
    ·rw[hc] at z;cases z;exact hb rfl
end
structure Un(fs ex:List ae)(H H':Hp)(h h':aR):Prop where
 keep:∀b o,h.get? b=some o->H b=none->b∉fs->b∉ex->h'.get? b=some o
 slot:∀b o,h.get? b=some o->H b=none->b∈fs->b∉ex->∃sl,h'.get? b=some {o with slots:=sl}
 free:∀b o,h.get? b=some o->H b=none->b∉ex->H' b=none
 there:∀b o,h.get? b=some o->b∉ex->∃o',h'.get? b=some o'
 jy:∀b xs,H b=some (.tup xs)->H' b=some (.tup xs)
 jg:∀b o u,H b=some (.gX o u)->H' b=some (.gX o u)
 jz:∀b ps,H b=some (.dN ps)->∃more,H' b=some (.dN (ps++more))
section
variable{fs Qz ex ex':List ae}{H H1 H2:Hp}{h h1 h2 h':aR}{a x e:ae}{o:HO}
def Un.any(u:Un fs ex H H1 h h1){b:ae}{ob:Obj}(q:h.get? b=some ob)(n:H b=none)(hx:b∉ex):∃sl,h1.get? b=some {ob with slots:=sl}:=by
 by_cases hb:b∈fs
 ·exact u.slot b ob q n hb hx
 ·exact⟨ob.slots,u.keep b ob q n hb hx⟩
def Un.kept(k:∀b u,h.get? b=some u->h'.get? b=some u):Un fs ex H H h h':=
 ⟨λb ob q _ _ _=>k b ob q,λb ob q _ _ _=>⟨ob.slots,k b ob q⟩,λ_ _ _ n _=>n,λb ob q _=>⟨ob,k b ob q⟩,λ_ _ q=>q,λ_ _ _ q=>q,λ_ ps q=>⟨#[],by rw[q];simp⟩⟩
def Un.refl:Un fs ex H H h h:=Un.kept λ_ _ q=>q
def Un.laid(k:∀b u,h.get? b=some u->h'.get? b=some u)(hp:h.objs.size<=a)(hn:H a=none):Un fs ex H (upd H a o) h h' where
 keep:=λb u q _ _ _=>k b u q
 slot:=λb u q _ _ _=>⟨u.slots,k b u q⟩
 free:=λb u q n _=>by rw[ak (iu (eC (cY q) hp))];exact n
 there:=λb u q _=>⟨u,k b u q⟩
 jy:=λb xs q=>by rw[ak (bw q hn)];exact q
 jg:=λb u xs q=>by rw[ak (bw q hn)];exact q
 jz:=λb ps q=>⟨#[],by rw[ak (bw q hn),q];simp⟩
def Un.write(mu:yq (H x))(he:e=x\/H e=some (.own x))(k:∀b u,b≠e->h.get? b=some u->h'.get? b=some u)(tE:∃u,h'.get? e=some u):Un fs ex H (upd H x o) h h':=by
 have hx:∀b,H b=none->b≠x:=λb n z=>by subst z;rw[n] at mu;exact mu
 have hb:∀b,H b=none->b≠e:=λb n z=>by
  subst z;rcases he with r|r
  ·exact hx b n r
  ·rw[n] at r;exact ns r
 have hm:∀b u,H b=some u-> ¬yq (some u)->b≠x:=λb u q nm z=>by subst z;rw[q] at mu;exact nm mu
 refine⟨λb u q n _ _=>k b u (hb b n) q,λb u q n _ _=>⟨u.slots,k b u (hb b n) q⟩,λb u q n _=>by rw[ak (hx b n)];exact n,λb u q _=>?_,
  λb xs q=>by rw[ak (hm b _ q λz=>z)];exact q,λb u xs q=>by rw[ak (hm b _ q λz=>z)];exact q,λb ps q=>⟨#[],by rw[ak (hm b _ q λz=>z),q];simp⟩⟩
 by_cases j9:b=e
 ·subst j9;exact tE
 ·exact⟨u,k b u j9 q⟩
end
def qV(h:aR)(H:Hp):List ae:=(cB h.objs.size).filter λa=>(H a).isSome
def nz(h:aR)(H:Hp):aR:=PySem.W.hideAll h (qV h H)
def QA(h:aR)(H:Hp):(nz h H).objs.size=h.objs.size:=PySem.W.hideAll_size _ _
def QB{h:aR}{H:Hp}{b:ae}{o:Obj}(e:h.get? b=some o)(n:H b=none):(nz h H).get? b=some o:=
 PySem.W.hideAll_get _ e λhm=>by
  have q:(H b).isSome=true:=(BH.mp hm).2;rw[n] at q;simp at q
def QC{h:aR}{H:Hp}{b:ae}{o:Obj}(e:(nz h H).get? b=some o):h.get? b=some o/\H b=none:=by
 have e':h.get? b=some o:=PySem.W.of_hideAll (qV h H) e;refine⟨e',?_⟩;cases q:H b with
 |none=>rfl
 |some x=>
  have hm:b∈qV h H:=BH.mpr ⟨qG.mpr (cY e'),by simp[q]⟩
  have z:(nz h H).get? b=none:=PySem.W.hideAll_none (qV h H) hm;rw[z] at e;exact ns e
def QD(g h:aR)(L:ae):List (ae×Obj):=(cB h.objs.size).filterMap λa=>if a=L\/(g.get? a).isSome=true then none else(h.get? a).map λo=>(a,o)
def rest(g h:aR)(L d:ae):List (ae×Obj):=(QD g h L).filter λp=>decide (p.1≠d)
structure Mod(K:aI)(mg:Str->Option ai)(base:aR):Prop where
 dB:K.In base
 glob:base.Ns mU mg
 blt:∃mb,base.Ns BI mb/\ ∀x:Str,x≠"__name__"->mb x=mX x
 nolimit:base.NoLimit
structure Cx where
 prog:bQ
 w:bB
 K:aI
 mg:Str->Option ai
 base:aR
 A:cQ
 N:List Str
 dC:aq
 tG:Hp
 env:Env
 outer:List Env
 stack:List Env
 ex:List ae
 fn:Str->Bool
 calm:Bool
 pn:List (ae×Obj)
 xe:ai->aq->Prop
def jA(l:List Env):List ae:=l.filterMap (·.frame)
abbrev Cx.fs(X:Cx):List ae:=jA X.outer
def pP(sc:d6)(x:Str):Prop:=sc.names.lookup x=some .local\/sc.names.lookup x=some .cell\/sc.names.lookup x=some .free
def Loc(sc:d6)(x:Str):Prop:=sc.names.lookup x=some .local\/sc.names.lookup x=some .cell
def Look(env:Env)(h:aR)(m:Str->Option ai)(x:Str)(u:ai):Prop:=
 (env.kindOf x=some .local/\m x=some u)\/((env.kindOf x=some .cell\/env.kindOf x=some .free)/\ ∃c,env.cells.lookup x=some c/\h.IsCell c (some u))
structure Cx.Ok(X:Cx):Prop where
 mod:Mod X.K X.mg X.base
 kind:X.env.scope.kind=.function
 glob:X.env.globals=mU
 blt:X.env.builtins=BI
 above:X.dC.heap.objs.size<=X.env.locals
 inj:∀x y c,X.env.cells.lookup x=some c->X.env.cells.lookup y=some c->x=y
 has:∀x,(X.env.kindOf x=some .cell\/X.env.kindOf x=some .free)->∃c,X.env.cells.lookup x=some c
 pQ:∀x c,X.fn x=true->X.env.cells.lookup x=some c->X.dC.heap.objs.size<=c
 hd:X.calm=true->X.A.handled=none
 frames:X.A.frames=some X.stack
 qW:X.stack=X.outer\/(X.stack=X.env::X.outer/\X.env.frame=some X.env.locals)
 qX:∀b∈X.ex,b≠X.env.locals/\ ∀x c,X.env.cells.lookup x=some c->c≠b
 bs:∀b o,X.base.get? b=some o->X.dC.heap.get? b=some o/\X.tG b=none
 j_:X.base.objs.size<=X.dC.heap.objs.size
 pR:∀b o,X.base.get? b=some o->b∉X.ex
 pS:∀b∈X.ex,b∉X.fs
 jh:X.dC.heap.FunFrames X.base X.outer
 nA:∀b∈X.fs,X.tG b=none
structure Inv(X:Cx)(pins:List (ae×Obj))(σ:List (Option V))(H:Hp)(s:aq):Prop where
 ok:X.Ok
 os:s.os=X.dC.os
 bare:sN s.gens
 base:Un X.fs X.ex X.tG H X.dC.heap s.heap
 loc:∃m,s.heap.Ns X.env.locals m/\ ∀(i:Nat) (x:Str) (v:V),X.N[i]? =some x->σ[i]? =some (some v)->pP X.env.scope x->∃u,b7 v u/\Look X.env s.heap m x u
 cell:∀x c,X.env.cells.lookup x=some c->∃v,s.heap.IsCell c v
 free:H X.env.locals=none
 gY:∀x c,X.env.cells.lookup x=some c->H c=none
 pin:∀p∈X.pn++pins,s.heap.get? p.1=some p.2/\H p.1=none/\p.1≠X.env.locals/\p.1∉X.fs/\ ∀v,p.2.data≠ .cell v
 aQ:c_ X.prog X.w H s.heap
 len:σ.length=X.N.length
section
variable{X:Cx}{pins:List (ae×Obj)}{σ:List (Option V)}{H H':Hp}{s:aq}{h':aR}
def Cx.Ok.QE(ok:X.Ok){b:ae}{o:Obj}(e:X.base.get? b=some o):b∉X.fs:=λhb=>by
 have:=(ok.jh.mem hb).1;rw[e] at this;exact sn this
theorem Inv.bs(I:Inv X pins σ H s):∀b o,X.base.get? b=some o->s.heap.get? b=some o/\H b=none:=λb o e=>
 ⟨I.base.keep b o (I.ok.bs b o e).1 (I.ok.bs b o e).2 (I.ok.QE e) (I.ok.pR b o e),I.base.free b o (I.ok.bs b o e).1 (I.ok.bs b o e).2 (I.ok.pR b o e)⟩
def Inv.bk(I:Inv X pins σ H s):∀b o,X.base.get? b=some o->s.heap.get? b=some o:=λb o e=>(I.bs b o e).1
theorem Inv.mod(I:Inv X pins σ H s):Mod X.K X.mg X.base:=I.ok.mod
def Inv.dm(I:Inv X pins σ H s):X.K.In s.heap:=I.ok.mod.dB.keeps I.bk
theorem Inv.nolimit(I:Inv X pins σ H s):s.heap.NoLimit:=I.ok.mod.nolimit.keeps I.bk
def Inv.fr(I:Inv X pins σ H s):∃m,Fr X.base X.env.locals s.heap m:=
 let ⟨m,hn,_⟩:=I.loc
 ⟨m,hn,I.bk,dy I.ok.j_ I.ok.above⟩
theorem Inv.lt(I:Inv X pins σ H s):X.env.locals<s.heap.objs.size:=let ⟨_,hn,_⟩:=I.loc;hn.lt
def Inv.sz(I:Inv X pins σ H s):X.dC.heap.objs.size<=s.heap.objs.size:=dy I.ok.above (xR I.lt)
def Inv.JE(I:Inv X pins σ H s){a:ae}(h:s.heap.objs.size<=a):a∉X.fs:=λhb=>by
 obtain⟨_,o,ho,_⟩:=I.ok.jh.mem hb;exact absurd (eC (cY ho) (dy I.sz h)) (iK _)
def Inv.pT(I:Inv X pins σ H s):∀x c,X.env.cells.lookup x=some c->c≠X.env.locals:=λx c e z=>by
 obtain⟨v,o,ho,hd⟩:=I.cell x c e;obtain⟨m,⟨o',es,ep,jB,tH,_⟩,_⟩:=I.loc;rw[z,jB] at ho;obtain rfl:=aZ ho;rw[tH] at hd;cases hd
theorem Inv.jh(I:Inv X pins σ H s):s.heap.FunFrames X.base X.outer:=by
 have all:∀(l:List Env),(∀b∈jA l,b∈X.fs)->X.dC.heap.FunFrames X.base l->s.heap.FunFrames X.base l:=by
  intro l
  induction l with
  |nil=>intro _ _;trivial
  |cons env r ih=>
   intro hs hl;obtain⟨hk,⟨L,o,hf,hn,ho,hd⟩,hr⟩:=hl;have hL:L∈X.fs:=hs L (by unfold jA;rw[IJ,hf];exact iL)
   obtain⟨sl,e⟩:=I.base.slot L o ho (I.ok.nA L hL) hL λz=>I.ok.pS L z hL;exact⟨hk,⟨L,_,hf,hn,e,hd⟩,ih (λb hb=>hs b (by unfold jA;rw[IJ,hf];exact fG _ hb)) hr⟩
 exact all X.outer (λ_ hb=>hb) I.ok.jh
theorem Inv.stack(I:Inv X pins σ H s):s.heap.FunFrames X.base X.stack:=by
 rcases I.ok.qW with e|⟨e,hf⟩
 ·rw[e];exact I.jh
 ·rw[e];obtain⟨m,hn,_⟩:=I.loc;refine .cons (by rw[I.ok.kind];decide) hf hn ?_ I.jh
  exact Py (dy I.ok.j_ I.ok.above)
def Inv.vk(I:Inv X pins σ H s):∀b∈jA X.stack,b∈X.env.locals::X.fs:=λb hb=>by
 rcases I.ok.qW with e|⟨e,hf⟩
 ·rw[e] at hb;exact fG _ hb
 ·rw[e] at hb;unfold jA at hb;rw[IJ,hf] at hb;exact hb
def Inv.pU(I:Inv X pins σ H s):∀b∈jA X.stack,H b=none:=λb hb=>by
 rcases cC.mp (I.vk b hb) with e|hb
 ·rw[e];exact I.free
 ·obtain⟨_,o,ho,_⟩:=I.ok.jh.mem hb;exact I.base.free b o ho (I.ok.nA b hb) λz=>I.ok.pS b z hb
def Inv.step{g':Array GenState}{t':Nat}{d':Drawn}{ch:List ae}(I:Inv X pins σ H s)
 (nB:∀b∈ch,(b∈X.ex\/X.dC.heap.objs.size<=b)/\b≠X.env.locals/\ (∀x c,X.env.cells.lookup x=some c->c≠b)/\ ∀p∈X.pn++pins,p.1≠b)
 (keep:∀b o,b≠X.env.locals->b∉X.fs->b∉ch->s.heap.get? b=some o->H b=none->h'.get? b=some o)
 (slot:∀b o,b≠X.env.locals->b∈X.fs->b∉ch->s.heap.get? b=some o->H b=none->∃sl,h'.get? b=some {o with slots:=sl}) (free:∀b o,b∉ch->s.heap.get? b=some o->H b=none->H' b=none)
 (there:∀b o,b∉ch->s.heap.get? b=some o->∃o',h'.get? b=some o')
 (jy:∀b xs,H b=some (.tup xs)->H' b=some (.tup xs)) (jg:∀b o u,H b=some (.gX o u)->H' b=some (.gX o u)) (jz:∀b ps,H b=some (.dN ps)->∃more,H' b=some (.dN (ps++more)))
 (ns:∀m,s.heap.Ns X.env.locals m->h'.Ns X.env.locals m) (aQ:c_ X.prog X.w H' h') (hg:sN g'):
 Inv X pins σ H' {s with heap:=h',gens:=g',drawn:=d',toks:=t'}:=by
 have pV:∀b o,X.dC.heap.get? b=some o->b≠X.env.locals:=λb o e=>iu (eC (cY e) I.ok.above);have yr:∀b o,X.dC.heap.get? b=some o->b∉X.ex->b∉ch:=λb o e hx hb=>by
  rcases(nB b hb).1 with z|z
  ·exact hx z
  ·exact absurd (eC (cY e) z) (iK _)
 have cellK:∀x c,X.env.cells.lookup x=some c->∀v,s.heap.IsCell c v->h'.IsCell c v:=λx c e v ⟨o,ho,hd⟩=>by
  have vm:c∉ch:=λz=>(nB c z).2.2.1 x c e rfl;by_cases hc:c∈X.fs
  ·obtain⟨sl,q⟩:=slot c o (I.pT x c e) hc vm ho (I.gY x c e);exact⟨_,q,hd⟩
  ·exact⟨o,keep c o (I.pT x c e) hc vm ho (I.gY x c e),hd⟩
 refine⟨I.ok,I.os,hg,⟨λb o e n hb hx=>?_,λb o e n hb hx=>?_,λb o e n hx=>?_,λb o e hx=>?_,λb xs e=>jy b xs (I.base.jy b xs e),λb o xs e=>jg b o xs (I.base.jg b o xs e),λb ps e=>?_⟩,?_,λx c e=>?_,?_,λx c e=>?_,λp hp=>?_,aQ,I.len⟩
 ·exact keep b o (pV b o e) hb (yr b o e hx) (I.base.keep b o e n hb hx) (I.base.free b o e n hx)
 ·obtain⟨sl,e1⟩:=I.base.slot b o e n hb hx;obtain⟨tJ,e2⟩:=slot b _ (pV b o e) hb (yr b o e hx) e1 (I.base.free b o e n hx);exact⟨tJ,e2⟩
 ·obtain⟨o',e1⟩:=I.base.there b o e hx;exact free b o' (yr b o e hx) e1 (I.base.free b o e n hx)
 ·obtain⟨o',e1⟩:=I.base.there b o e hx;exact there b o' (yr b o e hx) e1
 ·obtain⟨m1,e1⟩:=I.base.jz b ps e;obtain⟨m2,e2⟩:=jz b _ e1;exact⟨m1++m2,by rw[e2,Array.append_assoc]⟩
 ·obtain⟨m,hn,hl⟩:=I.loc;refine⟨m,ns m hn,λi x v e1 e2 e3=>?_⟩;obtain⟨u,r,l⟩:=hl i x v e1 e2 e3;refine⟨u,r,?_⟩;rcases l with l|⟨k,c,e,z⟩
  ·exact .inl l
  ·exact .inr ⟨k,c,e,cellK x c e _ z⟩
 ·obtain⟨v,z⟩:=I.cell x c e;exact⟨v,cellK x c e v z⟩
 ·obtain⟨m,⟨o,_,_,ho,_⟩,_⟩:=I.loc;exact free _ o (λz=>(nB _ z).2.1 rfl) ho I.free
 ·obtain⟨v,o,ho,hd⟩:=I.cell x c e;exact free c o (λz=>(nB c z).2.2.1 x c e rfl) ho (I.gY x c e)
 ·obtain⟨e,n,ne,nf,d⟩:=I.pin p hp;have vm:p.1∉ch:=λz=>(nB p.1 z).2.2.2 p hp rfl;exact⟨keep p.1 p.2 ne nf vm e n,free p.1 p.2 vm e n,ne,nf,d⟩
def Inv.un{t':Nat}(I:Inv X pins σ H s)(u:Un X.fs [] H H' s.heap h')(aQ:c_ X.prog X.w H' h'):Inv X pins σ H' {s with heap:=h',toks:=t'}:=by
 obtain⟨m,⟨o,es,ep,ho,r⟩,_⟩:=id I.loc;obtain⟨sl,hL⟩:=u.any ho I.free (by simp)
 exact I.step (g':=s.gens) (d':=s.drawn) (ch:=[]) (λ_ z=>nomatch z) (λb o _ hb _ e n=>u.keep b o e n hb (by simp)) (λb o _ hb _ e n=>u.slot b o e n hb (by simp)) (λb o _ e n=>u.free b o e n (by simp)) (λb o _ e=>u.there b o e (by simp)) u.jy u.jg u.jz (λm' hm=>by
  obtain⟨o',yt,Ce,jB,r'⟩:=hm;rw[ho] at jB;obtain rfl:=aZ jB;exact⟨_,yt,Ce,hL,r'⟩) aQ I.bare
def Inv.call{g':Array GenState}{t':Nat}{d':Drawn}{ch:List ae}(I:Inv X pins σ H s)(u:Un (jA X.stack) ch H H' s.heap h')(aQ:c_ X.prog X.w H' h')(hg:sN g')
 (nB:∀b∈ch,(b∈X.ex\/X.dC.heap.objs.size<=b)/\b≠X.env.locals/\ (∀x c,X.env.cells.lookup x=some c->c≠b)/\ ∀p∈X.pn++pins,p.1≠b):
 Inv X pins σ H' {s with heap:=h',gens:=g',drawn:=d',toks:=t'}:=by
 obtain⟨m,⟨o,es,ep,ho,r⟩,_⟩:=id I.loc;obtain⟨sl,hL⟩:=u.any ho I.free λz=>(nB _ z).2.1 rfl;exact I.step (ch:=ch) nB (λb o hL hb hc e n=>u.keep b o e n (λz=>(cC.mp (I.vk b z)).elim hL hb) hc) (λb o _ _ hc e n=>u.any e n hc) (λb o hc e n=>u.free b o e n hc) (λb o hc e=>u.there b o e hc) u.jy u.jg u.jz (λm' hm=>by
  obtain⟨o',yt,Ce,jB,r'⟩:=hm;rw[ho] at jB;obtain rfl:=aZ jB;exact⟨_,yt,Ce,hL,r'⟩) aQ hg
def Inv.turned{t':Nat}{it:ae}(I:Inv X pins σ H s)(k:∀b o,b≠it->s.heap.get? b=some o->h'.get? b=some o)(hn:H it=none)(hL:it≠X.env.locals)
 (h1:it∈X.ex\/X.dC.heap.objs.size<=it) (h2:∀x c,X.env.cells.lookup x=some c->c≠it) (h3:∀p∈X.pn++pins,p.1≠it):Inv X pins σ H {s with heap:=h',toks:=t'}:=by
 have JF:∀b u,H b=some u->b≠it:=λb u e z=>by rw[z,hn] at e;exact ns e
 refine I.step (g':=s.gens) (d':=s.drawn) (ch:=[it]) (λb hb=>?_) (λb o _ _ hc e _=>k b o (λz=>hc (by simp[z])) e) (λb o _ _ hc e _=>⟨o.slots,k b o (λz=>hc (by simp[z])) e⟩) (λ_ _ _ _ n=>n)
  (λb o hc e=>⟨o,k b o (λz=>hc (by simp[z])) e⟩) (λ_ _ e=>e) (λ_ _ _ e=>e) (λb ps e=>⟨#[],by rw[e];simp⟩) (λm hm=>?_) (λb u e=>?_) I.bare
 ·have e:b=it:=by simpa using hb
  subst e;exact⟨h1,hL,h2,h3⟩
 ·obtain⟨o,es,ep,ho,r⟩:=hm;exact⟨o,es,ep,k _ o (Ne.symm hL) ho,r⟩
 ·refine(I.aQ b u e).ny (λc v hc q=>k c v ?_ q) (λ_ q=>q) λ_ _ q=>q;rcases hc with z|z
  ·rw[z];exact JF b u e
  ·exact JF c _ z
def Inv.tok(I:Inv X pins σ H s)(t:Nat):Inv X pins σ H {s with toks:=t}:=I.un (h':=s.heap) (t':=t) Un.refl I.aQ
theorem Inv.kept{t':Nat}(I:Inv X pins σ H s)(k:∀b u,s.heap.get? b=some u->h'.get? b=some u):Inv X pins σ H {s with heap:=h',toks:=t'}:=I.un (Un.kept k) (I.aQ.kept k)
theorem Inv.laid{a:ae}{o:HO}{t':Nat}(I:Inv X pins σ H s)(k:∀b u,s.heap.get? b=some u->h'.get? b=some u)(hp:s.heap.objs.size<=a)(new:df X.prog X.w (upd H a o) h' a o):
 Inv X pins σ (upd H a o) {s with heap:=h',toks:=t'}:=I.un (Un.laid k hp (I.aQ.fresh hp)) (I.aQ.laid k hp new)
theorem Inv.write{x e:ae}{o:HO}{t':Nat}(I:Inv X pins σ H s)(mu:yq (H x))(he:e=x\/H e=some (.own x))(k:∀b u,b≠e->s.heap.get? b=some u->h'.get? b=some u)(tE:∃u,h'.get? e=some u)
 (new:df X.prog X.w (upd H x o) h' x o):Inv X pins σ (upd H x o) {s with heap:=h',toks:=t'}:=I.un (Un.write mu he k tE) (I.aQ.write mu he k tE new)
def Inv.weak{σ':List (Option V)}(I:Inv X pins σ H s)(hl:σ'.length=σ.length)(w:∀(i:Nat) v,σ'[i]? =some (some v)->σ[i]? =some (some v)):Inv X pins σ' H s:=
 ⟨I.ok,I.os,I.bare,I.base,let ⟨m,hn,Cf⟩:=I.loc;⟨m,hn,λi x v e1 e2 e3=>Cf i x v e1 (w i v e2) e3⟩,I.cell,I.free,I.gY,I.pin,I.aQ,hl.trans I.len⟩
def Inv.JG{yu:List (ae×Obj)}(I:Inv X pins σ H s)(h:∀p∈yu,s.heap.get? p.1=some p.2/\H p.1=none/\p.1≠X.env.locals/\p.1∉X.fs/\ ∀v,p.2.data≠ .cell v):Inv X yu σ H s:=
 ⟨I.ok,I.os,I.bare,I.base,I.loc,I.cell,I.free,I.gY,λp hp=>(gO.mp hp).elim (λz=>I.pin p (IK _ z)) (h p),I.aQ,I.len⟩
def Ci{N:List Str}(hN:N.Nodup){i j:Nat}{x:Str}(a:N[i]? =some x)(b:N[j]? =some x):i=j:=by
 obtain⟨h1,e1⟩:=dz.mp a;obtain⟨h2,e2⟩:=dz.mp b;exact(List.getElem_inj hN).mp (e1.trans e2.symm)
def JH{M:Model}{A:cQ}{E:ai->aq->Prop}{i:Nat}{x:Str}{v:V}{u:ai}{Q:Unit->aq->Prop}(I:Inv X pins σ H s)(hN:X.N.Nodup)(hi:X.N[i]? =some x)(hx:Loc X.env.scope x)(r:b7 v u)
 (h:∀s',Inv X pins (σ.set i (some v)) H s'->(∃a,xS a s.heap s'.heap/\ (a=X.env.locals\/X.env.cells.lookup x=some a))->Q () s') (hf:X.fn x=true\/X.env.scope.names.lookup x=some .local:=by first|exact .inl rfl|exact .inr rfl|assumption):aU M A (storeName X.env x u) Q E s:=by
 obtain⟨m,hn,hl⟩:=id I.loc;have QF:(X.env.scope.kind== .class||(X.env.scope.kind== .module&&X.env.locals !=X.env.globals))=false:=by rw[I.ok.kind];rfl
 have hiσ:i<σ.length:=by rw[I.len];exact(dz.mp hi).1
 have pT:=I.pT;have tracked:∀{a:ae} {h':aR},(∃o,s.heap.get? a=some o/\H a=none)->xS a s.heap h'->c_ X.prog X.w H h':=λ{a h'} ha hs b ob e=>by
  obtain⟨_,_,tL⟩:=ha;refine(I.aQ b ob e).ny (λc w' hc q=>(hs.2 c ?_).trans q) (λ_ q=>q) λ_ _ q=>q;rintro rfl;rcases hc with rfl|hc
  ·rw[tL] at e;exact ns e
  ·rw[tL] at hc;exact ns hc
 rcases hx with hk|hk
 ·refine wpAny_storeName_local hk hn (λh' qY hs=>?_) QF;obtain⟨oL,_,_,QG,_⟩:=id hn;refine h _ ⟨I.ok,I.os,I.bare,⟨λb o e n hb hx=>?_,λb o e n hb hx=>?_,I.base.free,λb o e hx=>?_,I.base.jy,I.base.jg,I.base.jz⟩,⟨_,qY,λj y v' e1 e2 e3=>?_⟩,λy c e=>?_,I.free,I.gY,λp hp=>?_,tracked ⟨oL,QG,I.free⟩ hs,by simpa using I.len⟩ ⟨_,hs,.inl rfl⟩
  ·exact(hs.2 b (iu (eC (cY e) I.ok.above))).trans (I.base.keep b o e n hb hx)
  ·obtain⟨sl,e1⟩:=I.base.slot b o e n hb hx;exact⟨sl,(hs.2 b (iu (eC (cY e) I.ok.above))).trans e1⟩
  ·obtain⟨o',e1⟩:=I.base.there b o e hx;exact⟨o',(hs.2 b (iu (eC (cY e) I.ok.above))).trans e1⟩
  ·by_cases hj:j=i
   ·subst hj;rw[hi] at e1;obtain rfl:=aZ e1;rw[uV hiσ] at e2;cases e2;exact⟨u,r,.inl ⟨hk,by simp⟩⟩
   ·rw[uW (Ne.symm hj)] at e2;obtain⟨u',r',q⟩:=hl j y v' e1 e2 e3;refine⟨u',r',?_⟩;rcases q with⟨k,e⟩|⟨k,c,e,z⟩
    ·refine .inl ⟨k,?_⟩;have:y≠x:=λe=>hj (Ci hN e1 (e▸hi));simp[this,e]
    ·exact .inr ⟨k,c,e,z.sameBut hs (pT y c e)⟩
  ·obtain⟨w',z⟩:=I.cell y c e;exact⟨w',z.sameBut hs (pT y c e)⟩
  ·obtain⟨e,n,ne,nf,d⟩:=I.pin p hp;exact⟨(hs.2 p.1 ne).trans e,n,ne,nf,d⟩
 ·have Cj:X.fn x=true:=by
   rcases hf with z|z
   ·exact z
   ·rw[z] at hk;cases hk
  obtain⟨c,hc⟩:=I.ok.has x (.inl hk);obtain⟨w',z⟩:=I.cell x c hc;refine wpAny_storeName_cell I.ok.kind hk hc z (λh' d8 hs=>?_);obtain⟨oc,JI,QH⟩:=id z;refine h {s with heap:=h'} ⟨I.ok,I.os,I.bare,⟨λb o e n hb hx=>?_,λb o e n hb hx=>?_,I.base.free,λb o e hx=>?_,I.base.jy,I.base.jg,I.base.jz⟩,⟨m,hn.sameBut hs (Ne.symm (pT x c hc)),λj y v' e1 e2 e3=>?_⟩,λy c' e=>?_,I.free,I.gY,λp hp=>?_,tracked ⟨oc,JI,I.gY x c hc⟩ hs,by simpa using I.len⟩ ⟨c,hs,.inr hc⟩
  ·exact(hs.2 b (iu (eC (cY e) (I.ok.pQ x c Cj hc)))).trans (I.base.keep b o e n hb hx)
  ·obtain⟨sl,e1⟩:=I.base.slot b o e n hb hx;exact⟨sl,(hs.2 b (iu (eC (cY e) (I.ok.pQ x c Cj hc)))).trans e1⟩
  ·obtain⟨o',e1⟩:=I.base.there b o e hx;exact⟨o',(hs.2 b (iu (eC (cY e) (I.ok.pQ x c Cj hc)))).trans e1⟩
  ·by_cases hj:j=i
   ·subst hj;rw[hi] at e1;obtain rfl:=aZ e1;rw[uV hiσ] at e2;cases e2;exact⟨u,r,.inr ⟨.inl hk,c,hc,d8⟩⟩
   ·rw[uW (Ne.symm hj)] at e2;obtain⟨u',r',q⟩:=hl j y v' e1 e2 e3;refine⟨u',r',?_⟩;rcases q with q|⟨k,c',e,z'⟩
    ·exact .inl q
    ·refine .inr ⟨k,c',e,z'.sameBut hs ?_⟩;rintro rfl;exact hj (Ci hN e1 (I.ok.inj _ _ _ e hc▸hi))
  ·by_cases nE:c'=c
   ·subst nE;exact⟨_,d8⟩
   ·obtain⟨w2,z2⟩:=I.cell y c' e;exact⟨w2,z2.sameBut hs nE⟩
  ·obtain⟨e,n,ne,nf,d⟩:=I.pin p hp;refine⟨(hs.2 p.1 ?_).trans e,n,ne,nf,d⟩;intro q;rw[q,JI] at e;have q':oc=p.2:=aZ e;exact d w' (by rw[<-q'];exact QH)
def Ck{M:Model}{A:cQ}{E:ai->aq->Prop}{i:Nat}{x:Str}{v:V}{u:ai}{Q:Unit->aq->Prop}(I:Inv X pins σ H s)(hN:X.N.Nodup)(hi:X.N[i]? =some x)(hx:Loc X.env.scope x)(r:b7 v u)
 (h:∀s',Inv X pins (σ.set i (some v)) H s'->Q () s') (hf:X.fn x=true\/X.env.scope.names.lookup x=some .local:=by first|exact .inl rfl|exact .inr rfl|assumption):aU M A (storeName X.env x u) Q E s:=
 JH I hN hi hx r (λs' I' _=>h s' I') hf
def Inv.vn{s':aq}{ch:List ae}(I:Inv X pins σ H s)(ho:s'.os=s.os)(u:Un (jA X.stack) ch H H' s.heap s'.heap)(aQ:c_ X.prog X.w H' s'.heap)(hg:sN s'.gens)
 (nB:∀b∈ch,(b∈X.ex\/X.dC.heap.objs.size<=b)/\b≠X.env.locals/\ (∀x c,X.env.cells.lookup x=some c->c≠b)/\ ∀p∈X.pn++pins,p.1≠b):Inv X pins σ H' s':=by
 obtain⟨h',g',d',t',o'⟩:=s';have e:o'=s.os:=ho;subst e;exact I.call (g':=g') (t':=t') (d':=d') u aQ hg nB
end
abbrev XK:=ai->Option ae->Hp->Prop
abbrev St:=List (Option V)
abbrev VK:=V->Hp->Prop
abbrev TE:=St->Hp->VK->Prop
abbrev TT:=St->Hp->(Bool->Hp->Prop)->Prop
abbrev TA:=St->Hp->(List V->Hp->Prop)->Prop
structure Ends where
 nx:St->Hp->Prop
 rt:VK
 bk:St->Hp->Prop:=λ_ _=>False
 ct:St->Hp->Prop:=λ_ _=>False
abbrev TS:=Ends->St->Hp->Prop
inductive EP(X:Cx)(pins:List (ae×Obj))(σ:St)(Q:VK)(u:ai)(s':aq):Prop
 |mk (v H':_) (_:Inv X pins σ H' s') (_:b7 v u) (_:Q v H')
def TP(X:Cx)(pins:List (ae×Obj))(σ:St)(Q:Bool->Hp->Prop)(b:Bool)(s':aq):Prop:=∃H',Inv X pins σ H' s'/\Q b H'
inductive AP(X:Cx)(pins:List (ae×Obj))(σ:St)(Q:List V->Hp->Prop)(us:List ai)(s':aq):Prop
 |mk (vs H':_) (_:Inv X pins σ H' s') (_:Vals vs us) (_:Q vs H')
def SP(X:Cx)(pins:List (ae×Obj))(D:Ends)(f:Flow)(s':aq):Prop:=
 match f with
 | .next=>∃σ' H',Inv X pins σ' H' s'/\D.nx σ' H'
 | .brk=>∃σ' H',Inv X pins σ' H' s'/\D.bk σ' H'
 | .cont=>∃σ' H',Inv X pins σ' H' s'/\D.ct σ' H'
 | .ret u=>∃v σ' H',Inv X pins σ' H' s'/\b7 v u/\D.rt v H'
def PE(X:Cx)(e:bj)(t:TE):Prop:=
 ∀(pins:List (ae×Obj)) (s:aq) (σ:St) (H:Hp) (Q:VK),Inv X pins σ H s->t σ H Q->aU (model X.prog X.w) X.A (eval e X.env) (EP X pins σ Q) X.xe s
def PT(X:Cx)(e:bj)(t:TT):Prop:=
 ∀(pins:List (ae×Obj)) (s:aq) (σ:St) (H:Hp) (Q:Bool->Hp->Prop),Inv X pins σ H s->t σ H Q->aU (model X.prog X.w) X.A (isTrue e X.env (eval e X.env)) (TP X pins σ Q) X.xe s
def PW(X:Cx)(e:bj)(t:TT):Prop:=
 ∀(whole:Sem ai) (pins:List (ae×Obj)) (s:aq) (σ:St) (H:Hp) (Q:Bool->Hp->Prop),Inv X pins σ H s->t σ H Q->aU (model X.prog X.w) X.A (isTrue e X.env whole) (TP X pins σ Q) X.xe s
def PW.pt{X:Cx}{e:bj}{t:TT}(h:PW X e t):PT X e t:=h _
def PA(X:Cx)(es:List bj)(t:TA):Prop:=
 ∀(pos:Pos) (pins:List (ae×Obj)) (s:aq) (σ:St) (H:Hp) (Q:List V->Hp->Prop),Inv X pins σ H s->t σ H Q->aU (model X.prog X.w) X.A (spliced (f_ pos (cG es X.env))) (AP X pins σ Q) X.xe s
def PS(X:Cx)(st:cD)(t:TS):Prop:=
 ∀(pins:List (ae×Obj)) (s:aq) (σ:St) (H:Hp) (D:Ends),Inv X pins σ H s->t D σ H->aU (model X.prog X.w) X.A (exec st X.env) (SP X pins D) X.xe s
def gy(X:Cx)(st:List cD)(t:TS):Prop:=
 ∀(pins:List (ae×Obj)) (s:aq) (σ:St) (H:Hp) (D:Ends),Inv X pins σ H s->t D σ H->aU (model X.prog X.w) X.A (execs st X.env) (SP X pins D) X.xe s
def aX{α:Type}{t:Sem α}{Q Q':α->aq->Prop}{M:Model}{A:cQ}{E:ai->aq->Prop}{s:aq}(h:aU M A t Q E s)(hQ:∀a s,Q a s->Q' a s):aU M A t Q' E s:=fN h hQ λ_ _ x=>x
section
variable{X:Cx}
def bin{a b:bj}{ta tb:TE}(ha:PE X a ta)(hb:PE X b tb){pins:List (ae×Obj)}{s:aq}{σ:St}{H:Hp}{R:V->V->Hp->Prop}(I:Inv X pins σ H s)(h:ta σ H λx H1=>tb σ H1 λy H2=>R x y H2)
 {α:Type} {Q:α->aq->Prop} {f:ai->ai->Sem α}
 (hf:∀v u s2 x y H2,Inv X pins σ H2 s2->b7 x v->b7 y u->R x y H2->aU (model X.prog X.w) X.A (f v u) Q X.xe s2):
 aU (model X.prog X.w) X.A (eval a X.env) (λv s₁=>aU (model X.prog X.w) X.A (eval b X.env) (λu s₂=>aU (model X.prog X.w) X.A (f v u) Q X.xe s₂) X.xe s₁) X.xe s:=by
 refine aX (ha pins s σ H _ I h) λv s1 ⟨x,H1,I1,r1,q1⟩=>?_;refine aX (hb pins s1 σ H1 _ I1 q1) λu s2 ⟨y,H2,I2,r2,q2⟩=>?_;exact hf v u s2 x y H2 I2 r1 r2 q2
inductive nF(i:Nat)(σ:L2.St)(H:Hp)(Q:VK):Prop
 |mk (v:_) (_:σ[i]? =some (some v)) (_:Q v H)
def tC(v:V):TE:=λ_ H Q=>Q v H
def yw{i:Nat}{x:Str}{pos:Pos}(hN:X.N[i]? =some x)(hv:pP X.env.scope x)(hd:(x==("__debug__":Str))=false:=by decide)(fz:(x==("__classdict__":Str))=false:=by decide):PE X (.Name x pos) (nF i):=by
 intro pins s σ H Q I h;obtain⟨v,e,h⟩:=h;obtain⟨m,hn,hl⟩:=I.loc;obtain⟨u,r,l⟩:=hl i x v hN e hv;have fin:EP X pins σ Q u s:=⟨v,H,I,r,h⟩;rcases l with⟨hk,hm⟩|⟨hk,c,hc,JJ⟩
 ·exact wpAny_Name (wpAny_loadName_local I.ok.kind hk hn hm fin) hd
 ·rcases hk with hk|hk
  ·exact wpAny_Name (wpAny_loadName_cell I.ok.kind hk hc JJ fin) hd
  ·exact wpAny_Name (wpAny_loadName_free I.ok.kind hk hc JJ fin fz) hd
def aO{i j pos}:PE X (.Constant (.int i) j pos) (tC (.int i)):=λ_ _ _ H _ I h=>wpAny_Constant_int ⟨.int i,H,I.tok _,⟨_,rfl⟩,h⟩
def jC{j pos}:PE X (.Constant .none j pos) (tC .aM):=λ_ _ _ H _ I h=>Constant_none ⟨.aM,H,I,rfl,h⟩
def bY{x j pos}:PE X (.Constant (.str x) j pos) (tC (.str x)):=λ_ _ _ H _ I h=>Calls.Constant_str ⟨.str x,H,I.tok _,⟨_,rfl⟩,h⟩
def Gl(X:Cx)(x:Str):Prop:=X.env.kindOf x=some .globalImplicit
def qZ{E:ai->aq->Prop}{pins:List (ae×Obj)}{s:aq}{σ:St}{H:Hp}{x:Str}{u:ai}{pos:Pos}{Q:ai->aq->Prop}(I:Inv X pins σ H s)(hg:Gl X x)(hm:X.mg x=some u)(h:Q u s)
 (hd:(x==("__debug__":Str))=false:=by decide):aU (model X.prog X.w) X.A (eval (.Name x pos) X.env) Q E s:=
 af2 I.ok.kind hg (Calls.loadGlobal_global (by rw[I.ok.glob];exact I.mod.glob.keeps I.bk) hm h) hd
def yx{E:ai->aq->Prop}{pins:List (ae×Obj)}{s:aq}{σ:St}{H:Hp}{x:Str}{u:ai}{pos:Pos}{Q:ai->aq->Prop}(I:Inv X pins σ H s)(hg:Gl X x)(hm:X.mg x=none)(hv:mX x=some u)(h:Q u s)
 (hn:x≠"__name__":=by decide) (hd:(x==("__debug__":Str))=false:=by decide):aU (model X.prog X.w) X.A (eval (.Name x pos) X.env) Q E s:=by
 obtain⟨mb,h1,h2⟩:=I.mod.blt;exact af2 I.ok.kind hg (Calls.loadGlobal_builtin (by rw[I.ok.glob];exact I.mod.glob.keeps I.bk) hm (by rw[I.ok.blt];exact h1.keeps I.bk) ((h2 x hn).trans hv) h) hd
def Cm{x:Str}{v:V}{u:ai}{pos:Pos}(hg:Gl X x)(hm:X.mg x=some u)(r:b7 v u)(hd:(x==("__debug__":Str))=false:=by decide):PE X (.Name x pos) (tC v):=
 λ_ _ _ H _ I h=>qZ I hg hm ⟨v,H,I,r,h⟩ hd
variable{a b:bj}{ta tb:TE}{pos:Pos}
def PC(X:Cx)(op:CmpOp)(a b:bj)(t:TE):Prop:=
 ∀(pins:List (ae×Obj)) (s:aq) (σ:St) (H:Hp) (Q:VK),Inv X pins σ H s->t σ H Q->
  aU (model X.prog X.w) X.A (eval a X.env) (λv s₁=>aU (model X.prog X.w) X.A (eval b X.env) (λu s₂=>aU (model X.prog X.w) X.A (kE op v u) (EP X pins σ Q) X.xe s₂) X.xe s₁) X.xe s
def JK(b:bj){op:CmpOp}(h:op≠ .In)(h2:op≠ .NotIn):sO op b=false:=by
 have e1:(op==CmpOp.In)=false:=by cases op<;>first|rfl|exact absurd rfl h
 have e2:(op==CmpOp.NotIn)=false:=by cases op<;>first|rfl|exact absurd rfl h2
 cases b<;>simp[sO,e1,e2]
def QI(ta:TE):TE:=λσ H Q=>ta σ H λx H1=>Q (.bl (decide (x=.aM))) H1
def QJ(ta:TE):TE:=λσ H Q=>ta σ H λx H1=>Q (.bl (!decide (x=.aM))) H1
def b7.JL{x:V}{v:ai}(r:b7 x v):(v==i0)=decide (x=.aM):=by
 cases x with
 |aM=>cases r;rfl
 |bl _=>cases r;rfl
 |int _=>obtain⟨t,rfl⟩:=r;rfl
 |str _=>obtain⟨t,rfl⟩:=r;rfl
 |iP _=>obtain⟨t,rfl⟩:=r;rfl
 |vj _=>obtain⟨t,rfl⟩:=r;rfl
 |ref _=>cases r;rfl
 |ty _=>cases r;rfl
def oI{j pos'}(ha:PE X a ta):PC X .Is a (.Constant .none j pos') (QI ta):=by
 intro pins s σ H Q I h;refine aX (ha pins s σ H _ I h) λv s1 ⟨x,H1,I1,r1,q1⟩=>?_;exact Constant_none (is_none_gen ⟨.bl _,H1,I1,by rw[r1.JL];rfl,q1⟩)
def yy{j pos'}(ha:PE X a ta):PC X .IsNot a (.Constant .none j pos') (QJ ta):=by
 intro pins s σ H Q I h;refine aX (ha pins s σ H _ I h) λv s1 ⟨x,H1,I1,r1,q1⟩=>?_;exact Constant_none (isnot_none_gen ⟨.bl _,H1,I1,by rw[r1.JL];rfl,q1⟩)
inductive QK(Q:Bool->Hp->Prop)(x:V)(H1:Hp):Prop
 |mk (c:_) (_:x=.bl c) (_:Q c H1)
def tB(t:TE):TT:=λσ H Q=>t σ H λx H1=>QK Q x H1
def yz{op:CmpOp}{t:TE}(h:PC X op a b t)(h1:sO op b=false:=by first|exact JK _ (by decide) (by decide)|rfl):PE X (.Compare a [op] [b] pos) t:=λpins s σ H Q I hw=>wpAny_Compare1 (h pins s σ H Q I hw) h1
def ji{op:CmpOp}{t:TE}(h:PC X op a b t)(h1:sO op b=false:=by first|exact JK _ (by decide) (by decide)|rfl):PT X (.Compare a [op] [b] pos) (tB t):=by
 intro pins s σ H Q I hw;refine wpAny_isTrue_Compare1 (aX (h pins s σ H _ I hw) λv s1 h1=>aX h1 λu s2 h2=>aX h2 λc s3 ⟨x,H1,I1,r1,q1⟩=>?_) h1;obtain⟨d,rfl,q⟩:=q1;cases r1;exact qH ⟨H1,I1,q⟩
def gZ{e:bj}{t:TE}(h:PE X e t)(he:∀whole,isTrue e X.env whole=(do let v <-whole;standAt e.pos;holding [v] (truthy v)):=by intro _;rfl):PT X e (tB t):=by
 intro pins s σ H Q I hw;refine isTrue_plain (aX (h pins s σ H _ I hw) λv s1 ⟨x,H1,I1,r1,q1⟩=>?_) (he _);obtain⟨d,rfl,q⟩:=q1;cases r1;exact qH ⟨H1,I1,q⟩
variable{tA yA:TT}{rest:List bj}
def QL(t u:TT):TT:=λσ H Q=>t σ H λc H1=>if c=true then u σ H1 Q else Q false H1
def QM(t u:TT):TT:=λσ H Q=>t σ H λc H1=>if c=true then Q true H1 else u σ H1 Q
def QN(t:TT):TT:=λσ H Q=>t σ H λc H1=>Q (!c) H1
def pW(ha:PT X a tA):PW X (.BoolOp .And [a] pos) tA:=by
 intro wh pins s σ H Q I h;refine isTrue_and (aX (ha pins s σ H Q I h) λc s1 e=>?_);cases c with
 |true=>exact isTrue_and_nil e
 |false=>exact e
def nH(ha:PT X a tA):PW X (.BoolOp .Or [a] pos) tA:=by
 intro wh pins s σ H Q I h;refine isTrue_or (aX (ha pins s σ H Q I h) λc s1 e=>?_);cases c with
 |false=>exact isTrue_or_nil e
 |true=>exact e
def pX(ha:PT X a tA)(hb:PW X (.BoolOp .And (b::rest) pos) yA):PW X (.BoolOp .And (a::b::rest) pos) (QL tA yA):=by
 intro wh pins s σ H Q I h;refine isTrue_and (aX (ha pins s σ H _ I h) λc s1 ⟨H1,I1,q1⟩=>?_);cases c with
 |true=>exact hb wh pins s1 σ H1 Q I1 q1
 |false=>exact⟨H1,I1,q1⟩
def kM(ha:PT X a tA)(hb:PW X (.BoolOp .Or (b::rest) pos) yA):PW X (.BoolOp .Or (a::b::rest) pos) (QM tA yA):=by
 intro wh pins s σ H Q I h;refine isTrue_or (aX (ha pins s σ H _ I h) λc s1 ⟨H1,I1,q1⟩=>?_);cases c with
 |true=>exact⟨H1,I1,q1⟩
 |false=>exact hb wh pins s1 σ H1 Q I1 q1
def lD(ha:PT X a tA):PT X (.UnaryOp .Not a pos) (QN tA):=by
 intro pins s σ H Q I h;exact isTrue_not (ha pins s σ H (λc H1=>Q (!c) H1) I h)
inductive QO(tb:TE)(σ:L2.St)(Q:VK)(x:V)(H1:Hp):Prop
 |mk (c:_) (_:x=.bl c) (_:if c=true then tb σ H1 Q else Q (.bl false) H1)
def QP(ta tb:TE):TE:=λσ H Q=>ta σ H λx H1=>QO tb σ Q x H1
inductive QQ(tb:TE)(σ:L2.St)(Q:VK)(x:V)(H1:Hp):Prop
 |mk (c:_) (_:x=.bl c) (_:if c=true then Q (.bl true) H1 else tb σ H1 Q)
def QR(ta tb:TE):TE:=λσ H Q=>ta σ H λx H1=>QQ tb σ Q x H1
def Cn{op}{t:TE}(h:PE X a t):PE X (.BoolOp op [a] pos) t:=λpins s σ H Q I hw=>BoolOp_one (h pins s σ H Q I hw)
def JM(ha:PE X a ta)(hb:PE X (.BoolOp .And (b::rest) pos) tb):PE X (.BoolOp .And (a::b::rest) pos) (QP ta tb):=by
 intro pins s σ H Q I h;refine BoolOp_and (aX (ha pins s σ H _ I h) λv s1 ⟨x,H1,I1,r1,q1⟩=>?_);obtain⟨c,rfl,q1⟩:=q1;cases r1;refine qH ?_;cases c with
 |true=>exact hb pins s1 σ H1 Q I1 q1
 |false=>exact⟨.bl false,H1,I1,rfl,q1⟩
def QS(ha:PE X a ta)(hb:PE X (.BoolOp .Or (b::rest) pos) tb):PE X (.BoolOp .Or (a::b::rest) pos) (QR ta tb):=by
 intro pins s σ H Q I h;refine BoolOp_or (aX (ha pins s σ H _ I h) λv s1 ⟨x,H1,I1,r1,q1⟩=>?_);obtain⟨c,rfl,q1⟩:=q1;cases r1;refine qH ?_;cases c with
 |false=>exact hb pins s1 σ H1 Q I1 q1
 |true=>exact⟨.bl true,H1,I1,rfl,q1⟩
def QT(t:TT)(ta tb:TE):TE:=λσ H Q=>t σ H λc H1=>if c=true then ta σ H1 Q else tb σ H1 Q
def jj{c:bj}(hc:PT X c tA)(ha:PE X a ta)(hb:PE X b tb):PE X (.IfExp c a b pos) (QT tA ta tb):=by
 intro pins s σ H Q I h;refine wpAny_IfExp (aX (hc pins s σ H _ I h) λd s1 ⟨H1,I1,q1⟩=>?_);cases d with
 |true=>exact ha pins s1 σ H1 Q I1 q1
 |false=>exact hb pins s1 σ H1 Q I1 q1
end
def aF(K:aI)(H:Hp)(a:ae)(xs:List V):Prop:=
 Rd H a (.lst xs)\/
  ∃(o:Obj) (aE:Array ai) (n:Nat),K.lookup a=some o/\o.cls=.type "list"/\o.dict=none/\o.data=.seq aE n/\aE.size<=sizeLine/\Vals xs aE.toList
def fR(K:aI)(H:Hp)(a:ae)(xs:List V):Prop:=
 Rd H a (.tup xs)\/
  ∃(o:Obj) (aE:Array ai) (n:Nat),K.lookup a=some o/\o.cls=.type "tuple"/\o.data=.seq aE n/\aE.size<=sizeLine/\Vals xs aE.toList
def QU:ai->Option V
 | .none=>some .aM
 | .bool b=>some (.bl b)
 | .int i _=>some (.int i)
 | .str x _=>some (.str x)
 | .bytes b _=>some (.iP b)
 | .float b _=>some (.vj b)
 | .ref a=>some (.ref a)
 | .type n=>some (.ty n)
 |_=>none
def b7.abs{x:V}{u:ai}(r:b7 x u):QU u=some x:=by
 cases x with
 |aM=>cases r;rfl
 |bl _=>cases r;rfl
 |int _=>obtain⟨t,rfl⟩:=r;rfl
 |str _=>obtain⟨t,rfl⟩:=r;rfl
 |iP _=>obtain⟨t,rfl⟩:=r;rfl
 |vj _=>obtain⟨t,rfl⟩:=r;rfl
 |ref _=>cases r;rfl
 |ty _=>cases r;rfl
theorem b7.inj{x y:V}{u:ai}(r:b7 x u)(q:b7 y u):x=y:=aZ (r.abs.symm.trans q.abs)
theorem Vals.inj:∀{xs ys:List V} {us:List ai},Vals xs us->Vals ys us->xs=ys
 |_,_,_,.nil,.nil=>rfl
 |_,_,_,.cons r t,.cons r' t'=>by rw[r.inj r',Vals.inj t t']
section
variable{X:Cx}{pins:List (ae×Obj)}{σ:St}{H:Hp}{s:aq}{a:ae}{xs ys:List V}
def aF.of{K:aI}(h:H a=some (.lst xs)):aF K H a xs:=.inl (.inl h)
def fR.of{K:aI}(h:H a=some (.tup xs)):fR K H a xs:=.inl (.inl h)
def Inv.list(I:Inv X pins σ H s)(h:aF X.K H a xs):∃aE:List ai,Vals xs aE/\PlainL s.heap a aE.toArray/\xs.length<=sizeLine:=by
 rcases h with h|⟨o,aE,n,hk,hc,hd,hs,hz,r⟩
 ·obtain⟨z,aE,n,r,e⟩:=h.ok I.aQ;exact⟨aE,r,⟨_,n,e,rfl,rfl,rfl⟩,z⟩
 ·refine⟨aE.toList,r,⟨o,n,I.dm a o hk,hc,hd,by simpa using hs⟩,?_⟩
  have e:=r.length;simp only[Array.length_toList] at e
  lia
def Inv.tuple(I:Inv X pins σ H s)(h:fR X.K H a xs):∃aE:List ai,Vals xs aE/\IsTup s.heap a aE.toArray/\xs.length<=sizeLine:=by
 rcases h with h|⟨o,aE,n,hk,hc,hs,hz,r⟩
 ·obtain⟨z,aE,r,p⟩:=h.ok I.aQ;exact⟨aE,r,p,z⟩
 ·refine⟨aE.toList,r,⟨o,I.dm a o hk,hc,n,by simpa using hs⟩,?_⟩
  have e:=r.length;simp only[Array.length_toList] at e
  lia
def Inv.QV(I:Inv X pins σ H s)(h:aF X.K H a xs)(h':aF X.K H a ys):xs=ys:=by
 obtain⟨aE,r,⟨o,n,e,_,_,d⟩,_⟩:=I.list h;obtain⟨its',r',⟨o',n',e',_,_,d'⟩,_⟩:=I.list h';rw[e] at e';obtain rfl:=aZ e';rw[d] at d';injection d' with d1 _
 have:aE=its':=by simpa using congrArg Array.toList d1
 subst this;exact r.inj r'
end
abbrev Cx.lE(X:Cx)(E:ai->aq->Prop):Cx:={X with xe:=E}
abbrev Cx.tM(X:Cx):Cx:=X.lE λ_ _=>False
theorem Cx.Ok.lE{X:Cx}(ok:X.Ok)(E:ai->aq->Prop):(X.lE E).Ok:=
 ⟨ok.mod,ok.kind,ok.glob,ok.blt,ok.above,ok.inj,ok.has,ok.pQ,ok.hd,ok.frames,ok.qW,ok.qX,ok.bs,ok.j_,ok.pR,ok.pS,ok.jh,ok.nA⟩
def Cx.Ok.oJ{X:Cx}{E:ai->aq->Prop}(ok:(X.lE E).Ok):X.Ok:=
 ⟨ok.mod,ok.kind,ok.glob,ok.blt,ok.above,ok.inj,ok.has,ok.pQ,ok.hd,ok.frames,ok.qW,ok.qX,ok.bs,ok.j_,ok.pR,ok.pS,ok.jh,ok.nA⟩
section
variable{X:Cx}{pins:List (ae×Obj)}{σ:St}{H:Hp}{s:aq}{E:ai->aq->Prop}
theorem Inv.lE(I:Inv X pins σ H s)(E:ai->aq->Prop):Inv (X.lE E) pins σ H s:=⟨I.ok.lE E,I.os,I.bare,I.base,I.loc,I.cell,I.free,I.gY,I.pin,I.aQ,I.len⟩
theorem Inv.oJ(I:Inv (X.lE E) pins σ H s):Inv X pins σ H s:=⟨I.ok.oJ,I.os,I.bare,I.base,I.loc,I.cell,I.free,I.gY,I.pin,I.aQ,I.len⟩
theorem SP.oJ{D:Ends}{f:Flow}{s':aq}(h:SP (X.lE E) pins D f s'):SP X pins D f s':=by
 cases f with
 |next=>obtain⟨σ',H',I,q⟩:=h;exact⟨σ',H',I.oJ,q⟩
 |brk=>obtain⟨σ',H',I,q⟩:=h;exact⟨σ',H',I.oJ,q⟩
 |cont=>obtain⟨σ',H',I,q⟩:=h;exact⟨σ',H',I.oJ,q⟩
 |ret u=>obtain⟨v,σ',H',I,r,q⟩:=h;exact⟨v,σ',H',I.oJ,r,q⟩
theorem gy.tM{st:List cD}{t:TS}(h:gy X.tM st t):gy X st t:=λpins s σ H D I hw=>
 fN (h pins s σ H D (I.lE _) hw) (λ_ _ q=>q.oJ) λ_ _ z=>gw z
end
section
variable{X:Cx}{st:cD}{rest:List cD}{t u:TS}{e:bj}{te:TE}{pos:Pos}
def QW:TS:=λD σ H=>D.nx σ H
def JN(t u:TS):TS:=λD σ H=>t {D with nx:=u D} σ H
def cJ:gy X [] QW:=λ_ _ σ H _ I h=>sP ⟨σ,H,I,h⟩
def ay(h1:PS X st t)(h2:gy X rest u):gy X (st::rest) (JN t u):=by
 intro pins s σ H D I h;refine wpAny_execs_cons (aX (h1 pins s σ H {D with nx:=u D} I h) λf s1 q=>?_)
 cases f with
 |next=>
  obtain⟨σ',H',I',q⟩:=q;exact h2 pins s1 σ' H' D I' q
 |ret v=>exact q
 |brk=>exact q
 |cont=>exact q
def aw(h1:PS X st t):gy X [st] t:=by
 intro pins s σ H D I h;refine wpAny_execs_cons (aX (h1 pins s σ H D I h) λf s1 q=>?_);cases f with
 |next=>exact sP q
 |ret v=>exact q
 |brk=>exact q
 |cont=>exact q
def Inv.quiet{pins:List (ae×Obj)}{σ:St}{H:Hp}{s:aq}(I:Inv X pins σ H s):interactive X.env=false:=by simp[interactive,I.ok.kind]
def QX(te:TE):TS:=λD σ H=>te σ H λ_ H1=>D.nx σ H1
def bK(he:PE X e te)(hs:qI e none pos.line X.env=pure false:=by rfl):PS X (.Expr e pos) (QX te):=by
 intro pins s σ H D I h;exact wpAny_Expr_any (aX (he pins s σ H _ I h) λv s1 ⟨x,H1,I1,r1,q1⟩=>⟨σ,H1,I1,q1⟩) I.quiet hs
def JO(te:TE):TS:=λD σ H=>te σ H D.rt
def bh(he:PE X e te):PS X (.Return (some e) pos) (JO te):=by
 intro pins s σ H D I h;exact wpAny_Return_some (aX (he pins s σ H _ I h) λv s1 ⟨x,H1,I1,r1,q1⟩=>⟨x,σ,H1,I1,r1,q1⟩)
def QY:TS:=λD _ H=>D.rt .aM H
def JP:PS X (.Return none pos) QY:=λ_ _ σ H _ I h=>wpAny_Return_none ⟨.aM,σ,H,I,rfl,h⟩
def QZ(c:TT)(t u:TS):TS:=λD σ H=>c σ H λb H1=>if b=true then t D σ H1 else u D σ H1
def bZ{c:bj}{a b:List cD}{tc:TT}(hc:PT X c tc)(ha:gy X a t)(hb:gy X b u):PS X (.If c a b pos) (QZ tc t u):=by
 intro pins s σ H D I h;refine wpAny_If (aX (hc pins s σ H _ I h) λd s1 ⟨H1,I1,q1⟩=>?_);cases d with
 |true=>exact ha pins s1 σ H1 D I1 q1
 |false=>exact hb pins s1 σ H1 D I1 q1
def Q0:TS:=λ_ _ _=>False
def JQ{Q1:List cD}:gy X Q1 Q0:=λ_ _ _ _ _ _ h=>h.elim
end
abbrev TG:=V->St->Hp->(St->Hp->Prop)->Prop
def PG(X:Cx)(target:bj)(t:TG):Prop:=
 ∀(pins:List (ae×Obj)) (s:aq) (σ:St) (H:Hp) (v:V) (u:ai) (Q:St->Hp->Prop),Inv X pins σ H s->b7 v u->t v σ H Q->
  aU (model X.prog X.w) X.A (assign target X.env u) (λ_ s'=>∃σ' H',Inv X pins σ' H' s'/\Q σ' H') X.xe s
abbrev Co:=V->V->V->Hp->(Hp->Prop)->Prop
def JR(X:Cx)(t:Co):Prop:=
 ∀(pins:List (ae×Obj)) (s:aq) (σ:St) (H:Hp) (o i v:V) (ov iv u:ai) (Q:Hp->Prop),Inv X pins σ H s->b7 o ov->b7 i iv->b7 v u->t o i v H Q->
  aU (model X.prog X.w) X.A (setItem ov iv u) (λ_ s'=>∃H',Inv X pins σ H' s'/\Q H') X.xe s
section
variable{X:Cx}{pos:Pos}
def tO(i:Nat):TG:=λv σ H Q=>Q (σ.set i (some v)) H
def Q2{i:Nat}{x:Str}(hN:X.N.Nodup)(hi:X.N[i]? =some x)(hx:Loc X.env.scope x)(hf:X.fn x=true\/X.env.scope.names.lookup x=some .local:=by first|exact .inl rfl|exact .inr rfl|assumption):PG X (.Name x pos) (tO i):=by
 intro pins s σ H v u Q I r h;exact wpAny_assign_Name (Ck I hN hi hx r (λs' I'=>⟨_,H,I',h⟩) hf)
def Q3(to ti:TE)(t:Co):TG:=λv σ H Q=>to σ H λo H1=>ti σ H1 λi H2=>t o i v H2 λH3=>Q σ H3
def jD{o i:bj}{to ti:TE}{t:Co}(ho:PE X o to)(hi:PE X i ti)(hs:JR X t)
 (ha:∀v,assign (.Subscript o i pos) X.env v=(do
   let ov <-holding [v] (eval o X.env)
   let iv <-holding [v,ov] (eval i X.env)
   standAt pos
   holding [v,ov,iv] (setItem ov iv v)
   release [v,ov,iv] []):=by intro _;rfl):PG X (.Subscript o i pos) (Q3 to ti t):=by
 intro pins s σ H v u Q I r h;rw[ha];refine cg (IL (aX (ho pins s σ H _ I h) λov s1 ⟨x,H1,I1,r1,q1⟩=>?_));refine cg (IL (aX (hi pins s1 σ H1 _ I1 q1) λiv s2 ⟨y,H2,I2,r2,q2⟩=>?_));refine cg (BJ (cg (IL (aX (hs pins s2 σ H2 x y v ov iv u _ I2 r1 r2 r q2) λ_ s3 ⟨H3,I3,q3⟩=>?_))));exact wpAny_release ⟨σ,H3,I3,q3⟩
def yB(te:TE)(g:TG):TS:=λD σ H=>te σ H λx H1=>g x σ H1 D.nx
def jE{tg e:bj}{te:TE}{g:TG}(he:PE X e te)(hg:PG X tg g)(hs:swapsWithSole [tg] e pos.line X.env=pure false:=by rfl)(hw:swappedStores [tg] e X.env=pure none:=by rfl)
 (h1:(assignEach [tg] X.env).map (·.2)=[assign tg X.env]:=by rfl):PS X (.Assign [tg] e pos) (yB te g):=by
 intro pins s σ H D I h;refine wpAny_Assign_stores (aX (he pins s σ H _ I h) λv s1 ⟨x,H1,I1,r1,q1⟩=>?_) hs hw;rw[h1];exact aX (hg pins s1 σ H1 x v _ I1 r1 q1) λ_ s2 q=>q
def JS{i:Nat}{x:Str}{e:bj}{te:TE}{pos':Pos}(hN:X.N.Nodup)(hi:X.N[i]? =some x)(hx:Loc X.env.scope x)(he:PE X e te)(hs:qI e (some (.Name x pos')) pos.line X.env=pure false:=by rfl)(hf:X.fn x=true\/X.env.scope.names.lookup x=some .local:=by first|exact .inl rfl|exact .inr rfl|assumption):
 PS X (.Assign [.Name x pos'] e pos) (yB te (tO i)):=by
 intro pins s σ H D I h;refine wpAny_Assign_Name (aX (he pins s σ H _ I h) λv s1 ⟨y,H1,I1,r1,q1⟩=>?_) hs;exact Ck I1 hN hi hx r1 (λs2 I2=>⟨_,H1,I2,q1⟩) hf
def JT(c:TT)(tb:TS):TS:=λD σ H=>∃W:Nat->St->Hp->Prop,(∃m,W m σ H)/\ ∀m σ H,W m σ H->
 c σ H λb H1=>if b=true then∃N:St->Hp->Prop,(∀σ' H',N σ' H'->∃m',m'<m/\W m' σ' H')/\tb {D with nx:=N,ct:=N,bk:=D.nx} σ H1 else D.nx σ H1
def yC{c:bj}{body:List cD}{tc:TT}{tb:TS}(hp:PassesOwn (model X.prog X.w) X.A X.env X.xe)(hc:PT X c tc)(hb:gy X body tb):PS X (.While c body [] pos) (JT tc tb):=by
 intro pins s σ H D I h;obtain⟨W,⟨m0,w0⟩,turn⟩:=h;refine wpAny_While (codeAny_whileLoop (λn s'=>∃σ' H',Inv X pins σ' H' s'/\W n σ' H') ?_ m0 ⟨σ,H,I,w0⟩);rintro n s1 ⟨σ1,H1,I1,w1⟩;refine uX hp (aX (hc pins s1 σ1 H1 _ I1 (turn n σ1 H1 w1)) λb s2 ⟨H2,I2,q2⟩=>?_);cases b with
 |true=>
  obtain⟨N,hN,q2⟩:=q2;rw[if_pos rfl];refine uX hp (aX (hb pins s2 σ1 H2 _ I2 q2) λf s3 q3=>?_);cases f with
  |next=>
   obtain⟨σ3,H3,I3,n3⟩:=q3;obtain⟨m',hm,w3⟩:=hN σ3 H3 n3;exact⟨m',hm,σ3,H3,I3,w3⟩
  |cont=>
   obtain⟨σ3,H3,I3,n3⟩:=q3;obtain⟨m',hm,w3⟩:=hN σ3 H3 n3;exact⟨m',hm,σ3,H3,I3,w3⟩
  |brk=>exact q3
  |ret v=>exact q3
 |false=>
  rw[if_neg cW];exact sP ⟨σ1,H2,I2,q2⟩
end
structure It where
 go:Nat->Hp->Prop
 oM:Nat->Hp->V->Hp->Prop
 stop:Nat->Hp->Prop
def lF(X:Cx)(pins:List (ae×Obj))(H:Hp)(b:ae):Prop:=
 H b=none/\b≠X.env.locals/\b∉X.fs/\ (b∈X.ex\/X.dC.heap.objs.size<=b)/\ (∀x c,X.env.cells.lookup x=some c->c≠b)/\ ∀p∈X.pn++pins,p.1≠b
def Inv.yD{X:Cx}{pins:List (ae×Obj)}{σ:St}{H H':Hp}{s:aq}{b:ae}(I:Inv X pins σ H s)(hb:s.heap.objs.size<=b)(hn:H' b=none):lF X pins H' b:=by
 refine⟨hn,IM (eC I.lt hb),I.JE hb,.inr (dy I.sz hb),λx c e z=>?_,λp hp z=>?_⟩
 ·obtain⟨v,q⟩:=I.cell x c e;exact absurd (eC q.lt (by rw[z];exact hb)) (iK _)
 ·exact absurd (eC (cY (I.pin p hp).1) (by rw[z];exact hb)) (iK _)
structure Turn(P:bQ)(w:bB)(K:aI)(tg:bj)(J:It)(fp:List ae)(it:ae)(tn:Nat->aR->Prop):Prop where
 mem:it∈fp
 obj:∀i h,tn i h->∀b∈fp,∃o,h.get? b=some o/\ ∀v,o.data≠ .cell v
 keep:∀i h h',tn i h->(∀b∈fp,∀o,h.get? b=some o->h'.get? b=some o)->tn i h'
 item:∀(X:Cx),X.prog=P->X.w=w->X.K=K->X.calm=true->∀(i:Nat) (pins:List (ae×Obj)) (s:aq) (σ:St) (H:Hp) (E:ai->aq->Prop),Inv X pins σ H s->(∀b∈fp,lF X pins H b)->tn i s.heap->J.go i H->
  aU (model P w) X.A (pyNext (.ref it)) (λr s1=>∃u,r=some u/\
   aU (model P w) X.A (IP tg (.ref it) u) (λ_ s2=>∃x H',Inv X pins σ H' s2/\b7 x u/\J.oM i H x H'/\tn (i+1) s2.heap/\ ∀b∈fp,H' b=none) E s1) E s
 done:∀(X:Cx),X.prog=P->X.w=w->X.K=K->X.calm=true->∀(i:Nat) (pins:List (ae×Obj)) (s:aq) (σ:St) (H:Hp) (E:ai->aq->Prop),Inv X pins σ H s->(∀b∈fp,lF X pins H b)->tn i s.heap->J.stop i H->
  aU (model P w) X.A (pyNext (.ref it)) (λr s1=>r=none/\Inv X pins σ H s1) E s
 self:∀(A:cQ) (i:Nat) (s:aq) (Q:ai->aq->Prop) (E:ai->aq->Prop),tn i s.heap->Q (.ref it) s->aU (model P w) A (pyIter (.ref it)) Q E s
abbrev TI:=St->Hp->(It->Hp->Prop)->Prop
def Cp(X:Cx)(pins:List (ae×Obj))(σ:St)(tg:bj)(R:It->Hp->Prop)(yE:ai)(s2:aq):Prop:=
 ∃(it:ae) (fp:List ae) (tn:Nat->aR->Prop) (J:It) (H':Hp),yE=.ref it/\Inv X pins σ H' s2/\Turn X.prog X.w X.K tg J fp it tn/\tn 0 s2.heap/\ (∀b∈fp,lF X pins H' b)/\R J H'
def PI(X:Cx)(tg iter:bj)(wi:TI):Prop:=
 ∀(pins:List (ae×Obj)) (s:aq) (σ:St) (H:Hp) (R:It->Hp->Prop),Inv X pins σ H s->wi σ H R->
  aU (model X.prog X.w) X.A (eval iter X.env) (λv s1=>aU (model X.prog X.w) X.A (pyIter v) (Cp X pins σ tg R) X.xe s1) X.xe s
def Cq{M:Model}{A:cQ}{E:ai->aq->Prop}{s:aq}{tg:bj}{it:ae}{u:ai}{o:Obj}{n:String}{vs:Array ai}{Q:Unit->aq->Prop}(ho:s.heap.get? it=some o)(hc:o.cls=.type n)(hd:o.data=.fields vs)
 (hn:["enumerate","zip","dict_itemiterator","dict_reverseitemiterator","odict_iterator","itertools.zip_longest","itertools.pairwise"].contains n=false) (hQ:Q () s):aU M A (IP tg (.ref it) u) Q E s:=by
 unfold IP;cases tg<;>first
  |exact gc hQ
  |(cases u<;>first
     |exact gc hQ
     |(refine cg (wpAny_load ho ?_)
       rw[hc,hd];show aU M A (if(["enumerate","zip","dict_itemiterator","dict_reverseitemiterator","odict_iterator","itertools.zip_longest","itertools.pairwise"].contains n&&vs[0]? ==some (gG _))=true then _ else _) Q E s
       rw[if_neg (by intro h;rw[hn,Bool.false_and] at h;exact ft h)]
       exact gc hQ))
def pY(K:aI)(a:ae):It:=
 ⟨λi H=>∃xs x,aF K H a xs/\xs[i]? =some x,λi H x H'=>H'=H/\ ∀xs,aF K H a xs->xs[i]? =some x,λi H=>∃xs,aF K H a xs/\xs.length<=i⟩
def oN(lo:Int)(n:Nat):It:=⟨λi _=>i<n,λi H x H'=>H'=H/\x=.int (lo+i),λi _=>n<=i⟩
def Q4{P:bQ}{w:bB}{K:aI}{tg:bj}(a it:ae):Turn P w K tg (pY K a) [it] it (λi h=>h.IsListIter it a i) where
 mem:=by simp
 obj:=λi h st b hb=>by
  have e:b=it:=by simpa using hb
  subst e;obtain⟨o,e,c,d⟩:=st;exact⟨o,e,λv z=>by rw[d] at z;cases z⟩
 keep:=λi h h' st k=>st.at λo e=>k it (by simp) o e
 item:=by
  intro X hP hw hK hc i pins s σ H E I hf st hg;subst hP hw hK;obtain⟨xs,x,hq,hx⟩:=hg;obtain⟨aE,rv,p,hz⟩:=I.list hq;obtain⟨u,hu,ru⟩:=rv.get hx;obtain⟨f0,f1,f2,f3,f4,f5⟩:=hf it (by simp)
  refine wpAny_pyNext_list_item st p.isList (x:=u) (by simpa using hu) λh' pZ sb=>?_
  have I1:Inv X pins σ H {s with heap:=h'}:=I.turned (t':=s.toks) (λb o hb e=>(sb.2 b hb).trans e) f0 f1 f3 f4 f5
  obtain⟨o,e,c,d⟩:=id pZ;exact⟨u,rfl,Cq (s:={s with heap:=h'}) e c d (by decide) ⟨x,H,I1,ru,⟨rfl,λys hy=>by rw[I.QV hy hq];exact hx⟩,pZ,λb hb=>(hf b hb).1⟩⟩
 done:=by
  intro X hP hw hK hc i pins s σ H E I hf st hg;subst hP hw hK;obtain⟨xs,hq,hx⟩:=hg;obtain⟨aE,rv,p,hz⟩:=I.list hq;obtain⟨f0,f1,f2,f3,f4,f5⟩:=hf it (by simp)
  have hl:=rv.length;exact wpAny_pyNext_list_end (I.ok.hd hc) st p.isList (by simp;lia) λh' eb=>⟨rfl,I.turned (t':=s.toks) (λb o hb e=>eb b o hb e) f0 f1 f3 f4 f5⟩
 self:=λ_ _ _ _ _ st h=>wpAny_pyIter_listiter st h
def Q5{P:bQ}{w:bB}{K:aI}{tg:bj}(it:ae)(lo:Int)(n:Nat):Turn P w K tg (oN lo n) [it] it (λi h=>IsRangeIter h it (lo+(i:Nat)*1) ((n:Int)-(i:Nat)) 1) where
 mem:=by simp
 obj:=λi h st b hb=>by
  have e:b=it:=by simpa using hb
  subst e;exact⟨_,st,λv z=>by
   have z':Data.fields _=Data.cell v:=z;cases z'⟩
 keep:=λi h h' st k=>k it (by simp) _ st
 item:=by
  intro X hP hw hK hc i pins s σ H E I hf st hg;subst hP hw hK;obtain⟨f0,f1,f2,f3,f4,f5⟩:=hf it (by simp)
  have W:=Walks.range (prog:=X.prog) (w:=X.w) (I.ok.hd hc) it lo 1 n;refine W.item i s _ _ hg st λv h' tk hv pZ kk=>?_;obtain⟨t,rfl⟩:=hv;have I1:Inv X pins σ H {s with heap:=h',toks:=tk}:=I.turned (λb o hb e=>kk b o (by simpa using hb) e) f0 f1 f3 f4 f5
  refine⟨_,rfl,Cq (s:={s with heap:=h',toks:=tk}) (n:="range_iterator") pZ rfl rfl (by decide) ⟨.int (lo+i),H,I1,⟨t,?_⟩,⟨rfl,rfl⟩,pZ,λb hb=>(hf b hb).1⟩⟩
  rw[Int.mul_one]
 done:=by
  intro X hP hw hK hc i pins s σ H E I hf st hg;subst hP hw hK;obtain⟨f0,f1,f2,f3,f4,f5⟩:=hf it (by simp)
  exact wpAny_pyNext_range_end (I.ok.hd hc) st (by have:n<=i:=hg;lia) λh' eb=>⟨rfl,I.turned (t':=s.toks) (λb o hb e=>eb b o hb e) f0 f1 f3 f4 f5⟩
 self:=λ_ _ _ _ _ st h=>wpAny_pyIter_rangeiter st h
section
variable{X:Cx}{tg:bj}
inductive Q6(K:aI)(R:It->Hp->Prop)(x:V)(H1:Hp):Prop
 |mk (a:_) (_:x=.ref a) (_:(∃xs,aF K H1 a xs)) (_:R (pY K a) H1)
def Q7(K:aI)(tl:TE):TI:=λσ H R=>tl σ H λx H1=>Q6 K R x H1
def g8{l:bj}{tl:TE}(hl:PE X l tl):PI X tg l (Q7 X.K tl):=by
 intro pins s σ H R I h;refine aX (hl pins s σ H _ I h) λv s1 ⟨x,H1,I1,r1,q1⟩=>?_;obtain⟨a,e,⟨xs,hq⟩,q⟩:=q1;subst e;cases r1;obtain⟨aE,rv,p,hz⟩:=I1.list hq;refine wpAny_pyIter_list p.isList ?_;refine⟨s1.heap.objs.size,[s1.heap.objs.size],_,_,H1,rfl,I1.kept (t':=s1.toks) λb o e=>eR _ e,Q4 a _,⟨_,iM _ rfl,rfl,rfl⟩,λb hb=>?_,q⟩;have e:b=s1.heap.objs.size:=by simpa using hb
 subst e;exact I1.yD (bz _) (I1.aQ.fresh (bz _))
def Q8{pins:List (ae×Obj)}{σ:St}{H:Hp}{s:aq}{R:It->Hp->Prop}{E:ai->aq->Prop}{lo hi:Int}{t u v:Tok}{tk:Nat}(I:Inv X pins σ H s)(h1: -(2^62)<=lo)(h2:lo<2^62)(h3: -(2^62)<=hi)(h4:hi<2^62)
 (q:R (oN lo (hi-lo).toNat) H):aU (model X.prog X.w) X.A (pyIter (.ref s.heap.objs.size)) (Cp X pins σ tg R) E {s with heap:=s.heap.push {cls:=.type "range",data:=.fields #[.int lo t,.int hi u,.int 1 v]},toks:=tk}:=by
 refine wpAny_pyIter_range (IsRange.new ..) (small_one h1 h2 h3 h4) ?_;have I1:Inv X pins σ H {s with heap:=s.heap.push {cls:=.type "range",data:=.fields #[.int lo t,.int hi u,.int 1 v]},toks:=tk}:=I.kept λb o e=>eR _ e
 refine⟨(s.heap.push {cls:=.type "range",data:=.fields #[.int lo t,.int hi u,.int 1 v]}).objs.size,[(s.heap.push {cls:=.type "range",data:=.fields #[.int lo t,.int hi u,.int 1 v]}).objs.size],_,_,H,rfl,
  I1.kept (t':=tk) λb o e=>eR _ e,Q5 _ lo (hi-lo).toNat,?_,λb hb=>?_,q⟩
 ·have e1:lo+((0:Nat):Int)*1=lo:=by simp
  have e2:(((hi-lo).toNat:Nat):Int)-((0:Nat):Int)=af3 lo hi 1:=by rw[rangeSize_one];split<;>lia
  show IsRangeIter _ _ (lo+((0:Nat):Int)*1) ((((hi-lo).toNat:Nat):Int)-((0:Nat):Int)) 1;rw[e1,e2];exact iM _ rfl
 ·have e:b=(s.heap.push {cls:=.type "range",data:=.fields #[.int lo t,.int hi u,.int 1 v]}).objs.size:=by simpa using hb
  subst e;exact I1.yD (bz _) (I1.aQ.fresh (bz _))
inductive Q9(R:It->Hp->Prop)(vs:List V)(H1:Hp):Prop
 |mk (j:Int) (_:vs=[.int j]) (_: -(2^62)<=j) (_:j<2^62) (_:R (oN 0 j.toNat) H1)
def Q_(ta:TA):TI:=λσ H R=>ta σ H λvs H1=>Q9 R vs H1
def vo{a:bj}{ta:TA}{p pos:Pos}(hg:Gl X "range")(hm:X.mg "range"=none)(ha:PA X [a] ta)(hs:cG [a] X.env=[(false,eval a X.env)]:=by rfl):PI X tg (.Call (.Name "range" p) [a] [] pos) (Q_ ta):=by
 intro pins s σ H R I h;refine Call_ (yx I hg hm boot_range (Pz (aX (ha pos pins s σ H _ I h) λus s1 ⟨vs,H1,I1,r1,q1⟩=>?_) hs rfl));obtain⟨j,e,q1,q2,q⟩:=q1;subst e;cases r1 with
 |cons r rr=>
  cases rr;obtain⟨t,rfl⟩:=r;exact call_range_1 (Q8 I1 (by lia) (by lia) q1 q2 (by simpa using q))
def JU(wi:TI)(g:TG)(tb:TS):TS:=λD σ H=>wi σ H λJ H1=>∃W:Nat->Nat->St->Hp->Prop,(∃m,W 0 m σ H1)/\ ∀i m σ H,W i m σ H->
 (J.stop i H/\D.nx σ H)\/(J.go i H/\ ∃N:St->Hp->Prop,(∀σ' H',N σ' H'->∃m',m'<m/\W (i+1) m' σ' H')/\ ∀x H',J.oM i H x H'->g x σ H' λσ2 H2=>tb {D with nx:=N,ct:=N,bk:=D.nx} σ2 H2)
def p9(fp:List ae)(h:aR):List (ae×Obj):=fp.filterMap λb=>(h.get? b).map λo=>(b,o)
def vp{fp:List ae}{h:aR}{b:ae}{o:Obj}(hb:b∈fp)(e:h.get? b=some o):(b,o)∈p9 fp h:=List.mem_filterMap.mpr ⟨b,hb,by rw[e];rfl⟩
def Rb{fp:List ae}{h:aR}{p:ae×Obj}(hp:p∈p9 fp h):p.1∈fp/\h.get? p.1=some p.2:=by
 obtain⟨b,hb,e⟩:=List.mem_filterMap.mp hp;cases q:h.get? b with
 |none=>rw[q] at e;cases e
 |some o=>
  rw[q] at e;have e':(b,o)=p:=aZ e;subst e';exact⟨hb,q⟩
def Inv.pinned{pins:List (ae×Obj)}{σ:St}{H:Hp}{s:aq}{fp:List ae}(I:Inv X pins σ H s)(hf:∀b∈fp,lF X pins H b)(ho:∀b∈fp,∃o,s.heap.get? b=some o/\ ∀v,o.data≠ .cell v):Inv X (pins++p9 fp s.heap) σ H s:=
 I.JG λp hp=>(gO.mp hp).elim (λz=>I.pin p (mY _ z)) λz=>by
  obtain⟨hb,e⟩:=Rb z;obtain⟨f0,f1,f2,_⟩:=hf p.1 hb;obtain⟨o,e',d⟩:=ho p.1 hb;rw[e] at e';obtain rfl:=aZ e';exact⟨e,f0,f1,f2,d⟩
def Inv.q0{pins pl:List (ae×Obj)}{σ:St}{H:Hp}{s:aq}(I:Inv X (pins++pl) σ H s):Inv X pins σ H s:=I.JG λp hp=>I.pin p (mY _ (IK _ hp))
def lG{iter:bj}{body:List cD}{wi:TI}{g:TG}{tb:TS}{pos:Pos}(hp:PassesOwn (model X.prog X.w) X.A X.env X.xe)(hc:X.calm=true)(hi:PI X tg iter wi)(hg:PG X tg g)(hb:gy X body tb)
 (hs:∀x,BK iter X.env x=pure x:=by intro _;rfl):PS X (.For tg iter body [] pos) (JU wi g tb):=by
 intro pins s σ H D I h;refine wpAny_For (aX (hi pins s σ H _ I h) λv s1 h1=>aX h1 λyE s2 h2=>?_) hs;obtain⟨it,fp,tn,J,H2,e,I2,T,tP,f2,W,⟨m0,w0⟩,turn⟩:=h2;subst e;have lH:∀{H':Hp},(∀b∈fp,H' b=none)->∀b∈fp,lF X pins H' b:=λhn b hb=>⟨hn b hb,(f2 b hb).2⟩;refine codeAny_forLoop_any (λn s'=>∃i σ' H',Inv X pins σ' H' s'/\tn i s'.heap/\ (∀b∈fp,H' b=none)/\W i n σ' H') ?_ m0 ⟨0,σ,H2,I2,tP,λb hb=>(f2 b hb).1,w0⟩;rintro n s3 ⟨i,σ3,H3,I3,q_,vq,w3⟩;rcases turn i n σ3 H3 w3 with⟨stop,qn⟩|⟨go,N,hN,step⟩
 ·refine uX hp (aX (T.done X rfl rfl rfl hc i pins s3 σ3 H3 X.xe I3 (lH vq) q_ stop) λr s4 ⟨hr,I4⟩=>?_);subst hr;exact sP ⟨σ3,H3,I4,qn⟩
 ·refine uX hp (aX (T.item X rfl rfl rfl hc i pins s3 σ3 H3 X.xe I3 (lH vq) q_ go) λr s4 ⟨u,hr,h4⟩=>?_);subst hr;refine uX hp (aX h4 λ_ s5 ⟨x,H5,I5,r5,y5,nI,Cr⟩=>?_);have Cs:=I5.pinned (lH Cr) (T.obj _ _ nI);refine uX hp (aX (hg _ s5 σ3 H5 x u _ Cs r5 (step x H5 y5)) λ_ s6 ⟨σ6,H6,I6,q6⟩=>?_);refine uX hp (aX (hb _ s6 σ6 H6 _ I6 q6) λf s7 q7=>?_);have again:∀{σ7:St} {H7:Hp},Inv X (pins++p9 fp s5.heap) σ7 H7 s7->N σ7 H7->∃m,m<n/\ ∃i σ' H',Inv X pins σ' H' s7/\tn i s7.heap/\ (∀b∈fp,H' b=none)/\W i m σ' H':=λ{σ7 H7} I7 n7=>by
   obtain⟨m',hm,w7⟩:=hN σ7 H7 n7;refine⟨m',hm,i+1,σ7,H7,I7.q0,T.keep _ _ _ nI λb hb o e=>(I7.pin (b,o) (mY _ (mY _ (vp hb e)))).1,λb hb=>?_,w7⟩;obtain⟨o,e,d⟩:=T.obj _ _ nI b hb;exact(I7.pin (b,o) (mY _ (mY _ (vp hb e)))).2.1
  cases f with
  |next=>obtain⟨σ7,H7,I7,n7⟩:=q7;exact again I7 n7
  |cont=>obtain⟨σ7,H7,I7,n7⟩:=q7;exact again I7 n7
  |brk=>obtain⟨σ7,H7,I7,q7⟩:=q7;exact⟨σ7,H7,I7.q0,q7⟩
  |ret v=>obtain⟨x7,σ7,H7,I7,r7,q7⟩:=q7;exact⟨x7,σ7,H7,I7.q0,r7,q7⟩
end
def lI{K:aI}{a:ae}{xs:List V}{g:TG}{tb:TS}{D:Ends}{σ:St}{H:Hp}(Pv:Nat->St->Hp->Prop)(h0:Pv 0 σ H)(hl:∀i σ H,i<=xs.length->Pv i σ H->aF K H a xs)
 (hs:∀i x σ H,xs[i]? =some x->Pv i σ H->g x σ H λσ2 H2=>tb {D with nx:=Pv (i+1),ct:=Pv (i+1),bk:=D.nx} σ2 H2) (hd:∀σ H,Pv xs.length σ H->D.nx σ H):
 ∃W:Nat->Nat->St->Hp->Prop,(∃m,W 0 m σ H)/\ ∀i m σ H,W i m σ H->
  ((pY K a).stop i H/\D.nx σ H)\/((pY K a).go i H/\ ∃N:St->Hp->Prop,(∀σ' H',N σ' H'->∃m',m'<m/\W (i+1) m' σ' H')/\ ∀x H',(pY K a).oM i H x H'->g x σ H' λσ2 H2=>tb {D with nx:=N,ct:=N,bk:=D.nx} σ2 H2):=by
 refine⟨λi m σ H=>m=xs.length-i/\i<=xs.length/\Pv i σ H,⟨xs.length,by simp,eX _,h0⟩,?_⟩
 rintro i m σ H ⟨rfl,hi,p⟩;have q:=hl i σ H hi p;by_cases dU:i<xs.length
 ·refine .inr ⟨⟨xs,xs[i],q,by simp[dU]⟩,Pv (i+1),λσ' H' p'=>⟨xs.length-(i+1),by lia,rfl,dU,p'⟩,λx H' y=>?_⟩
  obtain⟨e,y⟩:=y;subst e;exact hs i x σ _ (y xs q) p
 ·have e:i=xs.length:=by lia
  subst e;exact .inl ⟨⟨xs,q,bz _⟩,hd σ H p⟩
def Ct{lo:Int}{n:Nat}{g:TG}{tb:TS}{D:Ends}{σ:St}{H:Hp}(Pv:Nat->St->Hp->Prop)(h0:Pv 0 σ H)
 (hs:∀i σ H,i<n->Pv i σ H->g (.int (lo+i)) σ H λσ2 H2=>tb {D with nx:=Pv (i+1),ct:=Pv (i+1),bk:=D.nx} σ2 H2) (hd:∀σ H,Pv n σ H->D.nx σ H):
 ∃W:Nat->Nat->St->Hp->Prop,(∃m,W 0 m σ H)/\ ∀i m σ H,W i m σ H->
  ((oN lo n).stop i H/\D.nx σ H)\/((oN lo n).go i H/\ ∃N:St->Hp->Prop,(∀σ' H',N σ' H'->∃m',m'<m/\W (i+1) m' σ' H')/\ ∀x H',(oN lo n).oM i H x H'->g x σ H' λσ2 H2=>tb {D with nx:=N,ct:=N,bk:=D.nx} σ2 H2):=by
 refine⟨λi m σ H=>m=n-i/\i<=n/\Pv i σ H,⟨n,by simp,eX _,h0⟩,?_⟩
 rintro i m σ H ⟨rfl,hi,p⟩;by_cases dU:i<n
 ·refine .inr ⟨dU,Pv (i+1),λσ' H' p'=>⟨n-(i+1),by lia,rfl,dU,p'⟩,λx H' y=>?_⟩
  obtain⟨e,y⟩:=y;subst e y;exact hs i σ _ dU p
 ·have e:i=n:=by lia
  subst e;exact .inl ⟨bz _,hd σ H p⟩
abbrev R2:=V->V->Hp->VK->Prop
def e_(X:Cx)(f:ai->ai->Sem ai)(r:R2):Prop:=
 ∀(pins:List (ae×Obj)) (s:aq) (σ:St) (H:Hp) (x y:V) (v u:ai) (Q:VK),Inv X pins σ H s->b7 x v->b7 y u->r x y H Q->
  aU (model X.prog X.w) X.A (f v u) (EP X pins σ Q) X.xe s
def Cu(X:Cx)(f:ai->Sem ai)(r:V->Hp->VK->Prop):Prop:=
 ∀(pins:List (ae×Obj)) (s:aq) (σ:St) (H:Hp) (x:V) (v:ai) (Q:VK),Inv X pins σ H s->b7 x v->r x H Q->
  aU (model X.prog X.w) X.A (f v) (EP X pins σ Q) X.xe s
def jF(X:Cx)(f:ai)(r:List V->Hp->VK->Prop):Prop:=
 ∀(pins:List (ae×Obj)) (s:aq) (σ:St) (H:Hp) (xs:List V) (us:List ai) (Q:VK),Inv X pins σ H s->Vals xs us->r xs H Q->
  aU (model X.prog X.w) X.A (call f us) (EP X pins σ Q) X.xe s
def vr(r:R2)(ta tb:TE):TE:=λσ H Q=>ta σ H λx H1=>tb σ H1 λy H2=>r x y H2 Q
def Rc(r:V->Hp->VK->Prop)(ta:TE):TE:=λσ H Q=>ta σ H λx H1=>r x H1 Q
inductive rI(C:Int->Int->Prop)(g:Int->Int->V)(x:V)(y:V)(H:Hp)(Q:VK):Prop
 |mk (i j:_) (_:x=.int i) (_:y=.int j) (_:C i j) (_:Q (g i j) H)
inductive nJ(g:Int->Int->V)(x:V)(y:V)(H:Hp)(Q:VK):Prop
 |mk (i j:_) (_:x=.int i) (_:y=.int j) (_:Q (g i j) H)
inductive rU(g:Int->V)(x:V)(H:Hp)(Q:VK):Prop
 |mk (i:_) (_:x=.int i) (_:Q (g i) H)
section
variable{X:Cx}{a b c:bj}{ta tb tc:TE}{pos:Pos}
def Cv(ha:PE X a ta)(hb:PE X b tb){pins:List (ae×Obj)}{s:aq}{σ:St}{H:Hp}{R:V->V->Hp->Prop}(I:Inv X pins σ H s)
 (h:ta σ H λx H1=>tb σ H1 λy H2=>R x y H2) {Q:ai->aq->Prop} {f:ai->ai->Sem ai}
 (hf:∀v u s2 x y H2,Inv X pins σ H2 s2->b7 x v->b7 y u->R x y H2->aU (model X.prog X.w) X.A (f v u) Q X.xe s2):
 aU (model X.prog X.w) X.A (eval a X.env) (λv s₁=>aU (model X.prog X.w) X.A (eval b X.env) (λu s₂=>aU (model X.prog X.w) X.A (f v u) Q X.xe s₂) X.xe s₁) X.xe s:=by
 refine aX (ha pins s σ H _ I h) λv s1 ⟨x,H1,I1,r1,q1⟩=>?_;refine aX (hb pins s1 σ H1 _ I1 q1) λu s2 ⟨y,H2,I2,r2,q2⟩=>?_;exact hf v u s2 x y H2 I2 r1 r2 q2
def cy{op:Operator}{r:R2}(ho:e_ X (oz op) r)(ha:PE X a ta)(hb:PE X b tb):PE X (.BinOp a op b pos) (vr r ta tb):=by
 intro pins s σ H Q I h;exact wpAny_BinOp (Cv ha hb I h λv u s2 x y H2 I2 rx ry q=>ho pins s2 σ H2 x y v u Q I2 rx ry q)
def Cw{op:UnaryOp}{r:V->Hp->VK->Prop}(ho:Cu X (unaryOp op) r)(ha:PE X a ta):PE X (.UnaryOp op a pos) (Rc r ta):=by
 intro pins s σ H Q I h;exact UnaryOp_ (aX (ha pins s σ H _ I h) λv s1 ⟨x,H1,I1,r1,q1⟩=>ho pins s1 σ H1 x v Q I1 r1 q1)
def Cy{f:ai->ai->Sem ai}{C:Int->Int->Prop}{g:Int->Int->Int}
 (rule:∀(i j:Int) (t u:Tok) (s:aq) (Q:ai->aq->Prop) (E:ai->aq->Prop),C i j->Q (.int (g i j) s.toks) {s with toks:=s.toks+1}->aU (model X.prog X.w) X.A (f (.int i t) (.int j u)) Q E s):
 e_ X f (rI C λi j=>.int (g i j)):=by
 intro pins s σ H x y v u Q I rx ry h;obtain⟨i,j,rfl,rfl,hc,q⟩:=h;obtain⟨t,rfl⟩:=rx;obtain⟨t',rfl⟩:=ry;exact rule i j t t' s _ _ hc ⟨.int (g i j),H,I.tok _,⟨_,rfl⟩,q⟩
def yF{f:ai->ai->Sem ai}{g:Int->Int->Int}
 (rule:∀(i j:Int) (t u:Tok) (s:aq) (Q:ai->aq->Prop) (E:ai->aq->Prop),Q (.int (g i j) s.toks) {s with toks:=s.toks+1}->aU (model X.prog X.w) X.A (f (.int i t) (.int j u)) Q E s):
 e_ X f (nJ λi j=>.int (g i j)):=by
 intro pins s σ H x y v u Q I rx ry h;obtain⟨i,j,rfl,rfl,q⟩:=h;obtain⟨t,rfl⟩:=rx;obtain⟨t',rfl⟩:=ry;exact rule i j t t' s _ _ ⟨.int (g i j),H,I.tok _,⟨_,rfl⟩,q⟩
def yG{f:ai->ai->Sem ai}{g:Int->Int->Bool}
 (rule:∀(i j:Int) (t u:Tok) (s:aq) (Q:ai->aq->Prop) (E:ai->aq->Prop),Q (.bool (g i j)) s->aU (model X.prog X.w) X.A (f (.int i t) (.int j u)) Q E s):
 e_ X f (nJ λi j=>.bl (g i j)):=by
 intro pins s σ H x y v u Q I rx ry h;obtain⟨i,j,rfl,rfl,q⟩:=h;obtain⟨t,rfl⟩:=rx;obtain⟨t',rfl⟩:=ry;exact rule i j t t' s _ _ ⟨.bl (g i j),H,I,rfl,q⟩
def Cz(i j:Int):Prop:=(-(2^64)<i/\i<2^64)\/(-(2^64)<j/\j<2^64)
def Cz.ok{i j:Int}(h:Cz i j):IntMulOk i j:=by
 rcases h with⟨h1,h2⟩|⟨h1,h2⟩
 ·exact .of_left (intBits_le_64 h1 h2)
 ·exact .of_right (intBits_le_64 h1 h2)
def i9:e_ X (oz .Add) (nJ λi j=>.int (i+j)):=yF λ_ _ _ _ _ _ _ q=>add_int q
def p_:e_ X (oz .Sub) (nJ λi j=>.int (i-j)):=yF λ_ _ _ _ _ _ _ q=>sub_int q
def JV:e_ X (oz .Mult) (rI Cz λi j=>.int (i*j)):=Cy λ_ _ _ _ _ _ _ hc q=>mul_int q hc.ok
def Rf:e_ X (oz .Mod) (rI (λ_ j=>j≠0) λi j=>.int (i.fmod j)):=Cy λ_ _ _ _ _ _ _ hc q=>mod_int' hc q
def JW:e_ X (oz .BitAnd) (nJ λi j=>.int (Builtin.bitAnd i j)):=yF λ_ _ _ _ _ _ _ q=>and_int q
def Rh:e_ X (oz .BitOr) (nJ λi j=>.int (Builtin.bitOr i j)):=yF λ_ _ _ _ _ _ _ q=>or_int q
def Ri{f:ai->Sem ai}{g:Int->Int}
 (rule:∀(i:Int) (t:Tok) (s:aq) (Q:ai->aq->Prop) (E:ai->aq->Prop),Q (.int (g i) s.toks) {s with toks:=s.toks+1}->aU (model X.prog X.w) X.A (f (.int i t)) Q E s):
 Cu X f (rU λi=>.int (g i)):=by
 intro pins s σ H x v Q I rx h;obtain⟨i,rfl,q⟩:=h;obtain⟨t,rfl⟩:=rx;exact rule i t s _ _ ⟨.int (g i),H,I.tok _,⟨_,rfl⟩,q⟩
def CA:Cu X (unaryOp .USub) (rU λi=>.int (-i)):=Ri λ_ _ _ _ _ q=>neg_int q
end
def JX:V->V->Bool
 | .aM,.aM=>true| .aM,.int _=>true| .int _,.aM=>true| .aM,.bl _=>true| .bl _,.aM=>true| .aM,.str _=>true| .str _,.aM=>true
 | .int _,.int _=>true| .bl _,.bl _=>true| .str _,.str _=>true| .iP _,.iP _=>true
 | .int _,.str _=>true| .str _,.int _=>true| .bl _,.str _=>true| .str _,.bl _=>true
 |_,_=>false
def Rj:R2:=λx y H Q=>JX x y=true/\Q (.bl (decide (x=y))) H
def Rk:R2:=λx y H Q=>JX x y=true/\Q (.bl (!decide (x=y))) H
def CB{i j:Int}:decide (V.int i=V.int j)=(i==j):=by
 rw[BL];simp
def JY{i j:Bool}:decide (V.bl i=V.bl j)=(i==j):=by
 rw[BL];simp
def JZ{i j:Str}:decide (V.str i=V.str j)=(i==j):=by
 rw[BL];simp
def J0{i j:Array UInt8}:decide (V.iP i=V.iP j)=(i.toList==j.toList):=by
 rw[BL];cases i;cases j;simp
section
variable{X:Cx}{a b c:bj}{ta tb tc:TE}{pos:Pos}
def eF{pins:List (ae×Obj)}{σ:St}{H:Hp}{s:aq}{Q:VK}{k k':Bool}(I:Inv X pins σ H s)(q:Q (.bl k) H)(e:k=k'):EP X pins σ Q (.bool k') s:=by
 subst e;exact⟨.bl k,H,I,rfl,q⟩
def fT:e_ X (kE .Eq) Rj:=by
 intro pins s σ H x y v u Q I rx ry h;obtain⟨hs,q⟩:=h;cases x with
 |aM=>
  cases rx;cases y with
  |aM=>cases ry;exact PySem.EqNone.eq_none_none (eF I q (by simp))
  |bl j=>cases ry;exact PySem.EqNone.eq_none_bool (eF I q (by simp))
  |int j=>obtain⟨t',rfl⟩:=ry;exact PySem.EqNone.eq_none_int (eF I q (by simp))
  |str j=>obtain⟨t',rfl⟩:=ry;exact PySem.EqNone.eq_none_str (eF I q (by simp))
  |_=>exact absurd (show false=true from hs) cW
 |bl i=>
  cases rx;cases y with
  |aM=>cases ry;exact PySem.EqNone.eq_bool_none (eF I q (by simp))
  |bl j=>cases ry;exact eq_bool (eF I q JY)
  |str j=>obtain⟨t',rfl⟩:=ry;exact PySem.EqMixed.eq_bool_str (eF I q (by simp))
  |_=>exact absurd (show false=true from hs) cW
 |int i=>
  obtain⟨t,rfl⟩:=rx;cases y with
  |aM=>cases ry;exact PySem.EqNone.eq_int_none (eF I q (by simp))
  |int j=>obtain⟨t',rfl⟩:=ry;exact eq_int (eF I q CB)
  |str j=>obtain⟨t',rfl⟩:=ry;exact PySem.EqMixed.eq_int_str (eF I q (by simp))
  |_=>exact absurd (show false=true from hs) cW
 |str i=>
  obtain⟨t,rfl⟩:=rx;cases y with
  |aM=>cases ry;exact PySem.EqNone.eq_str_none (eF I q (by simp))
  |bl j=>cases ry;exact PySem.EqMixed.eq_str_bool (eF I q (by simp))
  |int j=>obtain⟨t',rfl⟩:=ry;exact PySem.EqMixed.eq_str_int (eF I q (by simp))
  |str j=>obtain⟨t',rfl⟩:=ry;exact eq_str (eF I q JZ)
  |_=>exact absurd (show false=true from hs) cW
 |iP i=>
  obtain⟨t,rfl⟩:=rx;cases y with
  |iP j=>obtain⟨t',rfl⟩:=ry;exact PySem.W.eq_bytes (eF I q J0)
  |_=>exact absurd (show false=true from hs) cW
 |_=>cases y<;>exact absurd (show false=true from hs) cW
def jk:e_ X (kE .NotEq) Rk:=by
 intro pins s σ H x y v u Q I rx ry h;obtain⟨hs,q⟩:=h;cases x with
 |aM=>
  cases rx;cases y with
  |aM=>cases ry;exact PySem.EqNone.ne_none_none (eF I q (by simp))
  |bl j=>cases ry;exact PySem.EqNone.ne_none_bool (eF I q (by simp))
  |int j=>obtain⟨t',rfl⟩:=ry;exact PySem.EqNone.ne_none_int (eF I q (by simp))
  |str j=>obtain⟨t',rfl⟩:=ry;exact PySem.EqNone.ne_none_str (eF I q (by simp))
  |_=>exact absurd (show false=true from hs) cW
 |bl i=>
  cases rx;cases y with
  |aM=>cases ry;exact PySem.EqNone.ne_bool_none (eF I q (by simp))
  |bl j=>cases ry;exact ne_bool (eF I q (congrArg not JY))
  |str j=>obtain⟨t',rfl⟩:=ry;exact PySem.EqMixed.ne_bool_str (eF I q (by simp))
  |_=>exact absurd (show false=true from hs) cW
 |int i=>
  obtain⟨t,rfl⟩:=rx;cases y with
  |aM=>cases ry;exact PySem.EqNone.ne_int_none (eF I q (by simp))
  |int j=>obtain⟨t',rfl⟩:=ry;exact ne_int (eF I q (congrArg not CB))
  |str j=>obtain⟨t',rfl⟩:=ry;exact PySem.EqMixed.ne_int_str (eF I q (by simp))
  |_=>exact absurd (show false=true from hs) cW
 |str i=>
  obtain⟨t,rfl⟩:=rx;cases y with
  |aM=>cases ry;exact PySem.EqNone.ne_str_none (eF I q (by simp))
  |bl j=>cases ry;exact PySem.EqMixed.ne_str_bool (eF I q (by simp))
  |int j=>obtain⟨t',rfl⟩:=ry;exact PySem.EqMixed.ne_str_int (eF I q (by simp))
  |str j=>obtain⟨t',rfl⟩:=ry;exact ne_str (eF I q (congrArg not JZ))
  |_=>exact absurd (show false=true from hs) cW
 |iP i=>
  obtain⟨t,rfl⟩:=rx;cases y with
  |iP j=>obtain⟨t',rfl⟩:=ry;exact PySem.W.ne_bytes (eF I q (congrArg not J0))
  |_=>exact absurd (show false=true from hs) cW
 |_=>cases y<;>exact absurd (show false=true from hs) cW
def gz:e_ X (kE .Lt) (nJ λi j=>.bl (decide (i<j))):=yG λ_ _ _ _ _ _ _ q=>lt_int q
def iQ:e_ X (kE .LtE) (nJ λi j=>.bl (decide (i<=j))):=yG λ_ _ _ _ _ _ _ q=>le_int q
def lJ:e_ X (kE .Gt) (nJ λi j=>.bl (decide (j<i))):=yG λ_ _ _ _ _ _ _ q=>gt_int q
def J8:e_ X (kE .GtE) (nJ λi j=>.bl (decide (j<=i))):=yG λ_ _ _ _ _ _ _ q=>ge_int q
def bO(b:bj){op:CmpOp}(h:op≠ .In:=by decide)(h2:op≠ .NotIn:=by decide):sO op b=false:=by
 have e1:(op==CmpOp.In)=false:=by cases op<;>first|rfl|exact absurd rfl h
 have e2:(op==CmpOp.NotIn)=false:=by cases op<;>first|rfl|exact absurd rfl h2
 cases b<;>simp[sO,e1,e2]
def oO{op:CmpOp}{r:R2}(ho:e_ X (kE op) r)(ha:PE X a ta)(hb:PE X b tb)(hm:sO op b=false):PE X (.Compare a [op] [b] pos) (vr r ta tb):=by
 intro pins s σ H Q I h;exact wpAny_Compare1 (Cv ha hb I h λv u s2 x y H2 I2 rx ry q=>ho pins s2 σ H2 x y v u Q I2 rx ry q) hm
inductive Rl(Q:Bool->Hp->Prop)(x:V)(H':Hp):Prop
 |mk (k:_) (_:x=.bl k) (_:Q k H')
def J9(t:TE):TT:=λσ H Q=>t σ H λx H'=>Rl Q x H'
def bV{op:CmpOp}{r:R2}(ho:e_ X (kE op) r)(ha:PE X a ta)(hb:PE X b tb)(hm:sO op b=false):PT X (.Compare a [op] [b] pos) (J9 (vr r ta tb)):=by
 intro pins s σ H Q I h;refine wpAny_isTrue_Compare1 (aX (ha pins s σ H _ I h) λv s1 ⟨x,H1,I1,r1,q1⟩=>aX (hb pins s1 σ H1 _ I1 q1) λu s2 ⟨y,H2,I2,r2,q2⟩=>
  aX (ho pins s2 σ H2 x y v u _ I2 r1 r2 q2) λc s3 ⟨z,H3,I3,r3,k,e,q3⟩=>?_) hm
 subst e;cases r3;exact qH ⟨H3,I3,q3⟩
inductive Rm(r':R2)(tc:TE)(σ:L2.St)(Q:VK)(y:V)(z:V)(H3:Hp):Prop
 |mk (k:_) (_:z=.bl k) (_:(if k=true then tc σ H3 λw' H4=>r' y w' H4 Q else Q (.bl false) H3))
def J_(r r':R2)(ta tb tc:TE):TE:=λσ H Q=>ta σ H λx H1=>tb σ H1 λy H2=>r x y H2 λz H3=>Rm r' tc σ Q y z H3
def yH{op rb:CmpOp}{r r':R2}(ho:e_ X (kE op) r)(jB:e_ X (kE rb) r')(ha:PE X a ta)(hb:PE X b tb)(hc:PE X c tc)
 (hm:lastMarks [op,rb] [b,c]=false:=by with_unfolding_all rfl):PE X (.Compare a [op,rb] [b,c] pos) (J_ r r' ta tb tc):=by
 intro pins s σ H Q I h;refine Compare_chain (aX (ha pins s σ H _ I h) λv s1 ⟨x,H1,I1,r1,q1⟩=>chain_link (aX (hb pins s1 σ H1 _ I1 q1) λu s2 ⟨y,H2,I2,r2,q2⟩=>
  aX (ho pins s2 σ H2 x y v u _ I2 r1 r2 q2) λd s3 ⟨z,H3,I3,r3,k,e,q3⟩=>?_)) hm
 subst e;cases r3;refine qH ?_;cases k with
 |false=>exact ite_ff ⟨.bl false,H3,I3,rfl,q3⟩
 |true=>exact ite_tt (chain_last (aX (hc pins s3 σ H3 _ I3 q3) λw' s4 ⟨z',H4,I4,r4,q4⟩=>jB pins s4 σ H4 y z' u w' Q I4 r2 r4 q4))
def vt{op rb:CmpOp}{r r':R2}(ho:e_ X (kE op) r)(jB:e_ X (kE rb) r')(ha:PE X a ta)(hb:PE X b tb)(hc:PE X c tc)
 (hm:lastMarks [op,rb] [b,c]=false:=by with_unfolding_all rfl):PT X (.Compare a [op,rb] [b,c] pos) (J9 (J_ r r' ta tb tc)):=by
 intro pins s σ H Q I h;refine isTrue_chain (aX (ha pins s σ H _ I h) λv s1 ⟨x,H1,I1,r1,q1⟩=>test_link (aX (hb pins s1 σ H1 _ I1 q1) λu s2 ⟨y,H2,I2,r2,q2⟩=>
  aX (ho pins s2 σ H2 x y v u _ I2 r1 r2 q2) λd s3 ⟨z,H3,I3,r3,k,e,q3⟩=>?_)) hm
 subst e;cases r3;refine qH ?_;cases k with
 |false=>
  obtain⟨k',e',q'⟩:=q3;cases e';exact ite_ff ⟨H3,I3,q'⟩
 |true=>
  refine ite_tt (test_last (aX (hc pins s3 σ H3 _ I3 q3) λw' s4 ⟨z',H4,I4,r4,q4⟩=>aX (jB pins s4 σ H4 y z' u w' _ I4 r2 r4 q4) λd' s5 ⟨z2,H5,I5,r5,k2,e2,q5⟩=>?_));subst e2;cases r5;exact qH ⟨H5,I5,q5⟩
def tQ:(sizeLine:Nat)<2^63:=by rw[aP];decide
def iR:e_ X (oz .Add) (λx y H Q=>∃i j,x=.str i/\y=.str j/\i.length+j.length<=sizeLine/\Q (.str (i++j)) H):=by
 intro pins s σ H x y v u Q I rx ry h;obtain⟨i,j,rfl,rfl,hz,q⟩:=h;obtain⟨t,rfl⟩:=rx;obtain⟨t',rfl⟩:=ry;exact add_str (λt' tk=>⟨.str (i++j),H,I.tok _,⟨_,rfl⟩,q⟩) hz
def vals1{x:V}{us:List ai}(r:Vals [x] us):∃u,us=[u]/\b7 x u:=by
 cases r with
 |cons r1 r2=>cases r2;exact⟨_,rfl,r1⟩
def Ro:jF X (.builtin "abs") (λxs H Q=>∃i,xs=[.int i]/\Q (.int (if i<0 then-i else i)) H):=by
 intro pins s σ H xs us Q I r h;obtain⟨i,rfl,q⟩:=h;obtain⟨u,rfl,t,rfl⟩:=vals1 r;exact call_abs_int λu tk=>⟨.int (if i<0 then-i else i),H,I.tok _,⟨_,rfl⟩,q⟩
def yI:jF X (.type "str") (λxs H Q=>∃i,xs=[.int i]/\i.natAbs.log2<1920/\Q (.str (toString i)) H):=by
 intro pins s σ H xs us Q I r h;obtain⟨i,rfl,hz,q⟩:=h;obtain⟨u,rfl,t,rfl⟩:=vals1 r;exact PySem.P.str_of_int hz ⟨.str _,H,I.tok _,⟨_,rfl⟩,q⟩
def Rp:jF X (.builtin "ord") (λxs H Q=>∃x,xs=[.str x]/\x.length=1/\Q (.int (x.cps.getD 0 0:Nat)) H):=by
 intro pins s σ H xs us Q I r h;obtain⟨x,rfl,hz,q⟩:=h;obtain⟨u,rfl,t,rfl⟩:=vals1 r;exact ord_of_one hz ⟨.int _,H,I.tok _,⟨_,rfl⟩,q⟩
end
structure rh(h:aR)(x dx C:ae)(mA:Str->Option ai):Prop where
 obj:h.get? x=some (sM C dx)
 ns:h.Ns1 dx mA
 ne:dx≠x
def Rq{h:aR}{dx:ae}{mA:Str->Option ai}(n:h.Ns1 dx mA):∃od,h.get? dx=some od/\ ∀name,IS name od=some (mA name):=by
 obtain⟨o,es,ep,ho,hd,hk,_,hm⟩:=n;refine⟨o,ho,λname=>?_⟩;have e:=hm name;unfold nsFind findBy at e;rw[<-Array.find?_toList] at e;unfold IS;rw[hd];dsimp only
 split
 ·rename_i y q;rw[q] at e;exact congrArg some e
 ·rename_i q;rw[q] at e;have a:es.toList.any (·.refKey)=false:=by
   rw[List.any_eq_false];intro y hy;obtain⟨z,t,Rt⟩:=hk y (Array.mem_toList_iff.mp hy);simp[ye.refKey,Rt]
  have a': ¬es.toList.any (·.refKey)=true:=by rw[a];exact cW
  rw[if_neg a'];exact congrArg some e
def rh.look{h:aR}{x dx C:ae}{mA:Str->Option ai}(I:rh h x dx C mA):∃od,PySem.W.InstAt h x (sM C dx) C (some od)/\ ∀name,IS name od=some (mA name):=
 let ⟨od,ho,hl⟩:=Rq I.ns
 ⟨od,⟨I.obj,rfl,rfl,ho⟩,hl⟩
section
variable{prog:bQ}{w:bB}{A:cQ}{E:ai->aq->Prop}{s:aq}{K:aI}{x dx C f:ae}{mA:Str->Option ai}{name:Str}{v:ai}
def get_map{expr:Bool}{Q:ai->aq->Prop}(X:K.In s.heap)(I:rh s.heap x dx C mA)(hg:BN K C name=true)(hh:IT K C=true)
 (ha:jv K (.ref C) name=some none) (hv:mA name=some v) (yJ:PySem.W.handedIn v=true) (h:Q v {s with toks:=s.toks+1}):
 aU (model prog w) A (getAttr (.ref x) name expr) Q E s:=by
 obtain⟨od,J,hl⟩:=I.look;exact PySem.W.get_value X J (PB hg).1 (PySem.W.findObj_own hh ha rfl (by rw[hl,hv])) yJ h
def Ru{pl:Sem Bool}{Q:ai×List ai->aq->Prop}(X:K.In s.heap)(I:rh s.heap x dx C mA)(hg:BN K C name=true)
 (hf:jv K (.ref C) name=some (some (.ref f))) (ht:uY K (.ref f)=true) (hv:mA name=none) (h:Q (.ref f,[.ref x]) s):
 aU (model prog w) A (getMethod (.ref x) name pl) Q E s:=by
 obtain⟨od,J,hl⟩:=I.look;exact PySem.W.method_fn X J (PB hg).1 (PB hg).2 hf (beq_iff_eq.mp ht) (by show(IS name od).map (·.isSome)=some false;rw[hl,hv];rfl) h
def Rv{ns:List Str}{Q:Unit->aq->Prop}(X:K.In s.heap)(I:rh s.heap x dx C mA)
 (hs:jv K (.ref C) "__setattr__"=some (some (.builtin "object.__setattr__"))) (hp:PD K C=true) (ht:PF K C name=some none) (hh:IT K C=true)
 (hw:xQ mA ns) (hsz:ns.length<=sizeLine)
 (h:∀h',rh h' x dx C (λy=>if y=name then some v else mA y)->xS dx s.heap h'->Q () {s with heap:=h',toks:=s.toks+2}):
 aU (model prog w) A (setAttr (.ref x) name v) Q E s:=by
 obtain⟨od,J,hl⟩:=I.look;refine PySem.W.set_plain X J hs (PySem.W.osa_open (s:={s with toks:=s.toks+1}) (r:=none) X J hp ht λb=>?_)
 obtain⟨cd,hc,tH⟩:=PySem.W.any_some hh;have hx:s.heap.get? x=some ⟨.ref C,some dx,.plain,#[]⟩:=I.obj;refine cg (gc (cg (cg (wpAny_loadPart hx (cg (PySem.W.Looks.here (s:={s with toks:=s.toks+1}) (PySem.W.looks_clsIn X hc) ?_))))))
 rw[tH];refine gc (a:=some dx) (cg (gc (cg ?_)));refine wpAny_nsSet1 (s:={s with toks:=s.toks+1}) I.ns λh' yK J'=>?_
 obtain⟨oD,Rw,Rx,CD,CF,CG⟩:=yK.count (xQ.cons name v hw);refine cg (wpAny_lookBehind CD (by rw[CF];exact pastItsLine_dict (dy CG (by rw[cI];lia))) ?_)
 exact gc (h _ ⟨(J'.2 _ (Ne.symm I.ne)).trans I.obj,yK,I.ne⟩ J')
def Ry{R:Result->aq->Prop}{vs:List ai}{kw:List (Str×ai)}(X:K.In s.heap)(hm:PH K C=true)
 (hi:jv K (.ref C) "__init__"=some (some (.ref f))) (hf:PySem.W.typeIn K (.ref f)=some (.type "function"))
 (h:pH (model prog w) (A.under (.builtin "type.__call__" ⟨.ref C::vs,kw⟩)) (.call (.ref f) ⟨.ref (s.heap.objs.size+1)::vs,kw⟩) (PySem.W.InitBack (s.heap.objs.size+1) R)
   {s with heap:=(s.heap.push jW).push (sM C s.heap.objs.size)}):
 pH (model prog w) A (.call (.ref C) ⟨vs,kw⟩) R s:=by
 obtain⟨hh,g,d,t,os⟩:=s;exact PySem.W.make_core (PySem.W.makes_of X hm) (PySem.W.looks_findIn X hi) (λself=>PySem.W.bind_fn X self hf) (.inl rfl) h
end
def az(f:Str)(v:V):List (Str×V)->List (Str×V)
 |[]=>[(f,v)]
 |(g,x)::r=>if g=f then(g,v)::r else(g,x)::az f v r
theorem CH(f g:Str)(v:V):∀fs:List (Str×V),(az f v fs).lookup g=if g=f then some v else fs.lookup g
 |[]=>by
  show oA g [(f,v)]=_;by_cases h:g=f
  ·have hb:(g==f)=true:=beq_iff_eq.mpr h;simp only[oA,hb,if_pos h]
  ·have hb:(g==f)=false:=beq_eq_false_iff_ne.mpr h;simp only[oA,hb,if_neg h]
 |(k,x)::r=>by
  have ih:=CH f g v r;rw[show az f v ((k,x)::r)=(if k=f then(k,v)::r else(k,x)::az f v r) from rfl]
  by_cases hk:k=f
  ·rw[if_pos hk];by_cases h:g=k
   ·have hb:(g==k)=true:=beq_iff_eq.mpr h;simp only[oA,hb,if_pos (h.trans hk)]
   ·have hb:(g==k)=false:=beq_eq_false_iff_ne.mpr h;simp only[oA,hb,if_neg (λe:g=f=>h (e.trans hk.symm))]
  ·rw[if_neg hk];by_cases h:g=k
   ·have hb:(g==k)=true:=beq_iff_eq.mpr h;simp only[oA,hb,if_neg (λe:g=f=>hk (h.symm.trans e))]
   ·have hb:(g==k)=false:=beq_eq_false_iff_ne.mpr h;simp only[oA,hb];exact ih
theorem vv(f:Str)(v:V):∀fs:List (Str×V),f∈(az f v fs).map (·.1)/\ ∀g,g∈fs.map (·.1)->g∈(az f v fs).map (·.1)
 |[]=>⟨by simp[az],λg h=>by simp at h⟩
 |(k,x)::r=>by
  obtain⟨i1,i2⟩:=vv f v r;rw[show az f v ((k,x)::r)=(if k=f then(k,v)::r else(k,x)::az f v r) from rfl]
  by_cases hk:k=f
  ·rw[if_pos hk];subst hk;exact⟨by simp,λg h=>by simpa using h⟩
  ·rw[if_neg hk];refine⟨?_,λg h=>?_⟩
   ·rw[i4];exact fG _ i1
   ·rw[i4] at h⊢;rcases cC.mp h with e|e
    ·exact cC.mpr (.inl e)
    ·exact fG _ (i2 g e)
theorem Ka(f:Str)(v:V):∀fs:List (Str×V),(az f v fs).length<=fs.length+1
 |[]=>by simp[az]
 |(k,x)::r=>by
  have ih:=Ka f v r;rw[show az f v ((k,x)::r)=(if k=f then(k,v)::r else(k,x)::az f v r) from rfl]
  by_cases hk:k=f
  ·rw[if_pos hk,cI,cI];lia
  ·rw[if_neg hk,cI,cI];lia
def gx.some_of{v:V}{o:Option ai}(r:gx (some v) o):∃u,o=some u/\b7 v u:=by
 cases o with
 |none=>exact(show False from r).elim
 |some u=>exact⟨u,rfl,r⟩
def gx.none_of{o:Option ai}(r:gx none o):o=none:=by
 cases o with
 |none=>rfl
 |some u=>exact(show False from r).elim
def Rz{v:V}{u:ai}(r:b7 v u):PySem.W.handedIn u=true:=by
 cases v with
 |aM=>cases (show u=i0 from r);rfl
 |bl b=>cases (show u=xP b from r);rfl
 |int i=>obtain⟨t,e⟩:=(show∃t,u=ai.int i t from r);cases e;rfl
 |str x=>obtain⟨t,e⟩:=(show∃t,u=ai.str x t from r);cases e;rfl
 |iP b=>obtain⟨t,e⟩:=(show∃t,u=ai.bytes b t from r);cases e;rfl
 |vj b=>obtain⟨t,e⟩:=(show∃t,u=ai.float b t from r);cases e;rfl
 |ref a=>cases (show u=di a from r);rfl
 |ty n=>cases (show u=uU n from r);rfl
section
variable{P:bQ}{w:bB}{H H':Hp}{h h':aR}{a C dx:ae}{fs Qz:List (Str×V)}
def CI(aQ:c_ P w H h)(e:H a=some (.ins C dx fs)):∃mA,rh h a dx C mA/\ (∀f,gx (fs.lookup f) (mA f))/\xQ mA (fs.map (·.1))/\fs.length<=1000/\H dx=some (.own a):=by
 obtain⟨d,z,ne,ob,mA,n,r,q⟩:=(show df P w H h a (.ins C dx fs) from aQ a _ e);exact⟨mA,⟨ob,n,ne⟩,r,q,z,d⟩
end
structure iz(K:aI)(C:ae):Prop where
 pg:BN K C sQ=true
 hd:IT K C=true
 po:PD K C=true
 sa:jv K (.ref C) "__setattr__"=some (some (.builtin "object.__setattr__"))
def iz.get{K:aI}{C:ae}(c:iz K C)(f:Str):BN K C f=true:=c.pg
def dD(K:aI)(C:ae)(f:Str):Prop:=jv K (.ref C) f=some none
def dD.RA{K:aI}{C:ae}{f:Str}(n:dD K C f):PF K C f=some none:=by
 unfold PF;rw[show jv K (.ref C) f=some none from n];rfl
structure Meth(K:aI)(C:ae)(m:Str)(f:ae):Prop where
 at_:jv K (.ref C) m=some (some (.ref f))
 fn:uY K (.ref f)=true
 kp:iN K (.ref f)=true
section
variable{X:Cx}{pins:List (ae×Obj)}{σ:St}{H:Hp}{s:aq}{a C dx:ae}{fs:List (Str×V)}{f:Str}{v:V}{A:cQ}{E:ai->aq->Prop}
def RB{b:Bool}{Q:ai->aq->Prop}(I:Inv X pins σ H s)(e:H a=some (.ins C dx fs))(c:iz X.K C)(n:dD X.K C f)(l:fs.lookup f=some v)
 (h:∀u s',Inv X pins σ H s'->b7 v u->Q u s'):aU (model X.prog X.w) A (getAttr (.ref a) f b) Q E s:=by
 obtain⟨mA,O,r,_,_,_⟩:=CI I.aQ e;obtain⟨u,hu,ru⟩:=gx.some_of (v:=v) (o:=mA f) (by rw[<-l];exact r f)
 exact get_map I.dm O (c.get f) c.hd n hu (Rz ru) (h u _ (I.tok _) ru)
def CJ{m:Str}{g:ae}{pl:Sem Bool}{Q:ai×List ai->aq->Prop}(I:Inv X pins σ H s)(e:H a=some (.ins C dx fs))(c:iz X.K C)(k:Meth X.K C m g)(l:fs.lookup m=none)
 (h:Q (.ref g,[.ref a]) s):aU (model X.prog X.w) A (getMethod (.ref a) m pl) Q E s:=by
 obtain⟨mA,O,r,_,_,_⟩:=CI I.aQ e;have hn:mA m=none:=gx.none_of (by rw[<-l];exact r m)
 exact Ru I.dm O (c.get m) k.at_ k.fn hn h
def RD{y:V}{u:ai}{Q:Unit->aq->Prop}(I:Inv X pins σ H s)(e:H a=some (.ins C dx fs))(c:iz X.K C)(n:dD X.K C f)(hl:fs.length<1000)(ry:b7 y u)
 (h:∀s',Inv X pins σ (upd H a (.ins C dx (az f y fs))) s'->Q () s'):aU (model X.prog X.w) A (setAttr (.ref a) f u) Q E s:=by
 obtain⟨mA,O,r,wi,_,ho⟩:=CI I.aQ e;have hz:(fs.map (·.1)).length<=sizeLine:=by rw[bq,aP];lia
 refine Rv I.dm O c.sa c.po n.RA c.hd wi hz λh' O' sb=>h _ ?_;have hd:∃o,h'.get? dx=some o:=let ⟨o,_,_,e',_⟩:=O'.ns;⟨o,e'⟩;refine I.write (x:=a) (e:=dx) (by rw[e];exact True.intro) (.inr ho) (λb q hb z=>(sb.2 b hb).trans z) hd ?_
 refine⟨by rw[ak O.ne];exact ho,?_,O.ne,O'.obj,_,O'.ns,λg=>?_,λg hg=>?_⟩
 ·have:=Ka f y fs;lia
 ·show gx ((az f y fs).lookup g) (if g=f then some u else mA g)
  rw[CH];by_cases q:g=f
  ·rw[if_pos q,if_pos q];exact ry
  ·rw[if_neg q,if_neg q];exact r g
 ·by_cases q:g=f
  ·rw[q];exact(vv f y fs).1
  ·refine(vv f y fs).2 g (wi g λz=>hg ?_);show(if g=f then some u else mA g)=none
   rw[if_neg q];exact z
def Inv.made(I:Inv X pins σ H s):Inv X pins σ (upd (upd H s.heap.objs.size (.own (s.heap.objs.size+1))) (s.heap.objs.size+1) (.ins C s.heap.objs.size []))
 {s with heap:=(s.heap.push jW).push (sM C s.heap.objs.size)}:=by
 have e1:(s.heap.push jW).get? s.heap.objs.size=some jW:=iM s.heap rfl;have e2:((s.heap.push jW).push (sM C s.heap.objs.size)).get? (s.heap.objs.size+1)=some (sM C s.heap.objs.size):=by
  have:=iM (s.heap.push jW) (o:=sM C s.heap.objs.size) rfl
  rwa [kZ] at this
 have e3:(s.heap.push jW).Ns s.heap.objs.size (λ_=>none):=⟨jW,#[],_,e1,rfl,(λe he=>absurd he (by simp)),λ_=>rfl⟩
 have I1:=I.laid (a:=s.heap.objs.size) (o:=.own (s.heap.objs.size+1)) (h':=s.heap.push jW) (t':=s.toks) (λb u q=>eR _ q) (bz _) ⟨_,e1⟩;refine I1.laid (a:=s.heap.objs.size+1) (o:=.ins C s.heap.objs.size []) (t':=s.toks) (λb u q=>eR _ q) (BO (kZ _ _)) ?_;have ne:s.heap.objs.size≠s.heap.objs.size+1:=iu (BP _);refine⟨by rw[ak ne,aA],eX _,ne,e2,λ_=>none,(PK e3).at λo q=>eR _ q,λ_=>True.intro,λy hy=>absurd rfl hy⟩
def Kb{prog:bQ}{w:bB}{env:Env}{e:bj}{f:Str}{pos:Pos}{s:aq}{Q:ai->aq->Prop}(hb:oB e f env (eval e env)=eval e env)
 (h:aU (model prog w) A (eval e env) (λo s₁=>aU (model prog w) A (getAttr o f true) Q E s₁) E s):aU (model prog w) A (eval (.Attribute e f pos) env) Q E s:=
 Attribute_any_ h (by rw[arm_eval_Attribute,hb])
end
inductive RE(K:aI)(f:Str)(Q:VK)(x:V)(H1:Hp):Prop
 |mk (a C dx fs v:_) (_:x=.ref a) (_:H1 a=some (.ins C dx fs)) (_:iz K C) (_:dD K C f) (_:fs.lookup f=some v) (_:Q v H1)
def Kc(K:aI)(ta:TE)(f:Str):TE:=λσ H Q=>ta σ H λx H1=>RE K f Q x H1
inductive RF(K:aI)(f:Str)(D:Ends)(σ:L2.St)(y:V)(x:V)(H2:Hp):Prop
 |mk (a C dx fs:_) (_:x=.ref a) (_:H2 a=some (.ins C dx fs)) (_:iz K C) (_:dD K C f) (_:fs.length<1000) (_:D.nx σ (upd H2 a (.ins C dx (az f y fs))))
def RG(K:aI)(ta tv:TE)(f:Str):TS:=λD σ H=>tv σ H λy H1=>ta σ H1 λx H2=>RF K f D σ y x H2
section
variable{X:Cx}{o e value:bj}{f:Str}{pos pos' age:Pos}{ta tv:TE}
def aN(he:PE X e ta)(hb:oB e f X.env (eval e X.env)=eval e X.env):PE X (.Attribute e f pos) (Kc X.K ta f):=by
 intro pins s σ H Q I h;refine Kb hb (aX (he pins s σ H _ I h) λu s1 ⟨x,H1,I1,rx,a,C,dx,fs,v,ex,ea,c,n,l,q⟩=>?_);subst ex;obtain rfl:u=di a:=rx;exact RB I1 ea c n l λu' s2 I2 ru=>⟨v,H1,I2,ru,q⟩
def cT(ha:PE X o ta)(hv:PE X value tv)(hs:qI value (some (.Attribute o f pos')) pos.line X.env=pure false):PS X (.Assign [.Attribute o f pos'] value pos) (RG X.K ta tv f):=by
 intro pins s σ H D I h;refine PL (aX (hv pins s σ H _ I h) λu s1 ⟨y,H1,I1,ry,q⟩=>aX (ha pins s1 σ H1 _ I1 q) λov s2 ⟨x,H2,I2,rx,a,C,dx,fs,ex,ea,c,n,l,q2⟩=>?_) hs;subst ex;obtain rfl:ov=di a:=rx;exact RD I2 ea c n l ry λs3 I3=>⟨σ,_,I3,q2⟩
def agf{pl:Sem Bool}{m:Str}{apos:Pos}{args:List bj}{pins:List (ae×Obj)}{s:aq}{σ:St}{H:Hp}{Q:ai->aq->Prop}{te:TE}(he:PE X e te)(I:Inv X pins σ H s)
 (h:te σ H λx H1=>∃a C dx fs g,x=.ref a/\H1 a=some (.ins C dx fs)/\iz X.K C/\Meth X.K C m g/\fs.lookup m=none/\
   ∀s1,Inv X pins σ H1 s1->aU (model X.prog X.w) X.A (callWith pos (.ref g) [.ref a] (f_ pos (cG args X.env)) (sR pos (sS [] X.env))) Q X.xe s1)
 (ht:eval (.Call (.Attribute e m apos) args [] pos) X.env=(do
   let ov <-eval e X.env
   standAt apos.atName
   let (f,first)<-holding [ov] (getMethod ov m pl)
   callWith pos f first (f_ pos (cG args X.env)) (sR pos (sS [] X.env)))):
 aU (model X.prog X.w) X.A (eval (.Call (.Attribute e m apos) args [] pos) X.env) Q X.xe s:=by
 refine PM (pl:=pl) (aX (he pins s σ H _ I h) λu s1 ⟨x,H1,I1,rx,a,C,dx,fs,g,ex,ea,c,k,l,q⟩=>?_) ht;subst ex;obtain rfl:u=di a:=rx;exact CJ I1 ea c k l (q s1 I1)
end
structure dE(k:Nat)(A:cQ):Prop where
 hd:A.handled=none
 dp:A.depth+3*k+5<recursionLimit
 un:A.units+16*k+200<cLine
def dE.mono{j k:Nat}{A:cQ}(r:dE k A)(h:j<=k):dE j A:=⟨r.hd,by have:=r.dp;lia,by have:=r.un;lia⟩
theorem dE.deeper{k:Nat}{A:cQ}(r:dE (k+1) A)(env:Env):dE k (A.deeper env):=
 ⟨r.hd,by have:=r.dp;show A.depth+1+3*k+5<_;lia,by have:=r.un;show A.units+3+16*k+200<_;lia⟩
def RH{A:cQ}{C:ae}{us:List ai}{kw:List (Str×ai)}:(A.under (.builtin "type.__call__" ⟨.ref C::us,kw⟩)).depth=A.depth+1:=by
 first|rfl|simp[PN,Code.weight,Code.isCreation,Code.isGuard,Code.isCaller,Code.frames,Code.isFrame,guardIds]
def RI{A:cQ}{C:ae}{us:List ai}{kw:List (Str×ai)}:(A.under (.builtin "type.__call__" ⟨.ref C::us,kw⟩)).units=A.units+1:=by
 first|rfl|simp[PN,Code.cUnits,Code.frames,Code.isFrame]
def dE.make{k:Nat}{A:cQ}(r:dE (k+1) A)(C:ae)(us:List ai)(kw:List (Str×ai)):dE k (A.under (.builtin "type.__call__" ⟨.ref C::us,kw⟩)):=
 ⟨r.hd,by have:=r.dp;rw[RH];lia,by have:=r.un;rw[RI];lia⟩
theorem dE.depth{k:Nat}{A:cQ}(r:dE k A):A.depth<recursionLimit:=by have:=r.dp;lia
def tR:TA:=λ_ H Q=>Q [] H
def qa(ta:TE)(tr:TA):TA:=λσ H Q=>ta σ H λx H1=>tr σ H1 λxs H2=>Q (x::xs) H2
section
variable{X:Cx}{e:bj}{es:List bj}{te:TE}{t:TA}{pos:Pos}
def aj:PA X [] tR:=λ_ _ _ _ H Q I h=>PQ ⟨[],H,I,.nil,h⟩
def ah(ha:PE X e te)(hr:PA X es t)(hs:cG (e::es) X.env=(false,eval e X.env)::cG es X.env:=by rfl):PA X (e::es) (qa te t):=by
 intro pos pins s σ H Q I h;rw[hs];show aU _ _ (spliced ((false,eval e X.env)::f_ pos (cG es X.env))) _ _ s;refine PR (aX (ha pins s σ H _ I h) λu s1 ⟨x,H1,I1,r1,q1⟩=>?_);exact aX (hr pos pins s1 σ H1 _ I1 q1) λus s2 ⟨xs,H2,I2,r2,q2⟩=>⟨x::xs,H2,I2,.cons r1 r2,q2⟩
def RJ(t:TA):TE:=λσ H Q=>t σ H λxs H1=>xs.length<=sizeLine/\ ∀p,H1 p=none->Q (.ref p) (upd H1 p (.tup xs))
def Ke(t:TA):TE:=λσ H Q=>t σ H λxs H1=>xs.length<=sizeLine/\ ∀p,H1 p=none->Q (.ref p) (upd H1 p (.lst xs))
def CK{x1}(h:PA X es t):PE X (.Tuple es x1 pos) (RJ t):=by
 intro pins s σ H Q I hq;refine wpAny_Tuple_spliced (aX (h pos pins s σ H _ I hq) λus s1 ⟨xs,H1,I1,r,z,q⟩=>⟨by rw[<-r.length];exact z,?_⟩)
 have hf:H1 s1.heap.objs.size=none:=I1.aQ.fresh (bz _);refine⟨.ref s1.heap.objs.size,upd H1 s1.heap.objs.size (.tup xs),I1.laid (t':=s1.toks) (λb u e=>eR _ e) (bz _) ?_,rfl,q _ hf⟩;exact⟨z,us,r,⟨_,iM _ rfl,rfl,_,rfl⟩⟩
def cR(h:PA X es t):PE X (.List es pos) (Ke t):=by
 intro pins s σ H Q I hq;refine wpAny_List_spliced (aX (h pos pins s σ H _ I hq) λus s1 ⟨xs,H1,I1,r,z,q⟩=>⟨by rw[<-r.length];exact z,?_⟩)
 have hf:H1 s1.heap.objs.size=none:=I1.aQ.fresh (bz _);refine⟨.ref s1.heap.objs.size,upd H1 s1.heap.objs.size (.lst xs),I1.laid (t':=s1.toks) (λb u e=>eR _ e) (bz _) ?_,rfl,q _ hf⟩;exact⟨z,us,0,r,iM _ rfl⟩
end
abbrev Sp:=List V->Hp->VK->XK->Prop
abbrev jG:=List Env->Hp->aq->XK->ai->aq->Prop
structure rj(P:bQ)(w:bB)(K:aI)(mg:Str->Option ai)(base:aR)(A:cQ)(outer:List Env)(s:aq)(H:Hp):Prop where
 frames:A.frames=some outer
 mod:Mod K mg base
 bs:∀b o,base.get? b=some o->s.heap.get? b=some o/\H b=none
 j_:base.objs.size<=s.heap.objs.size
 jh:s.heap.FunFrames base outer
 nA:∀b∈jA outer,H b=none
 aQ:c_ P w H s.heap
 bare:sN s.gens
def CE(outer:List Env)(P:bQ)(w:bB)(H:Hp)(s:aq)(Q:VK)(u:ai)(s':aq):Prop:=
 ∃v H',s'.os=s.os/\sN s'.gens/\Un (jA outer) [] H H' s.heap s'.heap/\c_ P w H' s'.heap/\b7 v u/\Q v H'
def CR(CX:jG)(outer:List Env)(P:bQ)(w:bB)(H:Hp)(s:aq)(Q:VK)(E:XK)(r:Result)(s':aq):Prop:=
 match r with
 | .ok (.ret u)=>CE outer P w H s Q u s'
 | .ok _=>False
 | .error e=>CX outer H s E e s'
structure aB(P:bQ)(w:bB)(K:aI)(mg:Str->Option ai)(base:aR)(CX:jG)(k:Nat)(f:ae)(fd:dP)(ps:List Str)(sp:Sp):Prop where
 len:∀vs H Q E,sp vs H Q E->vs.length=ps.length
 run:∀(A:cQ) (outer:List Env) (s:aq) (H:Hp) (args:Args) (us:List ai) (vs:List V) (Q:VK) (E:XK),dE k A->rj P w K mg base A outer s H->BindsTo s fd args (ps.zip us)->Vals vs us->sp vs H Q E->
  pH (model P w) A (.call (.ref f) args) (CR CX outer P w H s Q E) s
theorem aB.mono{P:bQ}{w:bB}{K:aI}{mg:Str->Option ai}{base:aR}{CX:jG}{j k:Nat}{f:ae}{fd:dP}{ps:List Str}{sp:Sp}(F:aB P w K mg base CX j f fd ps sp)(h:j<=k):
 aB P w K mg base CX k f fd ps sp:=⟨F.len,λA outer s H args us vs Q E hr=>F.run A outer s H args us vs Q E (hr.mono h)⟩
def rj.make{P:bQ}{w:bB}{K:aI}{mg:Str->Option ai}{base:aR}{A:cQ}{outer:List Env}{s:aq}{H:Hp}(e:rj P w K mg base A outer s H)(C:ae)(us:List ai)(kw:List (Str×ai)):
 rj P w K mg base (A.under (.builtin "type.__call__" ⟨.ref C::us,kw⟩)) outer s H:=⟨by first|exact e.frames|(simpa[PN,Code.envs,Code.isFrame,pushEnvs] using e.frames),e.mod,e.bs,e.j_,e.jh,e.nA,e.aQ,e.bare⟩
section
variable{X:Cx}{pins:List (ae×Obj)}{σ:St}{H:Hp}{s s':aq}
def Inv.yL(I:Inv X pins σ H s):rj X.prog X.w X.K X.mg X.base X.A X.stack s H:=
 ⟨I.ok.frames,I.ok.mod,I.bs,dy I.ok.j_ I.sz,I.stack,I.pU,I.aQ,I.bare⟩
def Inv.after{Q:VK}{u:ai}(I:Inv X pins σ H s)(h:CE X.stack X.prog X.w H s Q u s'):EP X pins σ Q u s':=by
 obtain⟨v,H',os,bare,un,aQ,r,q⟩:=h;obtain⟨hh,g,d,t,RK⟩:=s';obtain rfl:RK=s.os:=os;exact⟨v,H',I.call (h':=hh) (g':=g) (d':=d) (t':=t) (ch:=[]) un aQ bare (λb z=>absurd z (by simp)),r,q⟩
end
def CL(sp:Sp)(dvs:List V)(E:XK)(t:TA):TE:=λσ H Q=>t σ H λvs H1=>sp (vs++dvs) H1 Q E
inductive RL(C:ae)(m:Str)(sp:Sp)(dvs:List V)(E:XK)(t:TA)(σ:L2.St)(Q:VK)(x:V)(H1:Hp):Prop
 |mk (a dx fs:_) (_:x=.ref a) (_:H1 a=some (.ins C dx fs)) (_:fs.lookup m=none) (_:t σ H1 λvs H2=>sp (x::(vs++dvs)) H2 Q E)
def Kf(C:ae)(m:Str)(sp:Sp)(dvs:List V)(E:XK)(ta:TE)(t:TA):TE:=λσ H Q=>ta σ H λx H1=>RL C m sp dvs E t σ Q x H1
def CM(C:ae)(sp:Sp)(dvs:List V)(E:XK)(t:TA):TE:=λσ H Q=>t σ H λvs H1=>∀x dx,H1 x=none->H1 dx=none->dx≠x->
 sp (.ref x::(vs++dvs)) (upd (upd H1 dx (.own x)) x (.ins C dx [])) (λv H2=>v=.aM/\Q (.ref x) H2) E
def Binds(K:aI)(fd:dP)(ps:List Str)(ds:List ai):Prop:=
 ∀(s:aq) (us:List ai),K.In s.heap->(us++ds).length=ps.length->BindsTo s fd ⟨us,[]⟩ (ps.zip (us++ds))
def Binds.all{K:aI}{fd:dP}{ps:List Str}(h:∀us:List ai,us.length=ps.length->qJ fd ⟨us,[]⟩=pure (ps.zip us)):Binds K fd ps []:=λs us _ hl=>by
 rw[dA] at hl⊢;exact .of_eq (h us hl)
def Passes(CX:jG)(X:Cx)(E:XK):Prop:=∀(pins:List (ae×Obj)) (σ:St) (H:Hp) (s:aq) (e:ai) (s':aq),Inv X pins σ H s->CX X.stack H s E e s'->X.xe e s'
section
variable{X:Cx}{CX:jG}{k:Nat}{f C:ae}{fd:dP}{ps:List Str}{sp:Sp}{dvs:List V}{ds:List ai}{E:XK}{x m:Str}{p pos apos:Pos}{e o:bj}{es:List bj}{ta:TE}{t:TA}
def vw{pins:List (ae×Obj)}{σ:St}{H:Hp}{s:aq}{Q:VK}{us:List ai}{vs:List V}(F:aB X.prog X.w X.K X.mg X.base CX k f fd ps sp)(hr:dE k X.A)(hb:Binds X.K fd ps ds)(hd:Vals dvs ds)(hx:Passes CX X E)
 (I:Inv X pins σ H s) (r:Vals vs us) (h:sp (vs++dvs) H Q E):aU (model X.prog X.w) X.A (call (.ref f) us) (EP X pins σ Q) X.xe s:=by
 have r2:Vals (vs++dvs) (us++ds):=r.append hd;have hl:(us++ds).length=ps.length:=by rw[<-r2.length];exact F.len _ _ _ _ h
 refine BR (xT (F.run X.A X.stack s H ⟨us,[]⟩ (us++ds) (vs++dvs) Q E hr I.yL (hb s us I.dm hl) r2 h) λr s' hq=>?_);cases r with
 |error e=>exact hx pins σ H s e s' I hq
 |ok fl=>
  cases fl with
  |ret u=>exact I.after hq
  |next=>exact gw hq
  |brk=>exact gw hq
  |cont=>exact gw hq
def rk(F:aB X.prog X.w X.K X.mg X.base CX k f fd ps sp)(hr:dE k X.A)(hg:Gl X x)(hm:X.mg x=some (.ref f))(hk:iN X.K (.ref f)=true)(hb:Binds X.K fd ps ds)(hd:Vals dvs ds)(hx:Passes CX X E)
 (ha:PA X (e::es) t) (g9:(x==("__debug__":Str))=false:=by decide) (he:cG (e::es) X.env=(false,eval e X.env)::cG es X.env:=by rfl) (dF:(f_ pos (cG es X.env)).any (·.1)=false:=by rfl):
 PE X (.Call (.Name x p) (e::es) [] pos) (CL sp dvs E t):=by
 intro pins s σ H Q I h;refine qK (qZ I hg hm ?_ g9);refine xU (h₀:=X.base) I.ok.mod.dB hk (aX (ha pos pins s σ H _ I h) λus s1 ⟨vs,H1,I1,r,q⟩=>⟨I1.dm,?_⟩) he dF;exact vw F hr hb hd hx I1 r q
def jm{pl:Sem Bool}(he:PE X o ta)(c:iz X.K C)(hm:Meth X.K C m f)(F:aB X.prog X.w X.K X.mg X.base CX k f fd ps sp)(hr:dE k X.A)(hb:Binds X.K fd ps ds)(hd:Vals dvs ds)(hx:Passes CX X E)(ha:PA X (e::es) t)
 (d9:cG (e::es) X.env=(false,eval e X.env)::cG es X.env:=by rfl) (dF:(f_ pos (cG es X.env)).any (·.1)=false:=by rfl)
 (ht:eval (.Call (.Attribute o m apos) (e::es) [] pos) X.env=(do
   let ov <-eval o X.env
   standAt apos.atName
   let (f,first)<-holding [ov] (getMethod ov m pl)
   callWith pos f first (f_ pos (cG (e::es) X.env)) (sR pos (sS [] X.env))):=by rfl):
 PE X (.Call (.Attribute o m apos) (e::es) [] pos) (Kf C m sp dvs E ta t):=by
 intro pins s σ H Q I h;refine PM (pl:=pl) (aX (he pins s σ H _ I h) λu s1 ⟨x,H1,I1,rx,a,dx,fs,ex,ea,l,q⟩=>?_) ht;subst ex;obtain rfl:u=di a:=rx;refine CJ I1 ea c hm l ?_;refine xU (first:=[.ref a]) (h₀:=X.base) I.ok.mod.dB hm.kp (aX (ha pos pins s1 σ H1 _ I1 q) λus s2 ⟨vs,H2,I2,r,q2⟩=>⟨I2.dm,?_⟩) d9 dF
 exact vw (us:=.ref a::us) (vs:=.ref a::vs) F hr hb hd hx I2 (.cons rfl r) q2
def nL{pl:Sem Bool}(he:PE X o ta)(c:iz X.K C)(hm:Meth X.K C m f)(F:aB X.prog X.w X.K X.mg X.base CX k f fd ps sp)(hr:dE k X.A)(hb:Binds X.K fd ps ds)(hd:Vals dvs ds)(hx:Passes CX X E)
 (ht:eval (.Call (.Attribute o m apos) [] [] pos) X.env=(do
   let ov <-eval o X.env
   standAt apos.atName
   let (f,first)<-holding [ov] (getMethod ov m pl)
   callWith pos f first (f_ pos (cG [] X.env)) (sR pos (sS [] X.env))):=by rfl):
 PE X (.Call (.Attribute o m apos) [] [] pos) (Kf C m sp dvs E ta tR):=by
 intro pins s σ H Q I h;refine PM (pl:=pl) (aX (he pins s σ H _ I h) λu s1 ⟨x,H1,I1,rx,a,dx,fs,ex,ea,l,q⟩=>?_) ht;subst ex;obtain rfl:u=di a:=rx;refine CJ I1 ea c hm l ?_;exact PySem.W.callWith_K0 (first:=[.ref a]) I1.dm hm.kp (vw (us:=[.ref a]) (vs:=[.ref a]) F hr hb hd hx I1 (.cons rfl .nil) q)
structure Mk(K:aI)(C f:ae):Prop where
 makes:PH K C=true
 init:jv K (.ref C) "__init__"=some (some (.ref f))
 fn:uY K (.ref f)=true
 kp:iN K (.ref C)=true
def Kg{pins:List (ae×Obj)}{σ:St}{H:Hp}{s:aq}{Q:VK}{us:List ai}{vs:List V}(M:Mk X.K C f)(F:aB X.prog X.w X.K X.mg X.base CX k f fd ps sp)(hr:dE (k+1) X.A)(hb:Binds X.K fd ps ds)(hd:Vals dvs ds)
 (hx:Passes CX X E) (I:Inv X pins σ H s) (r:Vals vs us)
 (h:∀x dx,H x=none->H dx=none->dx≠x->sp (.ref x::(vs++dvs)) (upd (upd H dx (.own x)) x (.ins C dx [])) (λv H2=>v=.aM/\Q (.ref x) H2) E):
 aU (model X.prog X.w) X.A (call (.ref C) us) (EP X pins σ Q) X.xe s:=by
 have hq:=h (s.heap.objs.size+1) s.heap.objs.size (I.aQ.fresh (BS _)) (I.aQ.fresh (bz _)) (iu (BP _));have I2:=Inv.made (C:=C) I;have r2:Vals (V.ref (s.heap.objs.size+1)::(vs++dvs)) (di (s.heap.objs.size+1)::(us++ds)):=.cons rfl (r.append hd);have hl:(di (s.heap.objs.size+1)::us++ds).length=ps.length:=by
  have e:=r2.length;rw[F.len _ _ _ _ hq] at e;exact e.symm
 refine BR (Ry (f:=f) I.dm M.makes M.init (beq_iff_eq.mp M.fn) (xT (F.run _ X.stack _ _ ⟨di (s.heap.objs.size+1)::us,[]⟩ (di (s.heap.objs.size+1)::(us++ds)) _ _ E (hr.make C us [])
  (I2.yL.make C us []) (hb _ (di (s.heap.objs.size+1)::us) I2.dm hl) r2 hq) λr s' jH=>?_))
 cases r with
 |error e=>exact hx pins σ _ _ e s' I2 jH
 |ok fl=>
  cases fl with
  |ret u=>
   obtain⟨v,H',I3,rv,ev,q3⟩:=I2.after jH;subst ev;exact⟨rv,⟨V.ref (s.heap.objs.size+1),H',I3,rfl,q3⟩⟩
  |next=>exact gw jH
  |brk=>exact gw jH
  |cont=>exact gw jH
def j'(M:Mk X.K C f)(F:aB X.prog X.w X.K X.mg X.base CX k f fd ps sp)(hr:dE (k+1) X.A)(hg:Gl X x)(hm:X.mg x=some (.ref C))(hb:Binds X.K fd ps ds)(hd:Vals dvs ds)(hx:Passes CX X E)
 (ha:PA X (e::es) t) (g9:(x==("__debug__":Str))=false:=by decide) (he:cG (e::es) X.env=(false,eval e X.env)::cG es X.env:=by rfl) (dF:(f_ pos (cG es X.env)).any (·.1)=false:=by rfl):
 PE X (.Call (.Name x p) (e::es) [] pos) (CM C sp dvs E t):=by
 intro pins s σ H Q I h;refine qK (qZ I hg hm ?_ g9);refine xU (h₀:=X.base) I.ok.mod.dB M.kp (aX (ha pos pins s σ H _ I h) λus s1 ⟨vs,H1,I1,r,q⟩=>⟨I1.dm,?_⟩) he dF;exact Kg M F hr hb hd hx I1 r q
def Kh(M:Mk X.K C f)(F:aB X.prog X.w X.K X.mg X.base CX k f fd ps sp)(hr:dE (k+1) X.A)(hg:Gl X x)(hm:X.mg x=some (.ref C))(hb:Binds X.K fd ps ds)(hd:Vals dvs ds)(hx:Passes CX X E)
 (g9:(x==("__debug__":Str))=false:=by decide):PE X (.Call (.Name x p) [] [] pos) (CM C sp dvs E tR):=by
 intro pins s σ H Q I h;refine qK (qZ I hg hm ?_ g9);exact PySem.W.callWith_K0 I.dm M.kp (Kg (us:=[]) M F hr hb hd hx I .nil h)
end
structure aS(N P:List Str)(sc:d6):Prop where
 kind:sc.kind=.function
 co:sc.isCoroutine=false
 gen:sc.isGenerator=false
 nd:N.Nodup
 pre:N.take P.length=P
 par:∀x∈P,sc.names.lookup x=some .local\/sc.names.lookup x=some .cell
 RM:∀y∈sc.names,y.2≠ .free
theorem Ki{kindOf:Str->Option jw}{x:Str}:∀{binds:List (Str×ai)} {m:Str->Option ai},(∀v,(x,v)∉binds)->bindL kindOf binds m x=m x
 |[],_,_=>rfl
 |(n,v)::r,m,h=>by
  unfold bindL;rw[Ki λw hw=>h w (fG _ hw)]
  split
  ·have:x≠n:=by rintro rfl;exact h v iL
   simp[this]
  ·rfl
theorem Kj{kindOf:Str->Option jw}{x:Str}:∀{binds:List (Str×ai)} {m:Str->Option ai},(∀v,(x,v)∉binds)->bindC kindOf binds m x=m x
 |[],_,_=>rfl
 |(n,v)::r,m,h=>by
  unfold bindC;rw[Kj λw hw=>h w (fG _ hw)]
  split
  ·rfl
  ·have:x≠n:=by rintro rfl;exact h v iL
   simp[this]
theorem Kk{kindOf:Str->Option jw}{x:Str}{v:ai}:∀{P:List Str} {vs:List ai} {i:Nat} {m:Str->Option ai},P.Nodup->P[i]? =some x->vs[i]? =some v->kindOf x=some .local->
 bindL kindOf (P.zip vs) m x=some v
 |[],_,_,_,_,h,_,_=>by simp at h
 |_::_,[],_,_,_,_,h,_=>by simp at h
 |p::P,w::vs,0,m,nd,h1,h2,hk=>by
  simp at h1 h2;subst h1;subst h2;show bindL kindOf ((p,w)::P.zip vs) m p=_;unfold bindL;rw[Ki λv hv=>(fI.mp nd).1 (IU hv).1,if_pos hk];simp
 |p::P,w::vs,i+1,m,nd,h1,h2,hk=>by
  show bindL kindOf ((p,w)::P.zip vs) m x=_;unfold bindL;exact Kk (i:=i) (fI.mp nd).2 (by simpa using h1) (by simpa using h2) hk
theorem Kl{kindOf:Str->Option jw}{x:Str}{v:ai}:∀{P:List Str} {vs:List ai} {i:Nat} {m:Str->Option ai},P.Nodup->P[i]? =some x->vs[i]? =some v->kindOf x≠some .local->
 bindC kindOf (P.zip vs) m x=some v
 |[],_,_,_,_,h,_,_=>by simp at h
 |_::_,[],_,_,_,_,h,_=>by simp at h
 |p::P,w::vs,0,m,nd,h1,h2,hk=>by
  simp at h1 h2;subst h1;subst h2;show bindC kindOf ((p,w)::P.zip vs) m p=_;unfold bindC;rw[Kj λv hv=>(fI.mp nd).1 (IU hv).1,if_neg hk];simp
 |p::P,w::vs,i+1,m,nd,h1,h2,hk=>by
  show bindC kindOf ((p,w)::P.zip vs) m x=_;unfold bindC;exact Kl (i:=i) (fI.mp nd).2 (by simpa using h1) (by simpa using h2) hk
def start(N:List Str)(vs:List V):St:=vs.map some++cZ (N.length-vs.length) none
def i_(CX:jG)(P:bQ)(w:bB)(K:aI)(mg:Str->Option ai)(base:aR)(N:List Str)(qual:Str)(scope:d6)(f:ae)(cd:ai)(A:cQ)(outer:List Env)(s:aq)(H:Hp)(E:XK):Cx where
 prog:=P
 w:=w
 K:=K
 mg:=mg
 base:=base
 A:=A.deeper (envOfC qual scope s.heap.objs.size f cd)
 N:=N
 dC:=s
 tG:=H
 env:=envOfC qual scope s.heap.objs.size f cd
 outer:=outer
 stack:=envOfC qual scope s.heap.objs.size f cd::outer
 ex:=[]
 calm:=true
 fn:=λ_=>true
 pn:=[]
 xe:=λe s'=>aU (model P w) (A.deeper (envOfC qual scope s.heap.objs.size f cd)) (leaving (envOfC qual scope s.heap.objs.size f cd) e) (λ_ CN=>CX outer H s E e CN) (λe' CN=>CX outer H s E e' CN) s'
def Km{sc:d6}{n:Nat}{x:Str}(h:sc.names.lookup x=some .cell):∃c,(gP n sc.names []).lookup x=some c:=by
 have q:=PU sc.names n [] (.inl h);exact xV.mp q
def Kn{CX:jG}{P:bQ}{w:bB}{K:aI}{mg:Str->Option ai}{base:aR}{N ps:List Str}{qual:Str}{scope:d6}{f:ae}{cd:ai}{A:cQ}{outer:List Env}{s s1:aq}{H:Hp}{E:XK}{us:List ai}{vs:List V}
 (S:aS N ps scope) (hd:A.handled=none) (e0:rj P w K mg base A outer s H) (hl:vs.length=ps.length) (r:Vals vs us)
 (x:InCallC s s.heap.objs.size (bindL (envOfC qual scope s.heap.objs.size f cd).kindOf (ps.zip us) λ_=>none) (gP (s.heap.objs.size+1) scope.names []) (bindC (envOfC qual scope s.heap.objs.size f cd).kindOf (ps.zip us) λ_=>none) s1):
 Inv (i_ CX P w K mg base N qual scope f cd A outer s H E) [] (start N vs) H s1:=by
 have dF:ps.length<=N.length:=by have:=congrArg jX S.pre;rw[jY] at this;lia
 obtain⟨h1,tk,rfl,hk⟩:=x.done;have tT:∀b:ae,b∉(i_ CX P w K mg base N qual scope f cd A outer s H E).ex:=λb z=>absurd (show b∈([]:List ae) from z) (by simp)
 refine⟨⟨e0.mod,S.kind,rfl,rfl,bz _,λy z c h1 h2=>?_,λy hy=>?_,λy c _ h=>?_,λ_=>hd,cQ.frames_deeper e0.frames,.inr ⟨rfl,rfl⟩,λb z=>absurd z (tT b),e0.bs,e0.j_,λb _ _=>tT b,λb z=>absurd z (tT b),e0.jh,e0.nA⟩,
  rfl,e0.bare,Un.kept hk,⟨_,x.toInCall.ns,λi y v h1 h2 h3=>?_⟩,λy c h=>⟨_,x.cell y c h⟩,e0.aQ.fresh (bz _),λy c h=>?_,λp hp=>absurd (show p∈([]:List (ae×Obj)) from hp) (by simp),e0.aQ.kept hk,?_⟩
 ·exact name_of_addr x.apart (jZ h1) (jZ h2)
 ·have hy:scope.names.lookup y=some .cell\/scope.names.lookup y=some .free:=hy;rcases hy with hy|hy
  ·exact Km hy
  ·exact absurd rfl (S.RM _ (jZ hy))
 ·exact xR (x.above y c (jZ h))
 ·have hi:i<vs.length:=by
   unfold start at h2;by_cases hi:i<vs.length
   ·exact hi
   ·rw[PV (by simpa using hi)] at h2
    rw[BU] at h2
    split at h2<;>cases h2
  have ha:vs[i]? =some v:=by
   unfold start at h2;rw[PX (by simpa using hi),dI] at h2
   cases e:vs[i]? with
   |none=>rw[e] at h2;cases h2
   |some a=>rw[e] at h2;cases h2;rfl
  obtain⟨u,hu,rv⟩:=r.get ha;have hp:ps[i]? =some y:=by
   rw[<-S.pre,af4 (by lia)];exact h1
  have Ko:ps.Nodup:=by rw[<-S.pre];exact S.nd.sublist (List.take_sublist _ _)
  refine⟨u,rv,?_⟩;rcases S.par y (d7 hp) with k|k
  ·exact .inl ⟨k,Kk Ko hp hu k⟩
  ·obtain⟨c,e⟩:=Km (n:=s.heap.objs.size+1) k;refine .inr ⟨.inl k,c,e,?_⟩;have q:=x.cell y c e;rw[Kl Ko hp hu (by show scope.names.lookup y≠_;rw[k];decide)] at q
   exact q
 ·exact e0.aQ.fresh (xR (x.above y c (jZ h)))
 ·unfold start;show _=N.length;rw[bS,bq,qL]
  lia
def CO{CX:jG}{P:bQ}{w:bB}{K:aI}{mg:Str->Option ai}{base:aR}{k:Nat}{f:ae}{name qual:Str}{params:Arguments}{body:List cD}{scope:d6}{dV kV doc pm b9 ct oc:ai}{an od:Option ae}
 {gI:Array (Option ai)} {N ps:List Str} {sp:Sp} (lk:K.lookup f=some ⟨oc,od,.func (j0 name qual params body scope dV kV doc pm an b9 ct),gI⟩) (fz:sT K b9 qual=true) (S:aS N ps scope)
 (len:∀vs H Q E,sp vs H Q E->vs.length=ps.length)
 (lK:∀(A:cQ) (outer:List Env) (s:aq) (H:Hp) (vs:List V) (Q:VK) (E:XK),dE k (A.deeper (envOfC qual scope s.heap.objs.size f b9))->sp vs H Q E->
   ∃t,gy (i_ CX P w K mg base N qual scope f b9 A outer s H E) body t/\t {nx:=λ_ H'=>Q .aM H',rt:=Q} (start N vs) H):
 aB P w K mg base CX (k+1) f (j0 name qual params body scope dV kV doc pm an b9 ct) ps sp:=by
 refine⟨len,λA outer s H args us vs Q E hr e0 hb r kN=>?_⟩;have hl:=len _ _ _ _ kN;have KX:K.In s.heap:=e0.mod.dB.keeps λb o e=>(e0.bs b o e).1;have lim:s.heap.NoLimit:=e0.mod.nolimit.keeps λb o e=>(e0.bs b o e).1;have CP:∀y∈ps.zip us,scope.names.lookup y.1=some .local\/(scope.names.lookup y.1=some .cell/\ ((gP (s.heap.objs.size+1) scope.names []).lookup y.1).isSome=true):=λ⟨n,v⟩ hy=>by
  rcases S.par n (IU hy).1 with q|q
  ·exact .inl q
  ·exact .inr ⟨q,PU _ _ _ (.inl q)⟩
 refine codeAny_call_function hr.depth (KX _ _ lk) rfl S.co S.gen rfl (PySem.W.codeRec_of KX fz) (hb _ _ _ _ ?_);refine wpAny_newFunctionEnv_cells S.kind CP λenv he s1 x=>?_;subst he;refine⟨lim.keeps x.toInCall.keep,codeAny_func ?_⟩;obtain⟨t,ht,hq⟩:=lK A outer s H vs Q E (hr.deeper _) kN;have I:Inv (i_ CX P w K mg base N qual scope f b9 A outer s H E) [] (start N vs) H s1:=Kn S hr.hd e0 hl r x;refine fN (ht [] s1 (start N vs) H _ I hq) (λfl s' hs=>?_) λe s' hs=>hs;have fin:∀{σ':St} {H':Hp} {v:V} {u:ai},Inv (i_ CX P w K mg base N qual scope f b9 A outer s H E) [] σ' H' s'->b7 v u->Q v H'->CE outer P w H s Q u s':=
  λ{σ' H' v u} J rv q=>⟨v,H',J.os,J.bare,J.base,J.aQ,rv,q⟩
 cases fl with
 |ret u=>
  obtain⟨v,σ',H',J,rv,q⟩:=hs;exact fin J rv q
 |next=>
  obtain⟨σ',H',J,q⟩:=hs;exact fin (v:=V.aM) (u:=i0) J rfl q
 |brk=>
  obtain⟨_,_,_,q⟩:=hs;exact gw q
 |cont=>
  obtain⟨_,_,_,q⟩:=hs;exact gw q
section
variable{X:Cx}{x:Str}{p pos:Pos}{e:bj}{es:List bj}{t:TA}{id T:String}{r:List V->Hp->VK->Prop}
def Kq(r:List V->Hp->VK->Prop)(t:TA):TE:=λσ H Q=>t σ H λvs H1=>r vs H1 Q
def eV(hc:jF X (.builtin id) r)(hg:Gl X x)(hm:X.mg x=none)(hv:mX x=some (.builtin id))(ha:PA X (e::es) t)(hn:x≠"__name__":=by decide)(g9:(x==("__debug__":Str))=false:=by decide)
 (he:cG (e::es) X.env=(false,eval e X.env)::cG es X.env:=by rfl) (dF:(f_ pos (cG es X.env)).any (·.1)=false:=by rfl):PE X (.Call (.Name x p) (e::es) [] pos) (Kq r t):=by
 intro pins s σ H Q I h;refine qK (yx I hg hm hv ?_ hn g9);exact PyProof.Rows.callWith_builtin1 (aX (ha pos pins s σ H _ I h) λus s1 ⟨vs,H1,I1,r1,q1⟩=>hc pins s1 σ H1 vs us Q I1 r1 q1) he dF
def oP(hc:jF X (.type T) r)(hg:Gl X x)(hm:X.mg x=none)(hv:mX x=some (.type T))(ha:PA X (e::es) t)(hn:x≠"__name__":=by decide)(g9:(x==("__debug__":Str))=false:=by decide)
 (he:cG (e::es) X.env=(false,eval e X.env)::cG es X.env:=by rfl) (dF:(f_ pos (cG es X.env)).any (·.1)=false:=by rfl):PE X (.Call (.Name x p) (e::es) [] pos) (Kq r t):=by
 intro pins s σ H Q I h;refine qK (yx I hg hm hv ?_ hn g9);exact Pz (aX (ha pos pins s σ H _ I h) λus s1 ⟨vs,H1,I1,r1,q1⟩=>hc pins s1 σ H1 vs us Q I1 r1 q1) he dF
end
end L2
namespace HT
open PySem PyProof.Rows
section
variable{prog:bQ}{w:bB}{A:cQ}{E:ai->aq->Prop}{s:aq}
def cK(n d:Nat):Option Int->Nat
 |none=>d
 |some v=>if v<0 then(v+(n:Int)).toNat else min v.toNat n
def Ks(n d:Nat)(hd:d<=n)(o:Option Int):cK n d o<=n:=by
 cases o with
 |none=>exact hd
 |some v=>
  show(if v<0 then(v+(n:Int)).toNat else min v.toNat n)<=n
  by_cases hv:v<0
  ·rw[if_pos hv];lia
  ·rw[if_neg hv];exact PY _ _
end
end HT
namespace L2
open PySem PySem.Spec PyProof.Rows
abbrev TO:=St->Hp->(Option Int->Hp->Prop)->Prop
def PO(X:Cx)(e:Option bj)(t:TO):Prop:=
 ∀(pins:List (ae×Obj)) (s:aq) (σ:St) (H:Hp) (Q:Option Int->Hp->Prop),Inv X pins σ H s->t σ H Q->
  aU (model X.prog X.w) X.A (evalPart e X.env) (λu s'=>∃o H',Inv X pins σ H' s'/\IsPart u o/\Q o H') X.xe s
def RN:TO:=λ_ H Q=>Q none H
inductive RO(Q:Option Int->Hp->Prop)(x:V)(H1:Hp):Prop
 |mk (i:_) (_:x=.int i) (_:Q (some i) H1)
def RP(t:TE):TO:=λσ H Q=>t σ H λx H1=>RO Q x H1
section
variable{X:Cx}{e:bj}{te:TE}{lo hi:Option bj}{tl th:TO}{pos p2:Pos}
def Ku:PO X none RN:=by
 intro pins s σ H Q I h;rw[evalPart_none];exact gc ⟨none,H,I,.none,h⟩
def qc(h:PE X e te):PO X (some e) (RP te):=by
 intro pins s σ H Q I hw;rw[evalPart_some];refine aX (h pins s σ H _ I hw) λu s1 ⟨x,H1,I1,r1,q1⟩=>?_;obtain⟨i,rfl,q⟩:=q1;obtain⟨t,rfl⟩:=r1;exact⟨some i,H1,I1,.int i t,q⟩
def CQ(X:Cx)(r:V->Option Int->Option Int->Hp->VK->Prop):Prop:=
 ∀(pins:List (ae×Obj)) (s:aq) (σ:St) (H:Hp) (x:V) (v vl vu:ai) (lo hi:Option Int) (sl:ae) (Q:VK),Inv X pins σ H s->b7 x v->s.heap.IsSliceOf sl vl vu .none->IsPart vl lo->IsPart vu hi->r x lo hi H Q->
  ∃T id,qM (.type T) "__getitem__"=pure (some (.builtin id))/\s.TypeIs v T/\aU (model X.prog X.w) X.A (getItem v (.ref sl)) (EP X pins σ Q) X.xe s
def RQ(r:V->Option Int->Option Int->Hp->VK->Prop)(te:TE)(tl th:TO):TE:=λσ H Q=>te σ H λx H1=>tl σ H1 λl H2=>th σ H2 λu H3=>r x l u H3 Q
def vx{r:V->Option Int->Option Int->Hp->VK->Prop}(hr:CQ X r)(he:PE X e te)(hl:PO X lo tl)(hu:PO X hi th):PE X (.Subscript e (.Slice lo hi none p2) pos) (RQ r te tl th):=by
 intro pins s σ H Q I h;refine Subscript_ (aX (he pins s σ H _ I h) λv s1 ⟨x,H1,I1,r1,q1⟩=>?_);refine wpAny_Slice (aX (hl pins s1 σ H1 _ I1 q1) λvl s2 ⟨l,H2,I2,pl,q2⟩=>aX (hu pins s2 σ H2 _ I2 q2) λvu s3 ⟨u,H3,I3,pu,q3⟩=>?_);rw[evalPart_none];refine gc ?_;have I4:Inv X pins σ H3 {s3 with heap:=s3.heap.push {cls:=.type "slice",data:=.fields #[vl,vu,.none]}}:=I3.kept (t':=s3.toks) λb ob q=>eR _ q
 obtain⟨T,id,hT,ht,hg⟩:=hr pins {s3 with heap:=s3.heap.push {cls:=.type "slice",data:=.fields #[vl,vu,.none]}} σ H3 x v vl vu l u s3.heap.objs.size Q I4 r1 (aR.IsSliceOf.new ..) pl pu q3
 show aU (model X.prog X.w) X.A (subscriptTail e (.Slice lo hi none p2) v (.ref s3.heap.objs.size)) (EP X pins σ Q) X.xe {s3 with heap:=s3.heap.push {cls:=.type "slice",data:=.fields #[vl,vu,.none]}}
 exact tail_any (ops:=[.ref s3.heap.objs.size,v]) ht hT hg (by with_unfolding_all rfl)
def qd(xs:List V)(lo hi:Option Int):List V:=(xs.drop (HT.cK xs.length 0 lo)).take (HT.cK xs.length xs.length hi-HT.cK xs.length 0 lo)
def RS(xs:List V)(lo hi:Option Int):(qd xs lo hi).length<=xs.length:=by
 unfold qd;rw[jY,kF]
 lia
end
def ka(n:Nat)(i:Int):Option Nat:=if 0<=i then(if i<n then some i.toNat else none) else if-(n:Int)<=i then some (i+n).toNat else none
def kb{α:Type}(xs:List α)(i:Int):Option α:=(ka xs.length i).bind λj=>xs[j]?
def Kv{n:Nat}{i:Int}{j:Nat}(h:ka n i=some j):seqIndex? i n=some j/\j<n/\ -(n:Int)<=i/\i<n:=by
 unfold ka at h;by_cases h0:0<=i
 ·rw[if_pos h0] at h;by_cases h1:i<n
  ·rw[if_pos h1] at h;have e:i.toNat=j:=aZ h;exact⟨by rw[seqIndex_of h0 h1,e],by lia,by lia,h1⟩
  ·rw[if_neg h1] at h;exact ns h
 ·rw[if_neg h0] at h;by_cases h1: -(n:Int)<=i
  ·rw[if_pos h1] at h;have e:(i+n).toNat=j:=aZ h;exact⟨by rw[seqIndex_neg (by lia) h1,e],by lia,h1,by lia⟩
  ·rw[if_neg h1] at h;exact ns h
def CS{α:Type}{xs:List α}{i:Int}{v:α}(h:kb xs i=some v):∃j,seqIndex? i xs.length=some j/\xs[j]? =some v/\j<xs.length/\ -(xs.length:Int)<=i/\i<xs.length:=by
 unfold kb at h;cases e:ka xs.length i with
 |none=>rw[e] at h;cases h
 |some j=>
  rw[e] at h;obtain⟨h1,h2,h3,h4⟩:=Kv e;exact⟨j,h1,h,h2,h3,h4⟩
def cX{α:Type}{xs:List α}{j:Nat}{v:α}(h:xs[j]? =some v):kb xs (j:Int)=some v:=by
 have hj:j<xs.length:=(dz.mp h).1;have e:ka xs.length (j:Int)=some j:=by
  unfold ka;rw[if_pos (by lia),if_pos (by lia)];simp
 unfold kb;rw[e];exact h
def RT(b:bj):Prop:=∀o i,subscripted b false o i=operate [o,i] (getItem o i)
def yM(X:Cx)(r:R2):Prop:=
 ∀(value slice:bj) (pins:List (ae×Obj)) (s:aq) (σ:St) (H:Hp) (x y:V) (v u:ai) (Q:VK),Inv X pins σ H s->b7 x v->b7 y u->r x y H Q->
  subscripted slice false v u=operate [v,u] (getItem v u)->aU (model X.prog X.w) X.A (subscriptTail value slice v u) (EP X pins σ Q) X.xe s
def rn(X:Cx)(id:String)(r:V->List V->Hp->VK->Prop):Prop:=
 ∀(pins:List (ae×Obj)) (s:aq) (σ:St) (H:Hp) (x:V) (xs:List V) (v:ai) (us:List ai) (Q:VK),Inv X pins σ H s->b7 x v->Vals xs us->r x xs H Q->
  aU (model X.prog X.w) X.A (call (.builtin id) (v::us)) (EP X pins σ Q) X.xe s
section
variable{X:Cx}{a b:bj}{ta tb:TE}{pos:Pos}
def cj{r:R2}(hr:yM X r)(ha:PE X a ta)(hb:PE X b tb)(hs:RT b):PE X (.Subscript a b pos) (vr r ta tb):=by
 intro pins s σ H Q I h;exact Subscript_ (Cv ha hb I h λv u s2 x y H2 I2 rx ry q=>hr a b pins s2 σ H2 x y v u Q I2 rx ry q (hs _ _))
inductive CT(K:aI)(x:V)(y:V)(H:Hp)(Q:VK):Prop
 |mk (p xs i v:_) (_:x=.ref p) (_:y=.int i) (_:aF K H p xs) (_:kb xs i=some v) (_:Q v H)
inductive CU(K:aI)(x:V)(y:V)(H:Hp)(Q:VK):Prop
 |mk (p xs i v:_) (_:x=.ref p) (_:y=.int i) (_:fR K H p xs) (_:kb xs i=some v) (_:Q v H)
inductive RU(x:V)(y:V)(H:Hp)(Q:VK):Prop
 |mk (z i c:_) (_:x=.str z) (_:y=.int i) (_:z.length<=sizeLine) (_:kb z.cps.toList i=some c) (_:Q (.str ⟨#[c]⟩) H)
def cH:yM X (CT X.K):=by
 intro value slice pins s σ H x y v u Q I rx ry h hs;obtain⟨p,xs,i,z,rfl,rfl,hq,he,q⟩:=h;cases rx;obtain⟨t,rfl⟩:=ry;obtain⟨aE,r,pl,hz⟩:=I.list hq;obtain⟨j,h1,h2,h3,h4,h5⟩:=CS he;obtain⟨w,ew,vy⟩:=r.get h2;have hl:=r.length;have hn:=tQ;have fin:EP X pins σ Q w s:=⟨z,H,I,vy,q⟩;by_cases h0:0<=i
 ·have hj:i.toNat=j:=by
   rw[seqIndex_of h0 h5] at h1;exact aZ h1
  exact item_listR pl.isList h0 (by lia) (by rw[hj];simpa using ew) fin hs
 ·have hj:(i+(aE.toArray.size:Int)).toNat=j:=by
   rw[seqIndex_neg (by lia) h4] at h1
   rw[fO,<-hl];exact aZ h1
  exact subscriptTail_builtinR (x:=w) pl.isList.typeIs slot_list_getitem.lookup
   (wpAny_getItem_list_neg (Q:=λr s'=>r=w/\EP X pins σ Q r s') pl.isList (by lia) (by rw[fO]<;>lia) (by lia) (by rw[hj];simpa using ew) ⟨rfl,fin⟩) hs
def Kw:yM X (CU X.K):=by
 intro value slice pins s σ H x y v u Q I rx ry h hs;obtain⟨p,xs,i,z,rfl,rfl,hq,he,q⟩:=h;cases rx;obtain⟨t,rfl⟩:=ry;obtain⟨aE,r,pl,hz⟩:=I.tuple hq;obtain⟨j,h1,h2,h3,h4,h5⟩:=CS he;obtain⟨w,ew,vy⟩:=r.get h2;have hl:=r.length;have hn:=tQ;have fin:EP X pins σ Q w s:=⟨z,H,I,vy,q⟩;exact subscriptTail_builtinR (x:=w) pl.typeIs slot_tuple_getitem.lookup
  (getItem_tuple (j:=j) (Q:=λr s'=>r=w/\EP X pins σ Q r s') pl (by lia) (by lia) (by rw[fO,<-hl];exact h1) (by simpa using ew) ⟨rfl,fin⟩) hs
def CV:yM X RU:=by
 intro value slice pins s σ H x y v u Q I rx ry h hs;obtain⟨z,i,c,rfl,rfl,hz,he,q⟩:=h;obtain⟨t,rfl⟩:=rx;obtain⟨t',rfl⟩:=ry;obtain⟨j,h1,h2,h3,h4,h5⟩:=CS he;have hl:z.cps.toList.length=z.length:=by simp[Str.length]
 rw[hl] at h1 h4 h5;have hn:=tQ;exact tail_any (BV s z t) slot_str_getitem.lookup (getItem_str (c:=c) (by
  have e1:decide (i< -(2^63:Int))=false:=decide_eq_false (by lia)
  have e2:decide (i≥2^63)=false:=decide_eq_false (by lia)
  rw[e1,e2,sU]) (by rw[h1];simpa using h2) ⟨.str ⟨#[c]⟩,H,I.tok _,⟨_,rfl⟩,q⟩) hs
def RV(aE:List ai)(n j:Nat)(u:ai):BW (·.setIfInBounds j u) {cls:=.type "list",data:=.seq aE.toArray n}={cls:=.type "list",data:=.seq (aE.set j u).toArray n}:=by
 simp[BW]
theorem Inv.lst{pins:List (ae×Obj)}{σ:St}{H:Hp}{s:aq}{p:ae}{xs:List V}(I:Inv X pins σ H s)(h:H p=some (.lst xs)):
 ∃(aE:List ai) (n:Nat),Vals xs aE/\s.heap.get? p=some {cls:=.type "list",data:=.seq aE.toArray n}/\xs.length<=sizeLine:=by
 obtain⟨z,aE,n,r,e⟩:=I.aQ p _ h;exact⟨aE,n,r,e,z⟩
def Inv.RW{pins:List (ae×Obj)}{σ:St}{H:Hp}{s:aq}{p:ae}{xs ys:List V}{aE its':List ai}{n n':Nat}{f:Obj->Obj}(I:Inv X pins σ H s)(h:H p=some (.lst xs))
 (ho:s.heap.get? p=some {cls:=.type "list",data:=.seq aE.toArray n}) (hf:f {cls:=.type "list",data:=.seq aE.toArray n}={cls:=.type "list",data:=.seq its'.toArray n'}) (r:Vals ys its') (hz:ys.length<=sizeLine) (t:Nat):
 Inv X pins σ (upd H p (.lst ys)) {s with heap:=s.heap.update p f,toks:=t}:=by
 have e:(s.heap.update p f).get? p=some {cls:=.type "list",data:=.seq its'.toArray n'}:=by
  rw[BX f ho (by rw[hf]<;>rfl),hf]
 refine I.write (x:=p) (e:=p) (by rw[h];trivial) (.inl rfl) (λb u hb q=>(uZ _ _ (Ne.symm hb)).trans q) ⟨_,e⟩ ?_
 exact⟨hz,its',n',r,e⟩
inductive RX(o:V)(i:V)(v:V)(H:Hp)(Q:Hp->Prop):Prop
 |mk (p xs k j:_) (_:o=.ref p) (_:i=.int k) (_:H p=some (.lst xs)) (_:ka xs.length k=some j) (_:Q (upd H p (.lst (xs.set j v))))
def set_list:JR X RX:=by
 intro pins s σ H o i v ov iv u Q I ro ri rv h;obtain⟨p,xs,k,j,rfl,rfl,hp,hj,q⟩:=h;cases ro;obtain⟨t,rfl⟩:=ri;obtain⟨aE,n,r,ho,hz⟩:=I.lst hp;obtain⟨h1,h2,h3,h4⟩:=Kv hj;have hl:=r.length;have hn:=tQ;have I':Inv X pins σ (upd H p (.lst (xs.set j v))) {s with heap:=s.heap.update p (BW (·.setIfInBounds j u))}:=
  I.RW hp ho (RV aE n j u) (r.set rv j) (by rw[gV];exact hz) s.toks
 by_cases h0:0<=k
 ·have hk:k.toNat=j:=by
   rw[seqIndex_of h0 h4] at h1;exact aZ h1
  exact PySem.W.ki_setAt ho h0 (by lia) (by rw[fO,<-hl];exact h4) (by rw[hk];exact⟨_,I',q⟩)
 ·have hk:(k+(aE.toArray.size:Int)).toNat=j:=by
   rw[seqIndex_neg (by lia) h3] at h1
   rw[fO,<-hl];exact aZ h1
  exact PySem.W.ki_setBack ho (by lia) (by rw[fO,<-hl];exact h3) (by lia) (by rw[hk];exact⟨_,I',q⟩)
def RY(lo hi:Option Int)(n:Nat):(u1 lo hi none n).1=((HT.cK n 0 lo:Nat):Int)/\ (u1 lo hi none n).2.1=((HT.cK n n hi:Nat):Int)/\ (u1 lo hi none n).2.2=1:=by
 refine⟨?_,?_,rfl⟩
 ·cases lo with
  |none=>simp[u1,HT.cK]
  |some i=>
   simp only[u1,HT.cK,Option.getD_none,show(1:Int)>0 by decide,if_true]
   by_cases h:i<0
   ·simp only[h,if_true]<;>lia
   ·simp only[h,if_false]<;>lia
 ·cases hi with
  |none=>simp[u1,HT.cK]
  |some i=>
   simp only[u1,HT.cK,Option.getD_none,show(1:Int)>0 by decide,if_true]
   by_cases h:i<0
   ·simp only[h,if_true]<;>lia
   ·simp only[h,if_false]<;>lia
def RZ(aE:List ai)(lo hi:Option Int):slicePick aE.toArray lo hi none=((aE.drop (HT.cK aE.length 0 lo)).take (HT.cK aE.length aE.length hi-HT.cK aE.length 0 lo)).toArray:=by
 obtain⟨h1,h2,h3⟩:=RY lo hi aE.toArray.size;unfold slicePick;rw[h1,h2,h3];simp only[sliceRange_one,pick_run,fO]<;>rfl
inductive R0(K:aI)(x:V)(lo:Option Int)(hi:Option Int)(H:Hp)(Q:VK):Prop
 |mk (a xs:_) (_:x=.ref a) (_:aF K H a xs) (_:∀p,H p=none->Q (.ref p) (upd H p (.lst (qd xs lo hi))))
def CW:CQ X (R0 X.K):=by
 intro pins s σ H x v vl vu lo hi sl Q I rx hs pl pu h;obtain⟨a,xs,rfl,hx,q⟩:=h;cases rx;obtain⟨aE,r,ht,hz⟩:=I.list hx;have hlen:=r.length;refine⟨"list",_,slot_list_getitem.lookup,ht.isList.typeIs,?_⟩;refine wpAny_getItem_list_slice ht.isList hs pl pu .none (by simp) ?_ (by rw[fO]<;>lia)
 rw[RZ,<-hlen];refine⟨.ref s.heap.objs.size,_,I.laid (t':=s.toks) (o:=.lst (qd xs lo hi)) (λb ob q=>eR _ q) (bz _) ?_,rfl,q _ (I.aQ.fresh (bz _))⟩;exact⟨dy (RS xs lo hi) hz,_,0,(r.drop (HT.cK xs.length 0 lo)).take (HT.cK xs.length xs.length hi-HT.cK xs.length 0 lo),iM _ rfl⟩
def qe:V->Bool
 | .aM=>true
 | .bl _=>true
 | .int _=>true
 | .str _=>true
 |_=>false
def nN:V->V->Bool
 | .aM,.aM=>true
 | .bl a,.bl b=>a==b
 | .bl a,.int b=>(if a then 1 else 0)==b
 | .int a,.bl b=>a==(if b then 1 else 0)
 | .int a,.int b=>a==b
 | .str a,.str b=>a==b
 |_,_=>false
def R1{A:cQ}{s:aq}{y x:V}{u v:ai}(ry:b7 y u)(rx:b7 x v)(fy:qe y=true)(fx:qe x=true):SeqAt.EqAt A s u v (nN y x):=by
 cases y with
 |aM=>
  cases ry;cases x with
  |aM=>cases rx;exact SeqAt.EqAt.same _
  |bl b=>cases rx;exact SeqAt.EqAt.none_bool b
  |int b=>obtain⟨t,rfl⟩:=rx;exact SeqAt.EqAt.none_int b t
  |str b=>obtain⟨t,rfl⟩:=rx;exact SeqAt.EqAt.none_str b t
  |_=>exact absurd (show false=true from fx) cW
 |bl a=>
  cases ry;cases x with
  |aM=>cases rx;exact SeqAt.EqAt.bool_none a
  |bl b=>cases rx;exact SeqAt.EqAt.bool_bool a b
  |int b=>obtain⟨t,rfl⟩:=rx;exact SeqAt.EqAt.bool_int a b t
  |str b=>obtain⟨t,rfl⟩:=rx;exact SeqAt.EqAt.bool_str a b t
  |_=>exact absurd (show false=true from fx) cW
 |int a=>
  obtain⟨t',rfl⟩:=ry;cases x with
  |aM=>cases rx;exact SeqAt.EqAt.int_none a t'
  |bl b=>cases rx;exact SeqAt.EqAt.int_bool a t' b
  |int b=>obtain⟨t,rfl⟩:=rx;exact SeqAt.EqAt.int_int a t' b t
  |str b=>obtain⟨t,rfl⟩:=rx;exact af0 a t' b t
  |_=>exact absurd (show false=true from fx) cW
 |str a=>
  obtain⟨t',rfl⟩:=ry;cases x with
  |aM=>cases rx;exact SeqAt.EqAt.str_none a t'
  |bl b=>cases rx;exact SeqAt.EqAt.str_bool a t' b
  |int b=>obtain⟨t,rfl⟩:=rx;exact af1 a t' b t
  |str b=>obtain⟨t,rfl⟩:=rx;exact SeqAt.EqAt.str_str a t' b t
  |_=>exact absurd (show false=true from fx) cW
 |_=>exact absurd (show false=true from fy) cW
def oQ(x:V)(u:ai):Bool:=match u with
 | .none=>nN .aM x
 | .bool b=>nN (.bl b) x
 | .int i _=>nN (.int i) x
 | .str z _=>nN (.str z) x
 |_=>false
def Kx{x y:V}{u:ai}(r:b7 y u)(f:qe y=true):oQ x u=nN y x:=by
 cases y with
 |aM=>cases r;rfl
 |bl b=>cases r;rfl
 |int i=>obtain⟨t,rfl⟩:=r;rfl
 |str z=>obtain⟨t,rfl⟩:=r;rfl
 |_=>exact absurd (show false=true from f) cW
theorem CY{x:V}:∀{xs:List V} {us:List ai},Vals xs us->xs.all qe=true->us.any (oQ x)=xs.any λy=>nN y x
 |_,_,.nil,_=>rfl
 |y::xs,u::us,.cons r t,f=>by
  rw[k_,eS] at f;rw[qN,qN,Kx r f.1,CY t f.2]
theorem CZ{A:cQ}{s:aq}{x:V}{v:ai}(rx:b7 x v)(fx:qe x=true):∀{xs:List V} {us:List ai},Vals xs us->xs.all qe=true->∀u∈us,SeqAt.EqAt A s u v (oQ x u)
 |_,_,.nil,_=>λu hu=>by cases hu
 |y::xs,u::us,.cons r t,f=>λu' hu=>by
  rw[k_,eS] at f;rcases cC.mp hu with rfl|hu
  ·rw[Kx r f.1];exact R1 r rx f.1 fx
  ·exact CZ rx fx t f.2 u' hu
def jI(x:V)(xs:List V):Bool:=xs.any λy=>nN y x
inductive R3(K:aI)(neg:Bool)(x:V)(y:V)(H:Hp)(Q:VK):Prop
 |mk (p xs:_) (_:y=.ref p) (_:(aF K H p xs\/fR K H p xs)) (_:qe x=true) (_:xs.all qe=true) (_:Q (.bl (if neg then !jI x xs else jI x xs)) H)
def yN:e_ X (kE .In) (R3 X.K false):=by
 intro pins s σ H x y v u Q I rx ry h;obtain⟨p,xs,rfl,hq,fx,fs,q⟩:=h;cases ry;rcases hq with hq|hq
 ·obtain⟨aE,r,pl,hz⟩:=I.list hq;refine SeqAt.in_listAt (oQ x) pl.isList (λw hw=>CZ rx fx r fs w (by simpa using hw)) ⟨.bl _,H,I,rfl,?_⟩
  rw[show aE.toArray.any (oQ x)=aE.any (oQ x) by simp,CY r fs]
  exact q
 ·obtain⟨aE,r,pl,hz⟩:=I.tuple hq;refine SeqAt.in_tupleAt (oQ x) pl (λw hw=>CZ rx fx r fs w (by simpa using hw)) ⟨.bl _,H,I,rfl,?_⟩
  rw[show aE.toArray.any (oQ x)=aE.any (oQ x) by simp,CY r fs]
  exact q
def iA:jF X (.builtin "len") (λxs H Q=>∃p ys,xs=[.ref p]/\ (aF X.K H p ys\/fR X.K H p ys)/\Q (.int ys.length) H):=by
 intro pins s σ H xs us Q I r h;obtain⟨p,ys,rfl,hq,q⟩:=h;obtain⟨u,rfl,rx⟩:=vals1 r;cases rx;have hn:=tQ;rcases hq with hq|hq
 ·obtain⟨aE,r',pl,hz⟩:=I.list hq;have hlen:=r'.length;exact Calls.call_len_list pl.isList (by simp only[fO]<;>lia) ⟨.int ys.length,H,I.tok _,⟨s.toks+1,by rw[fO,hlen]⟩,q⟩
 ·obtain⟨aE,r',pl,hz⟩:=I.tuple hq;have hlen:=r'.length;exact len_tuple pl (by simp only[fO]<;>lia) ⟨.int ys.length,H,I.tok _,⟨s.toks+1,by rw[fO,hlen]⟩,q⟩
def vz:jF X (.builtin "len") (λxs H Q=>∃z,xs=[.str z]/\z.length<=sizeLine/\Q (.int z.length) H):=by
 intro pins s σ H xs us Q I r h;obtain⟨z,rfl,hz,q⟩:=h;obtain⟨u,rfl,t,rfl⟩:=vals1 r;have hn:=tQ;exact len_str (by lia) ⟨.int z.length,H,I.tok _,⟨_,rfl⟩,q⟩
def Ky:jF X (.type "list") (λxs H Q=>∃p ys,xs=[.ref p]/\ (aF X.K H p ys\/fR X.K H p ys)/\ ∀l,H l=none->Q (.ref l) (upd H l (.lst ys))):=by
 intro pins s σ H xs us Q I r h;obtain⟨p,ys,rfl,hq,q⟩:=h;obtain⟨u,rfl,rx⟩:=vals1 r;cases rx;have fin:∀(aE:List ai),Vals ys aE->ys.length<=sizeLine->∀(h':aR) (c':Nat),(∀b o',s.heap.get? b=some o'->h'.get? b=some o')->
  h'.get? s.heap.objs.size=some {cls:=.type "list",dict:=none,data:=.seq aE.toArray c',slots:= #[]}->EP X pins σ Q (.ref s.heap.objs.size) {s with heap:=h'}:=λaE r' hz h' c' kp e=>
  ⟨.ref s.heap.objs.size,_,I.laid (t':=s.toks) kp (bz _) (show df X.prog X.w _ h' _ (.lst ys) from⟨hz,aE,c',r',e⟩),rfl,q _ (I.aQ.fresh (bz _))⟩
 rcases hq with hq|hq
 ·obtain⟨aE,r',pl,hz⟩:=I.list hq;have hlen:=r'.length;obtain⟨o,ho,hc,n,hd⟩:=pl.isList;exact call_list_seq p (.inl rfl) ho hc hd (λh' c' kp e=>fin aE r' hz h' c' kp e) (by simp only[fO]<;>lia)
 ·obtain⟨aE,r',pl,hz⟩:=I.tuple hq;have hlen:=r'.length;obtain⟨o,ho,hc,n,hd⟩:=pl;exact call_list_seq p (.inr rfl) ho hc hd (λh' c' kp e=>fin aE r' hz h' c' kp e) (by simp only[fO]<;>lia)
def C0(K:aI)(T:String)(x:V)(H:Hp):Prop:=match x with
 | .str _=>T="str"
 | .int _=>T="int"
 | .ref p=>(T="list"/\ ∃xs,aF K H p xs)\/(T="tuple"/\ ∃o,K.lookup p=some o/\o.cls=.type "tuple"/\o.dict=none)\/
    (T="dict"/\ ((∃kvs,H p=some (.dK kvs))\/∃kvs,H p=some (.dT kvs)))\/(T="set"/\ ∃S n,H p=some (.set S n))
 |_=>False
def R4{pins:List (ae×Obj)}{σ:St}{H:Hp}{s:aq}{T:String}{x:V}{v:ai}(I:Inv X pins σ H s)(r:b7 x v)(ty:C0 X.K T x H):
 s.TypeIs v T/\ ∀a,v=.ref a->∃ob,s.heap.get? a=some ob/\ob.dict=none:=by
 cases x with
 |str z=>
  obtain⟨t,rfl⟩:=r;cases (show T="str" from ty);exact⟨BV s z t,λ_ e=>nomatch e⟩
 |int i=>
  obtain⟨t,rfl⟩:=r;cases (show T="int" from ty);exact⟨typeIs_int s i t,λ_ e=>nomatch e⟩
 |ref p=>
  cases r;rcases ty with⟨rfl,xs,hq⟩|⟨rfl,o,hk,hc,hd⟩|⟨rfl,hk⟩|⟨rfl,S,n,hk⟩
  ·obtain⟨aE,_,pl,_⟩:=I.list hq;refine⟨pl.isList.typeIs,λa e=>?_⟩;obtain rfl:=u4 e;obtain⟨o,n,e,c,hd,_⟩:=pl;exact⟨o,e,hd⟩
  ·refine⟨⟨o,I.dm p o hk,hc⟩,λa e=>?_⟩;obtain rfl:=u4 e;exact⟨o,I.dm _ o hk,hd⟩
  ·have z:∃o,s.heap.get? p=some o/\o.ExactDict:=by
    rcases hk with⟨kvs,hk⟩|⟨kvs,hk⟩
    ·obtain⟨_,_,_,_,o,_,_,e,ex,_⟩:=I.aQ p _ hk;exact⟨o,e,ex⟩
    ·obtain⟨_,_,_,_,o,_,_,e,ex,_⟩:=I.aQ p _ hk;exact⟨o,e,ex⟩
   obtain⟨o,e,ex⟩:=z;refine⟨⟨o,e,ex.1⟩,λa e2=>?_⟩;obtain rfl:=u4 e2;exact⟨o,e,ex.2.1⟩
  ·obtain⟨o,_,_,_,e,ex,_⟩:=I.aQ p _ hk;refine⟨⟨o,e,ex.1⟩,λa e2=>?_⟩;obtain rfl:=u4 e2;exact⟨o,e,ex.2.1⟩
 |_=>exact gw ty
def Kz(K:aI)(T:String)(r:V->List V->Hp->VK->Prop)(to:TE)(t:TA):TE:=λσ H Q=>to σ H λx H1=>C0 K T x H1/\t σ H1 λxs H2=>r x xs H2 Q
variable{o e:bj}{es:List bj}{to:TE}{t:TA}{name:Str}{apos dW:Pos}{T id:String}{r:V->List V->Hp->VK->Prop}
def iS(pa:PlainAttrs T)(slot:Slot T name id)(qf:typeOf (.builtin id)=pure (.type "method_descriptor"))(hm:rn X id r)(ho:PE X o to)(ha:PA X (e::es) t)
 (jn:oB o name X.env (eval o X.env)=eval o X.env:=by rfl)
 (C1:((f_ dW (cG (e::es) X.env)).all (λx=> !x.1)&&(sR dW (sS [] X.env)).all (λx=>x.1.isSome)
   &&decide ((e::es).length+([]:List Keyword).length+(if([]:List Keyword).isEmpty then 0 else 1)<30))=true:=by rfl)
 (oR:(apos.endLine==dW.line)=true:=by rfl) (hs:cG (e::es) X.env=(false,eval e X.env)::cG es X.env:=by rfl) (C3:(f_ dW (cG es X.env)).any (·.1)=false:=by rfl):
 PE X (.Call (.Attribute o name apos) (e::es) [] dW) (Kz X.K T r to t):=by
 intro pins s σ H Q I h;refine wpAny_Call_method_late jn C1 oR rfl (aX (ho pins s σ H _ I h) λv s1 ⟨x,H1,I1,r1,ty,q1⟩=>?_);obtain⟨h1,h2⟩:=R4 I1 r1 ty;refine⟨T,id,pa,slot,qf,h1,h2,?_⟩;have hA:=ha dW pins s1 σ H1 _ I1 q1;rw[hs] at hA⊢;refine IV (by show(false||(f_ dW (cG es X.env)).any (·.1))=false;rw[C3]<;>rfl) (PZ ?_)
 exact aX hA λus s2 ⟨vs,H2,I2,r2,q2⟩=>hm pins s2 σ H2 x vs v us Q I2 r1 r2 q2
end
def KA(X:Cx)(id:String)(r:V->List V->Hp->VK->Prop):Prop:=
 ∀(pins:List (ae×Obj)) (s:aq) (σ:St) (H:Hp) (x:V) (xs:List V) (v:ai) (us:List ai) (Q:VK),Inv X pins σ H s->b7 x v->Vals xs us->r x xs H Q->
  aU (model X.prog X.w) X.A (call (.builtin id) (v::us)) (EP X pins σ Q) X.xe s
def Vals.one:∀{x:V} {us:List ai},Vals [x] us->∃u,us=[u]/\b7 x u
 |_,_,.cons r .nil=>⟨_,rfl,r⟩
theorem Vals.rep{xs:List V}{us:List ai}(h:Vals xs us):∀k:Nat,Vals (cZ k xs).flatten (cZ k us).flatten
 |0=>.nil
 |k+1=>by
  rw[xW,xW,u5,u5];exact Vals.append h (Vals.rep h k)
theorem foldl_rep(aE:List ai):∀(k:Nat) (acc:List ai),
 List.foldl (λx1 x2=>x1++x2) acc.toArray (cZ k aE.toArray)=(acc++(cZ k aE).flatten).toArray
 |0,acc=>by simp
 |k+1,acc=>by
  have e:acc.toArray++aE.toArray=(acc++aE).toArray:=by simp
  have e2:(acc++aE)++(cZ k aE).flatten=acc++(cZ (k+1) aE).flatten:=by
   rw[xW,u5,lh]
  rw[<-e2,<-foldl_rep aE k (acc++aE),<-e,xW,u6]
section
variable{X:Cx}{pins:List (ae×Obj)}{σ:St}{H:Hp}{s:aq}{l b:ae}{xs ys zs:List V}
def Inv.KC{aE its':List ai}{n:Nat}{f:Array ai->Array ai}{t':Nat}(I:Inv X pins σ H s)(hH:H l=some (.lst xs))
 (e:s.heap.get? l=some {cls:=.type "list",data:=.seq aE.toArray n}) (hf:f aE.toArray=its'.toArray) (hv:Vals ys its') (hz:ys.length<=sizeLine):
 Inv X pins σ (upd H l (.lst ys)) {s with heap:=s.heap.update l (BW f),toks:=t'}:=by
 have q:=PySem.IsL.update e f;rw[hf] at q;refine I.write (x:=l) (e:=l) (by rw[hH];exact trivial) (.inl rfl) (λb' u hb hu=>(uZ s.heap (BW f) (Ne.symm hb)).trans hu) ⟨_,q⟩ ?_
 exact⟨hz,its',_,hv,q⟩
def Inv.KD{aE:List ai}{t':Nat}(I:Inv X pins σ H s)(hv:Vals ys aE)(hz:ys.length<=sizeLine):
 Inv X pins σ (upd H s.heap.objs.size (.lst ys)) {s with heap:=s.heap.push {cls:=.type "list",data:=.seq aE.toArray},toks:=t'}:=
 I.laid (λ_ _ q=>eR _ q) (bz _) ⟨hz,aE,0,hv,iM _ rfl⟩
theorem Inv.fresh(I:Inv X pins σ H s):H s.heap.objs.size=none:=I.aQ.fresh (bz _)
def Inv.tU(I:Inv X pins σ H s)(hH:H l=some (.lst xs)):xs.length<=sizeLine/\ ∃(aE:List ai) (n:Nat),Vals xs aE/\xs.length=aE.length/\s.heap.get? l=some {cls:=.type "list",data:=.seq aE.toArray n}:=by
 obtain⟨z,aE,n,r,e⟩:=I.aQ l _ hH;exact⟨z,aE,n,r,r.length,e⟩
def KG{n:Nat}(h:n<=sizeLine):IW n=false:=by
 unfold IW;exact decide_eq_false (by lia)
end
section
variable{X:Cx}
inductive KH(x:V)(vs:List V)(H:Hp)(Q:VK):Prop
 |mk (l xs y:_) (_:x=.ref l) (_:vs=[y]) (_:H l=some (.lst xs)) (_:xs.length<sizeLine) (_:Q .aM (upd H l (.lst (xs++[y]))))
def kd:KA X "list.append" KH:=by
 intro pins s σ H x vs v us Q I rx rv h;obtain⟨l,xs,y,rfl,rfl,hH,hz,q⟩:=h;cases rx;obtain⟨u,rfl,ru⟩:=rv.one;obtain⟨z,aE,n,r,hl,e⟩:=I.tU hH;refine call_meets F.slot_list_append ⟨_,e,rfl⟩ F.entry_list_append (F.args_list_append_2 _ _) (PySem.list_append l aE.toArray n u (by rw[fO];lia)) ⟨e,?_⟩
 refine⟨.aM,_,I.KC (its':=aE++[u]) hH e (by simp) (r.append (.cons ru .nil)) ?_,rfl,q⟩
 rw[bS,List.length_singleton]
 lia
inductive R5(x:V)(vs:List V)(H:Hp)(Q:VK):Prop
 |mk (l b xs zs:_) (_:x=.ref l) (_:vs=[.ref b]) (_:H l=some (.lst xs)) (_:H b=some (.lst zs)) (_:xs.length+zs.length<=sizeLine) (_:Q .aM (upd H l (.lst (xs++zs))))
def vA:KA X "list.extend" R5:=by
 intro pins s σ H x vs v us Q I rx rv h;obtain⟨l,b,xs,zs,rfl,rfl,hH,hB,hz,q⟩:=h;cases rx;obtain⟨u,rfl,ru⟩:=rv.one;cases ru;obtain⟨z,aE,n,r,hl,e⟩:=I.tU hH;obtain⟨z2,rp,n2,r2,jJ,e2⟩:=I.tU hB;have hsz:aE.toArray.size+rp.toArray.size<=sizeLine:=by rw[fO,fO];lia
 have C4: ¬(!aE.toArray.isEmpty&&IW (aE.toArray.size+rp.toArray.size))=true:=by
  rw[KG hsz,Bool.and_false];exact cW
 refine call_meets F.slot_list_extend ⟨_,e,rfl⟩ F.entry_list_extend (F.args_list_extend_2 _ _)
  (AutoSeq1.list_extend_list_list_0 l aE.toArray n b rp.toArray n2 C4 (by rw[fO];lia) (by lia)) ⟨e,e2,?_⟩
 refine⟨.aM,_,I.KC (its':=aE++rp) hH e (by simp) (r.append r2) ?_,rfl,q⟩
 rw[bS]
 lia
inductive R6(x:V)(y:V)(H:Hp)(Q:VK):Prop
 |mk (l b xs zs:_) (_:x=.ref l) (_:y=.ref b) (_:H l=some (.lst xs)) (_:H b=some (.lst zs)) (_:xs.length+zs.length<=sizeLine) (_:∀p,H p=none->Q (.ref p) (upd H p (.lst (xs++zs))))
def C5:e_ X (oz .Add) R6:=by
 intro pins s σ H x y v u Q I rx ry h;obtain⟨l,b,xs,zs,rfl,rfl,hH,hB,hz,q⟩:=h;cases rx;cases ry;obtain⟨z,aE,n,r,hl,e⟩:=I.tU hH;obtain⟨z2,rp,n2,r2,jJ,e2⟩:=I.tU hB;refine PySem.P.add_list e e2 ?_ (by rw[fO,fO];lia)
 have ea:aE.toArray++rp.toArray=(aE++rp).toArray:=by simp
 rw[ea];exact⟨.ref _,_,I.KD (t':=s.toks) (r.append r2) (by rw[bS];lia),rfl,q _ I.fresh⟩
inductive KI(x:V)(y:V)(H:Hp)(Q:VK):Prop
 |mk (l k xs:_) (_:x=.ref l) (_:y=.int k) (_:H l=some (.lst xs)) (_: -(2^63)<=k) (_:k<2^63) (_:xs.length*k.toNat<=sizeLine) (_:∀p,H p=none->Q (.ref p) (upd H p (.lst (cZ k.toNat xs).flatten)))
def len_rep{α:Type}(xs:List α)(k:Nat):(cZ k xs).flatten.length=k*xs.length:=by
 induction k with
 |zero=>simp
 |succ k ih=>rw[xW,u5,bS,ih,Nat.succ_mul,Nat.add_comm]
def vB:e_ X (oz .Mult) KI:=by
 intro pins s σ H x y v u Q I rx ry h;obtain⟨l,k,xs,rfl,rfl,hH,h1,h2,hz,q⟩:=h;cases rx;obtain⟨t,rfl⟩:=ry;obtain⟨z,aE,n,r,hl,e⟩:=I.tU hH;have hlen:aE.toArray.size*k.toNat<=sizeLine:=by rw[fO,<-hl];exact hz
 have R7: ¬aE.toArray.size*k.toNat>(2^63-1)/8:=by
  have:(sizeLine:Nat)<=(2^63-1)/8:=by decide
  lia
 have R8: ¬(!Builtin.List.listFitsIndex k)=true:=by
  rw[fitsIndex_both h1 h2];exact cW
 have C4: ¬IW (aE.toArray.size*k.toNat)=true:=by
  rw[KG hlen];exact cW
 have R9:List.foldl (λx1 x2=>x1++x2) #[] (cZ (if aE.toArray.isEmpty=true then 0 else k.toNat) aE.toArray)=(cZ k.toNat aE).flatten.toArray:=by
  have f0:∀m:Nat,List.foldl (λx1 x2=>x1++x2) #[] (cZ m aE.toArray)=(cZ m aE).flatten.toArray:=λm=>by
   have:=foldl_rep aE m [];rw[sV] at this;exact this
  rw[f0];cases aE with
  |nil=>simp
  |cons a r'=>rw[if_neg (by simp)]
 refine wpAny_binaryOp_repeat_ref (T:="list") (U:="int") (by decide) ⟨_,e,rfl⟩ (λs'=>typeIs_int s' k t) noFill_list_mul F.fills_int_mul F.slot_int_rmul repeat_list F.slot_int_index.lookup
  (call_meets F.slot_int_rmul (typeIs_int s k t) F.entry_int_rmul (F.args_int_rmul_2 _ _) (int___rmul___int_list k t l aE.toArray n)
    ⟨e,rfl,⟨_,e,rfl⟩,call_meets F.slot_list_mul ⟨_,e,rfl⟩ F.entry_list_mul (F.args_list_mul_2 _ _) (AutoListH.list___mul___list_int_3 l aE.toArray n k t R8 R7 C4) ⟨e,?_⟩⟩)
 rw[R9];exact⟨.ref _,_,I.KD (t':=s.toks) (r.rep k.toNat) (by rw[len_rep,Nat.mul_comm];exact hz),rfl,q _ I.fresh⟩
end
section
variable{prog:bQ}{w:bB}{A:cQ}{E:ai->aq->Prop}{s:aq}
set_option maxRecDepth 100000 in
end
theorem Vals.ints:∀{ns:List Int} {us:List ai},Vals (ns.map V.int) us->IntsAre us ns
 |[],us,h=>by
  rw[IX] at h;cases h;exact IntsAre.nil
 |n::ns,us,h=>by
  rw[i4] at h;cases h with
  |cons r t=>
   obtain⟨k,rfl⟩:=r;exact IntsAre.cons n k (Vals.ints t)
theorem Vals.KJ:∀{bs:List Bool} {us:List ai},Vals (bs.map V.bl) us->us=bs.map xP
 |[],us,h=>by
  rw[IX] at h;cases h;rfl
 |b::bs,us,h=>by
  rw[i4] at h;cases h with
  |cons r t=>
   cases r;rw[Vals.KJ t,i4]
def Vals.KL{a:ae}{us:List ai}(r:Vals [V.ref a] us):us=[di a]:=by
 cases r with
 |cons r t=>
  cases t;cases r;rfl
section
variable{prog:bQ}{w:bB}{A:cQ}{E:ai->aq->Prop}{s:aq}{l:ae}{aE:List ai}{ns:List Int}{Q:ai->aq->Prop}
def R_(hh:A.handled=none)(hl:s.heap.IsList l aE.toArray)(hi:IntsAre aE ns)
 (h:∀h' tk t',(∀b o,s.heap.get? b=some o->h'.get? b=some o)->Q (.int ns.sum t') {s with heap:=h',toks:=tk}):aU (model prog w) A (call (.builtin "sum") [.ref l]) Q E s:=by
 obtain⟨xs,e⟩:=hi.allInts.items;have hn:numsOf (intItems xs).toList=ns:=by rw[<-e];exact hi.numsOf
 rw[nums_intItems] at hn;rw[e] at hl;refine PySem.sum_intListG hh hl λh' tk t' hk=>?_;have:=h h' tk t' hk;rw[preSum_eq,IY (by simp),hn];exact this
end
section
variable{X:Cx}
inductive R'(K:aI)(vs:List V)(H:Hp)(Q:VK):Prop
 |mk (a:ae) (ns:List Int) (_:vs=[V.ref a]) (_:aF K H a (ns.map V.int)) (_:Q (.int ns.sum) H)
def Sa(hc:X.calm=true):jF X (.builtin "sum") (R' X.K):=by
 intro pins s σ H vs us Q I r h;obtain⟨a,ns,rfl,hs,q⟩:=h;obtain⟨aE,rv,hl,_⟩:=I.list hs;rw[Vals.KL r];exact R_ (I.ok.hd hc) hl.isList rv.ints λh' tk t' hk=>⟨.int _,H,I.kept hk,⟨_,rfl⟩,q⟩
end
def Sb{prog:bQ}{w:bB}{A:cQ}{E:ai->aq->Prop}{s:aq}{l:ae}{items:Array ai}{Q:ai->aq->Prop}(hl:s.heap.IsList l items)
 (h:∀s₂:aq,s₂={s with heap:=s.heap.push {cls:=.type "list_iterator",data:=.fields #[.ref l,.int 0 0]}}->
   (s₂.heap.IsListIter s.heap.objs.size l 0/\s₂.heap.IsList l items)->l≠s.heap.objs.size->Q (.ref s.heap.objs.size) s₂):aU (model prog w) A (pyIter (.ref l)) Q E s:=by
 have dU:l<s.heap.objs.size:=by obtain⟨_,e,_⟩:=hl;exact cY e
 exact wpAny_pyIter_list hl (h _ rfl ⟨⟨_,iM _ rfl,rfl,rfl⟩,hl.push _⟩ (iu dU))
def Sd{prog:bQ}{w:bB}{A:cQ}{bs:List Bool}{aE:List ai}(e:aE=bs.map xP):
 TruthOf prog w A (λi v=>aE.toArray[i]? =some v) (λi=>bs.getD i false):=λi v s Q E hv hq=>by
 have yJ:aE[i]? =some v:=by simpa using hv
 rw[e,dI] at yJ;obtain⟨b,hb,rfl⟩:=Option.map_eq_some_iff.mp yJ;have hg:bs.getD i false=b:=by rw[List.getD_eq_getElem?_getD,hb]<;>rfl
 have jH:Q (bs.getD i false) s:=hq;rw[hg] at jH;exact qH jH
theorem any_range:∀bs:List Bool,(cB bs.length).any (λi=>bs.getD i false)=bs.any id
 |[]=>rfl
 |b::bs=>by
  rw[cI,List.range_succ_eq_map,qN,List.any_map,qN,<-any_range bs]
  all_goals rfl
theorem all_range:∀bs:List Bool,(cB bs.length).all (λi=>bs.getD i false)=bs.all id
 |[]=>rfl
 |b::bs=>by
  rw[cI,List.range_succ_eq_map,k_,List.all_map,k_,<-all_range bs]
  all_goals rfl
section
variable{X:Cx}
inductive Se(K:aI)(vs:List V)(H:Hp)(Q:VK):Prop
 |mk (a:ae) (bs:List Bool) (_:vs=[V.ref a]) (_:aF K H a (bs.map V.bl)) (_:Q (.bl (bs.all id)) H)
def Sf(hc:X.calm=true):jF X (.builtin "all") (Se X.K):=by
 intro pins s σ H vs us Q I r h;obtain⟨a,bs,rfl,hs,q⟩:=h;obtain⟨aE,rv,hl,_⟩:=I.list hs;rw[Vals.KL r];have hb:=rv.KJ;refine call_all_walk (Sb hl.isList λs₂ e2 st tV=>?_);subst e2;refine⟨_,_,_,_,_,_,_,rfl,Walks.list (A:=X.A.in1) (I.ok.hd hc) _ a tV aE.toArray,st,Sd hb,λh' tk hk=>?_⟩;refine⟨.bl _,H,I.kept λb o eo=>hk b o (λC7=>?_) (eR _ eo),?_,q⟩
 ·rcases cC.mp C7 with e1|C7
  ·exact absurd (e1▸cY eo) (iK _)
  ·cases C7
 ·show xP _=xP _;rw[<-all_range,hb,fO,bq]
end
abbrev KN(h:aR)(c:ae)(v:Option ai):Prop:=h.IsCell c v
def Sg(scope sc:d6):d6:=
 {scope with names:=scope.names.map λ(n,k)=>if(k== .free&&sc.kind== .function&&sc.names.lookup n==some .cell) then(n,.cell) else(n,k)}
def gJ(cells:List (Str×ae)):List (Str×jw)->List (Str×ae)->List (Str×ae)
 |[],acc=>acc
 |(n,k)::r,acc=>if k== .free then gJ cells r ((n,(cells.lookup n).getD 0)::acc) else gJ cells r acc
theorem KO(env:Env)(f:Str×jw->List (Str×ae)->Sem (ForInStep (List (Str×ae))))
 (hf:∀n k c,f (n,k) c=if k== .free then(do let a <-cellOf env n;pure (.yield ((n,a)::c))) else pure (.yield c)):
 ∀(names:List (Str×jw)) (acc:List (Str×ae)),(∀y∈names,y.2=.free->∃c,env.cells.lookup y.1=some c)->forIn names acc f=pure (gJ env.cells names acc)
 |[],acc,_=>by rw[List.forIn_nil];rfl
 |(n,k)::r,acc,h=>by
  rw[List.forIn_cons,hf];have ih:=λacc=>KO env f hf r acc λy hy=>h y (fG _ hy);unfold gJ;by_cases hk:(k==xX)=true
  ·rw[if_pos hk,if_pos hk];obtain⟨c,hc⟩:=h (n,k) iL (by simpa using hk)
   have e:cellOf env n=pure c:=by unfold cellOf;rw[hc]
   rw[e];have e2:(env.cells.lookup n).getD 0=c:=by rw[hc];rfl
   rw[e2];exact ih _
  ·rw[if_neg hk,if_neg hk];exact ih _
def Sh{scope:d6}{env:Env}(h:∀y∈scope.names,y.2=.free->∃c,env.cells.lookup y.1=some c):closureFor scope env=pure (gJ env.cells scope.names []):=by
 simp only[closureFor];rw[KO env _ (λn k c=>rfl) scope.names [] h];rfl
theorem mem_lookup{α:Type}:∀{l:List (Str×α)} {n:Str} {c:α},(n,c)∈l->∃c',l.lookup n=some c'
 |(k,v)::r,n,c,h=>by
  rw[u7];cases hb:n==k with
  |true=>exact⟨_,rfl⟩
  |false=>
   rcases cC.mp h with e|h
   ·cases e;simp at hb
   ·exact mem_lookup h
theorem yO{cells:List (Str×ae)}:∀{names:List (Str×jw)} {acc:List (Str×ae)} {n:Str} {c:ae},(n,c)∈gJ cells names acc->(n,c)∈acc\/((n,.free)∈names/\c=(cells.lookup n).getD 0)
 |[],_,_,_,h=>.inl h
 |(m,k)::r,acc,n,c,h=>by
  unfold gJ at h
  split at h
  ·rename_i hk;have hk:k=.free:=by simpa using hk
   rcases yO h with h|⟨h1,h2⟩
   ·rcases cC.mp h with e|h
    ·cases e;exact .inr ⟨hk▸iL,rfl⟩
    ·exact .inl h
   ·exact .inr ⟨fG _ h1,h2⟩
  ·rcases yO h with h|⟨h1,h2⟩
   ·exact .inl h
   ·exact .inr ⟨fG _ h1,h2⟩
theorem C8{cells:List (Str×ae)}:∀{names:List (Str×jw)} {acc:List (Str×ae)} {p:Str×ae},p∈acc->p∈gJ cells names acc
 |[],_,_,h=>h
 |(m,k)::r,acc,p,h=>by
  unfold gJ
  split
  ·exact C8 (fG _ h)
  ·exact C8 h
theorem C9{cells:List (Str×ae)}:∀{names:List (Str×jw)} {acc:List (Str×ae)} {n:Str},(n,.free)∈names->(n,(cells.lookup n).getD 0)∈gJ cells names acc
 |(m,k)::r,acc,n,h=>by
  unfold gJ;rcases cC.mp h with e|h
  ·cases e;exact C8 iL
  ·split
   ·exact C9 h
   ·exact C9 h
theorem vC:∀{names:List (Str×jw)} {h:aR} {acc:List (Str×ae)} {x:Str} {c:ae},(x,c)∈gP h.objs.size names acc->
 (x,c)∈acc\/((x,.cell)∈names/\h.objs.size<=c/\KN (sW h names) c none)
 |[],_,_,_,_,h=>.inl h
 |(n,k)::r,h,acc,x,c,hm=>by
  unfold gP at hm;unfold sW
  split at hm
  ·rename_i hk;rw[if_pos hk];have hk:k=.cell:=by simpa using hk
   rw[<-kZ h {cls:=.type "cell",data:=.cell none}] at hm;rcases vC hm with hm|⟨h1,h2,h3⟩
   ·rcases cC.mp hm with e|hm
    ·cases e;exact .inr ⟨hk▸iL,bz _,_,IZ r _ _ _ (iM _ rfl),rfl⟩
    ·exact .inl hm
   ·rw[kZ] at h2;exact .inr ⟨fG _ h1,I_ h2,h3⟩
  ·rename_i hk;rw[if_neg hk];rcases vC hm with hm|⟨h1,h2,h3⟩
   ·exact .inl hm
   ·exact .inr ⟨fG _ h1,h2,h3⟩
theorem yP:∀{names:List (Str×jw)} {n:Nat} {acc:List (Str×ae)} {p:Str×ae},p∈acc->p∈gP n names acc
 |[],_,_,_,h=>h
 |(m,k)::r,n,acc,p,h=>by
  unfold gP
  split
  ·exact yP (fG _ h)
  ·exact yP h
theorem C_:∀{names:List (Str×jw)} {n:Nat} {acc:List (Str×ae)} {x:Str},(x,.cell)∈names->∃c,(x,c)∈gP n names acc
 |(m,k)::r,n,acc,x,h=>by
  unfold gP;rcases cC.mp h with e|h
  ·cases e;exact⟨n,yP iL⟩
  ·split
   ·exact C_ h
   ·exact C_ h
theorem Dc:∀{names:List (Str×jw)} {h:aR} {acc:List (Str×ae)} {x y:Str} {c:ae},(∀p∈acc,p.2<h.objs.size)->(∀x y c,(x,c)∈acc->(y,c)∈acc->x=y)->
 (x,c)∈gP h.objs.size names acc->(y,c)∈gP h.objs.size names acc->x=y
 |[],_,_,_,_,_,_,hi,h1,h2=>hi _ _ _ h1 h2
 |(n,k)::r,h,acc,x,y,c,hl,hi,h1,h2=>by
  unfold gP at h1 h2
  split at h1
  ·rename_i hk;rw[if_pos hk] at h2;rw[<-kZ h {cls:=.type "cell",data:=.cell none}] at h1 h2;refine Dc (h:=h.push _) (λp hp=>?_) (λx y c a b=>?_) h1 h2
   ·rw[kZ];rcases cC.mp hp with rfl|hp
    ·exact BP _
    ·exact P0 (hl p hp)
   ·rcases cC.mp a with e|a<;>rcases cC.mp b with e'|b
    ·cases e;cases e';rfl
    ·cases e;exact absurd (hl _ b) (iK _)
    ·cases e';exact absurd (hl _ a) (iK _)
    ·exact hi _ _ _ a b
  ·rename_i hk;rw[if_neg hk] at h2;exact Dc hl hi h1 h2
def Si{M:Model}{A:cQ}{E:ai->aq->Prop}{s:aq}{scope:d6}{globals:ae}{closure:List (Str×ae)}{qual:Str}{func:Option ae}{code:ai}{around:Env}{builtins:ae}{Q:Env->aq->Prop}
 (h:Q (newEnv scope s.heap.objs.size globals (gP (s.heap.objs.size+1) scope.names closure) qual func code (some around) builtins)
   {s with heap:=sW (s.heap.push {cls:=.type "dict",data:=.dict #[]}) scope.names}):
 aU M A (newFunctionEnv scope globals closure [] qual func code (some around) builtins) Q E s:=by
 simp only[newFunctionEnv,Option.isSome_some,if_true];refine cg (wpAny_alloc ?_);refine cg (wpAny_layCells _ (λn k c=>rfl) scope.names closure _ _ ?_);rw[show({s with heap:=s.heap.push {cls:=.type "dict",data:=.dict #[]}}:aq).heap.objs.size=s.heap.objs.size+1 from kZ ..]
 rw[List.forIn_nil];exact cg (gc (gc h))
theorem De{sc:d6}:∀{names:List (Str×jw)} {x:Str} {k:jw},
 (names.map λ(n,k)=>if(k==xX&&sc.kind== .function&&sc.names.lookup n==some .cell) then(n,P1) else(n,k)).lookup x=some k->
 ∃k',names.lookup x=some k'/\ (k=k'\/(k'=.free/\k=.cell))
 |[],_,_,h=>by simp at h
 |(n,k₀)::r,x,k,h=>by
  have ih:= @De sc r x k;have h':oA x ((if(k₀==xX&&sc.kind== .function&&sc.names.lookup n==some .cell)=true then(n,P1) else(n,k₀))::(r.map _))=some k:=h
  cases hx:x==n with
  |true=>
   simp only[u7,hx];by_cases hc:(k₀==xX&&sc.kind== .function&&sc.names.lookup n==some .cell)=true
   ·rw[if_pos hc] at h';simp only[u7,hx] at h';obtain rfl:=aZ h';simp only[eS,beq_iff_eq] at hc;exact⟨k₀,rfl,.inr ⟨hc.1.1,rfl⟩⟩
   ·rw[if_neg hc] at h';simp only[u7,hx] at h';obtain rfl:=aZ h';exact⟨_,rfl,.inl rfl⟩
  |false=>
   simp only[u7,hx];by_cases hc:(k₀==xX&&sc.kind== .function&&sc.names.lookup n==some .cell)=true
   ·rw[if_pos hc] at h';simp only[u7,hx] at h';exact ih h'
   ·rw[if_neg hc] at h';simp only[u7,hx] at h';exact ih h'
structure jo(N:List Str)(sc scope:d6)(own:List (Str×Nat)):Prop where
 kind:scope.kind=.function
 uniq:∀y∈scope.names,scope.names.lookup y.1=some y.2
 ix:∀p∈own,N[p.2]? =some p.1
 free:∀y∈scope.names,y.2=.free->sc.names.lookup y.1=some .cell\/sc.names.lookup y.1=some .free
 own:∀y∈scope.names,y.2=.local\/y.2=.cell->y.1∈own.map (·.1)\/y.1∉N
def wipe(σ:St):List Nat->St
 |[]=>σ
 |v::vs=>(wipe σ vs).set v none
theorem Dg(σ:St):∀vs:List Nat,(wipe σ vs).length=σ.length
 |[]=>rfl
 |v::vs=>by unfold wipe;rw[gV,Dg σ vs]
theorem Dh{σ:St}{i:Nat}{x:V}:∀{vs:List Nat},(wipe σ vs)[i]? =some (some x)->σ[i]? =some (some x)/\i∉vs
 |[],h=>⟨h,by simp⟩
 |v::vs,h=>by
  unfold wipe at h;by_cases hi:v=i
  ·subst hi;by_cases hv:v<(wipe σ vs).length
   ·rw[uV hv] at h;cases h
   ·rw[pJ (by simpa using hv)] at h;exact ns h
  ·rw[uW hi] at h;obtain⟨h1,h2⟩:=Dh h;exact⟨h1,by simp only[cC,not_or];exact⟨λe=>hi e.symm,h2⟩⟩
abbrev Cx.g_(X:Cx)(s:aq)(H:Hp)(scope:d6)(eG:Env)(fp:List ae):Cx:={X with dC:=s,tG:=H,env:=eG,outer:=X.stack,ex:=fp,fn:=λx=>scope.names.lookup x==some .cell,pn:=[],xe:=λ_ _=>False}
section
variable{X:Cx}{pins:List (ae×Obj)}{σ:St}{H:Hp}{s:aq}
def Sj{scope:d6}{own:List (Str×Nat)}{fp:List ae}(I:Inv X pins σ H s)(ok:jo X.N X.env.scope scope own)(hN:X.N.Nodup)(tW:∀b∈fp,lF X pins H b/\b<s.heap.objs.size):
 Inv (X.g_ s H scope (lj scope (gP (s.heap.objs.size+1) scope.names (gJ X.env.cells scope.names [])) s.heap.objs.size X.env) fp) [] (wipe σ (own.map (·.2))) H {s with heap:=sW (s.heap.push {cls:=.type "dict",data:=.dict #[]}) scope.names}:=by
 have tL:∀y∈scope.names,y.2=.free->∃c,X.env.cells.lookup y.1=some c:=λy hy e=>by
  rcases ok.free y hy e with k|k
  ·exact I.ok.has _ (.inl k)
  ·exact I.ok.has _ (.inr k)
 generalize vD:lj scope (gP (s.heap.objs.size+1) scope.names (gJ X.env.cells scope.names [])) s.heap.objs.size X.env=eG;have kp:∀b o,s.heap.get? b=some o->(sW (s.heap.push {cls:=.type "dict",data:=.dict #[]}) scope.names).get? b=some o:=λb o e=>IZ _ _ _ _ (eR _ e);have hL:eG.locals=s.heap.objs.size:=by rw[<-vD];rfl
 have kO:eG.cells=gP (s.heap.objs.size+1) scope.names (gJ X.env.cells scope.names []):=by rw[<-vD];rfl
 have rq:eG.scope=Sg scope X.env.scope:=by rw[<-vD];rfl
 rw[<-kZ s.heap {cls:=.type "dict",data:=.dict #[]}] at kO;have cm:∀{y c},(y,c)∈gJ X.env.cells scope.names []->X.env.cells.lookup y=some c/\c<s.heap.objs.size:=λ{y c} hm=>by
  rcases yO hm with hm|⟨h1,rfl⟩
  ·cases hm
  ·obtain⟨c,hc⟩:=tL _ h1 rfl;rw[hc];obtain⟨w,z⟩:=I.cell _ _ hc;exact⟨rfl,z.lt⟩
 have mem:∀{y c},eG.cells.lookup y=some c->(X.env.cells.lookup y=some c/\c<s.heap.objs.size)\/(s.heap.objs.size+1<=c/\KN (sW (s.heap.push {cls:=.type "dict",data:=.dict #[]}) scope.names) c none):=λ{y c} e=>by
  rw[kO] at e;rcases vC (jZ e) with hm|⟨_,h2,h3⟩
  ·exact .inl (cm hm)
  ·rw[kZ] at h2;exact .inr ⟨h2,h3⟩
 have look:∀{y},scope.names.lookup y=some .free->∃c,eG.cells.lookup y=some c/\X.env.cells.lookup y=some c:=λ{y} hl=>by
  have hy:(y,xX)∈scope.names:=jZ hl;obtain⟨c',e'⟩:=mem_lookup (yP (names:=scope.names) (n:=(s.heap.push {cls:=.type "dict",data:=.dict #[]}).objs.size) (C9 (cells:=X.env.cells) (acc:=[]) hy));rw[<-kO] at e';refine⟨c',e',?_⟩;rw[kO] at e';rcases vC (jZ e') with hm|⟨h1,_,_⟩
  ·exact(cm hm).1
  ·have:=ok.uniq _ h1;rw[hl] at this;cases this
 have jq:(X.g_ s H scope eG fp).Ok:=by
  refine⟨I.ok.mod,by show eG.scope.kind=_;rw[rq];exact ok.kind,by show eG.globals=_;rw[<-vD];exact I.ok.glob,by show eG.builtins=_;rw[<-vD];exact I.ok.blt,by show s.heap.objs.size<=eG.locals;rw[hL];exact bz _,
   λy z c e1 e2=>?_,λy hy=>?_,λy c z e=>?_,I.ok.hd,I.ok.frames,.inl rfl,λb hb=>⟨?_,λy c e z=>?_⟩,I.bs,dy I.ok.j_ I.sz,λb o e hb=>?_,λb hb z=>?_,I.stack,I.pU⟩
  ·have e1:eG.cells.lookup y=some c:=e1;have e2:eG.cells.lookup z=some c:=e2;rw[kO] at e1 e2;refine Dc (λp hp=>?_) (λy z c a b=>I.ok.inj y z c (cm a).1 (cm b).1) (jZ e1) (jZ e2);rw[kZ];exact P0 (cm (y:=p.1) (c:=p.2) hp).2
  ·show∃c,eG.cells.lookup y=some c;have key:∀k,eG.kindOf y=some k->(k=.cell\/k=.free)->∃c,eG.cells.lookup y=some c:=λk hk Di=>by
    unfold Env.kindOf at hk;rw[rq] at hk;obtain⟨k',e,r⟩:=De hk;have:k'=.cell\/k'=.free:=by
     rcases r with rfl|⟨rfl,_⟩
     ·exact Di
     ·exact .inr rfl
    rcases this with rfl|rfl
    ·obtain⟨c,hm⟩:=C_ (n:=(s.heap.push {cls:=.type "dict",data:=.dict #[]}).objs.size) (acc:=gJ X.env.cells scope.names []) (jZ e);obtain⟨c',e'⟩:=mem_lookup hm;exact⟨c',by rw[kO];exact e'⟩
    ·obtain⟨c,h1,_⟩:=look e;exact⟨c,h1⟩
   rcases hy with hy|hy
   ·exact key _ hy (.inl rfl)
   ·exact key _ hy (.inr rfl)
  ·have z:(scope.names.lookup y==some P1)=true:=z;have z:scope.names.lookup y=some .cell:=by simpa using z
   have e:eG.cells.lookup y=some c:=e;rw[kO] at e;rcases vC (jZ e) with hm|⟨_,h2,_⟩
   ·rcases yO hm with hm|⟨h1,_⟩
    ·cases hm
    ·have q:=ok.uniq _ h1;rw[z] at q;cases q
   ·rw[kZ] at h2;exact I_ h2
  ·show b≠eG.locals;rw[hL];exact iu (tW b hb).2
  ·have e:eG.cells.lookup y=some c:=e;rcases mem e with⟨h1,_⟩|⟨h1,_⟩
   ·exact(tW b hb).1.2.2.2.2.1 y c h1 z
   ·have h2:s.heap.objs.size+1<=b:=by rw[<-z];exact h1
    exact absurd (eC (tW b hb).2 (I_ h2)) (iK _)
  ·rcases(tW b hb).1.2.2.2.1 with z|z
   ·exact I.ok.pR b o e z
   ·exact absurd (eC (cY e) (dy I.ok.j_ z)) (iK _)
  ·rcases cC.mp (I.vk b z) with z|z
   ·exact(tW b hb).1.2.1 z
   ·exact(tW b hb).1.2.2.1 z
 refine⟨jq,rfl,I.bare,Un.kept kp,⟨λ_=>none,?_,λi y av e1 e2 e3=>?_⟩,λy c e=>?_,?_,λy c e=>?_,λp hp=>?_,I.aQ.kept kp,by rw[Dg];exact I.len⟩
 ·show aR.Ns _ eG.locals _;rw[hL];exact aR.Ns.keeps (aR.Ns.new ..) λb o e=>IZ _ _ _ _ e
 ·obtain⟨e2,tV⟩:=Dh e2;have hG:scope.names.lookup y=some .free/\ (eG.kindOf y=some .cell\/eG.kindOf y=some .free):=by
   have key:∀k,eG.scope.names.lookup y=some k->k=.local\/k=.cell\/k=.free->scope.names.lookup y=some .free/\ (eG.kindOf y=some .cell\/eG.kindOf y=some .free):=λk hk Di=>by
    have tX:=hk;rw[rq] at hk;obtain⟨k',e,r⟩:=De hk;have no: ¬(k'=.local\/k'=.cell):=λhh=>by
     rcases ok.own _ (jZ e) hh with e'|e'
     ·obtain⟨p,hp,Sk⟩:=mZ.mp e';have e3:=ok.ix p hp;have:p.1=y:=Sk;rw[this] at e3;exact tV (mZ.mpr ⟨p,hp,Ci hN e3 e1⟩)
     ·exact e' (d7 e1)
    rcases r with rfl|⟨rfl,rfl⟩
    ·rcases Di with rfl|rfl|rfl
     ·exact absurd (.inl rfl) no
     ·exact absurd (.inr rfl) no
     ·exact⟨e,.inr tX⟩
    ·exact⟨e,.inl tX⟩
   have e3:pP eG.scope y:=e3;rcases e3 with e3|e3|e3
   ·exact key _ e3 (.inl rfl)
   ·exact key _ e3 (.inr (.inl rfl))
   ·exact key _ e3 (.inr (.inr rfl))
  obtain⟨m,hn,hl⟩:=I.loc;have Sl:pP X.env.scope y:=(ok.free _ (jZ hG.1) rfl).elim (λk=>.inr (.inl k)) (λk=>.inr (.inr k));obtain⟨w,r,q⟩:=hl i y av e1 e2 Sl;refine⟨w,r,.inr ⟨hG.2,?_⟩⟩;obtain⟨c,h1,h2⟩:=look hG.1;rcases q with⟨k,_⟩|⟨_,c',e',z⟩
  ·have k:X.env.scope.names.lookup y=some .local:=k;rcases ok.free _ (jZ hG.1) rfl with k'|k'<;>rw[show X.env.scope.names.lookup y=_ from k'] at k<;>cases k
  ·rw[h2] at e';obtain rfl:=aZ e';exact⟨c,h1,z.keeps kp⟩
 ·have e:eG.cells.lookup y=some c:=e;rcases mem e with⟨h1,_⟩|⟨_,z⟩
  ·obtain⟨w,z⟩:=I.cell y c h1;exact⟨w,z.keeps kp⟩
  ·exact⟨_,z⟩
 ·show H eG.locals=none;rw[hL];exact I.aQ.fresh (bz _)
 ·have e:eG.cells.lookup y=some c:=e;rcases mem e with⟨h1,_⟩|⟨h1,_⟩
  ·exact I.gY y c h1
  ·exact I.aQ.fresh (I_ h1)
 ·exact absurd (show p∈([]:List (ae×Obj))++[] from hp) (by simp)
def Sm{E:ai->aq->Prop}{D:ae}{xs:List V}{y:V}{v:ai}{Q:ai->aq->Prop}(I:Inv X pins σ H s)(hD:H D=some (.lst xs))(hz:xs.length<sizeLine)(r:b7 y v)
 (h:∀s',Inv X pins σ (upd H D (.lst (xs++[y]))) s'->Q .none s'):aU (model X.prog X.w) X.A (call (.builtin "list.append") [.ref D,v]) Q E s:=by
 obtain⟨hz',aE,n,ri,e⟩:=I.aQ D _ hD;have hl:=ri.length;refine append_at (hsz:=by rw[fO];lia) e λh' sb jB=>?_
 refine h {s with heap:=h'} (I.write (t':=s.toks) (by rw[hD];trivial) (.inl rfl) (λb u hb q=>(sb.2 b hb).trans q) ⟨_,jB⟩ ⟨by rw[bS];exact hz,aE++[v],n+1,ri.append (.cons r .nil),?_⟩)
 rw[jB];simp
def vE(X:Cx)(ifs:List bj)(t:TT):Prop:=
 ∀(pins:List (ae×Obj)) (s:aq) (σ:St) (H:Hp) (Q:Bool->Hp->Prop),Inv X pins σ H s->t σ H Q->
  aU (model X.prog X.w) X.A (forIn ifs true λc r=>if r=true then do let ok <-isTrue c X.env (eval c X.env);pure (Ja ok) else pure (Ja r)) (TP X pins σ Q) X.xe s
def Sn:TT:=λ_ H Q=>Q true H
def oS:vE X [] Sn:=λ_ _ _ H _ I h=>wpAny_tests_nil ⟨H,I,h⟩
def KP{c:bj}{t:TT}(h:PT X c t):vE X [c] t:=λpins s σ H Q I hw=>wpAny_tests_one (h pins s σ H Q I hw)
end
def tY{α:Type}{t:Sem α}{Q Q':α->aq->Prop}{M:Model}{A:cQ}{E:ai->aq->Prop}{s:aq}(h:aU M A t Q (λ_ _=>False) s)(hQ:∀a s,Q a s->Q' a s):aU M A t Q' E s:=fN h hQ λ_ _ z=>gw z
def So{prog:bQ}{w:bB}{A:cQ}{R:Result->aq->Prop}{s:aq}{elt target iter:bj}{ifs:List bj}{scope:d6}{pos:Pos}{it acc:ai}{env:Env}(I:Nat->aq->Prop)
 (turn:∀n s,I n s->aU (model prog w) A (pyNext it) (λr s₁=>match r with
   |none=>R (.ok .next) s₁
   |some v=>aU (model prog w) A (IP target it v) (λ_ s₁'=>aU (model prog w) A (assign target env v) (λ_ s₂=>
     aU (model prog w) A (forIn ifs true λc r=>if r=true then do let ok <-isTrue c env (eval c env);pure (Ja ok) else pure (Ja r)) (λok s₃=>
      if ok=true then aU (model prog w) A (eval elt env) (λx s₄=>
       aU (model prog w) A (call (.builtin "list.append") [acc,x]) (λ_ s₅=>∃m,m<n/\I m s₅) (pK (model prog w) A env λe s'=>R (.error e) s') s₄) (pK (model prog w) A env λe s'=>R (.error e) s') s₃
      else∃m,m<n/\I m s₃) (pK (model prog w) A env λe s'=>R (.error e) s') s₂) (pK (model prog w) A env λe s'=>R (.error e) s') s₁') (pK (model prog w) A env λe s'=>R (.error e) s') s₁) (pK (model prog w) A env λe s'=>R (.error e) s') s)
 (n:Nat) (h:I n s):
 pH (model prog w) A (.compLoop (.ListComp elt [⟨target,iter,ifs,0⟩] scope pos) 0 it acc env) R s:=by
 refine codeAny_loop rfl I (λn s hI=>?_) n h;show aU _ A ((compTurn (.ListComp elt [⟨target,iter,ifs,0⟩] scope pos) 0 it acc env).onRaise (λx=>do u9 x env;theTreesLotGoes x)) _ _ s
 refine wpAny_noted ?_;rw[compTurn_list];refine cg (BJ (cg (fN (turn n s hI) (λr s₁ h₁=>?_) λ_ _ h'=>h')));cases r with
 |none=>exact gc h₁
 |some v=>
  refine cg (fN h₁ (λ_ s₁' h₁'=>?_) λ_ _ h'=>h');refine cg (fN h₁' (λ_ s₂ h₂=>cg (fN h₂ (λok s₃ h₃=>?_) λ_ _ h'=>h')) λ_ _ h'=>h');cases ok with
  |false=>exact gc ⟨rfl,h₃⟩
  |true=>
   exact cg (cg (fN h₃ (λx s₄ h₄=>cg (fN h₄ (λ_ s₅ h₅=>gc (gc ⟨rfl,h₅⟩)) λ_ _ h'=>h')) λ_ _ h'=>h'))
section
variable{X:Cx}
def yQ(wi:TI)(g:TG)(tt:TT)(te:TE)(vs:List Nat):TE:=λσ H Q=>wi σ H λJ H1=>∀D,H1 D=none->∃W:Nat->Nat->Hp->Prop,(∃m,W 0 m (upd H1 D (.lst [])))/\ ∀i m H,W i m H->
 (J.stop i H/\Q (.ref D) H)\/(J.go i H/\ ∃Nx:Hp->Prop,(∀H',Nx H'->∃m',m'<m/\W (i+1) m' H')/\ ∀x H',J.oM i H x H'->g x (wipe σ vs) H' λσ2 H2=>wipe σ2 vs=wipe σ vs/\tt σ2 H2 λb H3=>
   if b=true then te σ2 H3 λy H4=>∃acc,H4 D=some (.lst acc)/\acc.length<sizeLine/\Nx (upd H4 D (.lst (acc++[y]))) else Nx H3)
def KQ{pins:List (ae×Obj)}{s:aq}{σ:St}{H:Hp}{Q:VK}{elt tg iter:bj}{ifs:List bj}{scope:d6}{own:List (Str×Nat)}{pos pos':Pos}{wi:TI}{g:TG}{tt:TT}{te:TE}{use:Option (ai->Sem Unit)}{Qf:ai->aq->Prop}
 (hc:X.calm=true) (hN:X.N.Nodup) (I:Inv X pins σ H s) (hi:PI X tg iter wi) (ok:jo X.N X.env.scope scope own)
 (hg:∀(s:aq) (H:Hp) (C:ae) (cl:List (Str×ae)) (fp:List ae),PG (X.g_ s H scope (lj scope cl C X.env) fp) tg g) (ht:∀(s:aq) (H:Hp) (C:ae) (cl:List (Str×ae)) (fp:List ae),vE (X.g_ s H scope (lj scope cl C X.env) fp) ifs tt)
 (he:∀(s:aq) (H:Hp) (C:ae) (cl:List (Str×ae)) (fp:List ae),PE (X.g_ s H scope (lj scope cl C X.env) fp) elt te) (hs:∀x,BK iter X.env x=pure x)
 (h:yQ wi g tt te (own.map (·.2)) σ H Q)
 (Sq:∀D C s' m H',Inv X pins σ H' s'->Q (.ref D) H'->s'.heap.Ns C m->lF X pins H' C->compPost (model X.prog X.w) X.A X.xe use Qf (.ref D) C (.ok .next) s'):
 aU (model X.prog X.w) X.A (comprehension (.ListComp elt [⟨tg,iter,ifs,0⟩] scope pos) scope X.env pos' (newList []) false (eval iter X.env) use) Qf X.xe s:=by
 have tL:∀y∈scope.names,y.2=.free->∃c,X.env.cells.lookup y.1=some c:=λy hy e=>by
  rcases ok.free y hy e with k|k
  ·exact I.ok.has _ (.inl k)
  ·exact I.ok.has _ (.inr k)
 refine wpAny_comprehension_free (use:=use) rfl hs (Sh tL) ok.kind (λy hy e=>by rw[ok.uniq y hy,e])
  (aX (hi pins s σ H _ I h) λxv s1 hx=>aX hx λyE s2 h2=>?_)
 obtain⟨it,fp,tn,J,H2,e,I2,T,tP,f2,q⟩:=h2;subst e;refine wpAny_newObj_type (Si ?_) (by show 0<=sizeLine;decide)
 generalize hD:s2.heap.objs.size=D;have Sr:H2 D=none:=I2.aQ.fresh (BO hD);obtain⟨W,⟨m0,w0⟩,turn⟩:=q D Sr;generalize KR:({s2 with heap:=s2.heap.push {cls:=.type "list",data:=.seq ([]:List ai).toArray}}:aq)=s3
 have I3:Inv X pins σ (upd H2 D (.lst [])) s3:=by
  rw[<-KR];refine I2.laid (t':=s2.toks) (λb o e=>eR _ e) (BO hD) ⟨eX _,[],0,.nil,?_⟩;rw[<-hD];exact iM _ rfl
 have h3:s3.heap=s2.heap.push {cls:=.type "list",data:=.seq ([]:List ai).toArray}:=by rw[<-KR]
 have sz:∀b∈fp,b<s2.heap.objs.size:=λb hb=>by
  obtain⟨o,e,_⟩:=T.obj _ _ tP b hb;exact cY e
 have f3:∀b∈fp,lF X pins (upd H2 D (.lst [])) b/\b<s3.heap.objs.size:=λb hb=>by
  have dU:=sz b hb;refine⟨⟨?_,(f2 b hb).2⟩,by rw[h3,kZ];exact P0 dU⟩
  rw[ak (by rw[<-hD];exact iu dU)]
  exact(f2 b hb).1
 have q_:tn 0 s3.heap:=T.keep _ _ _ tP λb _ o e=>by rw[h3];exact eR _ e
 have I4:=Sj I3 ok hN f3;have pg:=hg s3 (upd H2 D (.lst [])) s3.heap.objs.size (gP (s3.heap.objs.size+1) scope.names (gJ X.env.cells scope.names [])) fp;have pt:=ht s3 (upd H2 D (.lst [])) s3.heap.objs.size (gP (s3.heap.objs.size+1) scope.names (gJ X.env.cells scope.names [])) fp;have pe:=he s3 (upd H2 D (.lst [])) s3.heap.objs.size (gP (s3.heap.objs.size+1) scope.names (gJ X.env.cells scope.names [])) fp;show pH _ _ (.compStart (.ListComp elt [⟨tg,iter,ifs,0⟩] scope pos) 0 (.ref it) (.ref D) (lj scope (gP (s3.heap.objs.size+1) scope.names (gJ X.env.cells scope.names [])) s3.heap.objs.size X.env)) (compPost (model X.prog X.w) X.A X.xe use Qf (.ref D) s3.heap.objs.size) {s3 with heap:=sW (s3.heap.push {cls:=.type "dict",data:=.dict #[]}) scope.names}
 have KS:∀b∈fp,(upd H2 D (.lst [])) b=none:=λb hb=>(f3 b hb).1.1;generalize Ss:lj scope (gP (s3.heap.objs.size+1) scope.names (gJ X.env.cells scope.names [])) s3.heap.objs.size X.env=ce at I4 pg pt pe⊢;have cL:ce.locals=s3.heap.objs.size:=by subst Ss;rfl
 generalize hH3:upd H2 D (.lst [])=H3 at I3 I4 pg pt pe w0 KS f3;generalize Su:({s3 with heap:=sW (s3.heap.push {cls:=.type "dict",data:=.dict #[]}) scope.names}:aq)=s4 at I4⊢
 have KU:tn 0 s4.heap:=T.keep _ _ _ q_ λb _ o e=>by rw[<-Su];exact IZ _ _ _ _ (eR _ e)
 have lH:∀{σ':St} {H':Hp} {s':aq},Inv (X.g_ s3 H3 scope ce fp) [] σ' H' s'->(∀b∈fp,H' b=none)->∀b∈fp,lF (X.g_ s3 H3 scope ce fp) [] H' b:=λ{σ' H' s'} I' hn b hb=>
  ⟨hn b hb,(I'.ok.qX b hb).1,I'.ok.pS b hb,.inl hb,λx c e=>(I'.ok.qX b hb).2 x c e,λp hp=>absurd (show p∈([]:List (ae×Obj))++[] from hp) (by simp)⟩
 have loop:pH (model X.prog X.w) X.A (.compLoop (.ListComp elt [⟨tg,iter,ifs,0⟩] scope pos) 0 (.ref it) (.ref D) ce) (compPost (model X.prog X.w) X.A X.xe use Qf (.ref D) s3.heap.objs.size) s4:=by
  refine So (λn s'=>∃i H',Inv (X.g_ s3 H3 scope ce fp) [] (wipe σ (own.map (·.2))) H' s'/\tn i s'.heap/\ (∀b∈fp,H' b=none)/\W i n H') ?_ m0 ⟨0,H3,I4,KU,KS,w0⟩;rintro n s5 ⟨i,H5,I5,nI,n5,w5⟩;rcases turn i n H5 w5 with⟨stop,qq⟩|⟨go,Nx,Sv,step⟩
  ·have td:=T.done (X.g_ s3 H3 scope ce fp) rfl rfl rfl hc i [] s5 _ H5 (λ_ _=>False) I5 (lH I5 n5) nI stop;refine tY td λr s6 ⟨hr,I6⟩=>?_;subst hr;have I7:Inv X pins σ H5 s6:=I3.vn (ch:=fp) I6.os I6.base I6.aQ I6.bare λb hb=>⟨(f3 b hb).1.2.2.2.1,(f3 b hb).1.2.1,(f3 b hb).1.2.2.2.2.1,(f3 b hb).1.2.2.2.2.2⟩;have nC:H5 s3.heap.objs.size=none:=by
    have z:H5 ce.locals=none:=I6.free;rw[cL] at z;exact z
   obtain⟨m,hn,_⟩:=I6.loc;have hn:s6.heap.Ns ce.locals m:=hn;rw[cL] at hn;exact Sq D s3.heap.objs.size s6 m H5 I7 qq hn (I3.yD (bz _) nC)
  ·have ti:=T.item (X.g_ s3 H3 scope ce fp) rfl rfl rfl hc i [] s5 _ H5 (λ_ _=>False) I5 (lH I5 n5) nI go;refine tY ti λr s6 ⟨u,hr,h6⟩=>?_;subst hr;refine tY h6 λ_ s7 ⟨x,H7,I7,r7,y7,Dj,n7⟩=>?_;have Sw:=I7.pinned (lH I7 n7) (T.obj _ _ Dj);refine tY (pg _ s7 _ H7 x u _ Sw r7 (step x H7 y7)) λ_ s8 ⟨σ8,H8,I8,KW,q8⟩=>?_;refine tY (pt _ s8 σ8 H8 _ I8 q8) λb s9 ⟨H9,I9,q9⟩=>?_;have fin:∀{s':aq} {H':Hp},Inv (X.g_ s3 H3 scope ce fp) ([]++p9 fp s7.heap) σ8 H' s'->Nx H'->∃m,m<n/\ ∃i H',Inv (X.g_ s3 H3 scope ce fp) [] (wipe σ (own.map (·.2))) H' s'/\tn i s'.heap/\ (∀b∈fp,H' b=none)/\W i m H':=λ{s' H'} I' nx=>by
    obtain⟨m',hm,w'⟩:=Sv H' nx;have KY:∀b∈fp,∀o,s7.heap.get? b=some o->s'.heap.get? b=some o/\H' b=none:=λb hb o e=>
     let z:=I'.pin (b,o) (mY _ (mY _ (vp hb e)))
     ⟨z.1,z.2.1⟩
    have hl:(wipe σ (own.map (·.2))).length=σ8.length:=by rw[<-KW,Dg]
    refine⟨m',hm,i+1,H',(I'.q0 (pins:=[])).weak hl (λj v e=>?_),T.keep _ _ _ Dj λb hb o e=>(KY b hb o e).1,λb hb=>?_,w'⟩
    ·rw[<-KW] at e;exact(Dh e).1
    ·obtain⟨o,e,_⟩:=T.obj _ _ Dj b hb;exact(KY b hb o e).2
   cases b with
   |false=>
    simp only[Jb,if_false] at q9⊢;exact fin I9 q9
   |true=>
    simp only[if_true] at q9⊢;refine tY (pe _ s9 σ8 H9 _ I9 q9) λz s10 ⟨yv,H10,Sx,Sy,acc,Sz,SA,nx⟩=>?_;exact Sm (X:=X.g_ s3 H3 scope ce fp) Sx Sz SA Sy λs11 SD=>fin SD nx
 exact codeAny_compStart_list loop (T.self X.A 0 _ _ _ KU loop)
def nO{elt tg iter:bj}{ifs:List bj}{scope:d6}{own:List (Str×Nat)}{pos:Pos}{wi:TI}{g:TG}{tt:TT}{te:TE}(hc:X.calm=true)(hN:X.N.Nodup)(hi:PI X tg iter wi)(ok:jo X.N X.env.scope scope own)
 (hg:∀(s:aq) (H:Hp) (C:ae) (cl:List (Str×ae)) (fp:List ae),PG (X.g_ s H scope (lj scope cl C X.env) fp) tg g) (ht:∀(s:aq) (H:Hp) (C:ae) (cl:List (Str×ae)) (fp:List ae),vE (X.g_ s H scope (lj scope cl C X.env) fp) ifs tt)
 (he:∀(s:aq) (H:Hp) (C:ae) (cl:List (Str×ae)) (fp:List ae),PE (X.g_ s H scope (lj scope cl C X.env) fp) elt te) (hs:∀x,BK iter X.env x=pure x:=by intro _;rfl):
 PE X (.ListComp elt [⟨tg,iter,ifs,0⟩] scope pos) (yQ wi g tt te (own.map (·.2))):=by
 intro pins s σ H Q I h;rw[eval_ListComp];refine KQ hc hN I hi ok hg ht he hs h λD C s' m H' I' q hn f=>⟨m,hn,λtZ sb=>?_⟩;obtain⟨f0,f1,f2,f3,f4,f5⟩:=f;exact⟨.ref D,H',I'.turned (t':=s'.toks) (λb o hb e=>(sb.2 b hb).trans e) f0 f1 f3 f4 f5,rfl,q⟩
def SE{i:Nat}{y:Str}{py:Pos}{elt tg iter:bj}{ifs:List bj}{scope:d6}{own:List (Str×Nat)}{pos KZ:Pos}{wi:TI}{g:TG}{tt:TT}{te:TE}(hc:X.calm=true)(hN:X.N.Nodup)(hy:X.N[i]? =some y)(K0:X.env.scope.names.lookup y=some .local)
 (SI:qI (.ListComp elt [⟨tg,iter,ifs,0⟩] scope pos) (some (.Name y py)) KZ.line X.env=pure true) (hi:PI X tg iter wi) (ok:jo X.N X.env.scope scope own)
 (hg:∀(s:aq) (H:Hp) (C:ae) (cl:List (Str×ae)) (fp:List ae),PG (X.g_ s H scope (lj scope cl C X.env) fp) tg g) (ht:∀(s:aq) (H:Hp) (C:ae) (cl:List (Str×ae)) (fp:List ae),vE (X.g_ s H scope (lj scope cl C X.env) fp) ifs tt)
 (he:∀(s:aq) (H:Hp) (C:ae) (cl:List (Str×ae)) (fp:List ae),PE (X.g_ s H scope (lj scope cl C X.env) fp) elt te) (hs:∀x,BK iter X.env x=pure x:=by intro _;rfl):
 PS X (.Assign [.Name y py] (.ListComp elt [⟨tg,iter,ifs,0⟩] scope pos) KZ) (yB (yQ wi g tt te (own.map (·.2))) (tO i)):=by
 intro pins s σ H D I h;rw[exec_Assign_Name_used _ _ _ _ SI];refine cg (BJ (cg ?_));show aU _ X.A (do let _ <-comprehension (.ListComp elt [⟨tg,iter,ifs,0⟩] scope pos) scope X.env (firstIterPos [⟨tg,iter,ifs,0⟩] pos) (newList []) false (eval iter X.env) (some (assign (.Name y py) X.env))) _ _ s
 have h:yQ wi g tt te (own.map (·.2)) σ H (λx H1=>tO i x σ H1 D.nx):=h;refine cg (aX (KQ (Qf:=λ_ s'=>SP X pins D .next s') hc hN I hi ok hg ht he hs h λL C s' m H' I' q hn f=>?_) λ_ s' hq=>gc (gc hq));show aU _ _ (assign (.Name y py) X.env (.ref L)) _ _ _;refine wpAny_assign_Name (JH (v:=V.ref L) I' hN hy (.inl K0) rfl (λs2 I2 ⟨a,sb,ha⟩=>?_) (.inr K0));obtain⟨f0,f1,f2,f3,f4,f5⟩:=f;have SJ:C≠a:=by
  rcases ha with z|z
  ·rw[z];exact f1
  ·exactλe=>f4 y a z e.symm
 refine⟨m,hn.sameBut sb SJ,λh3 SM=>?_⟩;exact⟨_,H',I2.turned (t':=s2.toks) (λb o hb e=>(SM.2 b hb).trans e) f0 f1 f3 f4 f5,q⟩
def SN{elt:bj}{gs:List Comprehension}{scope:d6}{pos py:Pos}{y:Str}{l:Nat}{env:Env}(hk:env.scope.kind=.function)(hy:env.scope.names.lookup y=some .local)(hl:(py.line==pos.line)=true)
 (ha:(scope.names.any λ(n,k)=>n==y&&(k== .local||k== .cell))=false):qI (.ListComp elt gs scope pos) (some (.Name y py)) l env=pure true:=by
 have ky:env.kindOf y=some .local:=hy;have hb:env.blockKind=.function:=by unfold Env.blockKind;rw[hk];rfl
 unfold qI;simp only[hb,ky,ha,bj.pos,hl];rfl
end
def K1{lo:Int}{n:Nat}{g:TG}{tt:TT}{te:TE}{vs:List Nat}{σ:St}{H1:Hp}{D:ae}{Qd:Hp->Prop}(Pv:Nat->Hp->Prop)(h0:Pv 0 (upd H1 D (.lst [])))
 (hs:∀i H,i<n->Pv i H->g (.int (lo+i)) (wipe σ vs) H λσ2 H2=>wipe σ2 vs=wipe σ vs/\tt σ2 H2 λb H3=>
   if b=true then te σ2 H3 λy H4=>∃acc,H4 D=some (.lst acc)/\acc.length<sizeLine/\Pv (i+1) (upd H4 D (.lst (acc++[y]))) else Pv (i+1) H3) (hd:∀H,Pv n H->Qd H):
 ∃W:Nat->Nat->Hp->Prop,(∃m,W 0 m (upd H1 D (.lst [])))/\ ∀i m H,W i m H->
  ((oN lo n).stop i H/\Qd H)\/((oN lo n).go i H/\ ∃Nx:Hp->Prop,(∀H',Nx H'->∃m',m'<m/\W (i+1) m' H')/\ ∀x H',(oN lo n).oM i H x H'->g x (wipe σ vs) H' λσ2 H2=>wipe σ2 vs=wipe σ vs/\tt σ2 H2 λb H3=>
    if b=true then te σ2 H3 λy H4=>∃acc,H4 D=some (.lst acc)/\acc.length<sizeLine/\Nx (upd H4 D (.lst (acc++[y]))) else Nx H3):=by
 refine⟨λi m H=>m=n-i/\i<=n/\Pv i H,⟨n,by simp,eX _,h0⟩,?_⟩
 rintro i m H ⟨rfl,hi,p⟩;by_cases dU:i<n
 ·refine .inr ⟨dU,Pv (i+1),λH' p'=>⟨n-(i+1),by lia,rfl,dU,p'⟩,λx H' y=>?_⟩
  obtain⟨e,y⟩:=y;subst e y;exact hs i _ dU p
 ·have e:i=n:=by lia
  subst e;exact .inl ⟨bz _,hd H p⟩
def qg{K:aI}{a:ae}{xs:List V}{g:TG}{tt:TT}{te:TE}{vs:List Nat}{σ:St}{H1:Hp}{D:ae}{Qd:Hp->Prop}(Pv:Nat->Hp->Prop)(h0:Pv 0 (upd H1 D (.lst [])))(hl:∀i H,i<=xs.length->Pv i H->aF K H a xs)
 (hs:∀i x H,xs[i]? =some x->Pv i H->g x (wipe σ vs) H λσ2 H2=>wipe σ2 vs=wipe σ vs/\tt σ2 H2 λb H3=>
   if b=true then te σ2 H3 λy H4=>∃acc,H4 D=some (.lst acc)/\acc.length<sizeLine/\Pv (i+1) (upd H4 D (.lst (acc++[y]))) else Pv (i+1) H3) (hd:∀H,Pv xs.length H->Qd H):
 ∃W:Nat->Nat->Hp->Prop,(∃m,W 0 m (upd H1 D (.lst [])))/\ ∀i m H,W i m H->
  ((pY K a).stop i H/\Qd H)\/((pY K a).go i H/\ ∃Nx:Hp->Prop,(∀H',Nx H'->∃m',m'<m/\W (i+1) m' H')/\ ∀x H',(pY K a).oM i H x H'->g x (wipe σ vs) H' λσ2 H2=>wipe σ2 vs=wipe σ vs/\tt σ2 H2 λb H3=>
    if b=true then te σ2 H3 λy H4=>∃acc,H4 D=some (.lst acc)/\acc.length<sizeLine/\Nx (upd H4 D (.lst (acc++[y]))) else Nx H3):=by
 refine⟨λi m H=>m=xs.length-i/\i<=xs.length/\Pv i H,⟨xs.length,by simp,eX _,h0⟩,?_⟩
 rintro i m H ⟨rfl,hi,p⟩;have q:=hl i H hi p;by_cases dU:i<xs.length
 ·refine .inr ⟨⟨xs,xs[i],q,by simp[dU]⟩,Pv (i+1),λH' p'=>⟨xs.length-(i+1),by lia,rfl,dU,p'⟩,λx H' y=>?_⟩
  obtain⟨e,y⟩:=y;subst e;exact hs i x _ (y xs q) p
 ·have e:i=xs.length:=by lia
  subst e;exact .inl ⟨⟨xs,q,bz _⟩,hd H p⟩
section
variable{κ:Type}[DecidableEq κ]
def dX(kvs:List (κ×V))(k:κ):Option V:=(kvs.find? λkv=>decide (kv.1=k)).map (·.2)
def Dk{p:κ×V}{r:List (κ×V)}{k:κ}(e:p.1=k):dX (p::r) k=some p.2:=by simp[dX,Jc,e]
def nP{p:κ×V}{r:List (κ×V)}{k:κ}(e: ¬p.1=k):dX (p::r) k=dX r k:=by simp[dX,Jc,e]
def gx.SO{o:Option V}{u:Option ai}(r:gx o u):o.isSome=u.isSome:=by
 cases o with
 |none=>cases u with
  |none=>rfl
  |some _=>exact(show False from r).elim
 |some _=>cases u with
  |none=>exact(show False from r).elim
  |some _=>rfl
theorem gx.getD{o:Option V}{u:Option ai}{d:V}{d':ai}(r:gx o u)(rd:b7 d d'):b7 (o.getD d) (u.getD d'):=by
 cases o with
 |none=>cases u with
  |none=>exact rd
  |some _=>exact(show False from r).elim
 |some _=>cases u with
  |none=>exact(show False from r).elim
  |some _=>exact r
end
def Dl{P:bQ}{w:bB}{k:Key}{u:ai}(r:b7 (kV k) u):(i8 P w).is k u=true:=by
 cases k with
 |inl i=>obtain⟨t,e⟩:=(show∃t,u=ai.int i t from r);subst e;exact Qw P w i t
 |inr x=>obtain⟨t,e⟩:=(show∃t,u=ai.str x t from r);subst e;exact Qx P w x t
def Dm(i:bj):Prop:=∀ov iv,subscripted i false ov iv=operate [ov,iv] (getItem ov iv)
def SQ{prog:bQ}{w:bB}{A:cQ}{E:ai->aq->Prop}{s:aq}{env:Env}{value slice:bj}{pos:Pos}{T id:String}{Q:ai->aq->Prop}
 (hl:qM (.type T) "__getitem__"=pure (some (.builtin id))) (hs:Dm slice)
 (h:aU (model prog w) A (eval value env) (λo s₁=>aU (model prog w) A (eval slice env) (λi s₂=>s₂.TypeIs o T/\aU (model prog w) A (getItem o i) Q E s₂) E s₁) E s):
 aU (model prog w) A (eval (.Subscript value slice pos) env) Q E s:=by
 refine Subscript_ (fN h (λo s₁ h₁=>fN h₁ (λi s₂ h₂=>?_) λ_ _ x=>x) λ_ _ x=>x);obtain⟨hT,h₂⟩:=h₂;unfold subscriptTail;refine cg ?_;rw[getitemInPython_of_ne hT.not_modules];refine cg (wpAny_specialOf hT hl ?_);have fin:aU (model prog w) A (subscripted slice false o i) (λr s₃=>aU (model prog w) A (letTemporaryGo value o r>>=λ_=>pure r) Q E s₃) E s₂:=by
  rw[hs o i];exact wpAny_operating (fN h₂ (λr s₃ h₃=>cg (wpAny_letTemporaryGo (gc h₃))) λ_ _ x=>x)
 first
  |exact gc (cg fin)
  |exact cg (gc (cg fin))
  |exact cg fin
structure M1(X:Cx)(o:bj)(m:Str)(apos:Pos)(e:bj)(dW:Pos):Prop where
 base:oB o m X.env (eval o X.env)=eval o X.env
 K2:((f_ dW (cG [e] X.env)).all (λx=> !x.1)&&(sR dW (sS [] X.env)).all (λx=>x.1.isSome)
  &&decide (([e]:List bj).length+([]:List Keyword).length+(if([]:List Keyword).isEmpty then 0 else 1)<30))=true
 line:(apos.endLine==dW.line)=true
 trees:f_ dW (cG [e] X.env)=[(false,eval e X.env)]
structure M2(X:Cx)(o:bj)(m:Str)(apos:Pos)(e f:bj)(dW:Pos):Prop where
 base:oB o m X.env (eval o X.env)=eval o X.env
 K2:((f_ dW (cG [e,f] X.env)).all (λx=> !x.1)&&(sR dW (sS [] X.env)).all (λx=>x.1.isSome)
  &&decide (([e,f]:List bj).length+([]:List Keyword).length+(if([]:List Keyword).isEmpty then 0 else 1)<30))=true
 line:(apos.endLine==dW.line)=true
 trees:f_ dW (cG [e,f] X.env)=[(false,eval e X.env),(false,eval f X.env)]
section
variable{X:Cx}
def K3{tg:bj}{pins:List (ae×Obj)}{σ:St}{H:Hp}{s:aq}{R:It->Hp->Prop}{J:It}{tn:Nat->aR->Prop}{tk:Nat}(I:Inv X pins σ H s)(o:Obj)
 (T:Turn X.prog X.w X.K tg J [s.heap.objs.size] s.heap.objs.size tn) (st:tn 0 (s.heap.push o)) (q:R J H):Cp X pins σ tg R (.ref s.heap.objs.size) {s with heap:=s.heap.push o,toks:=tk}:=by
 refine⟨s.heap.objs.size,[s.heap.objs.size],tn,J,H,rfl,I.kept λb ob e=>eR _ e,T,st,λb hb=>?_,q⟩;have e:b=s.heap.objs.size:=by simpa using hb
 subst e;exact I.yD (bz _) (I.aQ.fresh (bz _))
end
def qh(x:Str):It:=⟨λi _=>i<x.cps.size,λi H v H'=>H'=H/\ ∃c,x.cps[i]? =some c/\v=.str ⟨#[c]⟩,λi _=>x.cps.size<=i⟩
def K4{P:bQ}{w:bB}{K:aI}{tg:bj}(it:ae)(x:Str)(t:Tok)(ty:String)(qf:ty="str_ascii_iterator"\/ty="str_iterator"):
 Turn P w K tg (qh x) [it] it (λi h=>h.IsStrIter it ty x t i) where
 mem:=by simp
 obj:=λi h st b hb=>by
  have e:b=it:=by simpa using hb
  subst e;obtain⟨o,e,c,d⟩:=st;exact⟨o,e,λv z=>by rw[d] at z;cases z⟩
 keep:=λi h h' st k=>let ⟨o,ho,r⟩:=st;⟨o,k it (by simp) o ho,r⟩
 item:=by
  intro X hP hw hK hc i pins s σ H E I hf st hg;subst hP hw hK;obtain⟨f0,f1,f2,f3,f4,f5⟩:=hf it (by simp)
  have W:Walks X.prog X.w X.A it [it] [it] x.cps.size (SignAt x) (λi h=>h.IsStrIter it ty x t i):=by
   rcases qf with e|e
   ·rw[e];exact Walks.strAscii (I.ok.hd hc) it x t
   ·rw[e];exact Walks.strWide (I.ok.hd hc) it x t
  have SR:["enumerate","zip","dict_itemiterator","dict_reverseitemiterator","odict_iterator","itertools.zip_longest","itertools.pairwise"].contains ty=false:=by
   rcases qf with e|e
   ·rw[e];decide
   ·rw[e];decide
  refine W.item i s _ _ hg st λv h' tk hv pZ kk=>?_;obtain⟨c,u,vF,rfl⟩:=hv;have I1:Inv X pins σ H {s with heap:=h',toks:=tk}:=I.turned (λb o hb e=>kk b o (by simpa using hb) e) f0 f1 f3 f4 f5
  obtain⟨oi,e,cc,dd⟩:=id pZ;exact⟨_,rfl,Cq (s:={s with heap:=h',toks:=tk}) e cc dd SR ⟨.str ⟨#[c]⟩,H,I1,⟨u,rfl⟩,⟨rfl,c,vF,rfl⟩,pZ,λb hb=>(hf b hb).1⟩⟩
 done:=by
  intro X hP hw hK hc i pins s σ H E I hf st hg;subst hP hw hK;obtain⟨f0,f1,f2,f3,f4,f5⟩:=hf it (by simp)
  have hx:x.cps[i]? =none:=Array.getElem?_eq_none hg;rcases qf with e|e
  ·rw[e] at st;exact wpAny_pyNext_ascii_end (I.ok.hd hc) st hx λh' eb=>⟨rfl,I.turned (t':=s.toks) (λb o hb e=>eb b o hb e) f0 f1 f3 f4 f5⟩
  ·rw[e] at st;exact wpAny_pyNext_wide_end (I.ok.hd hc) st hx λh' eb=>⟨rfl,I.turned (t':=s.toks) (λb o hb e=>eb b o hb e) f0 f1 f3 f4 f5⟩
 self:=λA i s Q E st h=>by
  rcases qf with e|e
  ·rw[e] at st;exact wpAny_pyIter_striter_ascii st h
  ·rw[e] at st;exact wpAny_pyIter_striter_wide st h
inductive SS(R:It->Hp->Prop)(v:V)(H1:Hp):Prop
 |mk (x:_) (_:v=.str x) (_:R (qh x) H1)
def SU(te:TE):TI:=λσ H R=>te σ H λv H1=>SS R v H1
def K5{X:Cx}{tg e:bj}{te:TE}(he:PE X e te):PI X tg e (SU te):=by
 intro pins s σ H R I h;refine aX (he pins s σ H _ I h) λv s1 ⟨y,H1,I1,r1,x,ex,q⟩=>?_;subst ex;obtain⟨t,rfl⟩:=r1;cases ha:x.cps.all (·<128)
 ·exact wpAny_pyIter_wide ha (K3 (tk:=s1.toks) I1 _ (K4 _ x t "str_iterator" (.inr rfl)) ⟨_,iM _ rfl,rfl,rfl⟩ q)
 ·exact wpAny_pyIter_ascii ha (K3 (tk:=s1.toks) I1 _ (K4 _ x t "str_ascii_iterator" (.inl rfl)) ⟨_,iM _ rfl,rfl,rfl⟩ q)
def Dp{α β:Type}{G:α->β->Prop}{l₁:List α}{l₂:List β}(h:Paired G l₁ l₂):∀{i:Nat} {a:α},l₁[i]? =some a->∃b,l₂[i]? =some b/\G a b:=by
 induction h with
 |nil=>intro i a e;simp at e
 | @cons a b l₁ l₂ r t ih=>
   intro i a' e;cases i with
   |zero=>
    simp only[List.getElem?_cons_zero,Option.some.injEq] at e;subst e;exact⟨b,rfl,r⟩
   |succ j=>
    simp only[List.getElem?_cons_succ] at e⊢;exact ih e
end L2
namespace TL
open PySem PySem.Builtin PySem.Builtin.Str PySem.StrLaws
abbrev tl(x:Str):List Nat:=x.cps.toList
def SV(x:Str):x.length=(tl x).length:=by simp[tl,Str.length]
def rz{x y:Str}(h:tl x=tl y):x=y:=Str.ext' (Array.toList_inj.mp h)
def Dq(x y:Str):tl (x++y)=tl x++tl y:=by
 show(x++y).cps.toList=_;rw[Str.cps_append,Array.toList_append]
def SW(x:Str):(⟨(tl x).toArray⟩:Str)=x:=rz rfl
def SX(s:String):tl (bU s)=s.toList.map Jd:=PyProof.Rows.signs_ofString s
def pre(S l:List Nat):Bool:=l.take S.length==S
def par(S:List Nat):List Nat->List Nat->Option (List Nat×List Nat)
 |_,[]=>none
 |acc,c::r=>if pre S (c::r)=true then some (acc,(c::r).drop S.length) else par S (acc++[c]) r
def Ds(S:List Nat):List (List Nat)->List Nat
 |[]=>[]
 |[p]=>p
 |p::q::r=>p++(S++Ds S (q::r))
theorem yR(y:Str):∀parts:List Str,tl (Str.join y parts)=Ds (tl y) (parts.map tl)
 |[]=>rfl
 |[_]=>rfl
 |x::z::r=>by
  show tl (x++y++Str.join y (z::r))=tl x++(tl y++Ds (tl y) ((z::r).map tl));rw[Dq,Dq,yR y (z::r),lh]
def join_eq(y:Str)(parts:List Str):xY y parts=Str.join y parts:=glued_eq_join y parts
def rB(n:Nat):List Nat:=(xZ 10 n).map Jd
def SY(n:Nat):tl (bU (toString ((n:Nat):Int)))=rB n:=PySem.W.KIN.signs_num n
def K6:∀d:Nat,d<10->(Nat.digitChar d).toNat=48+d:=by decide
def S0{n:Nat}(h:n<10):rB n=[48+n]:=by
 unfold rB;rw[Nat.toDigits_of_lt_base h];show[(Nat.digitChar n).toNat]=_;rw[K6 n h]
def S1{n:Nat}(h:10<=n):rB n=rB (n/10)++[48+n%10]:=by
 have hm:n%10<10:=Nat.mod_lt n (by decide)
 have t:xZ 10 (n/10)++xZ 10 (n%10)=xZ 10 (10*(n/10)+n%10):=Nat.toDigits_append_toDigits (by decide) (by lia) hm
 rw[Nat.div_add_mod] at t;show(xZ 10 n).map Jd=_;rw[<-t,iw,Nat.toDigits_of_lt_base hm];show(xZ 10 (n/10)).map Jd++[(Nat.digitChar (n%10)).toNat]=_;rw[K6 _ hm]<;>rfl
end TL
namespace L2
open PySem PySem.Spec PyProof.Rows
theorem Dt:∀{ys:List Str} {us:List ai},Vals (ys.map V.str) us->StrsAre us ys
 |[],_,.nil=>.nil
 |y::ys,_,.cons r t=>by
  obtain⟨k,rfl⟩:=r;exact .cons y k (Dt t)
section
variable{X:Cx}
def S2:rn X "str.join" (λx xs H Q=>∃a p,∃ys:List Str,x=.str a/\xs=[.ref p]/\ (aF X.K H p (ys.map V.str)\/fR X.K H p (ys.map V.str))/\
 (ys.map (·.length)).sum+ys.length*a.length<=16777216/\Q (.str (xY a ys)) H):=by
 intro pins s σ H x xs v us Q I rx rs h;obtain⟨a,p,ys,rfl,rfl,hp,hz,h⟩:=h;obtain⟨t,rfl⟩:=rx;cases rs with
 |cons r1 rs=>
  cases rs;cases r1;rcases hp with hp|hp
  ·obtain⟨aE,r,⟨o,n,ho,hc,_,hd⟩,_⟩:=I.list hp;exact PyProof.Rows.join_list (items:=aE.toArray) ⟨o,ho,hc,n,hd⟩ (by rw[List.toList_toArray];exact Dt r) hz λt' k=>⟨.str _,H,I.tok k,⟨t',rfl⟩,h⟩
  ·obtain⟨aE,r,ht,_⟩:=I.tuple hp;exact PyProof.Rows.join_tuple (items:=aE.toArray) ht (by rw[List.toList_toArray];exact Dt r) hz λt' k=>⟨.str _,H,I.tok k,⟨t',rfl⟩,h⟩
def S3{id:String}{C:Str->Prop}{g:Str->V}(rule:∀(a:Str) (t:Tok) (s:aq) (Q:ai->aq->Prop),C a->(∀(u:ai) (k:Nat),b7 (g a) u->Q u {s with toks:=k})->
 aU (model X.prog X.w) X.A (call (.builtin id) [.str a t]) Q X.xe s):rn X id (λx xs H Q=>∃a,x=.str a/\xs=[]/\C a/\Q (g a) H):=by
 intro pins s σ H x xs v us Q I rx rs h;obtain⟨a,rfl,rfl,hc,h⟩:=h;obtain⟨t,rfl⟩:=rx;cases rs;exact rule a t s _ hc λu k r=>⟨g a,H,I.tok k,r,h⟩
def S4:rn X "str.isdigit" (λx xs H Q=>∃a,x=.str a/\xs=[]/\True/\Q (.bl (Je a)) H):=
 S3 (C:=λ_=>True) (g:=λa=>.bl (Je a)) λ_ _ s _ _ h=>PySem.SC.isdigit (h _ s.toks rfl)
def S5:jF X (.type "int") (λxs H Q=>∃a n,xs=[.str a]/\PySem.intText? a=some n/\a.length<=640/\Q (.int n) H):=by
 intro pins s σ H xs us Q I rs h;obtain⟨a,n,rfl,hn,hl,h⟩:=h;cases rs with
 |cons r1 rs=>
  cases rs;obtain⟨t,rfl⟩:=r1;exact PySem.W.KIN.call_text hn hl ⟨.int n,H,I.tok _,⟨_,rfl⟩,h⟩
end
section
variable{X:Cx}{o e:bj}{to te:TE}
def S6(r:V->List V->Hp->VK->Prop)(to:TE):TE:=λσ H Q=>to σ H λx H1=>(∃a,x=.str a)/\r x [] H1 Q
def K7(r:V->List V->Hp->VK->Prop)(to te:TE):TE:=λσ H Q=>to σ H λx H1=>(∃a,x=.str a)/\te σ H1 λy H2=>r x [y] H2 Q
def S7{id:String}{name:Str}{apos pos:Pos}{r:V->List V->Hp->VK->Prop}(slot:Slot "str" name id)(ty:typeOf (.builtin id)=pure (.type "method_descriptor"))(rule:rn X id r)(ho:PE X o to)
 (jn:oB o name X.env (eval o X.env)=eval o X.env:=by rfl) (oR:(apos.endLine==pos.line)=true:=by rfl):PE X (.Call (.Attribute o name apos) [] [] pos) (S6 r to):=by
 intro pins s σ H Q I h;refine PySem.Call_method0 jn oR (aX (ho pins s σ H _ I h) λv s1 ⟨x,H1,I1,r1,q1⟩=>?_);obtain⟨⟨a,rfl⟩,q1⟩:=q1;obtain⟨t,rfl⟩:=_root_.id r1;exact⟨"str",_,F.plainAttrs_str,slot,ty,BV _ _ _,(λ_ e=>nomatch e),IV rfl (PySem.evalArgs_none (rule pins s1 σ H1 _ [] _ [] Q I1 r1 .nil q1))⟩
def S8{id:String}{name:Str}{apos pos:Pos}{r:V->List V->Hp->VK->Prop}(slot:Slot "str" name id)(ty:typeOf (.builtin id)=pure (.type "method_descriptor"))(rule:rn X id r)(ho:PE X o to)(he:PE X e te)
 (hs:cG [e] X.env=[(false,eval e X.env)]:=by rfl) (jn:oB o name X.env (eval o X.env)=eval o X.env:=by rfl) (oR:(apos.endLine==pos.line)=true:=by rfl):
 PE X (.Call (.Attribute o name apos) [e] [] pos) (K7 r to te):=by
 intro pins s σ H Q I h;refine PySem.Call_method1 jn hs oR (aX (ho pins s σ H _ I h) λv s1 ⟨x,H1,I1,r1,q1⟩=>?_);obtain⟨⟨a,rfl⟩,q1⟩:=q1;obtain⟨t,rfl⟩:=_root_.id r1;refine⟨"str",_,F.plainAttrs_str,slot,ty,BV _ _ _,(λ_ e=>nomatch e),IV rfl (PZ (PR ?_))⟩;exact aX (he pins s1 σ H1 _ I1 q1) λu s2 ⟨y,H2,I2,r2,q2⟩=>PQ (rule pins s2 σ H2 _ [y] _ [u] Q I2 r1 (.cons r2 .nil) q2)
def yS{apos pos:Pos}(ho:PE X o to)(he:PE X e te)(hs:cG [e] X.env=[(false,eval e X.env)]:=by rfl)(jn:oB o "join" X.env (eval o X.env)=eval o X.env:=by rfl)(oR:(apos.endLine==pos.line)=true:=by rfl):
 PE X (.Call (.Attribute o "join" apos) [e] [] pos) (K7 (λx xs H Q=>∃a p,∃ys:List Str,x=.str a/\xs=[.ref p]/\ (aF X.K H p (ys.map V.str)\/fR X.K H p (ys.map V.str))/\
  (ys.map (·.length)).sum+ys.length*a.length<=16777216/\Q (.str (xY a ys)) H) to te):=
 S8 F.slot_str_join F.type_str_join S2 ho he hs jn oR
end
def IsPart.raw{v:ai}{o:Option Int}(p:IsPart v o):∃l:Option (Int×Tok),v=partValue l/\l.map (·.1)=o:=by
 cases p with
 |none=>exact⟨none,rfl,rfl⟩
 |int i t=>exact⟨some (i,t),rfl,rfl⟩
def vG(n d:Nat):Option Int->Int
 |none=>(d:Int)
 |some i=>max 0 (min (if i<0 then i+(n:Int) else i) (n:Int))
def K8(n d:Nat)(o:Option Int):vG n d o=((HT.cK n d o:Nat):Int):=by
 cases o with
 |none=>rfl
 |some v=>
  show max (0:Int) (min (if v<0 then v+(n:Int) else v) (n:Int))=(((if v<0 then(v+(n:Int)).toNat else min v.toNat n):Nat):Int)
  by_cases hv:v<0
  ·simp only[if_pos hv]
   lia
  ·simp only[if_neg hv]
   lia
def S9(a b:Option Int)(n:Nat):qO a b 1 n=sliceRange (vG n 0 a) (vG n n b) 1:=by
 have h1:((1:Int)>0)=True:=by simp
 cases a<;>cases b<;>first
  |rfl
  |(simp only[qO,vG,h1,if_true];rfl)
  |simp[qO,vG]
def S_(a b:Option Int)(n:Nat):qO a b 1 n=(cB (HT.cK n n b-HT.cK n 0 a)).map (λk=>HT.cK n 0 a+k):=by
 rw[S9,K8,K8];generalize HT.cK n 0 a=p;generalize HT.cK n n b=q;simp only[sliceRange,show((1:Int)>0)=True from by simp,if_true]
 by_cases dU:(p:Int)<q
 ·have e3:(((q:Int)-p+1-1)/1).toNat=q-p:=by first|lia|(simp;done)|(simp;lia)
  simp only[dU,if_true,e3];refine pL λk _=>?_
  lia
 ·have:q-p=0:=by lia
  simp[dU,this]
def rC(z:Str)(lo hi:Option Int):Str:=
 ⟨((z.cps.toList.drop (HT.cK z.length 0 lo)).take (HT.cK z.length z.length hi-HT.cK z.length 0 lo)).toArray⟩
def K9(z:Str)(lo hi:Option Int):x4 z lo hi=rC z lo hi:=by
 have h1:HT.cK z.length 0 lo<=z.length:=HT.Ks _ _ (eX _) _;have h2:HT.cK z.length z.length hi<=z.length:=HT.Ks _ _ (bz _) _;have hp:HT.cK z.length 0 lo<=max (HT.cK z.length 0 lo) (HT.cK z.length z.length hi):=Nat.le_max_left _ _;have hq:max (HT.cK z.length 0 lo) (HT.cK z.length z.length hi)<=z.length:=Nat.max_le.mpr ⟨h1,h2⟩;have hd:max (HT.cK z.length 0 lo) (HT.cK z.length z.length hi)-HT.cK z.length 0 lo=HT.cK z.length z.length hi-HT.cK z.length 0 lo:=by lia
 have e:qO lo hi 1 z.length=
  qO (some ((HT.cK z.length 0 lo:Nat):Int)) (some ((max (HT.cK z.length 0 lo) (HT.cK z.length z.length hi):Nat):Int)) 1 z.length:=by
  rw[PySem.StrLaws.strSliceIndices_plain hp hq,hd,S_]
 have e2:x4 z lo hi=
  x4 z (some ((HT.cK z.length 0 lo:Nat):Int)) (some ((max (HT.cK z.length 0 lo) (HT.cK z.length z.length hi):Nat):Int)):=by
  unfold x4;rw[e]
 rw[e2,PySem.StrLaws.sliceText_nat z hp hq,hd];rfl
def S'(z:Str)(lo hi:Option Int):(rC z lo hi).length<=z.length:=by
 show(((z.cps.toList.drop (HT.cK z.length 0 lo)).take (HT.cK z.length z.length hi-HT.cK z.length 0 lo)).toArray).size<=z.cps.size;rw[fO,jY,kF,Array.length_toList]
 lia
inductive Tc(x:V)(lo:Option Int)(hi:Option Int)(H:Hp)(Q:VK):Prop
 |mk (z:_) (_:x=.str z) (_:z.length<=sizeLine) (_:Q (.str (rC z lo hi)) H)
def K_{X:Cx}:CQ X Tc:=by
 intro pins s σ H x v vl vu lo hi sl Q I rx hs pl pu h;obtain⟨z,rfl,hz,q⟩:=h;obtain⟨t,rfl⟩:=rx;obtain⟨os,Td,Te,Tf⟩:=hs;obtain⟨l,rfl,rfl⟩:=IsPart.raw pl;obtain⟨u,rfl,rfl⟩:=IsPart.raw pu;refine⟨"str",_,F.slot_str_getitem.lookup,BV _ _ _,?_⟩;refine wpAny_getItem_str_slice (l:=l) (u:=u) (st:=none) ⟨os,Td,Te,Tf⟩ rfl ?_;have hl:(x4 z (l.map (·.1)) (u.map (·.1))).length<=sizeLine:=by
  rw[K9];exact dy (S' z _ _) hz
 rw[<-K9] at q;unfold x4 at q hl;show Made.post (if((1:Int)==1&&(qO (l.map (·.1)) (u.map (·.1)) 1 z.length).length==z.length)=true then Made.val (.str z t)
  else Made.str ⟨((qO (l.map (·.1)) (u.map (·.1)) 1 z.length).filterMap (z.cps[·]?)).toArray⟩) (EP X pins σ Q) s
 by_cases c:((1:Int)==1&&(qO (l.map (·.1)) (u.map (·.1)) 1 z.length).length==z.length)=true
 ·rw[if_pos c] at q⊢;exact⟨.str z,H,I,⟨t,rfl⟩,q⟩
 ·rw[if_neg c] at q hl⊢;exact⟨hl,.str _,H,I.tok _,⟨_,rfl⟩,q⟩
def inClass(s:cD)(j:Nat):cD:=match s with
 | .ClassDef _ _ _ body _ _ _ _ _ _ _=>body.getD j (.Pass ⟨0,0,0,0⟩)
 |_=>.Pass ⟨0,0,0,0⟩
def ke(s:cD):Arguments:=match s with
 | .FunctionDef _ a _ _ _ _ _ _ _ _=>a
 |_=>{posonlyargs:=[],args:=[],vararg:=none,kwonlyargs:=[],kw_defaults:=[],kwarg:=none,defaults:=[]}
def hX(s:cD):List cD:=match s with
 | .FunctionDef _ _ b _ _ _ _ _ _ _=>b
 |_=>[]
def aG(s:cD):d6:=match s with
 | .FunctionDef _ _ _ _ _ _ sc _ _ _=>sc
 |_=>{kind:=.function,names:=[],isGenerator:=false,isCoroutine:=false}
abbrev au:jG:=λ_ _ _ _ _ _=>False
abbrev E0:XK:=λ_ _ _=>False
def aW{X:Cx}:Passes au X E0:=λ_ _ _ _ _ _ _ h=>h.elim
structure aD(K:aI)(x qual:Str)(st:cD)(f:ae)(fd:dP):Prop where
 ex:∃(oc:ai) (od:Option ae) (kV doc pm:ai) (an:Option ae) (b9 ct:ai) (gI:Array (Option ai)),
  fd=j0 x qual (ke st) (hX st) (aG st) .none kV doc pm an b9 ct/\K.lookup f=some ⟨oc,od,.func fd,gI⟩/\sT K b9 qual=true
 kp:iN K (.ref f)=true
section
variable{P:bQ}{w:bB}{K:aI}{mg:Str->Option ai}{base:aR}
def aD.ok{x qual:Str}{st:cD}{f:ae}{fd:dP}{N ps:List Str}{k:Nat}{sp:Sp}(F:aD K x qual st f fd)(S:aS N ps (aG st))(len:∀vs H Q E,sp vs H Q E->vs.length=ps.length)
 (lK:∀(b9:ai) (A:cQ) (outer:List Env) (s:aq) (H:Hp) (vs:List V) (Q:VK) (E:XK),dE k (A.deeper (envOfC qual (aG st) s.heap.objs.size f b9))->sp vs H Q E->
   ∃t,gy (i_ au P w K mg base N qual (aG st) f b9 A outer s H E).tM (hX st) t/\t {nx:=λ_ H'=>Q .aM H',rt:=Q} (start N vs) H):aB P w K mg base au (k+1) f fd ps sp:=by
 obtain⟨oc,od,kV,doc,pm,an,b9,ct,gI,rfl,lk,fz⟩:=F.ex;refine CO lk fz S len λA outer s H vs Q E hr kN=>?_;obtain⟨t,h,q⟩:=lK b9 A outer s H vs Q E hr kN;exact⟨t,h.tM,q⟩
def aD.binds{x qual:Str}{st:cD}{f:ae}{fd:dP}{ps:List Str}(F:aD K x qual st f fd)
 (h:∀(kV doc pm:ai) (an:Option ae) (b9 ct:ai) (us:List ai),us.length=ps.length->qJ (j0 x qual (ke st) (hX st) (aG st) .none kV doc pm an b9 ct) ⟨us,[]⟩=pure (ps.zip us)):Binds K fd ps []:=by
 obtain⟨oc,od,kV,doc,pm,an,b9,ct,gI,rfl,lk,fz⟩:=F.ex;exact .all (h kV doc pm an b9 ct)
def rE{x qual:Str}{st:cD}{f:ae}{oc:ai}{od an:Option ae}{gI:Array (Option ai)}{kV doc pm b9 ct:ai}(l:K.lookup f=some ⟨oc,od,.func (j0 x qual (ke st) (hX st) (aG st) .none kV doc pm an b9 ct),gI⟩)
 (c:sT K b9 qual=true) (k:iN K (.ref f)=true):aD K x qual st f (j0 x qual (ke st) (hX st) (aG st) .none kV doc pm an b9 ct):=⟨⟨oc,od,kV,doc,pm,an,b9,ct,gI,rfl,l,c⟩,k⟩
end
section
variable{X:Cx}
def pv(i:Nat){x:Str}{pos:Pos}(hN:X.N[i]? =some x:=by rfl)(hv:pP X.env.scope x:=by first|exact Or.inl rfl|exact Or.inr (Or.inl rfl)|exact Or.inr (Or.inr rfl))(hd:(x==("__debug__":Str))=false:=by decide)
 (fz:(x==("__classdict__":Str))=false:=by decide):PE X (.Name x pos) (nF i):=yw hN hv hd fz
end
def dY{A B:Prop}(h:B):if false=true then A else B:=by
 rw[if_neg cW];exact h
def du{A B:Prop}(h:A):if true=true then A else B:=by
 rw[if_pos rfl];exact h
def t9(H H':Hp):Prop:=∀b o,H b=some o->H' b=some o
def t9.seq{K:aI}{H H':Hp}{a:ae}{xs:List V}(e:t9 H H')(h:aF K H a xs):aF K H' a xs:=by
 rcases h with(h|⟨o,h⟩)|h
 ·exact .inl (.inl (e _ _ h))
 ·exact .inl (.inr ⟨o,e _ _ h⟩)
 ·exact .inr h
def Tg{α:Type}{l:List α}(hN:l.Nodup){i j:Nat}{x:α}(a:l[i]? =some x)(b:l[j]? =some x):i=j:=by
 obtain⟨h1,e1⟩:=dz.mp a;obtain⟨h2,e2⟩:=dz.mp b;exact(List.getElem_inj hN).mp (e1.trans e2.symm)
end L2
namespace L2
open PySem PySem.Spec PyProof.Rows
open PySem.W (WData Codec OpenSpec Well WellAll ReadsW ReadsAllW)
mutual
inductive Dw(K:aI)(H:Hp):V->WData->Prop
 |aM:Dw K H .aM .none
 |bl (b:Bool):Dw K H (.bl b) (.bool b)
 |int (i:Int):Dw K H (.int i) (.int i)
 |str (x:Str):Dw K H (.str x) (.str x)
 |iP (b:Array UInt8):Dw K H (.iP b) (.bytes b.toList)
 |lst {a:ae} {xs:List V} {ds:List WData}:aF K H a xs->lL K H xs ds->Dw K H (.ref a) (.list ds)
 |tup {a:ae} {xs:List V} {ds:List WData}:fR K H a xs->lL K H xs ds->Dw K H (.ref a) (.tuple ds)
inductive lL(K:aI)(H:Hp):List V->List WData->Prop
 |nil:lL K H [] []
 |cons {v:V} {vs:List V} {d:WData} {ds:List WData}:Dw K H v d->lL K H vs ds->lL K H (v::vs) (d::ds)
end
theorem K'{K:aI}{H:Hp}:∀ns:List Int,lL K H (ns.map V.int) (ns.map WData.int)
 |[]=>.nil
 |n::r=>.cons (.int n) (K' r)
theorem La{K:aI}{H:Hp}:∀(ns:List Int) (xs:List V),lL K H xs (ns.map WData.int)->xs=ns.map V.int
 |[],xs,h=>by
  cases h;rfl
 |n::r,xs,h=>by
  cases h with
  |cons h1 h2=>
   cases h1;rw[La r _ h2]<;>rfl
section
variable{P:bQ}{w:bB}{K:aI}{H:Hp}{h:aR}{R:PySem.W.WRecords}{cl:Str->Option ae}
def Th{a:ae}{xs:List V}(aQ:c_ P w H h)(KX:K.In h)(q:aF K H a xs):∃(aE:List ai) (o:Obj) (n:Nat),Vals xs aE/\h.get? a=some o/\o.cls=.type "list"/\o.data=.seq aE.toArray n:=by
 rcases q with q|⟨o,aE,n,e,hc,_,hd,_,hv⟩
 ·obtain⟨_,aE,n,hv,e⟩:=(show df P w H h a (.lst xs) from q.ok aQ);exact⟨aE,_,n,hv,e,rfl,rfl⟩
 ·exact⟨aE.toList,o,n,hv,KX _ _ e,hc,by simp[hd]⟩
def Ti{a:ae}{xs:List V}(aQ:c_ P w H h)(KX:K.In h)(q:fR K H a xs):∃(aE:List ai) (o:Obj) (n:Nat),Vals xs aE/\h.get? a=some o/\o.cls=.type "tuple"/\o.data=.seq aE.toArray n:=by
 rcases q with q|⟨o,aE,n,e,hc,hd,_,hv⟩
 ·obtain⟨_,aE,hv,o,e,hc,n,hd⟩:=(show df P w H h a (.tup xs) from q.ok aQ);exact⟨aE,o,n,hv,e,hc,hd⟩
 ·exact⟨aE.toList,o,n,hv,KX _ _ e,hc,by simp[hd]⟩
mutual
theorem Dw.reads(aQ:c_ P w H h)(KX:K.In h):∀(d:WData) (v:V) (u:ai),Dw K H v d->b7 v u->∃as,ReadsW R cl h u d as
 | .none,_,_,x,r=>by
   cases x;cases r;exact⟨_,ReadsW.none⟩
 | .bool b,_,_,x,r=>by
   cases x;cases r;exact⟨_,ReadsW.bool b⟩
 | .int i,_,_,x,r=>by
   cases x;obtain⟨t,rfl⟩:=r;exact⟨_,ReadsW.int i t⟩
 | .str s,_,_,x,r=>by
   cases x;obtain⟨t,rfl⟩:=r;exact⟨_,ReadsW.str s t⟩
 | .bytes b,_,_,x,r=>by
   cases x;obtain⟨t,rfl⟩:=r;exact⟨_,ReadsW.bytes _ t⟩
 | .list ds,_,_,x,r=>by
   cases x with
   |lst hs ha=>
    cases r;obtain⟨aE,o,n,rv,ho,hc,hd⟩:=Th aQ KX hs;obtain⟨as,hr⟩:=Dw.readsAll aQ KX ds _ aE ha rv;exact⟨_,ReadsW.list ho hc hd hr⟩
 | .tuple ds,_,_,x,r=>by
   cases x with
   |tup hs ha=>
    cases r;obtain⟨aE,o,n,rv,ho,hc,hd⟩:=Ti aQ KX hs;obtain⟨as,hr⟩:=Dw.readsAll aQ KX ds _ aE ha rv;exact⟨_,ReadsW.tuple ho hc hd hr⟩
 | .float _,_,_,x,_=>by cases x
 | .dict _,_,_,x,_=>by cases x
 | .bytearray _,_,_,x,_=>by cases x
 | .set _,_,_,x,_=>by cases x
 | .frozenset _,_,_,x,_=>by cases x
 | .obj _ _,_,_,x,_=>by cases x
theorem Dw.readsAll(aQ:c_ P w H h)(KX:K.In h):∀(ds:List WData) (vs:List V) (us:List ai),lL K H vs ds->Vals vs us->∃as,ReadsAllW R cl h us ds as
 |[],_,_,x,r=>by
  cases x;cases r;exact⟨_,ReadsAllW.nil⟩
 |d::ds,_,_,x,r=>by
  cases x with
  |cons h1 h2=>
   cases r with
   |cons r1 r2=>
    obtain⟨as,q1⟩:=Dw.reads aQ KX d _ _ h1 r1;obtain⟨bs,q2⟩:=Dw.readsAll aQ KX ds _ _ h2 r2;exact⟨_,ReadsAllW.cons q1 q2⟩
end
end
mutual
def jK:WData->Bool
 | .none=>true
 | .bool _=>true
 | .int _=>true
 | .str _=>true
 | .bytes _=>true
 | .list xs=>kP xs
 | .tuple xs=>kP xs
 |_=>false
def kP:List WData->Bool
 |[]=>true
 |x::r=>jK x&&kP r
end
theorem Lb{α:Type}{f:α->WData}(h:∀a,jK (f a)=true):∀l:List α,kP (l.map f)=true
 |[]=>rfl
 |x::r=>by
  show(jK (f x)&&kP (r.map f))=true;rw[h x,Lb h r]<;>rfl
theorem qi:∀(c:Codec) (a:c.denote),jK (c.enc a)=true
 | .unit,_=>rfl
 | .bool,_=>rfl
 | .int _ _,_=>rfl
 | .nat _ _,_=>rfl
 | .u8,_=>rfl
 | .bytes _ _,_=>rfl
 | .text _ _ _ _,_=>rfl
 | .list _ _ c,a=>Lb (λx=>qi c x) a
 | .pair c d,a=>by
   show(jK (c.enc a.1)&&(jK (d.enc a.2)&&true))=true;rw[qi c a.1,qi d a.2]<;>rfl
 | .triple c d e,a=>by
   show(jK (c.enc a.1)&&(jK (d.enc a.2.1)&&(jK (e.enc a.2.2)&&true)))=true;rw[qi c a.1,qi d a.2.1,qi e a.2.2]<;>rfl
 | .option c,none=>rfl
 | .option c,some x=>qi c x
theorem Lc:∀(cs:List Codec) (a:Jf cs),kP (u_ cs a)=true
 |[],_=>rfl
 |c::cs,a=>by
  show(jK (c.enc a.1)&&kP (u_ cs a.2))=true;rw[qi c a.1,Lc cs a.2]<;>rfl
theorem Du:∀{xs:List WData} {d:WData},d∈xs->d.weight<=Jg xs
 |[],d,h=>absurd h (by simp)
 |x::r,d,h=>by
  show d.weight<=x.weight+1+Jg r;rcases cC.mp h with e|m
  ·rw[e]
   lia
  ·have z:=Du m
   lia
def toV:ai->V
 | .none=>.aM
 | .bool b=>.bl b
 | .int i _=>.int i
 | .str x _=>.str x
 | .bytes b _=>.iP b
 | .ref a=>.ref a
 |_=>.aM
def kg(A:List ae):ai->Prop
 | .none=>True
 | .bool _=>True
 | .int _ _=>True
 | .str _ _=>True
 | .bytes _ _=>True
 | .ref a=>a∈A
 |_=>False
def kg.mono{A B:List ae}(h:∀a∈A,a∈B):∀{u:ai},kg A u->kg B u:=λ{u} x=>by
 cases u with
 |ref a=>exact h a x
 |none=>trivial
 |bool b=>trivial
 |int i t=>trivial
 |str s t=>trivial
 |bytes b t=>trivial
 |_=>exact gw x
def Tj{A:List ae}{u:ai}(x:kg A u):b7 (toV u) u:=by
 cases u with
 |ref a=>rfl
 |none=>rfl
 |bool b=>rfl
 |int i t=>exact⟨t,rfl⟩
 |str s t=>exact⟨t,rfl⟩
 |bytes b t=>exact⟨t,rfl⟩
 |_=>exact gw x
theorem t_{A:List ae}:∀{vs:List ai},(∀u∈vs,kg A u)->Vals (vs.map toV) vs
 |[],_=>.nil
 |u::r,h=>.cons (Tj (h u (iL ..))) (t_ λx hx=>h x (fG _ hx))
inductive lM(h:aR)(A:List ae)(a:ae):Prop
 |mk (vs:List ai) (_:vs.length<=sizeLine) (_:(∀u∈vs,kg A u)) (_:(h.get? a=some {cls:=.type "list",data:=.seq vs.toArray}\/h.get? a=some {cls:=.type "tuple",data:=.seq vs.toArray}))
theorem lM.mono{h:aR}{A B:List ae}{a:ae}(k:∀a∈A,a∈B)(x:lM h A a):lM h B a:=by
 obtain⟨vs,h1,h2,h3⟩:=x;exact⟨vs,h1,λu hu=>(h2 u hu).mono k,h3⟩
theorem yT{P:Params}{h:aR}:∀{vs:List ai} {ds:List WData},sX P h vs ds->vs.length=ds.length
 |_,_,.nil=>rfl
 |_,_,.cons _ b=>by
  show _+1=_+1;rw[yT b]
def Ld{P:Params}{h:aR}{v:ai}{ds:List WData}(x:Well P h v (.list ds)):∃(a:ae) (vs:List ai),v=.ref a/\h.get? a=some {cls:=.type "list",data:=.seq vs.toArray}/\sX P h vs ds:=by
 cases x with
 |list ho kh=>exact⟨_,_,rfl,ho,kh⟩
def Le{P:Params}{h:aR}{v:ai}{ds:List WData}(x:Well P h v (.tuple ds)):∃(a:ae) (vs:List ai),v=.ref a/\h.get? a=some {cls:=.type "tuple",data:=.seq vs.toArray}/\sX P h vs ds:=by
 cases x with
 |tuple ho kh=>exact⟨_,_,rfl,ho,kh⟩
def Lf{P:Params}{h:aR}{us:List ai}{d:WData}{ds:List WData}(x:sX P h us (d::ds)):∃(v:ai) (vs:List ai),us=v::vs/\Well P h v d/\sX P h vs ds:=by
 cases x with
 |cons a b=>exact⟨_,_,rfl,a,b⟩
def Lg{n:Nat}(h:n<=1048576):n<=sizeLine:=dy h (by decide)
section
variable{P:Params}{h:aR}
mutual
theorem Tn:∀(d:WData) (v:ai),Well P h v d->jK d=true->d.weight<=1048576->∃A:List ae,kg A v/\ ∀a∈A,lM h A a
 | .none,_,x,_,_=>by
   cases x;exact⟨[],trivial,λa m=>absurd m (by simp)⟩
 | .bool b,_,x,_,_=>by
   cases x;exact⟨[],trivial,λa m=>absurd m (by simp)⟩
 | .int i,_,x,_,_=>by
   cases x;exact⟨[],trivial,λa m=>absurd m (by simp)⟩
 | .str s,_,x,_,_=>by
   cases x;exact⟨[],trivial,λa m=>absurd m (by simp)⟩
 | .bytes b,_,x,_,_=>by
   cases x;exact⟨[],trivial,λa m=>absurd m (by simp)⟩
 | .list ds,_,x,p,z=>by
   obtain⟨a,vs,rfl,ho,kh⟩:=Ld x;have z2:Jg ds<=1048576:=z;obtain⟨A,h1,h2⟩:=yU ds _ kh p λd hd=>dy (Du hd) z2;have k:∀b∈A,b∈a::A:=λb hb=>fG _ hb;refine⟨a::A,iL ..,λb hb=>?_⟩;rcases cC.mp hb with e|m
   ·rw[e];exact⟨vs,Lg (by rw[yT kh];exact dy (af5 ds) z2),λu hu=>(h1 u hu).mono k,.inl ho⟩
   ·exact(h2 b m).mono k
 | .tuple ds,_,x,p,z=>by
   obtain⟨a,vs,rfl,ho,kh⟩:=Le x;have z2:Jg ds<=1048576:=z;obtain⟨A,h1,h2⟩:=yU ds _ kh p λd hd=>dy (Du hd) z2;have k:∀b∈A,b∈a::A:=λb hb=>fG _ hb;refine⟨a::A,iL ..,λb hb=>?_⟩;rcases cC.mp hb with e|m
   ·rw[e];exact⟨vs,Lg (by rw[yT kh];exact dy (af5 ds) z2),λu hu=>(h1 u hu).mono k,.inr ho⟩
   ·exact(h2 b m).mono k
 | .float _,_,_,p,_=>kG (show false=true from p)
 | .dict _,_,_,p,_=>kG (show false=true from p)
 | .bytearray _,_,_,p,_=>kG (show false=true from p)
 | .set _,_,_,p,_=>kG (show false=true from p)
 | .frozenset _,_,_,p,_=>kG (show false=true from p)
 | .obj _ _,_,_,p,_=>kG (show false=true from p)
theorem yU:∀(ds:List WData) (vs:List ai),sX P h vs ds->kP ds=true->(∀d∈ds,d.weight<=1048576)->∃A:List ae,(∀u∈vs,kg A u)/\ ∀a∈A,lM h A a
 |[],_,x,_,_=>by
  cases x;exact⟨[],λu m=>absurd m (by simp),λa m=>absurd m (by simp)⟩
 |d::ds,_,x,p,z=>by
  obtain⟨v,vs,rfl,x1,x2⟩:=Lf x;have q:jK d=true/\kP ds=true:=Bool.and_eq_true_iff.mp p;obtain⟨A,a1,a2⟩:=Tn d v x1 q.1 (z d (iL ..));obtain⟨B,b1,b2⟩:=yU ds vs x2 q.2 λe he=>z e (fG _ he);have kA:∀b∈A,b∈A++B:=λb hb=>gO.mpr (.inl hb);have kB:∀b∈B,b∈A++B:=λb hb=>gO.mpr (.inr hb);refine⟨A++B,λu hu=>?_,λb hb=>?_⟩
  ·rcases cC.mp hu with e|m
   ·rw[e];exact a1.mono kA
   ·exact(b1 u m).mono kB
  ·rcases gO.mp hb with m|m
   ·exact(a2 b m).mono kA
   ·exact(b2 b m).mono kB
end
end
def yV(o:Obj):Option HO:=match o.data with
 | .seq vs _=>if(o.cls==uU "list")=true then some (.gX o (.lst (vs.toList.map toV))) else some (.gX o (.tup (vs.toList.map toV)))
 |_=>none
def gK(K:aI)(h:aR)(A:List ae):Hp:=λb=>if b∈A then(if(K.lookup b).isNone=true then(h.get? b).bind yV else none) else none
def vH(H:Hp):Prop:=∀b,H b=none\/∃o u,H b=some (.gX o u)
def Lh(vs:List ai):yV {cls:=.type "list",data:=.seq vs.toArray}=some (.gX {cls:=.type "list",data:=.seq vs.toArray} (.lst (vs.map toV))):=by
 show(if(uU "list"==uU "list")=true then some (HO.gX {cls:=.type "list",data:=.seq vs.toArray} (.lst (vs.toArray.toList.map toV))) else some (HO.gX {cls:=.type "list",data:=.seq vs.toArray} (.tup (vs.toArray.toList.map toV))))=_
 rw[if_pos (beq_self_eq_true _)]
def Li(vs:List ai):yV {cls:=.type "tuple",data:=.seq vs.toArray}=some (.gX {cls:=.type "tuple",data:=.seq vs.toArray} (.tup (vs.map toV))):=by
 show(if(uU "tuple"==uU "list")=true then some (HO.gX {cls:=.type "tuple",data:=.seq vs.toArray} (.lst (vs.toArray.toList.map toV))) else some (HO.gX {cls:=.type "tuple",data:=.seq vs.toArray} (.tup (vs.toArray.toList.map toV))))=_
 rw[if_neg (by decide)]
section
variable{P:bQ}{w:bB}{K:aI}{h:aR}{A:List ae}
def yW{b:ae}{o:Obj}(hb:b∈A)(hk:K.lookup b=none)(e:h.get? b=some o):gK K h A b=yV o:=by
 unfold gK;rw[if_pos hb,hk,if_pos (show(none:Option Obj).isNone=true from rfl),e]<;>rfl
def To{b:ae}{u:HO}(q:gK K h A b=some u):b∈A/\K.lookup b=none:=by
 unfold gK at q;by_cases hb:b∈A
 ·rw[if_pos hb] at q;cases hk:K.lookup b with
  |none=>exact⟨hb,rfl⟩
  |some o=>
   rw[hk,if_neg (by simp)] at q
   exact ns q
 ·rw[if_neg hb] at q;exact ns q
def vI(ar:∀a∈A,lM h A a){b:ae}{u:HO}(q:gK K h A b=some u):K.lookup b=none/\ ∃vs:List ai,vs.length<=sizeLine/\ (∀u∈vs,kg A u)/\
 ((h.get? b=some {cls:=.type "list",data:=.seq vs.toArray}/\u=.gX {cls:=.type "list",data:=.seq vs.toArray} (.lst (vs.map toV)))\/
  (h.get? b=some {cls:=.type "tuple",data:=.seq vs.toArray}/\u=.gX {cls:=.type "tuple",data:=.seq vs.toArray} (.tup (vs.map toV)))):=by
 obtain⟨hb,hk⟩:=To q;obtain⟨vs,h1,h2,h3⟩:=ar b hb;refine⟨hk,vs,h1,h2,?_⟩;rcases h3 with e|e
 ·rw[yW hb hk e,Lh] at q;exact .inl ⟨e,(aZ q).symm⟩
 ·rw[yW hb hk e,Li] at q;exact .inr ⟨e,(aZ q).symm⟩
def Tp(ar:∀a∈A,lM h A a):vH (gK K h A):=λb=>by
 cases q:gK K h A b with
 |none=>exact .inl rfl
 |some u=>
  obtain⟨_,vs,_,_,⟨_,e⟩|⟨_,e⟩⟩:=vI ar q
  ·exact .inr ⟨_,_,by rw[e]⟩
  ·exact .inr ⟨_,_,by rw[e]⟩
def yX{c c':ai}{vs us:List ai}(e:(some {cls:=c,data:=.seq vs.toArray}:Option Obj)=some {cls:=c',data:=.seq us.toArray}):c=c'/\vs=us:=by
 have e1:=aZ e;have e2:c=c':=congrArg Obj.cls e1;have e3:Data.seq vs.toArray=Data.seq us.toArray:=congrArg Obj.data e1;injection e3 with e4
 refine⟨e2,?_⟩;have e5:=congrArg Array.toList e4;simpa using e5
def Tq(KX:K.In h)(ar:∀a∈A,lM h A a){a:ae}{vs:List ai}(ha:a∈A)(e:h.get? a=some {cls:=.type "list",data:=.seq vs.toArray}):(∀u∈vs,kg A u)/\aF K (gK K h A) a (vs.map toV):=by
 obtain⟨us,h1,h2,h3⟩:=ar a ha;have hu:us=vs:=by
  rcases h3 with q|q
  ·rw[e] at q;exact(yX q).2.symm
  ·rw[e] at q;exact absurd (uU.inj (yX q).1) (by decide)
 subst hu;refine⟨h2,?_⟩;cases hk:K.lookup a with
 |none=>exact .inl (.inr ⟨_,by rw[yW ha hk e,Lh]⟩)
 |some o=>
  have e2:=KX a o hk;rw[e] at e2;obtain rfl:=aZ e2;exact .inr ⟨_,us.toArray,_,hk,rfl,rfl,rfl,by rw[fO];exact h1,by simpa using t_ h2⟩
def Tr(KX:K.In h)(ar:∀a∈A,lM h A a){a:ae}{vs:List ai}(ha:a∈A)(e:h.get? a=some {cls:=.type "tuple",data:=.seq vs.toArray}):(∀u∈vs,kg A u)/\fR K (gK K h A) a (vs.map toV):=by
 obtain⟨us,h1,h2,h3⟩:=ar a ha;have hu:us=vs:=by
  rcases h3 with q|q
  ·rw[e] at q;exact absurd (uU.inj (yX q).1) (by decide)
  ·rw[e] at q;exact(yX q).2.symm
 subst hu;refine⟨h2,?_⟩;cases hk:K.lookup a with
 |none=>exact .inl (.inr ⟨_,by rw[yW ha hk e,Li]⟩)
 |some o=>
  have e2:=KX a o hk;rw[e] at e2;obtain rfl:=aZ e2;exact .inr ⟨_,us.toArray,_,hk,rfl,rfl,by rw[fO];exact h1,by simpa using t_ h2⟩
mutual
theorem Ts{Pm:Params}(KX:K.In h)(ar:∀a∈A,lM h A a):∀(d:WData) (v:ai),Well Pm h v d->jK d=true->kg A v->Dw K (gK K h A) (toV v) d
 | .none,_,x,_,_=>by
   cases x;exact .aM
 | .bool b,_,x,_,_=>by
   cases x;exact .bl b
 | .int i,_,x,_,_=>by
   cases x;exact .int i
 | .str s,_,x,_,_=>by
   cases x;exact .str s
 | .bytes b,_,x,_,_=>by
   cases x;have z:=Dw.iP (K:=K) (H:=gK K h A) b.toArray;exact z
 | .list ds,_,x,p,hu=>by
   obtain⟨a,vs,rfl,ho,kh⟩:=Ld x;obtain⟨h2,hs⟩:=Tq KX ar hu ho;exact .lst hs (yY KX ar ds _ kh p h2)
 | .tuple ds,_,x,p,hu=>by
   obtain⟨a,vs,rfl,ho,kh⟩:=Le x;obtain⟨h2,hs⟩:=Tr KX ar hu ho;exact .tup hs (yY KX ar ds _ kh p h2)
 | .float _,_,_,p,_=>kG (show false=true from p)
 | .dict _,_,_,p,_=>kG (show false=true from p)
 | .bytearray _,_,_,p,_=>kG (show false=true from p)
 | .set _,_,_,p,_=>kG (show false=true from p)
 | .frozenset _,_,_,p,_=>kG (show false=true from p)
 | .obj _ _,_,_,p,_=>kG (show false=true from p)
theorem yY{Pm:Params}(KX:K.In h)(ar:∀a∈A,lM h A a):∀(ds:List WData) (vs:List ai),sX Pm h vs ds->kP ds=true->(∀u∈vs,kg A u)->lL K (gK K h A) (vs.map toV) ds
 |[],_,x,_,_=>by
  cases x;exact .nil
 |d::ds,_,x,p,hu=>by
  obtain⟨v,vs,rfl,x1,x2⟩:=Lf x;have q:jK d=true/\kP ds=true:=Bool.and_eq_true_iff.mp p;exact .cons (Ts KX ar d v x1 q.1 (hu _ (iL ..))) (yY KX ar ds vs x2 q.2 λu m=>hu u (fG _ m))
end
end
def Tt{ds:List WData}(h:WData.layableAll ds=true):∀d∈ds,d.weight<=1048576:=λd hd=>
 (PySem.W.layableW_iff.mp (kH.mp h d hd)).2.2
theorem Lj:∀(cs:List Codec) (a:Jf cs),(u_ cs a).length=cs.length
 |[],_=>rfl
 |c::cs,a=>by
  show(u_ cs a.2).length+1=cs.length+1;rw[Lj cs a.2]
end L2
namespace MT
open Vaarrj
theorem Lk{α:Type}(f:α->Bool):∀l:List α,(l.dropWhile f).length<=l.length
 |[]=>bz _
 |a::l=>by
  rw[P2]
  split
  ·exact dy (Lk f l) (BS _)
  ·exact bz _
theorem fuel(w:Nat):∀(k j:Nat) (t:aJ),t.length<k->t.length<j->jf w k t=jf w j t
 |0,_,_,h,_=>absurd h (Jh _)
 |_+1,0,_,_,h=>absurd h (Jh _)
 |k+1,j+1,[],_,_=>rfl
 |k+1,j+1,c::r,h1,h2=>by
  have h1:r.length<k:=Nat.lt_of_succ_lt_succ h1;have h2:r.length<j:=Nat.lt_of_succ_lt_succ h2;have go:∀q:aJ,q.length<=r.length->jf w k q=jf w j q:=λq hq=>fuel w k j q (BY hq h1) (BY hq h2);unfold jf;simp only[go r (bz _),go _ (Lk _ r)]
def T(t:aJ)(p:Nat):aL:=jf t.length (t.length-p+1) (t.drop p)
def Ll(t:aJ):T t 0=tokens t:=rfl
def yZ{t r:aJ}{p:Nat}(h:t.drop p=r){k:Nat}(hk:r.length<k):jf t.length k r=T t p:=by
 subst h;unfold T;exact fuel _ _ _ _ hk (by rw[kF];lia)
def Tu(t:aJ):T t t.length=[(t.length,.none)]:=by
 unfold T;rw[BZ,Nat.sub_self];rfl
def ua{t:aJ}{p c:Nat}(h:t[p]? =some c):
 T t p=(if blank c=true then T t (p+1)
 else if c=35 then jf t.length (t.length-p) ((t.drop (p+1)).dropWhile λx=>x !=10)
 else if letter c=true then(p,.word (c::(t.drop (p+1)).takeWhile inner))::jf t.length (t.length-p) ((t.drop (p+1)).dropWhile inner)
 else if digit c=true then
  if oneWay (c::(t.drop (p+1)).takeWhile digit)=true/\ (c::(t.drop (p+1)).takeWhile digit).length<=19/\ ((valueOf (c::(t.drop (p+1)).takeWhile digit):Nat):Int)<=GREAT then
   (p,.num (valueOf (c::(t.drop (p+1)).takeWhile digit)))::jf t.length (t.length-p) ((t.drop (p+1)).dropWhile digit) else[(p,.none)]
 else if(str ";{}@?_").contains c=true then(p,.sign c)::T t (p+1)
 else[(p,.none)]):=by
 obtain⟨hp,hc⟩:=dz.mp h;have hd:t.drop p=c::t.drop (p+1):=by rw[qP hp,hc]
 have e:T t p=jf t.length (t.length-p+1) (c::t.drop (p+1)):=by unfold T;rw[hd]
 have hl:(t.drop (p+1)).length+1=t.length-p:=by rw[kF];lia
 have e2:jf t.length (t.length-p) (t.drop (p+1))=T t (p+1):=yZ rfl (by lia)
 have e3:t.length-((t.drop (p+1)).length+1)=p:=by lia
 rw[e]
 conv=>lhs;unfold jf
 simp only[e2,e3]
def Dv{t:aJ}{p e:Nat}(f:Nat->Bool)(h0:p<=e)(h1:e<=t.length)(h2:∀i c,p<=i->i<e->t[i]? =some c->f c=true)(h3:∀c,t[e]? =some c->f c=false):
 (t.drop p).takeWhile f=(t.drop p).take (e-p)/\ (t.drop p).dropWhile f=t.drop e:=by
 induction hk:e-p generalizing p with
 |zero=>
  have ep:p=e:=by lia
  subst ep;rw[List.take_zero];cases hd:t.drop p with
  |nil=>exact⟨rfl,rfl⟩
  |cons c r=>
   have hp:t[p]? =some c:=by
    have q:=List.getElem?_drop (xs:=t) (i:=p) (j:=0);rw[hd] at q;simpa using q.symm
   have fc:=h3 c hp;rw[List.takeWhile_cons,P2,fc];exact⟨rfl,rfl⟩
 |succ k ih=>
  have hp:p<t.length:=by lia
  have fc:f t[p]=true:=h2 p t[p] (bz _) (by lia) (eK hp)
  rw[qP hp,List.takeWhile_cons,P2,fc];obtain⟨i1,i2⟩:=ih (p:=p+1) (by lia) (λi c a b d=>h2 i c (by lia) b d) (by lia)
  simp only[if_true];rw[i1,i2,x5];exact⟨rfl,rfl⟩
def Tv{t:aJ}{p c:Nat}(h:t[p]? =some c)(hb:blank c=true):T t p=T t (p+1):=by
 rw[ua h,if_pos hb]
def Tw{t:aJ}{p e:Nat}(h:t[p]? =some 35)(h0:p<e)(h1:e<=t.length)(h2:∀i c,p<=i->i<e->t[i]? =some c->c≠10)(h3:∀c,t[e]? =some c->c=10):T t p=T t e:=by
 have s:=Dv (t:=t) (p:=p+1) (e:=e) (λx=>x !=10) (by lia) h1 (λi c a b d=>by simpa using h2 i c (by lia) b d) (λc d=>by simpa using h3 c d)
 rw[ua h,if_neg (by decide),if_pos rfl,s.2]
 exact yZ rfl (by rw[kF];lia)
def Tx{t:aJ}{p e c:Nat}(h:t[p]? =some c)(hc:letter c=true)(h0:p<e)(h1:e<=t.length)(h2:∀i c,p<=i->i<e->t[i]? =some c->inner c=true)(h3:∀c,t[e]? =some c->inner c=false):
 T t p=(p,.word ((t.drop p).take (e-p)))::T t e:=by
 obtain⟨hp,nE⟩:=dz.mp h;have nb:blank c=false:=by
  simp only[letter,decide_eq_true_eq] at hc;simp only[blank,P4,beq_eq_false_iff_ne]
  lia
 have nh: ¬c=35:=by simp only[letter,decide_eq_true_eq] at hc;lia
 have s:=Dv (t:=t) (p:=p+1) (e:=e) inner (by lia) h1 (λi c a b d=>h2 i c (by lia) b d) h3
 rw[ua h,nb,if_neg cW,if_neg nh,if_pos hc,s.1,s.2,yZ rfl (by rw[kF];lia)]
 rw[qP hp,nE,show e-p=(e-(p+1))+1 by lia,x5]
def Tz{t:aJ}{p e c:Nat}(h:t[p]? =some c)(hc:digit c=true)(h0:p<e)(h1:e<=t.length)(h2:∀i c,p<=i->i<e->t[i]? =some c->digit c=true)(h3:∀c,t[e]? =some c->digit c=false):
 T t p=if oneWay ((t.drop p).take (e-p))=true/\ ((t.drop p).take (e-p)).length<=19/\ ((valueOf ((t.drop p).take (e-p)):Nat):Int)<=GREAT then(p,.num (valueOf ((t.drop p).take (e-p))))::T t e else[(p,.none)]:=by
 obtain⟨hp,nE⟩:=dz.mp h;have nb:blank c=false:=by
  simp only[digit,decide_eq_true_eq] at hc;simp only[blank,P4,beq_eq_false_iff_ne]
  lia
 have nh: ¬c=35:=by simp only[digit,decide_eq_true_eq] at hc;lia
 have nl:letter c=false:=by
  simp only[digit,decide_eq_true_eq] at hc;simp only[letter,decide_eq_false_iff_not]
  lia
 have s:=Dv (t:=t) (p:=p+1) (e:=e) digit (by lia) h1 (λi c a b d=>h2 i c (by lia) b d) h3
 have ed:c::(t.drop (p+1)).take (e-(p+1))=(t.drop p).take (e-p):=by
  rw[qP hp,nE,show e-p=(e-(p+1))+1 by lia,x5]
 rw[ua h,nb,if_neg cW,if_neg nh,nl,if_neg cW,if_pos hc,s.1,s.2,yZ rfl (by rw[kF];lia),ed]
def isSign(c:Nat):Bool:=c==59||c==123||c==125||c==64||c==63||c==95
def sign_is(c:Nat):(str ";{}@?_").contains c=isSign c:=by
 have e:str ";{}@?_"=[59,123,125,64,63,95]:=by decide+kernel
 rw[e];simp only[P5,List.contains_nil,isSign,sU,Bool.or_assoc]
def TF{t:aJ}{p c:Nat}(h:t[p]? =some c)(hc:isSign c=true):T t p=(p,.sign c)::T t (p+1):=by
 have d8:=hc;simp only[isSign,pM,beq_iff_eq] at hc;have nb:blank c=false:=by
  simp only[blank,P4,beq_eq_false_iff_ne]
  lia
 have nl:letter c=false:=by
  simp only[letter,decide_eq_false_iff_not]
  lia
 have nd:digit c=false:=by
  simp only[digit,decide_eq_false_iff_not]
  lia
 rw[ua h,nb,if_neg cW,if_neg (by lia),nl,if_neg cW,nd,if_neg cW,sign_is,if_pos d8]
def TH{t:aJ}{p c:Nat}(h:t[p]? =some c)(h1:blank c=false)(h2: ¬c=35)(h3:letter c=false)(h4:digit c=false)(h5:isSign c=false):T t p=[(p,.none)]:=by
 rw[ua h,h1,if_neg cW,if_neg h2,h3,if_neg cW,h4,if_neg cW,sign_is,h5,if_neg cW]
end MT
namespace MP
open Vaarrj
def bad(n:Nat)(u:aL):Prop:=next u=.none/\here u≠n
instance(n:Nat)(u:aL):Decidable (bad n u):=by unfold bad;exact inferInstance
def aH{A:Type}(n:Nat)(r:Except Nat (A×aL)):Except Nat (A×aL):=match r with
 | .error p=>.error p
 | .ok x=>if bad n x.2 then .error (here x.2) else .ok x
def Wk{A:Type}(n:Nat)(g:Read A):Prop:=∀u,bad n u->aH n (g u)=.error (here u)
variable{A B:Type}{n:Nat}
def i'{x:A×aL}(h: ¬bad n x.2):aH n (.ok x)=.ok x:=by simp[aH,h]
def jL{x:A×aL}(h:bad n x.2):aH n (.ok x)=.error (here x.2):=by simp[aH,h]
def kQ(r:Except Nat (A×aL))(g:A->Read B)(hg:∀a,Wk n (g a)):
 aH n (r.bind λx=>g x.1 x.2)=(aH n r).bind λx=>aH n (g x.1 x.2):=by
 cases r with
 |error p=>rfl
 |ok x=>
  by_cases h:bad n x.2
  ·show aH n (g x.1 x.2)=_;rw[hg x.1 x.2 h,jL h];rfl
  ·rw[i' h];rfl
def gA(f:A->B)(r:Except Nat (A×aL)):aH n (also f r)=also f (aH n r):=by
 cases r with
 |error p=>rfl
 |ok x=>
  by_cases h:bad n x.2
  ·rw[jL h];show aH n (.ok (f x.1,x.2))=_;rw[jL (show bad n (f x.1,x.2).2 from h)];rfl
  ·rw[i' h];show aH n (.ok (f x.1,x.2))=_;rw[i' (show¬bad n (f x.1,x.2).2 from h)];rfl
theorem Wk.also{g:Read A}(f:A->B)(h:Wk n g):Wk n (λts=>also f (g ts)):=λu hu=>by
 show aH n (j3 f (g u))=_;rw[gA,h u hu];rfl
theorem Wk.bind{f:Read A}{g:A->Read B}(hf:Wk n f)(hg:∀a,Wk n (g a)):Wk n (λts=>(f ts).bind λx=>g x.1 x.2):=λu hu=>by
 show aH n ((f u).bind λx=>g x.1 x.2)=_;rw[kQ _ _ hg,hf u hu];rfl
def Wk.oU{g:Read A}(h:∀u,next u=.none->g u=.error (here u)):Wk n g:=λu hu=>by rw[h u hu.1];rfl
def TJ(c:Nat):Wk n (sign c):=.oU λu h=>by simp[sign,h]
def Dx(c k:Nat):Wk n (reg c k):=.oU λu h=>by simp[reg,h]
def Dy:Wk n sca:=Dx _ _
def TK:Wk n mas:=Dx _ _
def Lm:Wk n number:=.oU λu h=>by simp[number,h]
def TM:Wk n signed:=.oU λu h=>by simp[signed,h,number,also,Except.map]
def TQ:Wk n place:=.oU λu h=>by simp[place,sign,h,i5]
def TR:Wk n operator2:=.oU λu h=>by simp[operator2,h]
def TU{f:Read A}{g:Read B}(hf:Wk n f)(hg:Wk n g):Wk n (two f g):=
 Wk.bind (g:=λa ts=>also (λy=>(a,y)) (g ts)) hf λa=>hg.also _
end MP
namespace MP
open Vaarrj
structure Told where
 act:aJ
 op:aJ
 parts:List aJ
 args:List Int
 place:Nat
 mask:Option Nat
def jb:Read (Option Nat):=λts=>if next ts=.sign 63 then also some (mas (ts.drop 1)) else .ok (none,ts)
def countOf(n c:Nat):Nat:=if c=118 then 16 else if c=115 then 16 else if c=109 then 8 else n
def Told.arg(τ:Told)(x:aJ)(k:Int):Told:={τ with parts:=τ.parts++[x],args:=τ.args++[k]}
def Told.vJ(τ:Told)(x:aJ):Told:={τ with op:=x,parts:=τ.parts++[x]}
def Told.vK(τ:Told)(p:Nat):Told:={τ with place:=p,parts:=τ.parts++[at_ p]}
def Told.jM(τ:Told)(k:Option Nat):Told:={τ with mask:=k,parts:=τ.parts++kI k}
def d_(n c:Nat)(τ:Told):Read Told:=λts=>
 if c=111 then also (λo=>τ.vJ (opName ops2 o)) (operator2 ts)
 else if c=110 then also (λk=>τ.arg (signedText k) k) (signed ts)
 else if c=64 then also τ.vK (place ts)
 else if c=63 then also τ.jM (jb ts)
 else also (λk=>τ.arg (c::dec k) (k:Nat)) (reg c (countOf n c) ts)
def gk(n:Nat):List Nat->Told->Read Told
 |[],τ,ts=>.ok (τ,ts)
 |c::cs,τ,ts=>(d_ n c τ ts).bind λx=>gk n cs x.1 x.2
def iT(n:Nat)(sh:List Nat)(τ:Told):Read Told:=λts=>(gk n sh τ ts).bind λx=>(sign 59 x.2).bind λu=>.ok (x.1,u.2)
def TV{n:Nat}:Wk n jb:=λu hu=>by
 have e:jb u=.ok (none,u):=by simp[jb,hu.1]
 rw[e,jL (show bad n (none,u).2 from hu)]
def TX{N:Nat}(n c:Nat)(τ:Told):Wk N (d_ n c τ):=λu hu=>by
 unfold d_
 split
 ·exact TR.also _ u hu
 ·split
  ·exact TM.also _ u hu
  ·split
   ·exact TQ.also _ u hu
   ·split
    ·exact TV.also _ u hu
    ·exact(Dx _ _).also _ u hu
def TY{A:Type}{N:Nat}(a:A):Wk N (λts=>.ok (a,ts)):=λu hu=>jL (show bad N (a,u).2 from hu)
theorem Dz{N:Nat}(n:Nat):∀(sh:List Nat) (τ:Told),Wk N (gk n sh τ)
 |[],τ=>TY τ
 |c::cs,τ=>Wk.bind (g:=λa ts=>gk n cs a ts) (TX n c τ) λa=>Dz n cs a
def Ln{N:Nat}(n c:Nat)(cs:List Nat)(τ:Told)(ts:aL):aH N (gk n (c::cs) τ ts)=(aH N (d_ n c τ ts)).bind λx=>aH N (gk n cs x.1 x.2):=
 kQ (g:=λa ts=>gk n cs a ts) _ λa=>Dz n cs a
def y0{A:Type}{N:Nat}(a:A):Wk N (λts=>(sign 59 ts).bind λu=>.ok (a,u.2)):=Wk.oU λu h=>by simp[sign,h,i5]
def TZ{N:Nat}(n:Nat)(sh:List Nat)(τ:Told):Wk N (iT n sh τ):=Wk.bind (g:=λa ts=>(sign 59 ts).bind λu=>.ok (a,u.2)) (Dz n sh τ) λa=>y0 a
def T4{N:Nat}(n:Nat)(sh:List Nat)(τ:Told)(ts:aL):aH N (iT n sh τ ts)=(aH N (gk n sh τ ts)).bind λx=>aH N ((sign 59 x.2).bind λu=>.ok (x.1,u.2)):=
 kQ (g:=λa ts=>(sign 59 ts).bind λu=>.ok (a,u.2)) _ λa=>y0 a
def t0(w:aJ):Told:=⟨w,[],[w],[],0,none⟩
def t1(w:aJ):Told:=⟨str "one",w,[w],[],0,none⟩
def t2(w:aJ):Told:=⟨str "two",w,[w],[],0,none⟩
def toldOf:cw->Told
 | .lanes d k=>⟨str "lanes",[],[str "lanes",v d]++kI k,[(d:Int)],0,k⟩
 | .const d n k=>⟨str "const",[],[str "const",v d,signedText n]++kI k,[(d:Int),n],0,k⟩
 | .fill d x k=>⟨str "fill",[],[str "fill",v d,s x]++kI k,[(d:Int),(x:Int)],0,k⟩
 | .copy d x k=>⟨str "copy",[],[str "copy",v d,v x]++kI k,[(d:Int),(x:Int)],0,k⟩
 | .one o d x p k=>⟨str "one",opName ops1 o,[opName ops1 o,v d,v x,at_ p]++kI k,[(d:Int),(x:Int)],p,k⟩
 | .two o d x y p k=>⟨str "two",opName ops2 o,[opName ops2 o,v d,v x,v y,at_ p]++kI k,[(d:Int),(x:Int),(y:Int)],p,k⟩
 | .read d r x k=>⟨str "read",[],[str "read",v d,a r,v x]++kI k,[(d:Int),(r:Int),(x:Int)],0,k⟩
 | .pick d r x p k=>⟨str "pick",[],[str "pick",v d,a r,v x,at_ p]++kI k,[(d:Int),(r:Int),(x:Int)],p,k⟩
 | .write r x y k=>⟨str "write",[],[str "write",a r,v x,v y]++kI k,[(r:Int),(x:Int),(y:Int)],0,k⟩
 | .test d x k=>⟨str "test",[],[str "test",m d,v x]++kI k,[(d:Int),(x:Int)],0,k⟩
 | .tail d x=>⟨str "tail",[],[str "tail",m d,s x],[(d:Int),(x:Int)],0,none⟩
 | .both d x y=>⟨str "both",[],[str "both",m d,m x,m y],[(d:Int),(x:Int),(y:Int)],0,none⟩
 | .less d x y=>⟨str "less",[],[str "less",m d,m x,m y],[(d:Int),(x:Int),(y:Int)],0,none⟩
 | .either d x y=>⟨str "either",[],[str "either",m d,m x,m y],[(d:Int),(x:Int),(y:Int)],0,none⟩
 | .count d x=>⟨str "count",[],[str "count",s d,m x],[(d:Int),(x:Int)],0,none⟩
 | .num d n=>⟨str "num",[],[str "num",s d,signedText n],[(d:Int),n],0,none⟩
 | .width d=>⟨str "width",[],[str "width",s d],[(d:Int)],0,none⟩
 | .calc o d x y p=>⟨str "calc",opName ops2 o,[str "calc",opName ops2 o,s d,s x,s y,at_ p],[(d:Int),(x:Int),(y:Int)],p,none⟩
 | .get d x y=>⟨str "get",[],[str "get",s d,v x,s y],[(d:Int),(x:Int),(y:Int)],0,none⟩
 | .put x y z=>⟨str "put",[],[str "put",v x,s y,s z],[(x:Int),(y:Int),(z:Int)],0,none⟩
 | .for_ d n _=>⟨str "for",[],[str "for",s d,s n],[(d:Int),(n:Int)],0,none⟩
 | .when x _ _=>⟨str "when",[],[str "when",s x],[(x:Int)],0,none⟩
 | .raise=>⟨str "raise",[],[str "raise"],[],0,none⟩
def shapes:List (aJ×aJ):=[("lanes","v?"),("const","vn?"),("fill","vs?"),("copy","vv?"),("read","vav?"),("pick","vav@?"),("write","avv?"),("test","mv?"),("tail","ms"),("both","mmm"),("less","mmm"),("either","mmm"),
 ("count","sm"),("num","sn"),("width","s"),("calc","osss@"),("get","svs"),("put","vss"),("raise","")].map λp=>(str p.1,str p.2)
def vL{A B C:Type}(f:A->B)(r:Except Nat (A×aL))(g:B×aL->Except Nat C):(also f r).bind g=r.bind λx=>g (f x.1,x.2):=by cases r<;>rfl
def DB{A B C:Type}(f:B->C)(r:Except Nat A)(g:A->Except Nat (B×aL)):also f (r.bind g)=r.bind λx=>also f (g x):=by cases r<;>rfl
def DC{A B C:Type}(f:A->B)(g:B->C)(r:Except Nat (A×aL)):also g (also f r)=also (λx=>g (f x)) r:=by cases r<;>rfl
def hZ{A B C:Type}(r:Except Nat A)(f:A->Except Nat B)(g:B->Except Nat C):(r.bind f).bind g=r.bind λx=>(f x).bind g:=by cases r<;>rfl
def fA{A B:Type}(a:A)(g:A->Except Nat B):(uT a:Except Nat A).bind g=g a:=rfl
def gL{A B:Type}(f:A->B)(r:Except Nat (A×aL)):also f r=r.bind λx=>.ok (f x.1,x.2):=by cases r<;>rfl
def y4(ts:aL):masked ts=(jb ts).bind λk=>(sign 59 k.2).bind λu=>.ok (k.1,u.2):=by
 unfold masked jb
 split
 ·rw[vL]
 ·rfl
def DD{A:Type}(f:Read A)(ts:aL):ended f ts=(f ts).bind λx=>(sign 59 x.2).bind λu=>.ok (x.1,u.2):=rfl
def y6{A B:Type}(f:Read A)(g:Read B)(ts:aL):two f g ts=(f ts).bind λx=>(g x.2).bind λy=>.ok ((x.1,y.1),y.2):=by
 unfold two;simp only[gL]
def DE(n:Nat)(τ:Told)(ts:aL):d_ n 118 τ ts=(vec ts).bind λx=>.ok (τ.arg (v x.1) (x.1:Nat),x.2):=by
 unfold d_;simp only[show¬(118=111) by decide,show¬(118=110) by decide,show¬(118=64) by decide,show¬(118=63) by decide,if_false,gL];rfl
def vM(n:Nat)(τ:Told)(ts:aL):d_ n 115 τ ts=(sca ts).bind λx=>.ok (τ.arg (s x.1) (x.1:Nat),x.2):=by
 unfold d_;simp only[show¬(115=111) by decide,show¬(115=110) by decide,show¬(115=64) by decide,show¬(115=63) by decide,if_false,gL];rfl
def DF(n:Nat)(τ:Told)(ts:aL):d_ n 109 τ ts=(mas ts).bind λx=>.ok (τ.arg (m x.1) (x.1:Nat),x.2):=by
 unfold d_;simp only[show¬(109=111) by decide,show¬(109=110) by decide,show¬(109=64) by decide,show¬(109=63) by decide,if_false,gL];rfl
def DG(n:Nat)(τ:Told)(ts:aL):d_ n 97 τ ts=(reg 97 n ts).bind λx=>.ok (τ.arg (a x.1) (x.1:Nat),x.2):=by
 unfold d_;simp only[show¬(97=111) by decide,show¬(97=110) by decide,show¬(97=64) by decide,show¬(97=63) by decide,if_false,gL];rfl
def DH(n:Nat)(τ:Told)(ts:aL):d_ n 111 τ ts=(operator2 ts).bind λx=>.ok (τ.vJ (opName ops2 x.1),x.2):=by
 unfold d_;simp only[if_true,gL]
def DI(n:Nat)(τ:Told)(ts:aL):d_ n 110 τ ts=(signed ts).bind λx=>.ok (τ.arg (signedText x.1) x.1,x.2):=by
 unfold d_;simp only[show¬(110=111) by decide,if_false,if_true,gL]
def DJ(n:Nat)(τ:Told)(ts:aL):d_ n 64 τ ts=(place ts).bind λx=>.ok (τ.vK x.1,x.2):=by
 unfold d_;simp only[show¬(64=111) by decide,show¬(64=110) by decide,if_false,if_true,gL]
def DK(n:Nat)(τ:Told)(ts:aL):d_ n 63 τ ts=(jb ts).bind λx=>.ok (τ.jM x.1,x.2):=by
 unfold d_;simp only[show¬(63=111) by decide,show¬(63=110) by decide,show¬(63=64) by decide,if_false,if_true,gL]
def bind_congr{A B:Type}{r:Except Nat A}{f g:A->Except Nat B}(h:∀x,f x=g x):r.bind f=r.bind g:=by cases r<;>simp[i5,h]
def words:List aJ:=["lanes","const","fill","copy","read","pick","write","test","tail","both","less","either","count","num","width","calc","get","put","raise"].map str
def T5(n p:Nat)(ts:aL)(o:Nat)(h:o<4):iT n [118,118,64,63] (t1 (opName ops1 o)) ts=also toldOf (c8 n (opName ops1 o) p ts):=by
 have e:=(by decide+kernel:∀d:Fin 4,opAt ops1 (opName ops1 d.val)=some d.val/\ ∀x∈words,opName ops1 d.val≠x) ⟨o,h⟩
 have k:c8 n (opName ops1 o) p ts=also (λx=>.one o x.1 x.2.1 x.2.2.1 x.2.2.2) (two vec (two vec (two place masked)) ts):=by
  unfold c8
  iterate 19 refine(if_neg (e.2 _ (by decide+kernel))).trans ?_
  rw[e.1]
 rw[k];simp only[iT,gk,DE,vM,DF,DG,DH,DI,DJ,DK,hZ,fA,gL,y6,y4,DD,maskOp];rfl
def T6(n p:Nat)(ts:aL)(o:Nat)(h:o<13):iT n [118,118,118,64,63] (t2 (opName ops2 o)) ts=also toldOf (c8 n (opName ops2 o) p ts):=by
 have e:=(by decide+kernel:∀d:Fin 13,opAt ops1 (opName ops2 d.val)=none/\opAt ops2 (opName ops2 d.val)=some d.val/\ ∀x∈words,opName ops2 d.val≠x) ⟨o,h⟩
 have k:c8 n (opName ops2 o) p ts=also (λx=>.two o x.1 x.2.1 x.2.2.1 x.2.2.2.1 x.2.2.2.2) (two vec (two vec (two vec (two place masked))) ts):=by
  unfold c8
  iterate 19 refine(if_neg (e.2.2 _ (by decide+kernel))).trans ?_
  rw[e.1,e.2.1]
 rw[k];simp only[iT,gk,DE,vM,DF,DG,DH,DI,DJ,DK,hZ,fA,gL,y6,y4,DD,maskOp];rfl
def T7(n p:Nat)(ts:aL):c8 n (str "lanes") p ts=also (λx=>.lanes x.1 x.2) (two vec masked ts):=by with_unfolding_all rfl
def T8(n p:Nat)(ts:aL):c8 n (str "const") p ts=also (λx=>.const x.1 x.2.1 x.2.2) (two vec (two signed masked) ts):=by with_unfolding_all rfl
def T9(n p:Nat)(ts:aL):c8 n (str "fill") p ts=also (λx=>.fill x.1 x.2.1 x.2.2) (two vec (two sca masked) ts):=by with_unfolding_all rfl
def T_(n p:Nat)(ts:aL):c8 n (str "copy") p ts=also (λx=>.copy x.1 x.2.1 x.2.2) (two vec (two vec masked) ts):=by with_unfolding_all rfl
def Ua(n p:Nat)(ts:aL):c8 n (str "read") p ts=also (λx=>.read x.1 x.2.1 x.2.2.1 x.2.2.2) (two vec (two (reg 97 n) (two vec masked)) ts):=by with_unfolding_all rfl
def Ub(n p:Nat)(ts:aL):c8 n (str "pick") p ts=also (λx=>.pick x.1 x.2.1 x.2.2.1 x.2.2.2.1 x.2.2.2.2) (two vec (two (reg 97 n) (two vec (two place masked))) ts):=by with_unfolding_all rfl
def Uc(n p:Nat)(ts:aL):c8 n (str "write") p ts=also (λx=>.write x.1 x.2.1 x.2.2.1 x.2.2.2) (two (reg 97 n) (two vec (two vec masked)) ts):=by with_unfolding_all rfl
def Ud(n p:Nat)(ts:aL):c8 n (str "test") p ts=also (λx=>.test x.1 x.2.1 x.2.2) (two mas (two vec masked) ts):=by with_unfolding_all rfl
def Ue(n p:Nat)(ts:aL):c8 n (str "tail") p ts=also (λx=>.tail x.1 x.2) (ended (two mas sca) ts):=by with_unfolding_all rfl
def Ug(n p:Nat)(ts:aL):c8 n (str "both") p ts=maskOp .both ts:=by with_unfolding_all rfl
def Uh(n p:Nat)(ts:aL):c8 n (str "less") p ts=maskOp .less ts:=by with_unfolding_all rfl
def Ui(n p:Nat)(ts:aL):c8 n (str "either") p ts=maskOp .either ts:=by with_unfolding_all rfl
def Uj(n p:Nat)(ts:aL):c8 n (str "count") p ts=also (λx=>.count x.1 x.2) (ended (two sca mas) ts):=by with_unfolding_all rfl
def Uk(n p:Nat)(ts:aL):c8 n (str "num") p ts=also (λx=>.num x.1 x.2) (ended (two sca signed) ts):=by with_unfolding_all rfl
def Ul(n p:Nat)(ts:aL):c8 n (str "width") p ts=also (λx=>.width x) (ended sca ts):=by with_unfolding_all rfl
def Um(n p:Nat)(ts:aL):c8 n (str "calc") p ts=also (λx=>.calc x.1 x.2.1 x.2.2.1 x.2.2.2.1 x.2.2.2.2) (ended (two operator2 (two sca (two sca (two sca place)))) ts):=by with_unfolding_all rfl
def Uo(n p:Nat)(ts:aL):c8 n (str "get") p ts=also (λx=>.get x.1 x.2.1 x.2.2) (ended (two sca (two vec sca)) ts):=by with_unfolding_all rfl
def Up(n p:Nat)(ts:aL):c8 n (str "put") p ts=also (λx=>.put x.1 x.2.1 x.2.2) (ended (two vec (two sca sca)) ts):=by with_unfolding_all rfl
def Uq(n p:Nat)(ts:aL):c8 n (str "raise") p ts=also (λ_=>.raise) (sign 59 ts):=by with_unfolding_all rfl
def shapeOf(w:aJ):Option aJ:=if(opAt ops1 w).isSome=true then some [118,118,64,63] else if(opAt ops2 w).isSome=true then some [118,118,118,64,63]
 else if w=str "lanes" then some [118,63]
 else if w=str "const" then some [118,110,63]
 else if w=str "fill" then some [118,115,63]
 else if w=str "copy" then some [118,118,63]
 else if w=str "read" then some [118,97,118,63]
 else if w=str "pick" then some [118,97,118,64,63]
 else if w=str "write" then some [97,118,118,63]
 else if w=str "test" then some [109,118,63]
 else if w=str "tail" then some [109,115]
 else if w=str "both" then some [109,109,109]
 else if w=str "less" then some [109,109,109]
 else if w=str "either" then some [109,109,109]
 else if w=str "count" then some [115,109]
 else if w=str "num" then some [115,110]
 else if w=str "width" then some [115]
 else if w=str "calc" then some [111,115,115,115,64]
 else if w=str "get" then some [115,118,115]
 else if w=str "put" then some [118,115,115]
 else if w=str "raise" then some []
 else if w=str "for" then some [115,115]
 else if w=str "when" then some [115]
 else none
def dQ(w:aJ):Told:=if(opAt ops1 w).isSome=true then t1 w else if(opAt ops2 w).isSome=true then t2 w else t0 w
def rF{l:List aJ}{w:aJ}{o:Nat}(h:opAt l w=some o):o<l.length/\opName l o=w:=by
 unfold opAt at h;obtain⟨h1,h2,h3⟩:=List.findIdx?_eq_some_iff_getElem.mp h;refine⟨h1,?_⟩;unfold opName;rw[eK h1];simpa using h2
def y8{α:Type}{p:Prop}[Decidable p]{a b c:α}(h:(if p then a else b)=c):(p/\a=c)\/(¬p/\b=c):=by
 by_cases q:p
 ·rw[if_pos q] at h;exact .inl ⟨q,h⟩
 ·rw[if_neg q] at h;exact .inr ⟨q,h⟩
def Ur{n p:Nat}{ts:aL}{w x sh y:aJ}(q:w=x)(h:some y=some sh)(e:iT n y (t0 x) ts=also toldOf (c8 n x p ts)):iT n sh (t0 w) ts=also toldOf (c8 n w p ts):=by
 subst q;obtain rfl:=aZ h;exact e
def DM{n p:Nat}{ts:aL}{w sh:aJ}(h:shapeOf w=some sh)(h1:w≠str "for")(h2:w≠str "when"):iT n sh (dQ w) ts=also toldOf (c8 n w p ts):=by
 unfold shapeOf at h;unfold dQ;by_cases o1:(opAt ops1 w).isSome=true
 ·rw[if_pos o1] at h⊢;obtain rfl:=aZ h;obtain⟨o,ho⟩:=xV.mp o1;obtain⟨hl,rfl⟩:=rF ho;exact T5 n p ts o hl
 rw[if_neg o1] at h⊢;by_cases o2:(opAt ops2 w).isSome=true
 ·rw[if_pos o2] at h⊢;obtain rfl:=aZ h;obtain⟨o,ho⟩:=xV.mp o2;obtain⟨hl,rfl⟩:=rF ho;exact T6 n p ts o hl
 rw[if_neg o2] at h⊢
 iterate 19
  rcases y8 h with⟨q,h⟩|⟨_,h⟩
  ·exact Ur q h (by as_aux_lemma=>(simp only[T7,T8,T9,T_,Ua,Ub,Uc,Ud,Ue,Ug,Uh,Ui,Uj,Uk,Ul,Um,Uo,Up,Uq,iT,gk,DE,vM,DF,DG,DH,DI,DJ,DK,hZ,fA,gL,y6,y4,DD,maskOp];rfl))
 rw[if_neg h1,if_neg h2] at h;exact ns h
def Lo{n p:Nat}{ts:aL}{w:aJ}(h:shapeOf w=none):c8 n w p ts=.error p:=by
 have e:∀x∈words,w≠x:=λx hx z=>(by decide+kernel:∀x∈words,shapeOf x≠none) x hx (z▸h)
 unfold shapeOf at h;cases e1:opAt ops1 w with
 |some _=>rw[e1] at h;cases h
 |none=>
  cases e2:opAt ops2 w with
  |some _=>rw[e1,e2] at h;cases h
  |none=>
   unfold c8
   iterate 19 refine(if_neg (e _ (by decide+kernel))).trans ?_
   rw[e1,e2]
def Lp:shapeOf (str "for")=some [115,115]:=by decide+kernel
def Lq:shapeOf (str "when")=some [115]:=by decide+kernel
def Us:dQ (str "for")=t0 (str "for"):=by unfold dQ;rw[if_neg (by decide+kernel),if_neg (by decide+kernel)]
def Ut:dQ (str "when")=t0 (str "when"):=by unfold dQ;rw[if_neg (by decide+kernel),if_neg (by decide+kernel)]
def c7(n:Nat)(sub:gH)(left:Nat):Read (cw×Nat):=λts=>match next ts with
 | .word w=>if left=0 then .error (here ts) else
   if w=str "for" then(two sca sca (ts.drop 1)).bind λh=>(sub (left-1) h.2).bind λb=>.ok ((.for_ h.1.1 h.1.2 b.1.1,b.1.2),b.2)
   else if w=str "when" then(sca (ts.drop 1)).bind λs=>(sub (left-1) s.2).bind λb=>
    if next b.2=.word (str "else") then(sub b.1.2 (b.2.drop 1)).bind λc=>.ok ((.when s.1 b.1.1 c.1.1,c.1.2),c.2)
    else .ok ((.when s.1 b.1.1 .nil,b.1.2),b.2)
   else(c8 n w (here ts) (ts.drop 1)).bind λi=>.ok ((i.1,left-1),i.2)
 |_=>.error (here ts)
def rG{n:Nat}{sub:gH}{k left:Nat}{ts:aL}{w:aJ}(h:next ts=.word w):
 instrs n sub (k+1) left ts=(c7 n sub left ts).bind λi=>also (λx=>(.cons i.1.1 x.1,x.2)) (instrs n sub k i.1.2 i.2):=by
 conv=>lhs;unfold instrs
 unfold c7;simp only[h];by_cases h0:left=0
 ·simp only[h0,if_true];rfl
 simp only[h0,if_false];by_cases h1:w=str "for"
 ·simp only[h1,if_true,hZ,fA]
 simp only[h1,if_false];by_cases h2:w=str "when"
 ·simp only[h2,if_true,hZ];refine bind_congr λx=>bind_congr λb=>?_;by_cases h3:next b.2=.word (str "else")
  ·simp only[h3,if_true,hZ,fA]
  ·simp only[h3,if_false,fA]
 simp only[h2,if_false,hZ,fA]
def kR{n:Nat}{sub:gH}{k left:Nat}{ts:aL}(h:∀w,next ts≠ .word w):instrs n sub k left ts=.ok ((.nil,left),ts):=by
 cases k with
 |zero=>rfl
 |succ k=>
  unfold instrs;cases e:next ts with
  |word w=>exact absurd e (h w)
  |num _=>rfl
  |sign _=>rfl
  |none=>rfl
def DN{n:Nat}{sub:gH}{left:Nat}{ts:aL}(h:∀w,next ts≠ .word w):c7 n sub left ts=.error (here ts):=by
 unfold c7;cases e:next ts with
 |word w=>exact absurd e (h w)
 |num _=>rfl
 |sign _=>rfl
 |none=>rfl
def cz{A:Type}(f:Read A):Prop:=∀ts x,f ts=.ok x->x.2.length<=ts.length
def Uu{ts:aL}(h:next ts≠ .none):0<ts.length:=by
 cases ts with
 |nil=>exact absurd rfl h
 |cons a r=>exact Nat.succ_pos _
def Lr{ts:aL}(h:next ts≠ .none):(ts.drop 1).length<ts.length:=by
 have:=Uu h;rw[kF];lia
section
variable{A B:Type}
theorem cz.bind{f:Read A}{g:A->Read B}(hf:cz f)(hg:∀a,cz (g a)):cz (λts=>(f ts).bind λx=>g x.1 x.2):=λts x h=>by
 dsimp only at h;cases e:f ts with
 |error p=>rw[e] at h;cases h
 |ok y=>
  rw[e] at h;exact dy (hg y.1 y.2 x h) (hf ts y e)
theorem cz.ok(a:A):cz (λts=>.ok (a,ts)):=λts x h=>by obtain rfl:=bG h;exact bz _
theorem cz.also{f:Read A}(hf:cz f)(g:A->B):cz (λts=>also g (f ts)):=λts x h=>by
 dsimp only at h;cases e:f ts with
 |error p=>rw[e] at h;cases h
 |ok y=>
  rw[e] at h;cases h;exact hf ts y e
def qj(ts:aL):(ts.drop 1).length<=ts.length:=by rw[kF];lia
def vN(c:Nat):cz (sign c):=λts x h=>by
 unfold sign at h
 split at h
 ·obtain rfl:=bG h;exact qj ts
 ·exact eo h
def vO(c k:Nat):cz (reg c k):=λts x h=>by
 unfold reg at h
 split at h
 ·split at h
  ·obtain rfl:=bG h;exact qj ts
  ·exact eo h
 ·exact eo h
def DO:cz number:=λts x h=>by
 unfold number at h
 split at h
 ·obtain rfl:=bG h;exact qj ts
 ·exact eo h
def Uv:cz signed:=λts x h=>by
 unfold signed at h
 split at h
 ·exact dy ((DO.also _) _ x h) (qj ts)
 ·exact(DO.also _) _ x h
def Uw:cz operator2:=λts x h=>by
 unfold operator2 at h
 split at h
 ·split at h
  ·obtain rfl:=bG h;exact qj ts
  ·exact eo h
 ·exact eo h
def Ux:cz place:=cz.bind (g:=λ_ ts=>number ts) (vN 64) λ_=>DO
def Uy:cz jb:=λts x h=>by
 unfold jb at h
 split at h
 ·exact dy (((vO 109 8).also _) _ x h) (qj ts)
 ·obtain rfl:=bG h;exact bz _
def Uz(n c:Nat)(τ:Told):cz (d_ n c τ):=λts x h=>by
 unfold d_ at h
 split at h
 ·exact(Uw.also _) ts x h
 ·split at h
  ·exact(Uv.also _) ts x h
  ·split at h
   ·exact(Ux.also _) ts x h
   ·split at h
    ·exact(Uy.also _) ts x h
    ·exact((vO _ _).also _) ts x h
theorem Ls(n:Nat):∀(sh:List Nat) (τ:Told),cz (gk n sh τ)
 |[],τ=>cz.ok τ
 |c::cs,τ=>cz.bind (g:=λa ts=>gk n cs a ts) (Uz n c τ) λa=>Ls n cs a
def UA(a:A):cz (λts=>(sign 59 ts).bind λu=>.ok (a,u.2)):=cz.bind (g:=λ_ ts=>.ok (a,ts)) (vN 59) λ_=>cz.ok a
def UB(n:Nat)(sh:List Nat)(τ:Told):cz (iT n sh τ):=cz.bind (g:=λa ts=>(sign 59 ts).bind λu=>.ok (a,u.2)) (Ls n sh τ) λa=>UA a
def UC(n:Nat)(w:aJ)(p:Nat)(h1:w≠str "for")(h2:w≠str "when"):cz (c8 n w p):=λts x h=>by
 cases e:shapeOf w with
 |none=>rw[Lo e] at h;exact eo h
 |some sh=>
  have q:=DM (n:=n) (p:=p) (ts:=ts) e h1 h2;rw[h] at q;exact UB n sh (dQ w) ts _ q
def UD{f:Read A}{g:Read B}(hf:cz f)(hg:cz g):cz (two f g):=cz.bind (g:=λa ts=>also (λy=>(a,y)) (g ts)) hf λa=>hg.also _
end
def ub{n:Nat}{sub:gH}(hs:∀left,cz (sub left)){left:Nat}{ts:aL}{x:(cw×Nat)×aL}(h:c7 n sub left ts=.ok x):x.2.length<ts.length:=by
 unfold c7 at h;cases e:next ts with
 |num _=>rw[e] at h;exact eo h
 |sign _=>rw[e] at h;exact eo h
 |none=>rw[e] at h;exact eo h
 |word w=>
  have hd:(ts.drop 1).length<ts.length:=Lr (by rw[e];intro z;cases z)
  rw[e] at h;simp only at h;refine BY ?_ hd
  split at h
  ·exact eo h
  ·split at h
   ·exact cz.bind (g:=λ(a:Nat×Nat) ts=>(sub (left-1) ts).bind λb=>.ok ((x6 a.1 a.2 b.1.1,b.1.2),b.2)) (UD (vO _ _) (vO _ _))
     (λa=>cz.bind (g:=λ(b:c6×Nat) ts=>.ok ((x6 a.1 a.2 b.1,b.2),ts)) (hs _) λb=>cz.ok _) _ x h
   ·split at h
    ·refine cz.bind (g:=λ(a:Nat) ts=>(sub (left-1) ts).bind λb=>if next b.2=.word (str "else") then(sub b.1.2 (b.2.drop 1)).bind λc=>.ok ((j5 a b.1.1 c.1.1,c.1.2),c.2) else .ok ((j5 a b.1.1 .nil,b.1.2),b.2)) (vO _ _)
      (λa=>cz.bind (g:=λ(b:c6×Nat) ts=>if next ts=.word (str "else") then(sub b.2 (ts.drop 1)).bind λc=>.ok ((j5 a b.1 c.1.1,c.1.2),c.2) else .ok ((j5 a b.1 .nil,b.2),ts)) (hs _) λb=>?_) _ x h
     intro us y hy;simp only at hy
     split at hy
     ·exact dy (cz.bind (g:=λ(c:c6×Nat) ts=>.ok ((j5 a b.1 c.1,c.2),ts)) (hs _) (λc=>cz.ok _) _ y hy) (qj us)
     ·obtain rfl:=bG hy;exact bz _
    ·rename_i h1 h2;exact cz.bind (g:=λ(i:cw) ts=>.ok ((i,left-1),ts)) (UC n w _ h1 h2) (λi=>cz.ok _) _ x h
theorem Lu{n:Nat}{sub:gH}(hs:∀left,cz (sub left)):∀(k left:Nat),cz (instrs n sub k left)
 |0,left=>λts x h=>by
  have e:instrs n sub 0 left ts=.ok ((.nil,left),ts):=rfl;rw[e] at h;obtain rfl:=bG h;exact bz _
 |k+1,left=>λts x h=>by
  by_cases hw:∃w,next ts=.word w
  ·obtain⟨w,hw⟩:=hw;rw[rG hw] at h;cases e:c7 n sub left ts with
   |error p=>rw[e] at h;cases h
   |ok y=>
    rw[e] at h;rw[fA] at h;exact dy (cz.also (Lu hs k y.1.2) (λx=>(x8 y.1.1 x.1,x.2)) y.2 x h) (xR (ub hs e))
  ·rw[kR λw z=>hw ⟨w,z⟩] at h;obtain rfl:=bG h;exact bz _
theorem DP(n:Nat):∀(k left:Nat),cz (braces n k left)
 |0,left=>λts x h=>by cases h
 |k+1,left=>by
  have q:cz λts=>(sign 123 ts).bind λu=>(instrs n (braces n k) (u.2.length+1) left u.2).bind λb=>(sign 125 b.2).bind λz=>.ok (b.1,z.2):=
   cz.bind (g:=λ(_:Unit) ts=>(instrs n (braces n k) (ts.length+1) left ts).bind λb=>(sign 125 b.2).bind λz=>.ok (b.1,z.2)) (vN 123) λ_ us x h=>by
    cases e:instrs n (braces n k) (us.length+1) left us with
    |error p=>simp only[e] at h;cases h
    |ok y=>
     simp only[e] at h;exact dy (cz.bind (g:=λ(_:Unit) ts=>.ok (y.1,ts)) (vN 125) (λ_=>cz.ok _) _ x h) (Lu (DP n k) _ _ us y e)
  exact q
theorem DQ{n:Nat}{sub:gH}(hs:∀left,cz (sub left)):∀(k j left:Nat) (ts:aL),ts.length<k->ts.length<j->instrs n sub k left ts=instrs n sub j left ts
 |0,_,_,_,h,_=>absurd h (Jh _)
 |_+1,0,_,_,_,h=>absurd h (Jh _)
 |k+1,j+1,left,ts,h1,h2=>by
  by_cases hw:∃w,next ts=.word w
  ·obtain⟨w,hw⟩:=hw;rw[rG hw,rG hw];cases e:c7 n sub left ts with
   |error p=>rfl
   |ok y=>
    have hl:=ub hs e;rw[fA,fA,DQ hs k j y.1.2 y.2 (by lia) (by lia)]
  ·rw[kR λw z=>hw ⟨w,z⟩,kR λw z=>hw ⟨w,z⟩]
section
variable{N n:Nat}{sub:gH}
def bt(n:Nat)(sub:gH)(left:Nat):Read (c6×Nat):=λts=>(instrs n sub (ts.length+1) left ts).bind λb=>(sign 125 b.2).bind λz=>.ok (b.1,z.2)
def DR(left:Nat):Wk N (bt n sub left):=Wk.oU λu h=>by
 unfold bt;rw[kR λw z=>by rw[h] at z;cases z]
 show(sign 125 u).bind _=_;simp[sign,h,i5]
def UE{left:Nat}{ts:aL}(h:next ts=.sign 125):bt n sub left ts=.ok ((.nil,left),ts.drop 1):=by
 unfold bt;rw[kR λw z=>by rw[h] at z;cases z]
 show(sign 125 ts).bind _=_;simp[sign,h,i5]
def UG(hs:∀left,cz (sub left)){left:Nat}{ts:aL}(h:next ts≠ .sign 125):bt n sub left ts=(c7 n sub left ts).bind λi=>also (λx=>(.cons i.1.1 x.1,x.2)) (bt n sub i.1.2 i.2):=by
 by_cases hw:∃w,next ts=.word w
 ·obtain⟨w,hw⟩:=hw;unfold bt;rw[rG hw,hZ];cases e:c7 n sub left ts with
  |error p=>rfl
  |ok y=>
   have hl:=ub hs e;rw[fA,fA,DQ hs ts.length (y.2.length+1) y.1.2 y.2 hl (BP _),vL,DB];refine bind_congr λb=>?_;rw[DB];rfl
 ·have vP:∀w,next ts≠ .word w:=λw z=>hw ⟨w,z⟩
  rw[DN vP];unfold bt;rw[kR vP];show(sign 125 ts).bind _=_;simp[sign,h,i5]
def UH(left:Nat)(i:cw):Wk N (λts=>also (λ(x:c6×Nat)=>(x8 i x.1,x.2)) (bt n sub left ts)):=(DR left).also _
def Lv(hs:∀left,cz (sub left)){left:Nat}{ts:aL}(h:next ts≠ .sign 125):
 aH N (bt n sub left ts)=(aH N (c7 n sub left ts)).bind λi=>also (λx=>(.cons i.1.1 x.1,x.2)) (aH N (bt n sub i.1.2 i.2)):=by
 rw[UG hs h,kQ (g:=λ(i:cw×Nat) ts=>also (λ(x:c6×Nat)=>(x8 i.1 x.1,x.2)) (bt n sub i.2 ts)) _ λi=>UH i.2 i.1];refine bind_congr λi=>?_;rw[gA]
def Lw(k left:Nat)(ts:aL):braces n (k+1) left ts=(sign 123 ts).bind λu=>bt n (braces n k) left u.2:=rfl
def UI(k left:Nat)(ts:aL):aH N (braces n (k+1) left ts)=(aH N (sign 123 ts)).bind λu=>aH N (bt n (braces n k) left u.2):=by
 rw[Lw,kQ (g:=λ(_:Unit) ts=>bt n (braces n k) left ts) _ λ_=>DR left]
def UJ(k left:Nat):Wk N (braces n k left):=by
 cases k with
 |zero=>exactλu _=>rfl
 |succ k=>exact Wk.bind (g:=λ(_:Unit) ts=>bt n (braces n k) left ts) (TJ 123) λ_=>DR left
def tt(N n:Nat)(sub:gH)(left:Nat):Read (c6×Nat):=λts=>(instrs n sub (ts.length+1) left ts).bind λb=>if here b.2=N/\next b.2=.none then .ok (b.1,b.2) else .error (here b.2)
def UK{left:Nat}{ts:aL}(h:next ts=.none)(h2:here ts=N):tt N n sub left ts=.ok ((.nil,left),ts):=by
 unfold tt;rw[kR λw z=>by rw[h] at z;cases z]
 show(if here ts=N/\next ts=.none then _ else _)=_
 rw[if_pos ⟨h2,h⟩]
def Lx(left:Nat):Wk N (tt N n sub left):=λu hu=>by
 unfold tt;rw[kR λw z=>by rw[hu.1] at z;cases z]
 show aH N (if here u=N/\next u=.none then _ else _)=_
 rw[if_neg λz=>hu.2 z.1];rfl
def UL(hs:∀left,cz (sub left)){left:Nat}{ts:aL}(h:next ts≠ .none):tt N n sub left ts=(c7 n sub left ts).bind λi=>also (λx=>(.cons i.1.1 x.1,x.2)) (tt N n sub i.1.2 i.2):=by
 by_cases hw:∃w,next ts=.word w
 ·obtain⟨w,hw⟩:=hw;unfold tt;rw[rG hw,hZ];cases e:c7 n sub left ts with
  |error p=>rfl
  |ok y=>
   have hl:=ub hs e;rw[fA,fA,DQ hs ts.length (y.2.length+1) y.1.2 y.2 hl (BP _),vL,DB];refine bind_congr λb=>?_;by_cases hb:here b.2=N/\next b.2=.none
   ·rw[if_pos hb,if_pos hb];rfl
   ·rw[if_neg hb,if_neg hb];rfl
 ·have vP:∀w,next ts≠ .word w:=λw z=>hw ⟨w,z⟩
  rw[DN vP];unfold tt;rw[kR vP];show(if here ts=N/\next ts=.none then _ else _)=_
  rw[if_neg λz=>h z.2];rfl
def Ly(hs:∀left,cz (sub left)){left:Nat}{ts:aL}(h:next ts≠ .none):
 aH N (tt N n sub left ts)=(aH N (c7 n sub left ts)).bind λi=>also (λx=>(.cons i.1.1 x.1,x.2)) (aH N (tt N n sub i.1.2 i.2)):=by
 rw[UL hs h,kQ (g:=λ(i:cw×Nat) ts=>also (λ(x:c6×Nat)=>(x8 i.1 x.1,x.2)) (tt N n sub i.2 ts)) _ λi=>(Lx i.2).also _];refine bind_congr λi=>?_;rw[gA]
end
section
variable{A B:Type}{N n:Nat}{sub:gH}
def dq(N:Nat)(ts:aL):Except Nat (Unit×aL):=aH N (.ok ((),ts.drop 1))
def DS{ts:aL}(h:bad N (ts.drop 1)):dq N ts=.error (here (ts.drop 1)):=jL (x:=((),ts.drop 1)) h
def DT{ts:aL}(h: ¬bad N (ts.drop 1)):dq N ts=.ok ((),ts.drop 1):=i' (x:=((),ts.drop 1)) h
def rH{g:Read A}(hg:Wk N g)(ts:aL):aH N (g (ts.drop 1))=(dq N ts).bind λu=>aH N (g u.2):=by
 by_cases h:bad N (ts.drop 1)
 ·rw[DS h,hg _ h];rfl
 ·rw[DT h];rfl
def vQ(a:A)(ts:aL):aH N (.ok (a,ts.drop 1))=also (λ_=>a) (dq N ts):=by
 by_cases h:bad N (ts.drop 1)
 ·rw[DS h,jL (show bad N (a,ts.drop 1).2 from h)];rfl
 ·rw[DT h,i' (show¬bad N (a,ts.drop 1).2 from h)];rfl
def UM{ts:aL}:c7 n sub 0 ts=.error (here ts):=by
 unfold c7;cases next ts<;>rfl
def UN{left:Nat}{ts:aL}{w:aJ}(h:next ts=.word w)(hs:shapeOf w=none):c7 n sub left ts=.error (here ts):=by
 unfold c7;rw[h];simp only
 split
 ·rfl
 ·rw[if_neg λz=>(by rw[z,Lp] at hs;exact sn hs),if_neg λz=>(by rw[z,Lq] at hs;exact sn hs),Lo hs]
  rfl
def Lz{left:Nat}{ts:aL}{w:aJ}(h:next ts=.word w)(h0:left≠0)(h1:w≠str "for")(h2:w≠str "when"):
 c7 n sub left ts=also (λi=>(i,left-1)) (c8 n w (here ts) (ts.drop 1)):=by
 unfold c7;rw[h];simp only[h0,h1,h2,if_false,gL]
def UO{left:Nat}{ts:aL}{w sh:aJ}{p:Nat}(h:next ts=.word w)(h0:left≠0)(h1:w≠str "for")(h2:w≠str "when")(hs:shapeOf w=some sh)
 (e:aH N (iT n sh (dQ w) (ts.drop 1))=.error p):aH N (c7 n sub left ts)=.error p:=by
 rw[DM (p:=here ts) hs h1 h2,gA] at e;rw[Lz h h0 h1 h2,gA];cases q:aH N (c8 n w (here ts) (ts.drop 1)) with
 |error z=>rw[q] at e;cases e;rfl
 |ok z=>rw[q] at e;cases e
def UP{left:Nat}{ts u:aL}{w sh:aJ}{τ:Told}(h:next ts=.word w)(h0:left≠0)(h1:w≠str "for")(h2:w≠str "when")(hs:shapeOf w=some sh)
 (e:aH N (iT n sh (dQ w) (ts.drop 1))=.ok (τ,u)):∃i,aH N (c7 n sub left ts)=.ok ((i,left-1),u)/\toldOf i=τ/\c8 n w (here ts) (ts.drop 1)=.ok (i,u):=by
 rw[DM (p:=here ts) hs h1 h2,gA] at e;rw[Lz h h0 h1 h2,gA];cases q:aH N (c8 n w (here ts) (ts.drop 1)) with
 |error z=>rw[q] at e;cases e
 |ok z=>
  rw[q] at e;cases e;refine⟨z.1,rfl,rfl,?_⟩;cases q2:c8 n w (here ts) (ts.drop 1) with
  |error y=>rw[q2] at q;cases q
  |ok y=>
   rw[q2] at q;by_cases hb:bad N y.2
   ·rw[jL hb] at q;exact eo q
   ·rw[i' hb] at q;obtain rfl:=bG q;rfl
def UQ(u:aL):gk n [115,115] (t0 (str "for")) u=also (λh=>toldOf (.for_ h.1 h.2 .nil)) (two sca sca u):=by
 simp only[gk,vM,hZ,fA,gL,y6];rfl
def UR(u:aL):gk n [115] (t0 (str "when")) u=also (λh=>toldOf (.when h .nil .nil)) (sca u):=by
 simp only[gk,vM,hZ,fA,gL];rfl
def US(oV:∀l,Wk N (sub l)){left:Nat}{ts:aL}(h:next ts=.word (str "for"))(h0:left≠0):
 aH N (c7 n sub left ts)=(aH N (two sca sca (ts.drop 1))).bind λh=>(aH N (sub (left-1) h.2)).bind λb=>.ok ((.for_ h.1.1 h.1.2 b.1.1,b.1.2),b.2):=by
 have e:c7 n sub left ts=(two sca sca (ts.drop 1)).bind λh=>also (λ(b:c6×Nat)=>(x6 h.1.1 h.1.2 b.1,b.2)) (sub (left-1) h.2):=by
  unfold c7;rw[h];simp only[h0,if_false,if_true,gL]
 rw[e,kQ (g:=λ(a:Nat×Nat) ts=>also (λ(b:c6×Nat)=>(x6 a.1 a.2 b.1,b.2)) (sub (left-1) ts)) _ λa=>(oV _).also _];refine bind_congr λx=>?_;rw[gA,gL]
def lN(sub:gH)(s:Nat)(b:c6)(l:Nat):Read (cw×Nat):=λts=>
 if next ts=.word (str "else") then(sub l (ts.drop 1)).bind λc=>.ok ((.when s b c.1.1,c.1.2),c.2) else .ok ((.when s b .nil,l),ts)
def LA(s:Nat)(b:c6)(l:Nat):Wk N (lN sub s b l):=λu hu=>by
 unfold lN;rw[if_neg λz=>(by rw[hu.1] at z;cases z),jL (x:=((j5 s b .nil,l),u)) hu]
def UT(oV:∀l,Wk N (sub l)){left:Nat}{ts:aL}(h:next ts=.word (str "when"))(h0:left≠0):
 aH N (c7 n sub left ts)=(aH N (sca (ts.drop 1))).bind λs=>(aH N (sub (left-1) s.2)).bind λb=>aH N (lN sub s.1 b.1.1 b.1.2 b.2):=by
 have e:c7 n sub left ts=(sca (ts.drop 1)).bind λs=>(sub (left-1) s.2).bind λb=>lN sub s.1 b.1.1 b.1.2 b.2:=by
  unfold c7;rw[h];simp only[h0,if_false,if_true,show¬str "when"=str "for" by decide+kernel]
  rfl
 rw[e,kQ (g:=λ(a:Nat) ts=>(sub (left-1) ts).bind λb=>lN sub a b.1.1 b.1.2 b.2) _ λa=>Wk.bind (g:=λ(b:c6×Nat) ts=>lN sub a b.1 b.2 ts) (oV _) λb=>LA _ _ _];refine bind_congr λx=>?_;rw[kQ (g:=λ(b:c6×Nat) ts=>lN sub x.1 b.1 b.2 ts) _ λb=>LA _ _ _]
def UU{s:Nat}{b:c6}{l:Nat}{ts:aL}(hb: ¬bad N ts)(h:next ts≠ .word (str "else")):aH N (lN sub s b l ts)=.ok ((.when s b .nil,l),ts):=by
 unfold lN;rw[if_neg h,i' (x:=((j5 s b .nil,l),ts)) hb]
def UW(oV:∀l,Wk N (sub l)){s:Nat}{b:c6}{l:Nat}{ts:aL}(h:next ts=.word (str "else")):aH N (lN sub s b l ts)=(dq N ts).bind λu=>(aH N (sub l u.2)).bind λc=>.ok ((.when s b c.1.1,c.1.2),c.2):=by
 unfold lN;rw[if_pos h];have e:((sub l (ts.drop 1)).bind λc=>.ok ((j5 s b c.1.1,c.1.2),c.2))=also (λ(c:c6×Nat)=>(j5 s b c.1,c.2)) (sub l (ts.drop 1)):=by rw[gL]
 rw[e,rH (g:=λts=>also (λ(c:c6×Nat)=>(j5 s b c.1,c.2)) (sub l ts)) ((oV l).also _)];refine bind_congr λx=>?_;rw[gA,gL]
def fU(most:Nat):Read Nat:=λts=>match next ts with
 | .num k=>if most<k then .error (here ts) else .ok (k,ts.drop 1)
 |_=>.error (here ts)
def UX(m:Nat):Wk N (fU m):=.oU λu h=>by simp[fU,h]
def lO:Read Nat:=λts=>(fU 1024 (ts.drop 1)).bind λx=>(sign 59 x.2).bind λu=>.ok (x.1,u.2)
def LB{ts:aL}(h:next ts=.word (str "array")):lengths 0 ts=.error (here ts):=by unfold lengths;rw[if_pos h]
def y9{k:Nat}{ts:aL}(h:next ts≠ .word (str "array")):lengths k ts=.ok ([],ts):=by unfold lengths;rw[if_neg h]
def LC{k:Nat}{ts:aL}(h:next ts=.word (str "array")):lengths (k+1) ts=(lO ts).bind λx=>also (λl=>x.1::l) (lengths k x.2):=by
 conv=>lhs;unfold lengths
 rw[if_pos h];unfold lO fU number;cases next (ts.drop 1) with
 |num j=>
  simp only[fA];by_cases hj:1024<j
  ·simp only[hj,if_true];rfl
  ·simp only[hj,if_false,fA,hZ]
 |word _=>rfl
 |sign _=>rfl
 |none=>rfl
def LD(k:Nat):Wk N (lengths k):=λu hu=>by
 rw[y9 (k:=k) λz=>(by rw[hu.1] at z;cases z),jL (x:=(([]:List Nat),u)) hu]
def LF{k:Nat}{ts:aL}(h:next ts=.word (str "array")):aH N (lengths (k+1) ts)=(aH N (lO ts)).bind λx=>also (λl=>x.1::l) (aH N (lengths k x.2)):=by
 rw[LC h,kQ (g:=λ(a:Nat) ts=>also (λl=>a::l) (lengths k ts)) _ λa=>(LD k).also _];refine bind_congr λx=>?_;rw[gA]
def UY(ts:aL):aH N (lO ts)=(dq N ts).bind λu=>(aH N (fU 1024 u.2)).bind λx=>aH N ((sign 59 x.2).bind λu=>.ok (x.1,u.2)):=by
 have e:lO ts=(λts=>(fU 1024 ts).bind λx=>(sign 59 x.2).bind λu=>.ok (x.1,u.2)) (ts.drop 1):=rfl;rw[e,rH (Wk.bind (g:=λa ts=>(sign 59 ts).bind λu=>.ok (a,u.2)) (UX 1024) λa=>y0 a)];refine bind_congr λu=>?_;rw[kQ (g:=λa ts=>(sign 59 ts).bind λu=>.ok (a,u.2)) _ λa=>y0 a]
def UZ(t:aJ):readCode t=(aH t.length (lengths 32 (tokens t))).bind λl=>(aH t.length (tt t.length l.1.length (braces l.1.length 8) 512 l.2)).bind λb=>.ok {lengths:=l.1,body:=b.1.1}:=by
 have e1:readCode t=((lengths 32 (tokens t)).bind λl=>tt t.length l.1.length (braces l.1.length 8) 512 l.2|>.bind λb=>.ok (({lengths:=l.1,body:=b.1.1}:Code),b.2)).bind λx=>.ok x.1:=by
  unfold readCode tt;rw[hZ];refine bind_congr λl=>?_;rw[hZ,hZ];refine bind_congr λb=>?_
  split<;>rfl
 rw[e1];cases h1:lengths 32 (tokens t) with
 |error p=>rfl
 |ok l=>
  rw[fA];by_cases hb:bad t.length l.2
  ·rw[jL hb];have q:=Lx (N:=t.length) (n:=l.1.length) (sub:=braces l.1.length 8) 512 l.2 hb;cases h2:tt t.length l.1.length (braces l.1.length 8) 512 l.2 with
   |error p=>rw[h2] at q;exact congrArg _ (P6 q)
   |ok b=>
    exfalso;unfold tt at h2;rw[kR λw z=>(by rw[hb.1] at z;cases z),fA,if_neg λz=>hb.2 z.1] at h2
    exact eo h2
  ·rw[i' hb,fA];cases h2:tt t.length l.1.length (braces l.1.length 8) 512 l.2 with
   |error p=>rfl
   |ok b=>
    have hn: ¬bad t.length b.2:=by
     unfold tt at h2;cases h3:instrs l.1.length (braces l.1.length 8) (l.2.length+1) 512 l.2 with
     |error p=>rw[h3] at h2;cases h2
     |ok y=>
      rw[h3,fA] at h2
      split at h2
      ·rename_i hy;obtain rfl:=bG h2;exactλz=>z.2 hy.1
      ·exact eo h2
    rw[i' hn];rfl
end
def qk(ts:aL):Prop:=∀x∈ts,∀k,x.2=.num k->(k:Int)<=GREAT
theorem qk.drop{ts:aL}(h:qk ts)(i:Nat):qk (ts.drop i):=λx hx=>h x (List.mem_of_mem_drop hx)
theorem qk.next{ts:aL}(h:qk ts){k:Nat}(e:next ts=.num k):(k:Int)<=GREAT:=by
 cases ts with
 |nil=>cases e
 |cons a r=>exact h a iL k e
theorem uc(w:Nat):∀(k:Nat) (t:aJ),qk (jf w k t)
 |0,t=>λx hx j e=>by
  have q:x=(w-t.length,Token.none):=by simpa[jf] using hx
  rw[q] at e;cases e
 |k+1,[]=>λx hx j e=>by
  have q:x=(w,Token.none):=by simpa[jf] using hx
  rw[q] at e;cases e
 |k+1,c::r=>by
  unfold jf;simp only
  split
  ·exact uc w k _
  ·split
   ·exact uc w k _
   ·split
    ·intro x hx j e;rcases cC.mp hx with q|q
     ·rw[q] at e;cases e
     ·exact uc w k _ x q j e
    ·split
     ·split
      ·rename_i hb;intro x hx j e;rcases cC.mp hx with q|q
       ·rw[q] at e;cases e;exact hb.2.2
       ·exact uc w k _ x q j e
      ·intro x hx j e;rw[oC.mp hx] at e;cases e
     ·split
      ·intro x hx j e;rcases cC.mp hx with q|q
       ·rw[q] at e;cases e
       ·exact uc w k _ x q j e
      ·intro x hx j e;rw[oC.mp hx] at e;cases e
def bJ{A:Type}(f:Read A)(P:A->Prop):Prop:=∀ts x,qk ts->f ts=.ok x->P x.1/\qk x.2
section
variable{A B:Type}{P:A->Prop}{Q:B->Prop}
theorem bJ.bind{f:Read A}{g:A->Read B}(hf:bJ f P)(hg:∀a,P a->bJ (g a) Q):bJ (λts=>(f ts).bind λx=>g x.1 x.2) Q:=λts x ht h=>by
 dsimp only at h;cases e:f ts with
 |error p=>rw[e] at h;cases h
 |ok y=>
  rw[e,fA] at h;obtain⟨h1,h2⟩:=hf ts y ht e;exact hg y.1 h1 y.2 x h2 h
theorem bJ.ok{a:A}(h:P a):bJ (λts=>.ok (a,ts)) P:=λts x ht e=>by obtain rfl:=bG e;exact⟨h,ht⟩
theorem bJ.also{f:Read A}{g:A->B}(hf:bJ f P)(hg:∀a,P a->Q (g a)):bJ (λts=>also g (f ts)) Q:=λts x ht h=>by
 dsimp only at h;cases e:f ts with
 |error p=>rw[e] at h;cases h
 |ok y=>
  rw[e] at h;cases h;obtain⟨h1,h2⟩:=hf ts y ht e;exact⟨hg _ h1,h2⟩
theorem bJ.two{f:Read A}{g:Read B}(hf:bJ f P)(hg:bJ g Q):bJ (two f g) λx=>P x.1/\Q x.2:=
 bJ.bind (g:=λa ts=>j3 (λy=>(a,y)) (g ts)) hf λa ha=>hg.also λb hb=>⟨ha,hb⟩
def rJ(c:Nat):bJ (sign c) λ_=>True:=λts x ht h=>by
 unfold sign at h
 split at h
 ·obtain rfl:=bG h;exact⟨trivial,ht.drop 1⟩
 ·exact eo h
theorem bJ.ended{f:Read A}(hf:bJ f P):bJ (ended f) P:=
 bJ.bind (g:=λa ts=>(sign 59 ts).bind λu=>.ok (a,u.2)) hf λa ha=>bJ.bind (g:=λ_ ts=>.ok (a,ts)) (rJ 59) λ_ _=>bJ.ok ha
def nQ(c k:Nat):bJ (reg c k) λj=>j<k:=λts x ht h=>by
 unfold reg at h
 split at h
 ·split at h
  ·rename_i hh;obtain rfl:=bG h;exact⟨hh.2.2.2,ht.drop 1⟩
  ·exact eo h
 ·exact eo h
def DU:bJ number λj=>(j:Int)<=GREAT:=λts x ht h=>by
 unfold number at h
 split at h
 ·rename_i k e;obtain rfl:=bG h;exact⟨ht.next e,ht.drop 1⟩
 ·exact eo h
def U0:bJ signed λj=> -GREAT<=j/\j<=GREAT:=λts x ht h=>by
 have g0:(0:Int)<=GREAT:=by decide
 unfold signed at h
 split at h
 ·exact bJ.also (Q:=λj=> -GREAT<=j/\j<=GREAT) DU (λa ha=>⟨by lia,by lia⟩) _ x (ht.drop 1) h
 ·exact bJ.also (Q:=λj=> -GREAT<=j/\j<=GREAT) DU (λa ha=>⟨by lia,by lia⟩) _ x ht h
def DV:bJ place λj=>(j:Int)<=GREAT:=bJ.bind (g:=λ_ ts=>number ts) (rJ 64) λ_ _=>DU
def DW:bJ masked λm=>∀k,m=some k->k<8:=λts x ht h=>by
 rw[y4] at h;refine bJ.bind (f:=jb) (g:=λa ts=>(sign 59 ts).bind λu=>.ok (a,u.2)) (P:=λm=>∀k,m=some k->k<8) ?_ (λa ha=>bJ.bind (g:=λ_ ts=>.ok (a,ts)) (rJ 59) λ_ _=>bJ.ok ha) ts x ht h;intro us y hu e;unfold jb at e
 split at e
 ·exact bJ.also (Q:=λm:Option Nat=>∀k,m=some k->k<8) (nQ 109 8) (λa ha k q=>by obtain rfl:=aZ q;exact ha) _ y (hu.drop 1) e
 ·obtain rfl:=bG e;exact⟨λk q=>(by exact ns q),hu⟩
def U1:bJ operator2 λo=>o<13:=λts x ht h=>by
 unfold operator2 at h
 split at h
 ·split at h
  ·rename_i o e;obtain rfl:=bG h;exact⟨(rF e).1,ht.drop 1⟩
  ·exact eo h
 ·exact eo h
end
def nR(m:Option Nat):Prop:=∀k,m=some k->k<8
def lQ(n:Nat):cw->Prop
 | .lanes d m=>d<16/\nR m
 | .const d k m=>d<16/\ (-GREAT<=k/\k<=GREAT)/\nR m
 | .fill d s m=>d<16/\s<16/\nR m
 | .copy d a m=>d<16/\a<16/\nR m
 | .one o d a p m=>o<4/\d<16/\a<16/\ (p:Int)<=GREAT/\nR m
 | .two o d a b p m=>o<13/\d<16/\a<16/\b<16/\ (p:Int)<=GREAT/\nR m
 | .read d r a m=>d<16/\r<n/\a<16/\nR m
 | .pick d r a p m=>d<16/\r<n/\a<16/\ (p:Int)<=GREAT/\nR m
 | .write r a b m=>r<n/\a<16/\b<16/\nR m
 | .test d a m=>d<8/\a<16/\nR m
 | .tail d s=>d<8/\s<16
 | .both d a b=>d<8/\a<8/\b<8
 | .less d a b=>d<8/\a<8/\b<8
 | .either d a b=>d<8/\a<8/\b<8
 | .count d a=>d<16/\a<8
 | .num d k=>d<16/\ (-GREAT<=k/\k<=GREAT)
 | .width d=>d<16
 | .calc o d a b p=>o<13/\d<16/\a<16/\b<16/\ (p:Int)<=GREAT
 | .get d v s=>d<16/\v<16/\s<16
 | .put v s t=>v<16/\s<16/\t<16
 | .for_ _ _ _=>False
 | .when _ _ _=>False
 | .raise=>True
def U2(n:Nat)(w:aJ)(p:Nat):bJ (c8 n w p) (lQ n):=λts x ht h=>by
 unfold c8 at h;dsimp only[maskOp] at h
 iterate 19
  rcases y8 h with⟨_,h⟩|⟨_,h⟩
  ·exact bJ.also (by repeat' first|exact DW|exact U0|exact DV|exact U1|exact nQ _ _|exact rJ 59|apply bJ.two|apply bJ.ended) (λa ha=>by exact ha) ts x ht h
 cases e:opAt ops1 w with
 |some o=>
  rw[e] at h;exact bJ.also (bJ.two (nQ _ _) (bJ.two (nQ _ _) (bJ.two DV DW))) (λa ha=>⟨(rF e).1,ha⟩) ts x ht h
 |none=>
  rw[e] at h;cases e2:opAt ops2 w with
  |some o=>
   rw[e2] at h;exact bJ.also (bJ.two (nQ _ _) (bJ.two (nQ _ _) (bJ.two (nQ _ _) (bJ.two DV DW)))) (λa ha=>⟨(rF e2).1,ha⟩) ts x ht h
  |none=>
   rw[e2] at h;exact eo h
mutual
def eh(n:Nat)(i:cw)(h:Nat):Prop:=match i with
 | .for_ d c b=>d<16/\c<16/\ ∃k,h=k+1/\fJ n b k
 | .when s b c=>s<16/\ ∃k,h=k+1/\fJ n b k/\fJ n c k
 |i=>lQ n i
def fJ(n:Nat)(b:c6)(h:Nat):Prop:=match b with
 | .nil=>True
 | .cons i r=>eh n i h/\fJ n r h
end
def U3{n h:Nat}{i:cw}(q:lQ n i):eh n i h:=by
 cases i<;>first|exact gw q|(simp only[eh];exact q)
def size_of{n:Nat}{i:cw}(q:lQ n i):i.size=1:=by
 cases i<;>first|exact gw q|rfl
def vR(n:Nat)(sub:gH)(h:Nat):Prop:=∀left,bJ (sub left) λx=>(∃j,h=j+1/\fJ n x.1 j)/\x.1.size+x.2=left
abbrev IQ(n h left:Nat):cw×Nat->Prop:=λx=>eh n x.1 h/\x.1.size+x.2=left
abbrev BQ(n h left:Nat):c6×Nat->Prop:=λx=>fJ n x.1 h/\x.1.size+x.2=left
def U4{n h:Nat}{sub:gH}(hs:vR n sub h)(left:Nat):bJ (c7 n sub left) λx=>eh n x.1 h/\x.1.size+x.2=left:=λts x ht e=>by
 unfold c7 at e
 split at e
 ·rename_i w hw;by_cases hl:left=0
  ·rw[if_pos hl] at e;exact eo e
  rw[if_neg hl] at e;by_cases h1:w=str "for"
  ·rw[if_pos h1] at e;refine bJ.bind (Q:=IQ n h left) (f:=two sca sca) (g:=λa us=>(sub (left-1) us).bind λb=>.ok ((x6 a.1 a.2 b.1.1,b.1.2),b.2)) (bJ.two (nQ _ _) (nQ _ _)) (λa ha=>bJ.bind (g:=λ(b:c6×Nat) us=>.ok ((x6 a.1 a.2 b.1,b.2),us)) (hs (left-1)) λb hb=>bJ.ok ?_) _ x (ht.drop 1) e;obtain⟨⟨j,hj,hB⟩,hz⟩:=hb;refine⟨by simp only[eh];exact⟨ha.1,ha.2,j,hj,hB⟩,?_⟩
   simp only[eE];lia
  rw[if_neg h1] at e;by_cases h2:w=str "when"
  ·rw[if_pos h2] at e;refine bJ.bind (Q:=IQ n h left) (f:=sca) (g:=λa us=>(sub (left-1) us).bind λb=>if next b.2=.word (str "else") then(sub b.1.2 (b.2.drop 1)).bind λc=>.ok ((j5 a b.1.1 c.1.1,c.1.2),c.2) else .ok ((j5 a b.1.1 .nil,b.1.2),b.2)) (nQ _ _) (λa ha=>bJ.bind (g:=λ(b:c6×Nat) us=>if next us=.word (str "else") then(sub b.2 (us.drop 1)).bind λc=>.ok ((j5 a b.1 c.1.1,c.1.2),c.2) else .ok ((j5 a b.1 .nil,b.2),us)) (hs (left-1)) λb hb=>?_) _ x (ht.drop 1) e
   obtain⟨⟨j,hj,hB⟩,hz⟩:=hb;intro us y hu ey;dsimp only at ey;by_cases q:next us=.word (str "else")
   ·rw[if_pos q] at ey;refine bJ.bind (Q:=IQ n h left) (f:=sub b.2) (g:=λ(c:c6×Nat) us=>.ok ((j5 a b.1 c.1,c.2),us)) (hs b.2) (λc hc=>bJ.ok ?_) _ y (hu.drop 1) ey;obtain⟨⟨j2,hj2,hC⟩,hz2⟩:=hc;obtain rfl:j=j2:=by lia
    refine⟨by simp only[eh];exact⟨ha,j,hj,hB,hC⟩,?_⟩
    simp only[eE];lia
   ·rw[if_neg q] at ey;obtain rfl:=bG ey;refine⟨⟨by simp only[eh,fJ];exact⟨ha,j,hj,hB,trivial⟩,?_⟩,hu⟩
    simp only[eE,lq];lia
  rw[if_neg h2] at e;refine bJ.bind (Q:=IQ n h left) (f:=c8 n w (here ts)) (g:=λi us=>.ok ((i,left-1),us)) (U2 n w _) (λi hi=>bJ.ok ⟨U3 hi,?_⟩) _ x (ht.drop 1) e;show i.size+(left-1)=left;rw[size_of hi];lia
 ·exact eo e
theorem DX{n h:Nat}{sub:gH}(hs:vR n sub h):∀(k left:Nat),bJ (instrs n sub k left) λx=>fJ n x.1 h/\x.1.size+x.2=left
 |0,left=>λts x ht e=>by cases e;exact⟨⟨by simp only[fJ],by simp only[lq];lia⟩,ht⟩
 |k+1,left=>λts x ht e=>by
  by_cases q:∃w,next ts=.word w
  ·obtain⟨w,hw⟩:=q;rw[rG hw] at e;refine bJ.bind (Q:=BQ n h left) (f:=c7 n sub left) (g:=λ(i:cw×Nat) us=>also (λ(x:c6×Nat)=>(x8 i.1 x.1,x.2)) (instrs n sub k i.2 us)) (U4 hs left) (λi hi=>bJ.also (DX hs k i.2) λb hb=>?_) _ x ht e;refine⟨by simp only[fJ];exact⟨hi.1,hb.1⟩,?_⟩
   have h1:=hi.2;have h2:=hb.2;simp only[lq];lia
  ·rw[kR λw hw=>q ⟨w,hw⟩] at e;obtain rfl:=bG e;exact⟨⟨by simp only[fJ],by simp only[lq];lia⟩,ht⟩
def U5{n h:Nat}{sub:gH}(hs:vR n sub h)(left:Nat):bJ (bt n sub left) λx=>fJ n x.1 h/\x.1.size+x.2=left:=λts x ht e=>
 bJ.bind (Q:=BQ n h left) (f:=instrs n sub (ts.length+1) left) (g:=λb us=>(sign 125 us).bind λz=>.ok (b,z.2)) (DX hs _ left) (λb hb=>bJ.bind (g:=λ_ us=>.ok (b,us)) (rJ 125) λ_ _=>bJ.ok hb) ts x ht e
theorem LG(n:Nat):∀k,vR n (braces n k) k
 |0=>λleft ts x ht e=>by cases e
 |k+1=>λleft ts x ht e=>by
  rw[Lw] at e;exact bJ.bind (Q:=λx=>(∃j,k+1=j+1/\fJ n x.1 j)/\x.1.size+x.2=left) (f:=sign 123) (g:=λ_ us=>bt n (braces n k) left us) (rJ 123) (λ_ _ us y hu ey=>by
   obtain⟨⟨h1,h2⟩,h3⟩:=U5 (LG n k) left us y hu ey;exact⟨⟨⟨k,rfl,h1⟩,h2⟩,h3⟩) ts x ht e
def U6{N n h:Nat}{sub:gH}(hs:vR n sub h)(left:Nat):bJ (tt N n sub left) λx=>fJ n x.1 h/\x.1.size+x.2=left:=λts x ht e=>by
 unfold tt at e;refine bJ.bind (Q:=BQ n h left) (f:=instrs n sub (ts.length+1) left) (g:=λb us=>if here us=N/\next us=.none then .ok (b,us) else .error (here us)) (DX hs _ left) (λb hb us y hu ey=>?_) ts x ht e
 dsimp only at ey
 split at ey
 ·obtain rfl:=bG ey;exact⟨hb,hu⟩
 ·exact eo ey
mutual
def bD(i:cw):List aJ:=match i with
 | .for_ d c b=>(spaced [str "for",s d,s c]++str " {")::(dv b++[str "}"])
 | .when x b c=>(spaced [str "when",s x]++str " {")::(dv b++((match c with| .nil=>[]| .cons i r=>str "} else {"::(bD i++dv r))++[str "}"]))
 |i=>[spaced (toldOf i).parts++str ";"]
def dv(b:c6):List aJ:=match b with
 | .nil=>[]
 | .cons i r=>bD i++dv r
end
def joined(l:List aJ):aJ:=(l.map λx=>x++[10]).flatten
def jN(l r:List aJ):joined (l++r)=joined l++joined r:=by unfold joined;rw[iw,List.flatten_append]
def dZ(x:aJ)(r:List aJ):joined (x::r)=(x++[10])++joined r:=rfl
def gB:joined []=[]:=rfl
def semi(x:aJ):(x++str ";")++[10]=x++str ";\n":=by rw[lh];rfl
def gQ(x:aJ):joined [x++str ";"]=x++str ";\n":=by rw[dZ,gB,dA,semi]
def DY:joined [str "}"]=str "}\n":=rfl
def U7:str "} else {"++[10]=str "} else {\n":=rfl
def U8(d n:Nat):(spaced [str "for",s d,s n]++str " {")++[10]=spaced [str "for",s d,s n,str "{\n"]:=by
 simp only[spaced,lh,B0];rfl
def LH(x:Nat):(spaced [str "when",s x]++str " {")++[10]=spaced [str "when",s x,str "{\n"]:=by
 simp only[spaced,lh,B0];rfl
mutual
theorem LJ:∀i:cw,gf i=joined (bD i)
 | .lanes d k=>by rw[gf];simp only[bD];rw[gQ];rfl
 | .const d n k=>by rw[gf];simp only[bD];rw[gQ];rfl
 | .fill d x k=>by rw[gf];simp only[bD];rw[gQ];rfl
 | .copy d x k=>by rw[gf];simp only[bD];rw[gQ];rfl
 | .one o d x p k=>by rw[gf];simp only[bD];rw[gQ];rfl
 | .two o d x y p k=>by rw[gf];simp only[bD];rw[gQ];rfl
 | .read d r x k=>by rw[gf];simp only[bD];rw[gQ];rfl
 | .pick d r x p k=>by rw[gf];simp only[bD];rw[gQ];rfl
 | .write r x y k=>by rw[gf];simp only[bD];rw[gQ];rfl
 | .test d x k=>by rw[gf];simp only[bD];rw[gQ];rfl
 | .tail d x=>by rw[gf];simp only[bD];rw[gQ];rfl
 | .both d x y=>by rw[gf];simp only[bD];rw[gQ];rfl
 | .less d x y=>by rw[gf];simp only[bD];rw[gQ];rfl
 | .either d x y=>by rw[gf];simp only[bD];rw[gQ];rfl
 | .count d x=>by rw[gf];simp only[bD];rw[gQ];rfl
 | .num d n=>by rw[gf];simp only[bD];rw[gQ];rfl
 | .width d=>by rw[gf];simp only[bD];rw[gQ];rfl
 | .calc o d x y p=>by rw[gf];simp only[bD];rw[gQ];rfl
 | .get d x y=>by rw[gf];simp only[bD];rw[gQ];rfl
 | .put x y z=>by rw[gf];simp only[bD];rw[gQ];rfl
 | .for_ d n b=>by
   rw[gf,bD,dZ,jN,<-ud b,U8,DY]
 | .when x b .nil=>by
   rw[gf,bD,dZ,jN,<-ud b,LH,sV,DY]
 | .when x b (.cons i r)=>by
   rw[gf,bD,dZ,jN,jN,dZ,jN,<-ud b,<-LJ i,<-ud r,LH,DY,U7];simp only[lh]
 | .raise=>by rw[gf];simp only[bD];rw[gQ];rfl
theorem ud:∀b:c6,blockText b=joined (dv b)
 | .nil=>by rw[blockText,dv];rfl
 | .cons i r=>by rw[blockText,dv,jN,<-LJ i,<-ud r]
end
def iU(c:Code):List aJ:=c.lengths.map (λn=>(str "array "++dec n)++str ";")++dv c.body
def DZ(c:Code):codeText c=joined (iU c):=by
 unfold codeText iU;rw[jN,<-ud]
 congr 1
 induction c.lengths with
 |nil=>rfl
 |cons n r ih=>
  rw[P7,i4,dZ,ih,semi]
  congr 1
def U9(k n:Nat):(x9 k n).length<=k:=by
 induction k generalizing n with
 |zero=>exact bz _
 |succ k ih=>
  rw[x9]
  split
  ·simp
  ·rw[bS];have:=ih (n/10);simp;lia
def iV(n:Nat):(dec n).length<=40:=U9 40 n
def U_(n:Int):(signedText n).length<=41:=by
 unfold signedText
 split
 ·have:=iV n.natAbs;simp only[cI];lia
 ·have:=iV n.toNat;lia
def U'(o:Nat):(opName ops1 o).length<=4:=by
 unfold opName;by_cases h:o<ops1.length
 ·rw[eK h];exact(by decide+kernel:∀x∈ops1,x.length<=4) _ (x_ h)
 ·rw[pJ (by lia)];exact eX _
def D0(o:Nat):(opName ops2 o).length<=4:=by
 unfold opName;by_cases h:o<ops2.length
 ·rw[eK h];exact(by decide+kernel:∀x∈ops2,x.length<=4) _ (x_ h)
 ·rw[pJ (by lia)];exact eX _
theorem LK:∀l:List aJ,(spaced l).length<=(l.map λx=>x.length+1).sum
 |[]=>bz _
 |[x]=>by simp[spaced]
 |x::y::r=>by
  have:=LK (y::r);simp only[spaced,bS,cI,i4,vb] at this⊢
  lia
def Va(k:Option Nat):((kI k).map λx=>x.length+1).sum<=43:=by
 cases k with
 |none=>exact eX _
 |some k=>have:=iV k;simp only[kI,m,i4,IX,vb,List.sum_nil,cI];lia
def D3(i:cw):((toldOf i).parts.map λx=>x.length+1).sum<=300:=by
 have d:=iV;have sg:=U_;have o1:=U';have o2:=D0;have mk:=Va;have w:∀x:String,(str x).length=x.length:=λx=>by unfold str;rw[bq];rfl
 cases i<;>simp only[toldOf,iw,i4,IX,List.sum_append,vb,List.sum_nil,cI,v,s,m,a,at_]
 case lanes x k=>have:=mk k;have:=d x;have:(str "lanes").length=5:=rfl;lia
 case const x n k=>have:=mk k;have:=d x;have:=sg n;have:(str "const").length=5:=rfl;lia
 case fill x y k=>have:=mk k;have:=d x;have:=d y;have:(str "fill").length=4:=rfl;lia
 case copy x y k=>have:=mk k;have:=d x;have:=d y;have:(str "copy").length=4:=rfl;lia
 case one o x y p k=>have:=mk k;have:=d x;have:=d y;have:=d p;have:=o1 o;lia
 case two o x y z p k=>have:=mk k;have:=d x;have:=d y;have:=d z;have:=d p;have:=o2 o;lia
 case read x y z k=>have:=mk k;have:=d x;have:=d y;have:=d z;have:(str "read").length=4:=rfl;lia
 case pick x y z p k=>have:=mk k;have:=d x;have:=d y;have:=d z;have:=d p;have:(str "pick").length=4:=rfl;lia
 case write x y z k=>have:=mk k;have:=d x;have:=d y;have:=d z;have:(str "write").length=5:=rfl;lia
 case test x y k=>have:=mk k;have:=d x;have:=d y;have:(str "test").length=4:=rfl;lia
 case tail x y=>have:=d x;have:=d y;have:(str "tail").length=4:=rfl;lia
 case both x y z=>have:=d x;have:=d y;have:=d z;have:(str "both").length=4:=rfl;lia
 case less x y z=>have:=d x;have:=d y;have:=d z;have:(str "less").length=4:=rfl;lia
 case either x y z=>have:=d x;have:=d y;have:=d z;have:(str "either").length=6:=rfl;lia
 case count x y=>have:=d x;have:=d y;have:(str "count").length=5:=rfl;lia
 case num x n=>have:=d x;have:=sg n;have:(str "num").length=3:=rfl;lia
 case width x=>have:=d x;have:(str "width").length=5:=rfl;lia
 case «calc» o x y z p=>have:=d x;have:=d y;have:=d z;have:=d p;have:=o2 o;have:(str "calc").length=4:=rfl;lia
 case get x y z=>have:=d x;have:=d y;have:=d z;have:(str "get").length=3:=rfl;lia
 case put x y z=>have:=d x;have:=d y;have:=d z;have:(str "put").length=3:=rfl;lia
 case for_ x y b=>have:=d x;have:=d y;have:(str "for").length=3:=rfl;lia
 case when x b c=>have:=d x;have:(str "when").length=4:=rfl;lia
 case raise=>have:(str "raise").length=5:=rfl;lia
def oW(i:cw):(spaced (toldOf i).parts).length<=300:=dy (LK _) (D3 i)
def gC(i:cw):(spaced (toldOf i).parts++str ";").length<=302:=by
 have:=oW i;rw[bS];have:(str ";").length=1:=rfl;lia
def gM{i:cw}(h:bD i=[spaced (toldOf i).parts++str ";"])(hs:i.size=1:=by rfl):(bD i).length<=3*i.size/\ ∀l∈bD i,l.length<=302:=by
 rw[h,hs];exact⟨by show 1<=3*1;decide,λl hl=>by rw[oC.mp hl];exact gC _⟩
mutual
theorem D4:∀i:cw,(bD i).length<=3*i.size/\ ∀l∈bD i,l.length<=302
 | .for_ d n b=>by
   obtain⟨h1,h2⟩:=oY b;simp only[bD,eE,cI,bS,eN];refine⟨by lia,λl hl=>?_⟩
   have e2:(str " {").length=2:=rfl;have e3:(str "}").length=1:=rfl;rcases cC.mp hl with z|z
   ·rw[z,bS];have:=oW (.for_ d n b);simp only[toldOf] at this;lia
   ·rcases gO.mp z with z|z
    ·exact h2 l z
    ·rw[oC.mp z];lia
 | .when x b .nil=>by
   obtain⟨h1,h2⟩:=oY b;simp only[bD,eE,lq,cI,bS,eN,sV];refine⟨by lia,λl hl=>?_⟩
   have e2:(str " {").length=2:=rfl;have e3:(str "}").length=1:=rfl;rcases cC.mp hl with z|z
   ·rw[z,bS];have:=oW (.when x b .nil);simp only[toldOf] at this;lia
   ·rcases gO.mp z with z|z
    ·exact h2 l z
    ·rw[oC.mp z];lia
 | .when x b (.cons i r)=>by
   obtain⟨h1,h2⟩:=oY b;obtain⟨h3,h4⟩:=D4 i;obtain⟨h5,h6⟩:=oY r;simp only[bD,eE,lq,cI,bS,eN];refine⟨by lia,λl hl=>?_⟩
   have e2:(str " {").length=2:=rfl;have e3:(str "}").length=1:=rfl;have e4:(str "} else {").length=8:=rfl;rcases cC.mp hl with z|z
   ·rw[z,bS];have:=oW (.when x b .nil);simp only[toldOf] at this;lia
   ·rcases gO.mp z with z|z
    ·exact h2 l z
    ·rcases gO.mp z with z|z
     ·rcases cC.mp z with z|z
      ·rw[z];lia
      ·rcases gO.mp z with z|z
       ·exact h4 l z
       ·exact h6 l z
     ·rw[oC.mp z];lia
 | .lanes _ _=>gM (by simp only[bD])
 | .const _ _ _=>gM (by simp only[bD])
 | .fill _ _ _=>gM (by simp only[bD])
 | .copy _ _ _=>gM (by simp only[bD])
 | .one _ _ _ _ _=>gM (by simp only[bD])
 | .two _ _ _ _ _ _=>gM (by simp only[bD])
 | .read _ _ _ _=>gM (by simp only[bD])
 | .pick _ _ _ _ _=>gM (by simp only[bD])
 | .write _ _ _ _=>gM (by simp only[bD])
 | .test _ _ _=>gM (by simp only[bD])
 | .tail _ _=>gM (by simp only[bD])
 | .both _ _ _=>gM (by simp only[bD])
 | .less _ _ _=>gM (by simp only[bD])
 | .either _ _ _=>gM (by simp only[bD])
 | .count _ _=>gM (by simp only[bD])
 | .num _ _=>gM (by simp only[bD])
 | .width _=>gM (by simp only[bD])
 | .calc _ _ _ _ _=>gM (by simp only[bD])
 | .get _ _ _=>gM (by simp only[bD])
 | .put _ _ _=>gM (by simp only[bD])
 | .raise=>gM (by simp only[bD])
theorem oY:∀b:c6,(dv b).length<=3*b.size/\ ∀l∈dv b,l.length<=302
 | .nil=>by simp only[dv,lq];exact⟨by decide,λl hl=>by cases hl⟩
 | .cons i r=>by
   obtain⟨h3,h4⟩:=D4 i;obtain⟨h5,h6⟩:=oY r;simp only[dv,lq,bS];refine⟨by lia,λl hl=>?_⟩
   rcases gO.mp hl with z|z
   ·exact h4 l z
   ·exact h6 l z
end
theorem y_{k:Nat}:∀l:List aJ,(∀x∈l,x.length<=k)->(joined l).length<=(k+1)*l.length
 |[],_=>eX _
 |x::r,h=>by
  have h1:=h x (by simp)
  have h2:=y_ r λy hy=>h y (by simp[hy])
  rw[dZ,bS,bS];simp only[cI,eN,Nat.mul_add];lia
def ej(ds:aJ)(most:Int):Option Nat:=if ds.all digit=true/\oneWay ds=true/\ ((valueOf ds:Nat):Int)<=most then some (valueOf ds) else none
def Vb(ds:aJ):∀a:Nat,ds.foldl (λn c=>10*n+(c-48)) a=10^ds.length*a+valueOf ds:=by
 induction ds with
 |nil=>intro a;show a=10^0*a+0;rw[Nat.pow_zero];lia
 |cons c r ih=>
  intro a;unfold valueOf;rw[u6,u6,ih,ih (10*0+(c-48)),cI,Ji];generalize 10^r.length=k;rw[Nat.mul_add,Nat.mul_zero,Nat.zero_add,<-Nat.mul_assoc,Nat.add_assoc]
def Vc(c:Nat)(r:aJ):valueOf (c::r)=10^r.length*(c-48)+valueOf r:=by
 conv=>lhs;unfold valueOf
 rw[u6,Vb,Nat.mul_zero,Nat.zero_add]
def Vd{c:Nat}{r:aJ}(h:digit c=true)(h0:c≠48):10^r.length<=valueOf (c::r):=by
 unfold digit at h;have h:=of_decide_eq_true h;rw[Vc];have:10^r.length*1<=10^r.length*(c-48):=Nat.mul_le_mul_left _ (by lia)
 lia
theorem LL:∀(k n:Nat),n<10^k->n<10^(x9 k n).length
 |0,n,h=>h
 |k+1,n,h=>by
  rw[x9];by_cases q:n<10
  ·rw[if_pos q];exact q
  ·rw[if_neg q,bS];have ih:=LL k (n/10) (by rw[Ji] at h;lia)
   show n<10^(_+1);rw[Ji];lia
def dec_lt{n:Nat}(h:n<10^40):n<10^(dec n).length:=LL 40 n h
def LM{ds:aJ}{m:Nat}(hm:m<10^40)(h:(dec m).length<ds.length):ej ds (m:Nat)=none:=by
 unfold ej;rw[if_neg];rintro⟨h1,h2,h3⟩;cases ds with
 |nil=>cases h
 |cons c r=>
  unfold oneWay at h2;rw[cI] at h h2;have hr:r.length≠0:=by
   have:0<(dec m).length:=by
    rcases Nat.eq_zero_or_pos (dec m).length with z|z
    ·have:=dec_lt hm;rw[z] at this;have h0:m=0:=by simpa using this
     rw[h0] at z;cases z
    ·exact z
   lia
  have hc:c≠48:=by
   intro z;subst z;simp at h2;exact hr (by rw[h2];rfl)
  rw[k_,eS] at h1;have a1:=Vd (r:=r) h1.1 hc;have a2:=dec_lt hm;have a3:10^(dec m).length<=10^r.length:=Nat.pow_le_pow_right (by decide) (by lia)
  have a4:valueOf (c::r)<=m:=by lia
  lia
def Ve{ds:aJ}{m:Int}(hm:m<0):ej ds m=none:=by
 unfold ej;rw[if_neg];rintro⟨_,_,h3⟩
 lia
def y'{ds:aJ}{m:Int}(h: ¬(ds≠[]/\ds.all digit=true)):ej ds m=none:=by
 unfold ej;rw[if_neg];rintro⟨h1,h2,_⟩;refine h ⟨λz=>?_,h1⟩;subst z;cases h2
def Vf{c:Nat}{r:aJ}{m:Int}(h:c=48)(hr:r≠[]):ej (c::r) m=none:=by
 unfold ej;rw[if_neg];rintro⟨_,h2,_⟩;subst h;unfold oneWay at h2;simp at h2;exact hr h2
def LN{c:Nat}{r:aJ}(h: ¬(c=48/\r≠[])):oneWay (c::r)=true:=by
 unfold oneWay;simp;by_cases q:r=[]
 ·exact .inl q
 ·exact .inr λz=>h ⟨z,q⟩
def D6{ds:aJ}{m:Int}(h1:ds.all digit=true)(h2:oneWay ds=true)(h3:((valueOf ds:Nat):Int)<=m):ej ds m=some (valueOf ds):=by
 unfold ej;rw[if_pos ⟨h1,h2,h3⟩]
def D7{ds:aJ}{m:Int}(h3: ¬((valueOf ds:Nat):Int)<=m):ej ds m=none:=by
 unfold ej;rw[if_neg λz=>h3 z.2.2]
def Vg{ds:aJ}:ej ds GREAT=(if ds.all digit=true/\ (oneWay ds=true/\ds.length<=19/\ ((valueOf ds:Nat):Int)<=GREAT) then some (valueOf ds) else none):=by
 unfold ej;by_cases h:ds.all digit=true/\oneWay ds=true/\ ((valueOf ds:Nat):Int)<=GREAT
 ·have hl:ds.length<=19:=by
   refine Nat.le_of_not_lt λz=>?_;have e:GREAT=((1000000000000000000:Nat):Int):=rfl;have:=LM (ds:=ds) (m:=1000000000000000000) (by decide) (by rw[show(dec 1000000000000000000).length=19 by decide+kernel];exact z)
   unfold ej at this;rw[if_pos ⟨h.1,h.2.1,by rw[<-e];exact h.2.2⟩] at this
   exact sn this
  rw[if_pos h,if_pos ⟨h.1,h.2.1,hl,h.2.2⟩]
 ·rw[if_neg h,if_neg];rintro⟨h1,h2,_,h4⟩;exact h ⟨h1,h2,h4⟩
def Tk(N:Nat)(ts:aL)(x:aJ):Prop:=match next ts with
 | .word w=>x=w/\ ∃c r,w=c::r/\letter c=true/\r.all inner=true
 | .num n=>x.all digit=true/\oneWay x=true/\valueOf x=n/\ ((n:Nat):Int)<=GREAT
 | .sign c=>x=[c]/\ (c=59\/c=123\/c=125\/c=64\/c=63\/c=95)
 | .none=>x=[]/\here ts=N
def ql{c:Nat}(h:letter c=true):97<=c/\c<=122:=of_decide_eq_true (by unfold letter at h;exact h)
def kS{c:Nat}(h:digit c=true):48<=c/\c<=57:=of_decide_eq_true (by unfold digit at h;exact h)
def Vh{c:Nat}(h:inner c=true):(97<=c/\c<=122)\/(48<=c/\c<=57):=by
 unfold inner at h;rcases Bool.or_eq_true_iff.mp h with h|h
 ·exact .inl (ql h)
 ·exact .inr (kS h)
theorem Tk.word{N:Nat}{ts:aL}{x:aJ}{c:Nat}{r:aJ}(h:Tk N ts x)(hx:x=c::r)(hc:letter c=true):next ts=.word x:=by
 have lc:=ql hc;unfold Tk at h;cases e:next ts with
 |word w=>rw[e] at h;rw[h.1]
 |num n=>
  rw[e] at h;have:=h.1;rw[hx,k_,eS] at this;have:=kS this.1
  lia
 |sign d=>
  rw[e] at h;have:=h.1;rw[hx] at this;obtain⟨rfl,_⟩:=oE this
  lia
 |none=>rw[e] at h;rw[hx] at h;cases h.1
theorem Tk.sign{N:Nat}{ts:aL}{x:aJ}{c:Nat}(h:Tk N ts x)(hc:c=59\/c=123\/c=125\/c=64\/c=63\/c=95):x=[c]↔next ts=.sign c:=by
 unfold Tk at h;cases e:next ts with
 |word w=>
  rw[e] at h;obtain⟨rfl,d,r,rfl,h1,_⟩:=h;have:=ql h1
  constructor
  ·intro z;obtain⟨rfl,_⟩:=oE z;lia
  ·intro z;cases z
 |num n=>
  rw[e] at h
  constructor
  ·intro z;have:=h.1;rw[z,k_,eS] at this;have:=kS this.1
   lia
  ·intro z;cases z
 |sign d=>
  rw[e] at h;rw[h.1]
  constructor
  ·intro z;obtain⟨rfl,_⟩:=oE z;rfl
  ·intro z;cases z;rfl
 |none=>
  rw[e] at h;rw[h.1]
  constructor
  ·intro z;cases z
  ·intro z;cases z
def Tk.LO{N:Nat}{ts:aL}{x w:aJ}{c:Nat}{r:aJ}(h:Tk N ts x)(hw:w=c::r)(hc:letter c=true):x=w↔next ts=.word w:=by
 constructor
 ·intro z;subst z;exact h.word hw hc
 ·intro z;unfold Tk at h;rw[z] at h;exact h.1
theorem Tk.none{N:Nat}{ts:aL}{x:aJ}(h:Tk N ts x):x=[]↔next ts=.none:=by
 unfold Tk at h;cases e:next ts with
 |word w=>
  rw[e] at h;obtain⟨rfl,d,r,rfl,_⟩:=h;exact⟨(λz=>nomatch z),(λz=>nomatch z)⟩
 |num n=>
  rw[e] at h;refine⟨λz=>?_,λz=>nomatch z⟩;have:=h.2.1;rw[z] at this;cases this
 |sign d=>
  rw[e] at h;rw[h.1];exact⟨(λz=>nomatch z),(λz=>nomatch z)⟩
 |none=>rw[e] at h;exact⟨λ_=>rfl,λ_=>h.1⟩
def Tk.ascii{N:Nat}{ts:aL}{x:aJ}(h:Tk N ts x):∀c∈x,c<128:=by
 unfold Tk at h;intro c hc;cases e:next ts with
 |word w=>
  rw[e] at h;obtain⟨rfl,d,r,rfl,h1,h2⟩:=h;rcases cC.mp hc with z|z
  ·have:=ql h1;lia
  ·have:=Vh (kH.mp h2 c z);lia
 |num n=>rw[e] at h;have:=kS (kH.mp h.1 c hc);lia
 |sign d=>rw[e] at h;rw[h.1] at hc;rw[oC.mp hc];lia
 |none=>rw[e] at h;rw[h.1] at hc;cases hc
def Tk.number{N:Nat}{ts:aL}{x:aJ}(h:Tk N ts x){m:Nat}(hm:((m:Nat):Int)<=GREAT):fU m ts=match ej x (m:Nat) with|some k=>.ok (k,ts.drop 1)|none=>.error (here ts):=by
 unfold fU;unfold Tk at h;cases e:next ts with
 |word w=>
  rw[e] at h;obtain⟨rfl,d,r,rfl,h1,_⟩:=h;rw[y'];rintro⟨_,z⟩;rw[k_,eS] at z;have:=kS z.1;have:=ql h1
  lia
 |num n=>
  rw[e] at h;obtain⟨h1,h2,rfl,h4⟩:=h;by_cases q:m<valueOf x
  ·rw[D7 (by lia)]
   simp only[q,if_true]
  ·rw[D6 h1 h2 (by lia)]
   simp only[q,if_false]
 |sign d=>
  rw[e] at h;obtain⟨rfl,h1⟩:=h;rw[y'];rintro⟨_,z⟩;rw[k_,eS] at z;have:=kS z.1
  lia
 |none=>rw[e] at h;rw[h.1,y' λz=>z.1 rfl]
theorem Tk.reg{N:Nat}{ts:aL}{x:aJ}(h:Tk N ts x){c n:Nat}(hc:letter c=true):reg c n ts=match ej (x.drop 1) ((n:Int)-1) with|some k=>if x.take 1=[c] then .ok (k,ts.drop 1) else .error (here ts)|none=>.error (here ts):=by
 unfold qQ;have lc:=ql hc;unfold Tk at h;have other:x.take 1≠[c]->(match ej (x.drop 1) ((n:Int)-1) with|some k=>if x.take 1=[c] then uT (k,ts.drop 1) else .error (here ts)|none=>.error (here ts))=(Pw (here ts):Except Nat (Nat×aL)):=λz=>by
  cases ej (x.drop 1) ((n:Int)-1) with
  |none=>rfl
  |some k=>simp only[z,if_false]
 cases e:next ts with
 |word w=>
  rw[e] at h;obtain⟨rfl,d,r,rfl,h1,h2⟩:=h;by_cases q:d=c
  ·subst q;simp only[x5,List.take_zero,List.drop_succ_cons,List.drop_zero,if_true,true_and];unfold ej;by_cases z:r.all digit=true/\oneWay r=true/\valueOf r<n
   ·rw[if_pos z,if_pos ⟨z.1,z.2.1,by have:=z.2.2;lia⟩]
   ·rw[if_neg z,if_neg λy=>z ⟨y.1,y.2.1,by have:=y.2.2;lia⟩]
  ·rw[other λz=>q (oE z).1];simp only[q,false_and,if_false]
 |num k=>
  rw[e] at h;rw[other];intro z;cases x with
  |nil=>cases z
  |cons d r=>
   have e1:d=c:=(oE z).1;have:=h.1;rw[k_,eS] at this;have:=kS this.1
   lia
 |sign d=>
  rw[e] at h;rw[other];intro z;rw[h.1] at z;have e1:d=c:=(oE z).1
  lia
 |none=>
  rw[e] at h;rw[other];intro z;rw[h.1] at z;cases z
section
variable{N n:Nat}{ts:aL}{x:aJ}
def D8:∀w∈ops2,∃c r,w=c::r/\letter c=true:=by
 intro w hw;have:(ops2.all λw=>match w with|c::_=>letter c|[]=>false)=true:=by decide+kernel
 have:=kH.mp this w hw;cases w with
 |nil=>exact ft this
 |cons c r=>exact⟨c,r,rfl,this⟩
def Vi:∀w∈ops1,∃c r,w=c::r/\letter c=true:=by
 intro w hw;have:(ops1.all λw=>match w with|c::_=>letter c|[]=>false)=true:=by decide+kernel
 have:=kH.mp this w hw;cases w with
 |nil=>exact ft this
 |cons c r=>exact⟨c,r,rfl,this⟩
def vS{l:List aJ}{w:aJ}{o:Nat}(h:opAt l w=some o):w∈l:=by
 obtain⟨h1,h2⟩:=rF h;unfold opName at h2;rw[eK h1] at h2;rw[<-h2];exact x_ h1
def Tk.Vj(h:Tk N ts x):operator2 ts=match opAt ops2 x with|some o=>.ok (o,ts.drop 1)|none=>.error (here ts):=by
 unfold operator2;cases e:opAt ops2 x with
 |some o=>
  obtain⟨c,r,hx,hc⟩:=D8 x (vS e);rw[h.word hx hc];simp only[e]
 |none=>
  unfold Tk at h;cases q:next ts with
  |word w=>rw[q] at h;rw[<-h.1];simp only[e]
  |num _=>rfl
  |sign _=>rfl
  |none=>rfl
def Vk{x sh:aJ}(h:shapeOf x=some sh):∃c r,x=c::r/\letter c=true:=by
 unfold shapeOf at h;by_cases o1:(opAt ops1 x).isSome=true
 ·obtain⟨o,ho⟩:=xV.mp o1;exact Vi x (vS ho)
 rw[if_neg o1] at h;by_cases o2:(opAt ops2 x).isSome=true
 ·obtain⟨o,ho⟩:=xV.mp o2;exact D8 x (vS ho)
 rw[if_neg o2] at h;have all:∀s:String,x=str s->(match str s with|c::_=>letter c|[]=>false)=true->∃c r,x=c::r/\letter c=true:=λs e q=>by
  rw[<-e] at q;cases x with
  |nil=>exact ft q
  |cons c r=>exact⟨c,r,rfl,q⟩
 iterate 21
  rcases y8 h with⟨q,h⟩|⟨_,h⟩
  ·exact all _ q (by decide+kernel)
 exact ns h
def Tk.shape(h:Tk N ts x){sh:aJ}(hs:shapeOf x=some sh):next ts=.word x:=by
 obtain⟨c,r,hx,hc⟩:=Vk hs;exact h.word hx hc
def Tk.D9(h:Tk N ts x):Vaarrj.number ts=fU 1000000000000000000 ts:=by
 unfold Vaarrj.number fU;unfold Tk at h;cases e:next ts with
 |num k=>
  rw[e] at h;have:=h.2.2.2;have e2:GREAT=1000000000000000000:=rfl;rw[e2] at this;have q: ¬1000000000000000000<k:=by lia
  simp only[q,if_false]
 |word _=>rfl
 |sign _=>rfl
 |none=>rfl
def Vl{c:Nat}:aH N (sign c ts)=if next ts=.sign c then dq N ts else .error (here ts):=by
 unfold sign;by_cases h:next ts=.sign c
 ·rw[if_pos h,if_pos h,vQ];unfold dq;cases aH N (uT ((),ts.drop 1))<;>rfl
 ·rw[if_neg h,if_neg h];rfl
def Vm(h:Tk N ts x){m:Nat}(hm:((m:Nat):Int)<=GREAT):aH N (fU m ts)=match ej x (m:Nat) with|some k=>also (λ_=>k) (dq N ts)|none=>.error (here ts):=by
 rw[h.number hm];cases ej x (m:Nat) with
 |some k=>exact vQ k ts
 |none=>rfl
def Vn(h:Tk N ts x){c k:Nat}(hc:letter c=true):aH N (reg c k ts)=match ej (x.drop 1) ((k:Int)-1) with|some j=>if x.take 1=[c] then also (λ_=>j) (dq N ts) else .error (here ts)|none=>.error (here ts):=by
 rw[h.reg hc];cases ej (x.drop 1) ((k:Int)-1) with
 |some j=>
  by_cases z:x.take 1=[c]
  ·simp only[z,if_true];exact vQ j ts
  ·simp only[z,if_false];rfl
 |none=>rfl
def Vo(h:Tk N ts x):aH N (operator2 ts)=match opAt ops2 x with|some o=>also (λ_=>o) (dq N ts)|none=>.error (here ts):=by
 rw[h.Vj];cases opAt ops2 x with
 |some o=>exact vQ o ts
 |none=>rfl
def Vp(h:next ts=.sign 95):aH N (signed ts)=(dq N ts).bind λu=>also (λ(k:Nat)=> -(k:Int)) (aH N (number u.2)):=by
 unfold signed;rw[if_pos h,gA,rH Lm];cases dq N ts<;>rfl
def Vq(h: ¬next ts=.sign 95):aH N (signed ts)=also (λ(k:Nat)=>(k:Int)) (aH N (number ts)):=by
 unfold signed;rw[if_neg h,gA]
def Vr:aH N (place ts)=(aH N (sign 64 ts)).bind λu=>aH N (number u.2):=
 kQ (g:=λ_ ts=>number ts) _ λ_=>Lm
def Vs(h:next ts=.sign 63):aH N (jb ts)=(dq N ts).bind λu=>also some (aH N (mas u.2)):=by
 unfold jb;rw[if_pos h,gA,rH TK];cases dq N ts<;>rfl
def Vt(hb: ¬bad N ts)(h: ¬next ts=.sign 63):aH N (jb ts)=.ok (none,ts):=by
 unfold jb;rw[if_neg h,i' hb]
end
inductive End where
 |plain
 |one (b:c6)
 |two (b c:c6)
def oZ(N:Nat)(sub:gH)(act:aJ)(left:Nat)(ts:aL):Except Nat ((End×Nat)×aL):=
 if act=str "for" then(aH N (sub left ts)).bind λb=>.ok ((.one b.1.1,b.1.2),b.2)
 else if act=str "when" then(aH N (sub left ts)).bind λb=>if next b.2=.word (str "else") then(dq N b.2).bind λu=>(aH N (sub b.1.2 u.2)).bind λc=>.ok ((.two b.1.1 c.1.1,c.1.2),c.2) else .ok ((.two b.1.1 .nil,b.1.2),b.2)
 else(aH N (sign 59 ts)).bind λu=>.ok ((.plain,left),u.2)
def LP(τ:Told)(e:End)(i:cw):Prop:=toldOf i=τ/\match e with
 | .plain=>(∀d c b,i≠ .for_ d c b)/\ (∀s b c,i≠ .when s b c)
 | .one b=>∃d c,i=.for_ d c b
 | .two b c=>∃s,i=.when s b c
def Vu{n c:Nat}{τ:Told}{ts:aL}{x:Told×aL}(h:d_ n c τ ts=.ok x):x.1.act=τ.act/\x.1.parts.length<=τ.parts.length+1/\x.1.args.length<=τ.args.length+1:=by
 unfold d_ at h;have al:∀{A:Type} {f:A->Told} {r:Except Nat (A×aL)},also f r=.ok x->∃y,x.1=f y:=λ{A f r} h=>by
  cases r with
  |error p=>cases h
  |ok y=>cases h;exact⟨y.1,rfl⟩
 split at h
 ·obtain⟨y,e⟩:=al h;rw[e];exact⟨rfl,by simp[Told.vJ],by simp[Told.vJ]⟩
 split at h
 ·obtain⟨y,e⟩:=al h;rw[e];exact⟨rfl,by simp[Told.arg],by simp[Told.arg]⟩
 split at h
 ·obtain⟨y,e⟩:=al h;rw[e];exact⟨rfl,by simp[Told.vK],by simp[Told.vK]⟩
 split at h
 ·obtain⟨y,e⟩:=al h;rw[e];exact⟨rfl,by cases y<;>simp[Told.jM,kI],by simp[Told.jM]⟩
 ·obtain⟨y,e⟩:=al h;rw[e];exact⟨rfl,by simp[Told.arg],by simp[Told.arg]⟩
def Vv{n c:Nat}{τ:Told}{ts:aL}{x:Told×aL}(hc:c≠63)(h:d_ n c τ ts=.ok x):x.1.mask=τ.mask:=by
 unfold d_ at h;have al:∀{A:Type} {f:A->Told} {r:Except Nat (A×aL)},also f r=.ok x->∃y,x.1=f y:=λ{A f r} h=>by
  cases r with
  |error p=>cases h
  |ok y=>cases h;exact⟨y.1,rfl⟩
 split at h
 ·obtain⟨y,e⟩:=al h;rw[e];rfl
 split at h
 ·obtain⟨y,e⟩:=al h;rw[e];rfl
 split at h
 ·obtain⟨y,e⟩:=al h;rw[e];rfl
 obtain⟨y,e⟩:=al h;rw[e];rfl
def nU{A:Type}{N:Nat}{r:Except Nat (A×aL)}{x:A×aL}(h:aH N r=.ok x):r=.ok x/\ ¬bad N x.2:=by
 cases r with
 |error p=>cases h
 |ok y=>
  by_cases b:bad N y.2
  ·rw[jL b] at h;exact eo h
  ·rw[i' b] at h;obtain rfl:=bG h;exact⟨rfl,b⟩
def way(N n:Nat)(sub:gH)(w sh:aJ)(left:Nat)(ts:aL):Except Nat (Told×((End×Nat)×aL)):=
 (dq N ts).bind λa=>(aH N (gk n sh (dQ w) a.2)).bind λτ=>(oZ N sub (dQ w).act (left-1) τ.2).bind λe=>.ok (τ.1,e)
def Vw{w:aJ}(h1:w≠str "for")(h2:w≠str "when"):(dQ w).act≠str "for"/\ (dQ w).act≠str "when":=by
 unfold dQ
 split
 ·exact⟨by show str "one"≠_;decide+kernel,by show str "one"≠_;decide+kernel⟩
 split
 ·exact⟨by show str "two"≠_;decide+kernel,by show str "two"≠_;decide+kernel⟩
 ·exact⟨h1,h2⟩
def Vx{n p:Nat}{w:aJ}{ts:aL}{x:cw×aL}(h:c8 n w p ts=.ok x):(∀d c b,x.1≠ .for_ d c b)/\ (∀s b c,x.1≠ .when s b c):=by
 have al:∀{A:Type} {f:A->cw} {r:Except Nat (A×aL)},(∀a,(∀d c b,f a≠ .for_ d c b)/\ (∀s b c,f a≠ .when s b c))->also f r=.ok x->(∀d c b,x.1≠ .for_ d c b)/\ (∀s b c,x.1≠ .when s b c):=λ{A f r} hf h=>by
  cases r with
  |error p=>cases h
  |ok y=>cases h;exact hf y.1
 unfold c8 at h;dsimp only[maskOp] at h
 iterate 19
  rcases y8 h with⟨_,h⟩|⟨_,h⟩
  ·exact al (by intro a;constructor<;>(intro _ _ _ z;cases z)) h
 cases e:opAt ops1 w with
 |some o=>rw[e] at h;exact al (by intro a;constructor<;>(intro _ _ _ z;cases z)) h
 |none=>
  rw[e] at h;cases e2:opAt ops2 w with
  |some o=>rw[e2] at h;exact al (by intro a;constructor<;>(intro _ _ _ z;cases z)) h
  |none=>rw[e2] at h;exact eo h
def Vy{N n:Nat}{sub:gH}{w sh:aJ}{left:Nat}{ts:aL}(oV:∀l,Wk N (sub l))(h:next ts=.word w)(h0:left≠0)(hs:shapeOf w=some sh):match way N n sub w sh left ts with
 | .error p=>aH N (c7 n sub left ts)=.error p
 | .ok x=>∃i,aH N (c7 n sub left ts)=.ok ((i,x.2.1.2),x.2.2)/\LP x.1 x.2.1.1 i:=by
 by_cases w1:w=str "for"
 ·subst w1;rw[Lp] at hs;obtain rfl:=aZ hs;have e1:way N n sub (str "for") [115,115] left ts=(aH N (two sca sca (ts.drop 1))).bind λh=>(aH N (sub (left-1) h.2)).bind λb=>.ok (toldOf (.for_ h.1.1 h.1.2 .nil),((.one b.1.1,b.1.2),b.2)):=by
   unfold way;rw[rH (g:=two sca sca) (TU Dy Dy),hZ];refine bind_congr λa=>?_;rw[Us,UQ,gA,vL];refine bind_congr λx=>?_;have ea:(t0 (str "for")).act=str "for":=rfl;rw[ea];unfold oZ;rw[if_pos rfl,hZ];rfl
  rw[e1,US oV h h0];cases aH N (two sca sca (ts.drop 1)) with
  |error p=>rfl
  |ok x=>
   cases e2:aH N (sub (left-1) x.2) with
   |error p=>simp only[i5,e2]
   |ok b=>
    simp only[i5,e2];exact⟨_,rfl,rfl,_,_,rfl⟩
 by_cases w2:w=str "when"
 ·subst w2;rw[Lq] at hs;obtain rfl:=aZ hs;have e1:way N n sub (str "when") [115] left ts=(aH N (sca (ts.drop 1))).bind λs=>(aH N (sub (left-1) s.2)).bind λb=>(if next b.2=.word (str "else") then(dq N b.2).bind λu=>(aH N (sub b.1.2 u.2)).bind λc=>.ok ((End.two b.1.1 c.1.1,c.1.2),c.2) else .ok ((End.two b.1.1 .nil,b.1.2),b.2)).bind λe=>.ok (toldOf (.when s.1 .nil .nil),e):=by
   unfold way;rw[rH (g:=sca) Dy,hZ];refine bind_congr λa=>?_;rw[Ut,UR,gA,vL];refine bind_congr λx=>?_;have ea:(t0 (str "when")).act=str "when":=rfl;rw[ea];unfold oZ;rw[if_neg (by decide+kernel),if_pos rfl,hZ]
  rw[e1,UT oV h h0];cases aH N (sca (ts.drop 1)) with
  |error p=>rfl
  |ok x=>
   cases e2:aH N (sub (left-1) x.2) with
   |error p=>simp only[i5,e2]
   |ok b=>
    have gb:=(nU e2).2;by_cases el:next b.2=.word (str "else")
    ·have ey:=UW oV (s:=x.1) (b:=b.1.1) (l:=b.1.2) el;simp only[i5,e2,el,if_true];rw[ey];cases e3:dq N b.2 with
     |error p=>simp only[i5]
     |ok u=>
      simp only[i5];cases e4:aH N (sub b.1.2 u.2) with
      |error p=>simp only
      |ok c=>exact⟨_,rfl,rfl,_,rfl⟩
    ·simp only[i5,e2,el,if_false];exact⟨_,UU gb el,rfl,_,rfl⟩
 ·have a:=Vw w1 w2;have e1:way N n sub w sh left ts=(aH N (iT n sh (dQ w) (ts.drop 1))).bind λτ=>.ok (τ.1,((.plain,left-1),τ.2)):=by
   unfold way;rw[rH (g:=iT n sh (dQ w)) (TZ n sh _)];cases dq N ts with
   |error p=>rfl
   |ok u=>
    show((aH N (gk n sh (dQ w) u.2)).bind _)=(aH N (iT n sh (dQ w) u.2)).bind _;rw[T4];cases aH N (gk n sh (dQ w) u.2) with
    |error p=>rfl
    |ok τ=>
     show(oZ N sub (dQ w).act (left-1) τ.2).bind _=(aH N ((sign 59 τ.2).bind _)).bind _;unfold oZ;rw[if_neg a.1,if_neg a.2];have e2:aH N ((sign 59 τ.2).bind λu=>uT (τ.1,u.2))=also (λ_=>τ.1) (aH N (sign 59 τ.2)):=by
      rw[<-gA,gL]
     rw[e2];cases aH N (sign 59 τ.2)<;>rfl
  rw[e1];cases e2:aH N (iT n sh (dQ w) (ts.drop 1)) with
  |error p=>exact UO h h0 w1 w2 hs e2
  |ok x=>
   obtain⟨i,h1,h2,h3⟩:=UP (sub:=sub) (τ:=x.1) (u:=x.2) h h0 w1 w2 hs e2;exact⟨i,h1,h2,Vx h3⟩
def Dn(sub:gH):Prop:=∀l ts y,sub l ts=.ok y->y.1.2<=l
def D_{n:Nat}{sub:gH}(hs:Dn sub){left:Nat}{ts:aL}{x:(cw×Nat)×aL}(h:c7 n sub left ts=.ok x):x.1.2<left:=by
 unfold c7 at h
 split at h
 ·by_cases hl:left=0
  ·rw[if_pos hl] at h;exact eo h
  rw[if_neg hl] at h
  split at h
  ·cases e:two sca sca (ts.drop 1) with
   |error p=>rw[e] at h;cases h
   |ok a=>
    rw[e] at h;simp only[i5] at h;cases e2:sub (left-1) a.2 with
    |error p=>rw[e2] at h;exact eo h
    |ok b=>rw[e2] at h;obtain rfl:=bG h;have:=hs _ _ _ e2;show b.1.2<left;lia
  ·split at h
   ·cases e:sca (ts.drop 1) with
    |error p=>rw[e] at h;cases h
    |ok a=>
     rw[e] at h;simp only[i5] at h;cases e2:sub (left-1) a.2 with
     |error p=>rw[e2] at h;exact eo h
     |ok b=>
      rw[e2] at h;simp only at h;have h1:=hs _ _ _ e2
      split at h
      ·cases e3:sub b.1.2 (b.2.drop 1) with
       |error p=>rw[e3] at h;exact eo h
       |ok c=>rw[e3] at h;obtain rfl:=bG h;have:=hs _ _ _ e3;show c.1.2<left;lia
      ·obtain rfl:=bG h;show b.1.2<left;lia
   ·rename_i w _ _ _;cases e:c8 n w (here ts) (ts.drop 1) with
    |error p=>rw[e] at h;cases h
    |ok i=>rw[e] at h;cases h;show left-1<left;lia
 ·exact eo h
theorem LQ{n:Nat}{sub:gH}(hs:Dn sub):∀(k left:Nat) (ts:aL) (x:(c6×Nat)×aL),instrs n sub k left ts=.ok x->x.1.2<=left
 |0,left,ts,x,h=>by cases h;exact bz _
 |k+1,left,ts,x,h=>by
  by_cases q:∃w,next ts=.word w
  ·obtain⟨w,hw⟩:=q;rw[rG hw] at h;cases e:c7 n sub left ts with
   |error p=>rw[e] at h;cases h
   |ok i=>
    rw[e] at h;have h1:=D_ hs e;simp only[i5] at h;cases e2:instrs n sub k i.1.2 i.2 with
    |error p=>rw[e2] at h;cases h
    |ok b=>rw[e2] at h;cases h;have:=LQ hs k _ _ _ e2;show b.1.2<=left;lia
  ·rw[kR λw hw=>q ⟨w,hw⟩] at h;obtain rfl:=bG h;exact bz _
theorem Ea(n:Nat):∀k,Dn (braces n k)
 |0=>λl ts y h=>by cases h
 |k+1=>λl ts y h=>by
  rw[braces] at h;cases e:sign 123 ts with
  |error p=>rw[e] at h;cases h
  |ok u=>
   rw[e] at h;simp only[i5] at h;cases e2:instrs n (braces n k) (u.2.length+1) l u.2 with
   |error p=>rw[e2] at h;exact eo h
   |ok b=>
    rw[e2] at h;simp only at h;cases e3:sign 125 b.2 with
    |error p=>rw[e3] at h;exact eo h
    |ok z=>rw[e3] at h;obtain rfl:=bG h;have:=LQ (Ea n k) _ _ _ _ e2;exact this
def pre(is:List cw)(b:c6):c6:=is.foldr x8 b
def LR(is:List cw)(i:cw)(b:c6):pre (is++[i]) b=pre is (.cons i b):=by unfold pre;rw[List.foldr_append];rfl
def rK(sh:aJ):Bool:=decide (sh.length<=5)&&sh.all (λc=>c==111||c==110||c==64||c==63||c==118||c==115||c==109||c==97)&&sh.dropLast.all (λc=>c !=63)
def vT(a:Option aJ):Prop:=∀s,a=some s->rK s=true
def Vz{a:aJ}(h:rK a=true):vT (some a):=λs e=>aZ e▸h
def VA{p:Prop}[Decidable p]{a b:Option aJ}(ha:vT a)(hb:vT b):vT (if p then a else b):=by split<;>assumption
def VB{x sh:aJ}(h:shapeOf x=some sh):rK sh=true:=by
 have k:vT (shapeOf x):=by
  unfold shapeOf
  iterate 23 refine VA (Vz (by decide)) ?_
  exactλs e=>ns e
 exact k _ h
def VC{sh:aJ}(h:rK sh=true):sh.length<=5:=by
 unfold rK at h;simp only[eS,decide_eq_true_eq] at h;exact h.1.1
def VD{sh:aJ}(h:rK sh=true){i c:Nat}(hi:sh[i]? =some c):(c=111\/c=110\/c=64\/c=63\/c=118\/c=115\/c=109\/c=97)/\ (c=63->i+1=sh.length):=by
 unfold rK at h;simp only[eS,decide_eq_true_eq,kH] at h
 constructor
 ·have:=h.1.2 c (d7 hi);simp only[pM,beq_iff_eq] at this
  lia
 ·intro z;subst z;have hl:=(dz.mp hi).1;rcases B1 (i+1) sh.length with l|l
  ·have:sh.dropLast[i]? =some 63:=by rw[List.getElem?_dropLast,if_pos (by lia)];exact hi
   have:=h.2 63 (d7 this);cases this
  ·lia
def VE(m:Nat):bJ (fU m) λk=>k<=m:=λts x ht h=>by
 unfold fU at h
 split at h
 ·split at h
  ·exact eo h
  ·obtain rfl:=bG h;exact⟨by show _<=_;lia,ht.drop 1⟩
 ·exact eo h
def VF:bJ lO λk=>k<=1024:=λts x ht h=>
 bJ.bind (f:=fU 1024) (g:=λk us=>(sign 59 us).bind λu=>.ok (k,u.2)) (VE 1024) (λk hk=>bJ.bind (g:=λ_ us=>.ok (k,us)) (rJ 59) λ_ _=>bJ.ok hk) (ts.drop 1) x (ht.drop 1) h
def VG(k:Nat):bJ (lengths k) λl=>l.length<=k/\ ∀n∈l,n<=1024:=by
 induction k with
 |zero=>
  intro ts x ht h;by_cases q:next ts=.word (str "array")
  ·rw[LB q] at h;exact eo h
  ·rw[y9 q] at h;obtain rfl:=bG h;exact⟨⟨eX _,λn hn=>by cases hn⟩,ht⟩
 |succ k ih=>
  intro ts x ht h;by_cases q:next ts=.word (str "array")
  ·rw[LC q] at h;refine bJ.bind (Q:=λl:List Nat=>l.length<=k+1/\ ∀n∈l,n<=1024) (f:=lO) (g:=λa us=>also (λl=>a::l) (lengths k us)) VF (λa ha=>bJ.also ih λl hl=>⟨by rw[cI];lia,λn hn=>?_⟩) ts x ht h
   rcases cC.mp hn with z|z
   ·rw[z];exact ha
   ·exact hl.2 n z
  ·rw[y9 q] at h;obtain rfl:=bG h;exact⟨⟨eX _,λn hn=>by cases hn⟩,ht⟩
structure Good(c:Code):Prop where
 ln:c.lengths.length<=32
 le:∀n∈c.lengths,n<=1024
 ok:fJ c.lengths.length c.body 8
 size:c.body.size<=512
def VH{t:aJ}{l:List Nat×aL}{b:(c6×Nat)×aL}(h1:aH t.length (lengths 32 (tokens t))=.ok l)(h2:aH t.length (tt t.length l.1.length (braces l.1.length 8) 512 l.2)=.ok b):Good ⟨l.1,b.1.1⟩/\b.1.1.size+b.1.2=512:=by
 obtain⟨⟨a1,a2⟩,a3⟩:=VG 32 _ l (uc _ _ _) (nU h1).1;obtain⟨⟨b1,b2⟩,_⟩:=U6 (N:=t.length) (LG l.1.length 8) 512 _ b a3 (nU h2).1;exact⟨⟨a1,a2,b1,by show b.1.1.size<=512;lia⟩,b2⟩
mutual
theorem LS:∀i:cw,(joined (bD i)).length<=320*i.size
 | .for_ d n b=>by
   have h:=ue b;have hd:=oW (.for_ d n b);simp only[toldOf] at hd;rw[bD,dZ,jN];have e1:(str " {").length=2:=rfl;have e2:(joined [str "}"]).length=2:=rfl;simp only[bS,cI,eN,eE]
   lia
 | .when x b .nil=>by
   have h:=ue b;have hd:=oW (.when x b .nil);simp only[toldOf] at hd;rw[bD,dZ,jN,sV];have e1:(str " {").length=2:=rfl;have e2:(joined [str "}"]).length=2:=rfl;simp only[bS,cI,eN,eE,lq]
   lia
 | .when x b (.cons i r)=>by
   have h:=ue b;have h2:=LS i;have h3:=ue r;have hd:=oW (.when x b .nil);simp only[toldOf] at hd;rw[bD,dZ,jN,jN,dZ,jN];have e1:(str " {").length=2:=rfl;have e2:(joined [str "}"]).length=2:=rfl;have e3:(str "} else {").length=8:=rfl;simp only[bS,cI,eN,eE,lq]
   lia
 | .lanes d k=>by simp only[bD];rw[dZ,gB,dA,bS];have:=gC (.lanes d k);simp only[eE,cI,eN];lia
 | .const d n k=>by simp only[bD];rw[dZ,gB,dA,bS];have:=gC (.const d n k);simp only[eE,cI,eN];lia
 | .fill d x k=>by simp only[bD];rw[dZ,gB,dA,bS];have:=gC (.fill d x k);simp only[eE,cI,eN];lia
 | .copy d x k=>by simp only[bD];rw[dZ,gB,dA,bS];have:=gC (.copy d x k);simp only[eE,cI,eN];lia
 | .one o d x p k=>by simp only[bD];rw[dZ,gB,dA,bS];have:=gC (.one o d x p k);simp only[eE,cI,eN];lia
 | .two o d x y p k=>by simp only[bD];rw[dZ,gB,dA,bS];have:=gC (.two o d x y p k);simp only[eE,cI,eN];lia
 | .read d r x k=>by simp only[bD];rw[dZ,gB,dA,bS];have:=gC (.read d r x k);simp only[eE,cI,eN];lia
 | .pick d r x p k=>by simp only[bD];rw[dZ,gB,dA,bS];have:=gC (.pick d r x p k);simp only[eE,cI,eN];lia
 | .write r x y k=>by simp only[bD];rw[dZ,gB,dA,bS];have:=gC (.write r x y k);simp only[eE,cI,eN];lia
 | .test d x k=>by simp only[bD];rw[dZ,gB,dA,bS];have:=gC (.test d x k);simp only[eE,cI,eN];lia
 | .tail d x=>by simp only[bD];rw[dZ,gB,dA,bS];have:=gC (.tail d x);simp only[eE,cI,eN];lia
 | .both d x y=>by simp only[bD];rw[dZ,gB,dA,bS];have:=gC (.both d x y);simp only[eE,cI,eN];lia
 | .less d x y=>by simp only[bD];rw[dZ,gB,dA,bS];have:=gC (.less d x y);simp only[eE,cI,eN];lia
 | .either d x y=>by simp only[bD];rw[dZ,gB,dA,bS];have:=gC (.either d x y);simp only[eE,cI,eN];lia
 | .count d x=>by simp only[bD];rw[dZ,gB,dA,bS];have:=gC (.count d x);simp only[eE,cI,eN];lia
 | .num d n=>by simp only[bD];rw[dZ,gB,dA,bS];have:=gC (.num d n);simp only[eE,cI,eN];lia
 | .width d=>by simp only[bD];rw[dZ,gB,dA,bS];have:=gC (.width d);simp only[eE,cI,eN];lia
 | .calc o d x y p=>by simp only[bD];rw[dZ,gB,dA,bS];have:=gC (.calc o d x y p);simp only[eE,cI,eN];lia
 | .get d x y=>by simp only[bD];rw[dZ,gB,dA,bS];have:=gC (.get d x y);simp only[eE,cI,eN];lia
 | .put x y z=>by simp only[bD];rw[dZ,gB,dA,bS];have:=gC (.put x y z);simp only[eE,cI,eN];lia
 | .raise=>by simp only[bD];rw[dZ,gB,dA,bS];have:=gC (.raise);simp only[eE,cI,eN];lia
theorem ue:∀b:c6,(joined (dv b)).length<=320*b.size
 | .nil=>by rw[dv];exact eX _
 | .cons i r=>by
   have h:=LS i;have h2:=ue r;rw[dv,jN,bS];simp only[lq]
   lia
end
def Eb{c:Code}(g:Good c):(codeText c).length<=166000:=by
 rw[DZ];unfold iU;rw[jN,bS];have h:=ue c.body;have s:=g.size;have a:(joined (c.lengths.map λn=>(str "array "++dec n)++str ";")).length<=(47+1)*(c.lengths.map λn=>(str "array "++dec n)++str ";").length:=y_ _ λx hx=>by
  obtain⟨n,_,rfl⟩:=mZ.mp hx;have:=iV n;have e1:(str "array ").length=6:=rfl;have e2:(str ";").length=1:=rfl;rw[bS,bS];lia
 rw[bq] at a;have l:=g.ln
 lia
end MP
namespace MR
open Vaarrj
structure WF(x:a_):Prop where
 w1:1<=x.width
 fB:x.width<=16
 vs:x.vs.length=16
 vl:∀v∈x.vs,v.length=x.width
 ss:x.ss.length=16
 ms:x.ms.length=8
 ml:∀v∈x.ms,v.length=x.width
 fl:x.faults.length=x.width
def Num(n:Int):Prop:= -GREAT<=n/\n<=GREAT
structure Nums(x:a_):Prop where
 vs:∀v∈x.vs,∀n∈v,Num n
 ss:∀n∈x.ss,Num n
 ar:∀a∈x.arrays,∀n∈a,Num n
def o3(x:a_)(d l:Nat)(n:Int):a_:=setVec x d ((c9 x d).set l n)
def gD(x:a_)(l:Nat)(e:Fault):a_:={x with faults:=x.faults.set l (some e)}
def ki(x:a_)(d l:Nat)(b:Bool):a_:=setMask x d ((maskOf x d).set l b)
def eI(d:Nat)(f:Nat->Except Fault Int)(y:a_)(l:Nat):a_:=match f l with
 | .ok n=>o3 y d l n
 | .error e=>gD y l e
def cU(x:a_)(m:Option Nat):List Nat:=(cB x.width).filter (active x m)
def dk(x:a_):List Nat:=(cB x.width).filter λl=>((x.faults[l]?).getD none).isNone
def o4{α:Type}(l:List α)(i j:Nat)(a d:α):((l.set i a)[j]?).getD d=if i=j/\i<l.length then a else(l[j]?).getD d:=by
 by_cases h:i=j
 ·subst h;by_cases hl:i<l.length
  ·rw[uV hl,if_pos ⟨rfl,hl⟩];rfl
  ·rw[if_neg λz=>hl z.2,pJ (by rw[gV];lia),pJ (by lia)]
 ·rw[uW h,if_neg λz=>h z.1]
def uf{α:Type}{l r:List α}(d:α)(h:l.length=r.length)(hg:∀i,i<l.length->(l[i]?).getD d=(r[i]?).getD d):l=r:=by
 refine List.ext_getElem h λi h1 h2=>?_;have q:=hg i h1;rw[eK h1,eK h2] at q;exact q
def Ec{α:Type}(l:List α)(i:Nat)(d:α):l.set i ((l[i]?).getD d)=l:=by
 by_cases h:i<l.length
 ·rw[eK h];exact List.set_getElem_self h
 ·exact af6 (by lia)
section
variable{x y:a_}{d k l:Nat}{n:Int}
def LU(x:a_)(d k:Nat)(v:List Int):c9 (setVec x d v) k=if d=k/\d<x.vs.length then v else c9 x k:=o4 _ _ _ _ _
def VI(x:a_)(d l k j:Nat)(n:Int):bN (o3 x d l n) k j=if d=k/\d<x.vs.length/\l=j/\l<(c9 x d).length then n else bN x k j:=by
 unfold bN o3;rw[LU];by_cases h:d=k/\d<x.vs.length
 ·obtain⟨rfl,h2⟩:=h;rw[if_pos ⟨rfl,h2⟩,o4];by_cases h3:l=j/\l<(c9 x d).length
  ·rw[if_pos h3,if_pos ⟨rfl,h2,h3⟩]
  ·rw[if_neg h3,if_neg λz=>h3 z.2.2]
 ·rw[if_neg h,if_neg λz=>h ⟨z.1,z.2.1⟩]
def LV(x:a_)(d k:Nat)(v:List Bool):maskOf (setMask x d v) k=if d=k/\d<x.ms.length then v else maskOf x k:=o4 _ _ _ _ _
def VJ(x:a_)(d l k j:Nat)(b:Bool):fv (ki x d l b) k j=if d=k/\d<x.ms.length/\l=j/\l<(maskOf x d).length then b else fv x k j:=by
 unfold fv ki;rw[LV];by_cases h:d=k/\d<x.ms.length
 ·obtain⟨rfl,h2⟩:=h;rw[if_pos ⟨rfl,h2⟩,o4];by_cases h3:l=j/\l<(maskOf x d).length
  ·rw[if_pos h3,if_pos ⟨rfl,h2,h3⟩]
  ·rw[if_neg h3,if_neg λz=>h3 z.2.2]
 ·rw[if_neg h,if_neg λz=>h ⟨z.1,z.2.1⟩]
def WF.vec(W:WF x)(h:k<16):(c9 x k).length=x.width:=by
 have hk:k<x.vs.length:=by rw[W.vs];exact h
 unfold c9;rw[eK hk];exact W.vl _ (x_ hk)
def WF.mask(W:WF x)(h:k<8):(maskOf x k).length=x.width:=by
 have hk:k<x.ms.length:=by rw[W.ms];exact h
 unfold maskOf;rw[eK hk];exact W.ml _ (x_ hk)
def VL(h:k<x.ss.length):x.ss[k]? =some (dJ x k):=by
 unfold dJ;rw[eK h];rfl
def za(h:l<(c9 x k).length):(c9 x k)[l]? =some (bN x k l):=by
 unfold bN;rw[eK h];rfl
def LW(h:l<(maskOf x k).length):(maskOf x k)[l]? =some (fv x k l):=by
 unfold fv;rw[eK h];rfl
def mem_set{α:Type}{l:List α}{i:Nat}{a b:α}(h:b∈l.set i a):b=a\/b∈l:=by
 rcases List.mem_or_eq_of_mem_set h with q|q
 ·exact .inr q
 ·exact .inl q
theorem WF.setVec(W:WF x){v:List Int}(hv:v.length=x.width)(d:Nat):WF (setVec x d v):=
 ⟨W.w1,W.fB,by show(x.vs.set d v).length=16;rw[gV];exact W.vs,λu hu=>by
   rcases mem_set hu with q|q
   ·rw[q];exact hv
   ·exact W.vl u q,W.ss,W.ms,W.ml,W.fl⟩
theorem WF.setMask(W:WF x){v:List Bool}(hv:v.length=x.width)(d:Nat):WF (setMask x d v):=
 ⟨W.w1,W.fB,W.vs,W.vl,W.ss,by show(x.ms.set d v).length=8;rw[gV];exact W.ms,λu hu=>by
   rcases mem_set hu with q|q
   ·rw[q];exact hv
   ·exact W.ml u q,W.fl⟩
theorem WF.o3(W:WF x)(hd:d<16)(l:Nat)(n:Int):WF (o3 x d l n):=WF.setVec W (by rw[gV];exact W.vec hd) d
theorem WF.gD(W:WF x)(l:Nat)(e:Fault):WF (gD x l e):=⟨W.w1,W.fB,W.vs,W.vl,W.ss,W.ms,W.ml,by show(x.faults.set l _).length=_;rw[gV];exact W.fl⟩
theorem WF.ki(W:WF x)(hd:d<8)(l:Nat)(b:Bool):WF (ki x d l b):=WF.setMask W (by rw[gV];exact W.mask hd) d
theorem WF.setScalar(W:WF x)(d:Nat)(n:Int):WF (setScalar x d n):=⟨W.w1,W.fB,W.vs,W.vl,by show(x.ss.set d n).length=16;rw[gV];exact W.ss,W.ms,W.ml,W.fl⟩
theorem WF.arrays(W:WF x)(a:List (List Int)):WF {x with arrays:=a}:=⟨W.w1,W.fB,W.vs,W.vl,W.ss,W.ms,W.ml,W.fl⟩
theorem WF.eI(W:WF x)(hd:d<16)(f:Nat->Except Fault Int)(l:Nat):WF (eI d f x l):=by
 unfold MR.eI;cases f l with
 |ok n=>exact W.o3 hd l n
 |error e=>exact W.gD l e
end
def part(x:a_)(d:Nat)(f:Nat->Except Fault Int)(q:List Nat):a_:=
 {setVec x d ((cB x.width).map λl=>if l∈q then(match f l with| .ok n=>n| .error _=>bN x d l) else bN x d l) with
  faults:=(cB x.width).map λl=>if l∈q then(match f l with| .ok _=>(x.faults[l]?).getD none| .error e=>some e) else(x.faults[l]?).getD none}
def VM{x:a_}{d:Nat}(h:(c9 x d).length=x.width):(cB x.width).map (λl=>bN x d l)=c9 x d:=by
 refine uf 0 (by rw[bq,iy,h]) λi hi=>?_
 rw[bq,iy] at hi;rw[dI,qR hi];rfl
def VN(x:a_)(d:Nat):setVec x d (c9 x d)=x:=by
 have e:x.vs.set d (c9 x d)=x.vs:=Ec _ _ _;unfold setVec;rw[e]
def VO{x:a_}(h:x.faults.length=x.width):(cB x.width).map (λl=>(x.faults[l]?).getD none)=x.faults:=by
 refine uf none (by rw[bq,iy,h]) λi hi=>?_
 rw[bq,iy] at hi;rw[dI,qR hi];rfl
def VP{x:a_}(W:WF x){d:Nat}(hd:d<16)(f:Nat->Except Fault Int):part x d f []=x:=by
 unfold part;simp only[List.not_mem_nil,if_false];rw[VM (W.vec hd),VO W.fl,VN]
def VQ{x:a_}(W:WF x){d:Nat}(hd:d<16)(f:Nat->Except Fault Int)(q:List Nat)(l:Nat)(hl:l<x.width)(hn:l∉q):eI d f (part x d f q) l=part x d f (q++[l]):=by
 have Ed:d<x.vs.length:=by rw[W.vs];exact hd
 have key:∀j:Nat,(j∈q++[l])↔(j∈q\/j=l):=λj=>by simp
 unfold eI;cases hf:f l with
 |ok n=>
  show o3 (part x d f q) d l n=_;unfold o3 part;have e1:c9 {setVec x d ((cB x.width).map λl=>if l∈q then(match f l with| .ok n=>n| .error _=>bN x d l) else bN x d l) with
   faults:=(cB x.width).map λl=>if l∈q then(match f l with| .ok _=>(x.faults[l]?).getD none| .error e=>some e) else(x.faults[l]?).getD none} d=((cB x.width).map λl=>if l∈q then(match f l with| .ok n=>n| .error _=>bN x d l) else bN x d l):=by
   have q:=LU x d d ((cB x.width).map λl=>if l∈q then(match f l with| .ok n=>n| .error _=>bN x d l) else bN x d l)
   rw[if_pos ⟨rfl,Ed⟩] at q;exact q
  rw[e1];unfold setVec;simp only[List.set_set];have ev:((cB x.width).map λl=>if l∈q then(match f l with| .ok n=>n| .error _=>bN x d l) else bN x d l).set l n=(cB x.width).map λj=>if j∈q++[l] then(match f j with| .ok n=>n| .error _=>bN x d j) else bN x d j:=by
   refine uf 0 (by simp) λi hi=>?_
   simp only[gV,bq,iy] at hi;rw[o4];simp only[dI,qR hi,P8,P9,bq,iy,key];by_cases lR:l=i
   ·subst lR;simp[hl,hf]
   ·have vU: ¬i=l:=λz=>lR z.symm;simp[lR,vU]
  have ef:((cB x.width).map λl=>if l∈q then(match f l with| .ok _=>(x.faults[l]?).getD none| .error e=>some e) else(x.faults[l]?).getD none)=(cB x.width).map λj=>if j∈q++[l] then(match f j with| .ok _=>(x.faults[j]?).getD none| .error e=>some e) else(x.faults[j]?).getD none:=by
   refine pL λj _=>?_;simp only[key];by_cases vV:j=l
   ·subst vV;simp[hn,hf]
   ·simp[vV]
  rw[ev,ef]
 |error e=>
  show gD (part x d f q) l e=_;unfold gD part;have ev:((cB x.width).map λl=>if l∈q then(match f l with| .ok n=>n| .error _=>bN x d l) else bN x d l)=(cB x.width).map λj=>if j∈q++[l] then(match f j with| .ok n=>n| .error _=>bN x d j) else bN x d j:=by
   refine pL λj _=>?_;simp only[key];by_cases vV:j=l
   ·subst vV;simp[hn,hf]
   ·simp[vV]
  have ef:((cB x.width).map λl=>if l∈q then(match f l with| .ok _=>(x.faults[l]?).getD none| .error e=>some e) else(x.faults[l]?).getD none).set l (some e)=(cB x.width).map λj=>if j∈q++[l] then(match f j with| .ok _=>(x.faults[j]?).getD none| .error e=>some e) else(x.faults[j]?).getD none:=by
   refine uf none (by simp) λi hi=>?_
   simp only[gV,bq,iy] at hi;rw[o4];simp only[dI,qR hi,P8,P9,bq,iy,key];by_cases lR:l=i
   ·subst lR;simp[hl,hf]
   ·have vU: ¬i=l:=λz=>lR z.symm;simp[lR,vU]
  rw[ev];show({(setVec x d _) with faults:=_}:a_)=_
  rw[ef]
theorem LX{x:a_}(W:WF x){d:Nat}(hd:d<16)(f:Nat->Except Fault Int):∀(r q:List Nat),(∀l∈r,l<x.width)->(q++r).Nodup->r.foldl (eI d f) (part x d f q)=part x d f (q++r)
 |[],q,_,_=>by rw[dA];rfl
 |l::r,q,h1,h2=>by
  have hn:l∉q:=λz=>by
   have:=(vc.mp h2).2.2 l z l iL;exact this rfl
  rw[u6,VQ W hd f q l (h1 l iL) hn,LX W hd f r (q++[l]) (λj hj=>h1 j (fG _ hj)) (by simpa using h2)]
  simp
def LY(x:a_)(m:Option Nat):(cU x m).Nodup:=List.nodup_range.sublist List.filter_sublist
def vW{x:a_}{m:Option Nat}{l:Nat}(h:l∈cU x m):l<x.width:=qG.mp (BH.mp h).1
def ug{x:a_}{m:Option Nat}{l:Nat}:l∈cU x m↔l<x.width/\active x m l=true:=by
 unfold cU;rw[BH,qG]
def VR{x:a_}{m:Option Nat}{l:Nat}(h:active x m l=true):(x.faults[l]?).getD none=none:=by
 unfold active at h;rw[eS] at h;exact Option.isNone_iff_eq_none.mp h.1
def vf(x:a_)(d:Nat)(A:List Int)(B:List (Option Fault)):a_:={setVec x d A with faults:=B}
def VS{x:a_}{d:Nat}{A A':List Int}{B B':List (Option Fault)}(h:A=A')(h':B=B'):vf x d A B=vf x d A' B':=by rw[h,h']
def VT{x:a_}(m:Option Nat)(d:Nat)(f:Nat->Except Fault Int):inLanes x m d f=part x d f (cU x m):=by
 unfold inLanes part;simp only[iO];show vf x d _ _=vf x d _ _;refine VS ?_ ?_
 ·refine pL λl hl=>?_;have hw:l<x.width:=qG.mp hl;by_cases h:active x m l=true
  ·have hm:l∈cU x m:=ug.mpr ⟨hw,h⟩;simp only[Jj,h,if_true,hm];cases f l<;>rfl
  ·have hm: ¬l∈cU x m:=λz=>h (ug.mp z).2;simp only[Jj,h,if_false,hm];rfl
 ·refine pL λl hl=>?_;have hw:l<x.width:=qG.mp hl;by_cases h:active x m l=true
  ·have hm:l∈cU x m:=ug.mpr ⟨hw,h⟩;simp only[Jj,h,if_true,hm,VR h];cases f l<;>rfl
  ·have hm: ¬l∈cU x m:=λz=>h (ug.mp z).2;simp only[Jj,h,if_false,hm];rfl
def VU{x:a_}(W:WF x)(m:Option Nat){d:Nat}(hd:d<16)(f:Nat->Except Fault Int):(cU x m).foldl (eI d f) x=inLanes x m d f:=by
 have q:=LX W hd f (cU x m) [] (λl=>vW) (by simpa using LY x m)
 rw[VP W hd] at q;rw[q,VT];rfl
section
variable{d:Nat}{f:Nat->Except Fault Int}
def VV(y:a_)(l:Nat):(eI d f y l).width=y.width:=by unfold eI;cases f l<;>rfl
def VW(y:a_)(l:Nat):(eI d f y l).ss=y.ss:=by unfold eI;cases f l<;>rfl
def VX(y:a_)(l:Nat):(eI d f y l).ms=y.ms:=by unfold eI;cases f l<;>rfl
def VY(y:a_)(l:Nat):(eI d f y l).arrays=y.arrays:=by unfold eI;cases f l<;>rfl
def VZ(y:a_){l k:Nat}(a:Nat)(h:l≠k):bN (eI d f y l) a k=bN y a k:=by
 unfold eI;cases f l with
 |ok n=>show bN (o3 y d l n) a k=_;rw[VI,if_neg λz=>h z.2.2.1]
 |error e=>rfl
def V0(y:a_){l k:Nat}(h:l≠k):((eI d f y l).faults[k]?).getD none=(y.faults[k]?).getD none:=by
 unfold eI;cases f l with
 |ok n=>rfl
 |error e=>show((y.faults.set l (some e))[k]?).getD none=_;rw[o4,if_neg λz=>h z.1]
structure rL(x y:a_)(q:List Nat):Prop where
 wf:WF y
 w:y.width=x.width
 ss:y.ss=x.ss
 ms:y.ms=x.ms
 ar:y.arrays=x.arrays
 iB:∀a l,l∉q->bN y a l=bN x a l
 fault:∀l,l∉q->(y.faults[l]?).getD none=(x.faults[l]?).getD none
def rL.start{x:a_}(W:WF x):rL x x []:=⟨W,rfl,rfl,rfl,rfl,λ_ _ _=>rfl,λ_ _=>rfl⟩
def rL.step{x y:a_}{q:List Nat}{l:Nat}(M:rL x y q)(hd:d<16):rL x (eI d f y l) (q++[l]):=
 ⟨M.wf.eI hd f l,by rw[VV,M.w],by rw[VW,M.ss],by rw[VX,M.ms],by rw[VY,M.ar],
  λa k hk=>by
   have h1:k∉q:=λz=>hk (by simp[z])
   have h2:l≠k:=λz=>hk (by simp[z])
   rw[VZ y a h2,M.iB a k h1],
  λk hk=>by
   have h1:k∉q:=λz=>hk (by simp[z])
   have h2:l≠k:=λz=>hk (by simp[z])
   rw[V0 y h2,M.fault k h1]⟩
end
def take_snoc{α:Type}{l:List α}{i:Nat}{x:α}(h:l[i]? =some x):l.take (i+1)=l.take i++[x]:=by
 obtain⟨hi,e⟩:=dz.mp h;rw[List.take_succ,h];rfl
def LZ{α:Type}{l:List α}(hn:l.Nodup){i:Nat}{x:α}(h:l[i]? =some x):x∉l.take i:=by
 have hs:l.take (i+1)=l.take i++[x]:=take_snoc h;have zb:(l.take (i+1)).Nodup:=hn.sublist (List.take_sublist _ _);rw[hs] at zb;intro z;exact(vc.mp zb).2.2 x z x (by simp) rfl
def V1{y:a_}(W:WF y){l:Nat}(hl:l<y.width)(e:Fault):dk (gD y l e)=(dk y).filter λk=>k !=l:=by
 unfold dk gD;rw[List.filter_filter];refine P_ λk hk=>?_;have hk:k<y.width:=qG.mp hk;show(((y.faults.set l (some e))[k]?).getD none).isNone=_;rw[o4];by_cases h:l=k
 ·subst h;rw[if_pos ⟨rfl,by rw[W.fl];exact hl⟩]
  simp
 ·rw[if_neg λz=>h z.1];have:(k !=l)=true:=by simpa usingλz=>h z.symm
  rw[this,Bool.true_and]
def V2(x:a_):cU x none=dk x:=by
 unfold cU dk;refine P_ λl _=>?_;simp[active]
def V3(x:a_)(k:Nat):cU x (some k)=(dk x).filter (fv x k):=by
 unfold cU dk;rw[List.filter_filter];refine P_ λl _=>?_;simp[active,Bool.and_comm]
def rM(x:a_)(r a b:Nat)(y:a_)(l:Nat):a_:=
 if 0<=bN x a l/\bN x a l<((dM x r).length:Int) then{y with arrays:=y.arrays.set r ((dM y r).set (bN x a l).toNat (bN x b l))}
 else gD y l (OUT,0)
theorem zd(x:a_)(m:Option Nat)(r a b:Nat):∀(q:List Nat) (y:a_),B2 x m r a b q y=(q.filter (active x m)).foldl (rM x r a b) y
 |[],_=>rfl
 |l::q,y=>by
  unfold B2;rw[Jk];by_cases h:active x m l=true
  ·rw[if_pos h,if_pos h,u6];unfold rM;by_cases h2:0<=bN x a l/\bN x a l<((dM x r).length:Int)
   ·simp only[h2,and_self,if_true];exact zd x m r a b q _
   ·simp only[h2,if_false];exact zd x m r a b q _
  ·rw[if_neg h,if_neg h];exact zd x m r a b q y
def L0{x:a_}{d:Nat}(h:(maskOf x d).length=x.width):(cB x.width).map (λl=>fv x d l)=maskOf x d:=by
 refine uf false (by rw[bq,iy,h]) λi hi=>?_
 rw[bq,iy] at hi;rw[dI,qR hi];rfl
def V4(x:a_)(d:Nat):setMask x d (maskOf x d)=x:=by
 have e:x.ms.set d (maskOf x d)=x.ms:=Ec _ _ _;unfold setMask;rw[e]
def o5(x:a_)(d:Nat)(f:Nat->Bool)(q:List Nat):a_:=setMask x d ((cB x.width).map λl=>if l∈q then f l else fv x d l)
def L1{x:a_}(W:WF x){d:Nat}(hd:d<8)(f:Nat->Bool):o5 x d f []=x:=by
 unfold o5;simp only[List.not_mem_nil,if_false];rw[L0 (W.mask hd),V4]
def V5{x:a_}(W:WF x){d:Nat}(hd:d<8)(f:Nat->Bool)(q:List Nat)(l:Nat)(hl:l<x.width):ki (o5 x d f q) d l (f l)=o5 x d f (q++[l]):=by
 have Ed:d<x.ms.length:=by rw[W.ms];exact hd
 unfold ki o5;rw[LV,if_pos ⟨rfl,Ed⟩];unfold setMask;simp only[List.set_set];have ev:((cB x.width).map λl=>if l∈q then f l else fv x d l).set l (f l)=(cB x.width).map λj=>if j∈q++[l] then f j else fv x d j:=by
  refine uf false (by simp) λi hi=>?_
  simp only[gV,bq,iy] at hi;rw[o4];simp only[dI,qR hi,P8,P9,bq,iy];by_cases lR:l=i
  ·subst lR;simp[hl]
  ·have vU: ¬i=l:=λz=>lR z.symm;simp[lR,vU]
 rw[ev]
theorem Ee{x:a_}(W:WF x){d:Nat}(hd:d<8)(f:Nat->Bool):∀(r q:List Nat),(∀l∈r,l<x.width)->r.foldl (λy l=>ki y d l (f l)) (o5 x d f q)=o5 x d f (q++r)
 |[],q,_=>by rw[dA];rfl
 |l::r,q,h1=>by
  rw[u6,V5 W hd f q l (h1 l iL),Ee W hd f r (q++[l]) (λj hj=>h1 j (fG _ hj))];simp
def L4{x:a_}(W:WF x){d:Nat}(hd:d<8)(f:Nat->Bool):(cB x.width).foldl (λy l=>ki y d l (f l)) x=maskLanes x d f:=by
 have q:=Ee W hd f (cB x.width) [] (λl h=>qG.mp h);rw[L1 W hd] at q;rw[q];unfold o5 maskLanes
 congr 1
 refine pL λl hl=>?_;rw[sV,if_pos hl]
def V6{x:a_}(W:WF x){d:Nat}(hd:d<8)(m:Option Nat)(f:Nat->Bool):(cU x m).foldl (λy l=>ki y d l (f l)) x=maskLanes x d λl=>if active x m l=true then f l else fv x d l:=by
 have q:=Ee W hd f (cU x m) [] (λl h=>vW h);rw[L1 W hd] at q;rw[q];unfold o5 maskLanes
 congr 1
 refine pL λl hl=>?_;have hw:l<x.width:=qG.mp hl;rw[sV];by_cases h:active x m l=true
 ·rw[if_pos (ug.mpr ⟨hw,h⟩),if_pos h]
 ·rw[if_neg λz=>h (ug.mp z).2,if_neg h]
structure rN(x y:a_)(d:Nat)(q:List Nat):Prop where
 wf:WF y
 w:y.width=x.width
 vs:y.vs=x.vs
 ss:y.ss=x.ss
 ar:y.arrays=x.arrays
 fl:y.faults=x.faults
 on:∀a l,l∉q->fv y a l=fv x a l
def rN.start{x:a_}(W:WF x)(d:Nat):rN x x d []:=⟨W,rfl,rfl,rfl,rfl,rfl,λ_ _ _=>rfl⟩
def rN.step{x y:a_}{d l:Nat}{q:List Nat}(M:rN x y d q)(hd:d<8)(b:Bool):rN x (ki y d l b) d (q++[l]):=
 ⟨M.wf.ki hd l b,M.w,M.vs,M.ss,M.ar,M.fl,λa k hk=>by
   have h1:k∉q:=λz=>hk (by simp[z])
   have h2:l≠k:=λz=>hk (by simp[z])
   rw[VJ,if_neg λz=>h2 z.2.2.1,M.on a k h1]⟩
theorem L5:∀(q:List Nat) (g:Nat->Bool),((q.filter g).length:Int)=(q.map λl=>if g l=true then(1:Int) else 0).sum
 |[],_=>rfl
 |l::q,g=>by
  rw[Jk,i4,vb,<-L5 q g];by_cases h:g l=true
  ·rw[if_pos h,if_pos h,cI];lia
  ·rw[if_neg h,if_neg h];lia
def V7{x:a_}{a:Nat}(h:(maskOf x a).length=x.width):((((cB x.width).filter (fv x a)).length:Nat):Int)=((maskOf x a).map λb=>if b=true then(1:Int) else 0).sum:=by
 rw[L5,<-L0 h,iO];rfl
def great:GREAT=1000000000000000000:=rfl
def ze:Num 0:=⟨by rw[great];decide,by rw[great];decide⟩
def Ef(b:Bool):Num (if b=true then 1 else 0):=by cases b<;>exact⟨by rw[great];decide,by rw[great];decide⟩
def uh{n k:Int}(h:small n=.ok k):k=n/\Num n:=by
 unfold small at h
 split at h
 ·rename_i hg;unfold good at hg;rw[eS,decide_eq_true_eq,decide_eq_true_eq] at hg;exact⟨(bG h).symm,hg⟩
 ·exact eo h
def V8{o:Nat}{a n:Int}(ha:Num a)(h:work1 o a=.ok n):Num n:=by
 obtain⟨h1,h2⟩:=ha;rw[great] at h1 h2;unfold work1 at h
 split at h
 ·obtain rfl:=bG h;exact⟨by rw[great];lia,by rw[great];lia⟩
 ·obtain rfl:=bG h;exact⟨by rw[great];lia,by rw[great];lia⟩
 ·obtain rfl:=bG h;refine⟨?_,?_⟩<;>rw[great]<;>split<;>(try split)<;>decide
 ·split at h
  ·unfold truth at h;obtain rfl:=bG h;exact Ef _
  ·exact eo h
def L8{o:Nat}{a b n:Int}(ha:Num a)(hb:Num b)(h:work2 o a b=.ok n):Num n:=by
 obtain⟨h1,h2⟩:=id ha;obtain⟨h3,h4⟩:=id hb;rw[great] at h1 h2 h3 h4;unfold work2 at h
 split at h
 ·exact(uh h).1▸(uh h).2
 ·exact(uh h).1▸(uh h).2
 ·exact(uh h).1▸(uh h).2
 ·split at h
  ·exact eo h
  ·obtain rfl:=bG h;have q:=Int.natAbs_fdiv_le_natAbs a b;exact⟨by rw[great];lia,by rw[great];lia⟩
 ·split at h
  ·exact eo h
  ·rename_i rO;obtain rfl:=bG h;rw[<-Jl];rcases Int.lt_or_gt_of_ne rO with agg|ui
   ·have e:a.fmod b= -((-a).fmod (-b)):=by
     rw[Jl,Jl,Int.neg_fdiv_neg,Int.neg_mul];lia
    have p1:=Int.fmod_nonneg_of_pos (-a) (b:= -b) (by lia)
    have p2:=Int.fmod_lt_of_pos (-a) (b:= -b) (by lia)
    exact⟨by rw[great];lia,by rw[great];lia⟩
   ·have p1:=Int.fmod_nonneg_of_pos a ui;have p2:=Int.fmod_lt_of_pos a ui;exact⟨by rw[great];lia,by rw[great];lia⟩
 ·obtain rfl:=bG h;split<;>assumption
 ·obtain rfl:=bG h;split<;>assumption
 all_goals first
  |(unfold truth at h;obtain rfl:=bG h;exact Ef _)
  |(split at h
    ·unfold truth at h;obtain rfl:=bG h;exact Ef _
    ·exact eo h)
section
variable{x:a_}
def L9{l:List Int}(h:∀n∈l,Num n)(i:Nat):Num ((l[i]?).getD 0):=by
 cases e:l[i]? with
 |none=>exact ze
 |some n=>exact h n (d7 e)
def Nums.vec(N:Nums x)(k:Nat):∀n∈c9 x k,Num n:=by
 unfold c9;cases e:x.vs[k]? with
 |none=>intro n hn;simp at hn
 |some v=>exact N.vs v (d7 e)
def Nums.iB(N:Nums x)(k l:Nat):Num (bN x k l):=L9 (N.vec k) l
def Nums.scalar(N:Nums x)(k:Nat):Num (dJ x k):=L9 N.ss k
def Nums.array(N:Nums x)(r:Nat):∀n∈dM x r,Num n:=by
 unfold dM;cases e:x.arrays[r]? with
 |none=>intro n hn;simp at hn
 |some v=>exact N.ar v (d7 e)
theorem Nums.setVec(N:Nums x){v:List Int}(h:∀n∈v,Num n)(d:Nat):Nums (setVec x d v):=
 ⟨λu hu=>by
   rcases mem_set hu with q|q
   ·rw[q];exact h
   ·exact N.vs u q,N.ss,N.ar⟩
theorem Nums.gD(N:Nums x)(l:Nat)(e:Fault):Nums (gD x l e):=⟨N.vs,N.ss,N.ar⟩
theorem Nums.setScalar(N:Nums x){n:Int}(h:Num n)(d:Nat):Nums (setScalar x d n):=⟨N.vs,λk hk=>by
 rcases mem_set hk with q|q
 ·rw[q];exact h
 ·exact N.ss k q,N.ar⟩
def Nums.zg(N:Nums x){v:List Int}(h:∀n∈v,Num n)(r:Nat):Nums {x with arrays:=x.arrays.set r v}:=⟨N.vs,N.ss,λu hu=>by
 rcases mem_set hu with q|q
 ·rw[q];exact h
 ·exact N.ar u q⟩
def V9{n:Int}(h:Num n): -1000000000000000000<=n/\n<=1000000000000000000:=h
def Eg{n:Nat}(h:n<=1000000):Num (n:Int):=⟨by rw[great];lia,by rw[great];lia⟩
theorem WF.fresh{w:Nat}(h1:1<=w)(h2:w<=16)(a:List (List Int)):WF (fresh w a):=
 ⟨h1,h2,qL,λv hv=>by rw[(ya.mp hv).2];exact qL,qL,qL,
  λv hv=>by rw[(ya.mp hv).2];exact qL,qL⟩
theorem Nums.fresh(w:Nat){a:List (List Int)}(h:∀v∈a,∀n∈v,Num n):Nums (fresh w a):=
 ⟨λv hv n hn=>by rw[(ya.mp hv).2] at hn;rw[(ya.mp hn).2];exact ze,λn hn=>by rw[(ya.mp hn).2];exact ze,h⟩
end
def lU(x:a_):List Nat:=x.arrays.map jX
def L_(x:a_)(r:Nat)(v:List Int)(h:v.length=(dM x r).length):({x with arrays:=x.arrays.set r v}:a_).arrays.map jX=x.arrays.map jX:=by
 show(x.arrays.set r v).map jX=_;rw[vd,h];unfold dM;have q:=Ec (x.arrays.map jX) r 0;rw[dI] at q;cases e:x.arrays[r]? with
 |none=>rw[af6 (by rw[bq];exact List.getElem?_eq_none_iff.mp e)]
 |some u=>rw[e] at q;exact q
theorem zh(x:a_)(m:Option Nat)(r a b:Nat):∀(q:List Nat) (y:a_),lU (B2 x m r a b q y)=lU y
 |[],y=>rfl
 |l::q,y=>by
  rw[B2];by_cases h:active x m l=true
  ·simp only[h,if_true];by_cases h2:0<=bN x a l/\bN x a l<((dM x r).length:Int)
   ·rw[if_pos h2,zh x m r a b q];exact L_ y r _ gV
   ·rw[if_neg h2,zh x m r a b q];rfl
  ·simp only[h];exact zh x m r a b q y
def zi(f:a_->Nat->Run):Prop:=∀x n y,f x n=.ok y->lU y.1=lU x
theorem L'{f:a_->Nat->Run}(hf:zi f)(d:Nat):∀(k i:Nat),zi (rounds f d k i)
 |0,i=>λx n y h=>by rw[rounds] at h;obtain rfl:=bG h;rfl
 |k+1,i=>λx n y h=>by
  cases n with
  |zero=>rw[rounds] at h;exact eo h
  |succ n=>
   rw[rounds] at h;cases e:f (setScalar x d ((i:Nat):Int)) n with
   |error z=>simp only[e] at h;exact eo h
   |ok z=>
    simp only[e] at h;rw[L' hf d k (i+1) _ _ _ h,hf _ _ _ e];rfl
mutual
theorem V_:∀(i:cw),zi (cx i)
 | .lanes d m=>λx n y h=>by rw[cx] at h;obtain rfl:=bG h;rfl
 | .const d k m=>λx n y h=>by rw[cx] at h;obtain rfl:=bG h;rfl
 | .fill d s m=>λx n y h=>by rw[cx] at h;obtain rfl:=bG h;rfl
 | .copy d a m=>λx n y h=>by rw[cx] at h;obtain rfl:=bG h;rfl
 | .one o d a p m=>λx n y h=>by rw[cx] at h;obtain rfl:=bG h;rfl
 | .two o d a b p m=>λx n y h=>by rw[cx] at h;obtain rfl:=bG h;rfl
 | .read d r a m=>λx n y h=>by rw[cx] at h;obtain rfl:=bG h;rfl
 | .pick d r a p m=>λx n y h=>by rw[cx] at h;obtain rfl:=bG h;rfl
 | .write r a b m=>λx n y h=>by rw[cx] at h;obtain rfl:=bG h;exact zh x m r a b _ x
 | .test d a m=>λx n y h=>by rw[cx] at h;obtain rfl:=bG h;rfl
 | .tail d s=>λx n y h=>by rw[cx] at h;obtain rfl:=bG h;rfl
 | .both d a b=>λx n y h=>by rw[cx] at h;obtain rfl:=bG h;rfl
 | .less d a b=>λx n y h=>by rw[cx] at h;obtain rfl:=bG h;rfl
 | .either d a b=>λx n y h=>by rw[cx] at h;obtain rfl:=bG h;rfl
 | .count d a=>λx n y h=>by rw[cx] at h;obtain rfl:=bG h;rfl
 | .num d k=>λx n y h=>by rw[cx] at h;obtain rfl:=bG h;rfl
 | .width d=>λx n y h=>by rw[cx] at h;obtain rfl:=bG h;rfl
 | .calc o d a b p=>λx n y h=>by
   rw[cx] at h;cases e:work2 o (dJ x a) (dJ x b) with
   |ok k=>simp only[e] at h;obtain rfl:=bG h;rfl
   |error k=>simp only[e] at h;exact eo h
 | .get d v s=>λx n y h=>by
   rw[cx] at h;cases e:sY x s with
   |some k=>simp only[e] at h;obtain rfl:=bG h;rfl
   |none=>simp only[e] at h;exact eo h
 | .put v s t=>λx n y h=>by
   rw[cx] at h;cases e:sY x s with
   |some k=>simp only[e] at h;obtain rfl:=bG h;rfl
   |none=>simp only[e] at h;exact eo h
 | .for_ d c b=>λx n y h=>by
   rw[cx] at h;exact L' (vX b) d _ _ x n y h
 | .when s b c=>λx n y h=>by
   rw[cx] at h;by_cases q:dJ x s≠0
   ·rw[if_pos q] at h;exact vX b x n y h
   ·rw[if_neg q] at h;exact vX c x n y h
 | .raise=>λx n y h=>by
   rw[cx] at h;unfold raised at h
   split at h<;>cases h
   rfl
theorem vX:∀(b:c6),zi (eY b)
 | .nil=>λx n y h=>by rw[eY] at h;obtain rfl:=bG h;rfl
 | .cons i r=>λx n y h=>by
   cases n with
   |zero=>rw[eY] at h;exact eo h
   |succ n=>
    rw[eY] at h;cases e:cx i x n with
    |error z=>simp only[e] at h;exact eo h
    |ok z=>
     simp only[e] at h;rw[vX r _ _ _ h,V_ i _ _ _ e]
end
def V'{c:Code}{w b:Nat}{ar:List (List Int)}{y:a_×Nat}(h:runCode c w ar b=.ok y):lU y.1=ar.map jX:=by
 unfold runCode at h;cases e:eY c.body (fresh w ar) b with
 |error z=>simp only[e] at h;exact eo h
 |ok z=>
  simp only[e] at h;unfold raised at h
  split at h<;>cases h
  exact vX _ _ _ _ e
def zj(f:a_->Nat->Run):Prop:=∀x n y,f x n=.ok y->y.2<=n
theorem Ma{f:a_->Nat->Run}(hf:zj f)(d:Nat):∀(k i:Nat),zj (rounds f d k i)
 |0,i=>λx n y h=>by rw[rounds] at h;obtain rfl:=bG h;exact bz _
 |k+1,i=>λx n y h=>by
  cases n with
  |zero=>rw[rounds] at h;exact eo h
  |succ n=>
   rw[rounds] at h;cases e:f (setScalar x d ((i:Nat):Int)) n with
   |error z=>simp only[e] at h;exact eo h
   |ok z=>
    simp only[e] at h;have a:=Ma hf d k (i+1) _ _ _ h;have b:=hf _ _ _ e
    lia
mutual
theorem Wa:∀(i:cw),zj (cx i)
 | .lanes d m=>λx n y h=>by rw[cx] at h;obtain rfl:=bG h;exact bz _
 | .const d k m=>λx n y h=>by rw[cx] at h;obtain rfl:=bG h;exact bz _
 | .fill d s m=>λx n y h=>by rw[cx] at h;obtain rfl:=bG h;exact bz _
 | .copy d a m=>λx n y h=>by rw[cx] at h;obtain rfl:=bG h;exact bz _
 | .one o d a p m=>λx n y h=>by rw[cx] at h;obtain rfl:=bG h;exact bz _
 | .two o d a b p m=>λx n y h=>by rw[cx] at h;obtain rfl:=bG h;exact bz _
 | .read d r a m=>λx n y h=>by rw[cx] at h;obtain rfl:=bG h;exact bz _
 | .pick d r a p m=>λx n y h=>by rw[cx] at h;obtain rfl:=bG h;exact bz _
 | .write r a b m=>λx n y h=>by rw[cx] at h;obtain rfl:=bG h;exact bz _
 | .test d a m=>λx n y h=>by rw[cx] at h;obtain rfl:=bG h;exact bz _
 | .tail d s=>λx n y h=>by rw[cx] at h;obtain rfl:=bG h;exact bz _
 | .both d a b=>λx n y h=>by rw[cx] at h;obtain rfl:=bG h;exact bz _
 | .less d a b=>λx n y h=>by rw[cx] at h;obtain rfl:=bG h;exact bz _
 | .either d a b=>λx n y h=>by rw[cx] at h;obtain rfl:=bG h;exact bz _
 | .count d a=>λx n y h=>by rw[cx] at h;obtain rfl:=bG h;exact bz _
 | .num d k=>λx n y h=>by rw[cx] at h;obtain rfl:=bG h;exact bz _
 | .width d=>λx n y h=>by rw[cx] at h;obtain rfl:=bG h;exact bz _
 | .calc o d a b p=>λx n y h=>by
   rw[cx] at h;cases e:work2 o (dJ x a) (dJ x b) with
   |ok k=>simp only[e] at h;obtain rfl:=bG h;exact bz _
   |error k=>simp only[e] at h;exact eo h
 | .get d v s=>λx n y h=>by
   rw[cx] at h;cases e:sY x s with
   |some k=>simp only[e] at h;obtain rfl:=bG h;exact bz _
   |none=>simp only[e] at h;exact eo h
 | .put v s t=>λx n y h=>by
   rw[cx] at h;cases e:sY x s with
   |some k=>simp only[e] at h;obtain rfl:=bG h;exact bz _
   |none=>simp only[e] at h;exact eo h
 | .for_ d c b=>λx n y h=>by
   rw[cx] at h;exact Ma (vY b) d _ _ x n y h
 | .when s b c=>λx n y h=>by
   rw[cx] at h;by_cases q:dJ x s≠0
   ·rw[if_pos q] at h;exact vY b x n y h
   ·rw[if_neg q] at h;exact vY c x n y h
 | .raise=>λx n y h=>by
   rw[cx] at h;unfold raised at h
   split at h<;>cases h
   exact bz _
theorem vY:∀(b:c6),zj (eY b)
 | .nil=>λx n y h=>by rw[eY] at h;obtain rfl:=bG h;exact bz _
 | .cons i r=>λx n y h=>by
   cases n with
   |zero=>rw[eY] at h;exact eo h
   |succ n=>
    rw[eY] at h;cases e:cx i x n with
    |error z=>simp only[e] at h;exact eo h
    |ok z=>
     simp only[e] at h;have a:=vY r _ _ _ h;have b:=Wa i _ _ _ e
     lia
end
def Wb{c:Code}{w b:Nat}{ar:List (List Int)}{y:a_×Nat}(h:runCode c w ar b=.ok y):y.2<=b:=by
 unfold runCode at h;cases e:eY c.body (fresh w ar) b with
 |error z=>simp only[e] at h;exact eo h
 |ok z=>
  simp only[e] at h;unfold raised at h
  split at h<;>cases h
  exact vY _ _ _ _ e
end MR
namespace MC
open Vaarrj
def lV{α:Type}{p:Prop}{d:Decidable p}{f:p->α}{g: ¬p->α}{x:α}(a:∀h,f h=x)(b:∀h,g h=x):dite p f g=x:=by
 cases d with
 |isTrue h=>exact a h
 |isFalse h=>exact b h
def Wc(c:List (List Int)):Jm c=c:=by
 match c with
 |[]=>rfl
 |[]::_=>rfl
 |(p::u)::t=>
  delta Jm Jm.match_1
  dsimp only[Jm._sparseCasesOn_1];refine lV (λh=>?_) λ_=>lV (λh=>?_) λ_=>lV (λh=>?_) λ_=>lV (λh=>?_) λ_=>lV (λh=>?_) λ_=>lV (λh=>?_) λ_=>lV (λh=>?_) λ_=>lV (λh=>?_) λ_=>lV (λh=>?_) λ_=>lV (λh=>?_) λ_=>lV (λh=>?_) λ_=>rfl
  all_goals subst h;rcases u with _|⟨_,_|⟨_,_|⟨_,_|_⟩⟩⟩<;>first|rfl|(rcases t with _|⟨_,_|_⟩<;>rfl)
def Mb(cs:List (List (List Int))):cs.map Jm=cs:=by
 induction cs with
 |nil=>rfl
 |cons c r ih=>rw[i4,ih,Wc]
def dR:Nat->Nat
 |3=>1|4=>1|5=>1|6=>1|7=>1|8=>1|9=>1|10=>3|_=>0
def kT:Nat->Bool
 |0=>true|1=>true|4=>true|_=>false
def Wd{p:Int}{x:Nat×Nat}(h:m_ p=some x):∃q:Nat,p=q/\q<=10/\x=(dR q,if kT q=true then 1 else 0):=by
 unfold m_ at h;by_cases e:p=0
 ·rw[if_pos e] at h;obtain rfl:=aZ h;exact⟨0,e,by decide,rfl⟩
 rw[if_neg e] at h;clear e;by_cases e:p=1
 ·rw[if_pos e] at h;obtain rfl:=aZ h;exact⟨1,e,by decide,rfl⟩
 rw[if_neg e] at h;clear e;by_cases e:p=2
 ·rw[if_pos e] at h;obtain rfl:=aZ h;exact⟨2,e,by decide,rfl⟩
 rw[if_neg e] at h;clear e;by_cases e:p=3
 ·rw[if_pos e] at h;obtain rfl:=aZ h;exact⟨3,e,by decide,rfl⟩
 rw[if_neg e] at h;clear e;by_cases e:p=4
 ·rw[if_pos e] at h;obtain rfl:=aZ h;exact⟨4,e,by decide,rfl⟩
 rw[if_neg e] at h;clear e;by_cases e:p=5
 ·rw[if_pos e] at h;obtain rfl:=aZ h;exact⟨5,e,by decide,rfl⟩
 rw[if_neg e] at h;clear e;by_cases e:p=6
 ·rw[if_pos e] at h;obtain rfl:=aZ h;exact⟨6,e,by decide,rfl⟩
 rw[if_neg e] at h;clear e;by_cases e:p=7
 ·rw[if_pos e] at h;obtain rfl:=aZ h;exact⟨7,e,by decide,rfl⟩
 rw[if_neg e] at h;clear e;by_cases e:p=8
 ·rw[if_pos e] at h;obtain rfl:=aZ h;exact⟨8,e,by decide,rfl⟩
 rw[if_neg e] at h;clear e;by_cases e:p=9
 ·rw[if_pos e] at h;obtain rfl:=aZ h;exact⟨9,e,by decide,rfl⟩
 rw[if_neg e] at h;clear e;by_cases e:p=10
 ·rw[if_pos e] at h;obtain rfl:=aZ h;exact⟨10,e,by decide,rfl⟩
 rw[if_neg e] at h;exact ns h
def We{p:Int}{r t:List Int}{c:List (List Int)}(h:Jn m_ (p::r)=some (c,t)):∃q:Nat,p=q/\q<=10/\ ∃nums,nums.length=dR q/\
 ((kT q=false/\r=nums++t/\c=[p::nums])\/(kT q=true/\ ∃row,r=nums++((row.length:Int)::(row++t))/\c=[p::nums,row])):=by
 unfold Jn at h;cases e:m_ p with
 |none=>simp only[e] at h;exact ns h
 |some x=>
  obtain⟨q,hp,hq,rfl⟩:=Wd e;simp only[e] at h;by_cases hl:r.length<dR q
  ·rw[if_pos hl] at h;exact ns h
  rw[if_neg hl] at h;refine⟨q,hp,hq,r.take (dR q),by rw[jY];lia,?_⟩
  cases hr:kT q with
  |false=>
   rw[hr] at h;simp only[Jb,if_false,PyFlat.rows] at h;cases h;exact .inl ⟨rfl,(P' _ _).symm,rfl⟩
  |true=>
   rw[hr] at h;simp only[if_true,PyFlat.rows] at h;cases ed:r.drop (dR q) with
   |nil=>rw[ed] at h;simp only[PyFlat.row] at h;exact ns h
   |cons n u=>
    rw[ed] at h;simp only[PyFlat.row] at h;by_cases hn:0<=n/\n.toNat<=u.length
    ·rw[if_pos hn] at h;cases h;refine .inr ⟨rfl,u.take n.toNat,?_,rfl⟩;rw[jY,show((min n.toNat u.length:Nat):Int)=n by lia,P',<-ed,P']
    ·rw[if_neg hn] at h;exact ns h
def Wf{f:Nat}{p:Int}{r:List Int}{cs:List (List (List Int))}(h:sZ m_ f (p::r)=some cs):∃f' c t o6,Jn m_ (p::r)=some (c,t)/\sZ m_ f' t=some o6/\cs=c::o6:=by
 cases f with
 |zero=>cases h
 |succ f=>
  unfold sZ at h;cases e:Jn m_ (p::r) with
  |none=>simp only[e] at h;exact ns h
  |some x=>
   simp only[e] at h;cases e2:sZ m_ f x.2 with
   |none=>simp only[e2] at h;exact ns h
   |some o6=>simp only[e2] at h;obtain rfl:=aZ h;exact⟨f,x.1,x.2,o6,rfl,e2,rfl⟩
def Wg{f:Nat}{cs:List (List (List Int))}(h:sZ m_ f []=some cs):cs=[]:=by
 cases f<;>(unfold sZ at h;obtain rfl:=aZ h;rfl)
inductive Is:Nat->List Int->List Int->Call->Prop
 |load {row:List Int} {t:aJ}:row=t.map (λ(c:Nat)=>(c:Int))->(∀c∈t,c<256)->t.length<=20000->Is 0 [] row (.load t)
 |where_ {row:List Int} {t:aJ}:row=t.map (λ(c:Nat)=>(c:Int))->(∀c∈t,c<256)->t.length<=20000->Is 1 [] row (.where_ t)
 |plain:Is 2 [] [] .plain
 |width (n:Int): -1000000000000000000<=n/\n<=1000000000000000000->Is 3 [n] [] (.width n)
 |set (n:Int) (d:List Int): -1000000000000000000<=n/\n<=1000000000000000000->(∀k∈d,-1000000000000000000<=k/\k<=1000000000000000000)->d.length<=3000->Is 4 [n] d (.set n d)
 |run (n:Int): -1000000000000000000<=n/\n<=1000000000000000000->Is 5 [n] [] (.run n)
 |array (n:Int): -1000000000000000000<=n/\n<=1000000000000000000->Is 6 [n] [] (.array n)
 |vector (n:Int): -1000000000000000000<=n/\n<=1000000000000000000->Is 7 [n] [] (.vector n)
 |scalar (n:Int): -1000000000000000000<=n/\n<=1000000000000000000->Is 8 [n] [] (.scalar n)
 |mask (n:Int): -1000000000000000000<=n/\n<=1000000000000000000->Is 9 [n] [] (.mask n)
 |map (o n p:Int):(-1000000000000000000<=o/\o<=1000000000000000000)->(-1000000000000000000<=n/\n<=1000000000000000000)->(-1000000000000000000<=p/\p<=1000000000000000000)->Is 10 [o,n,p] [] (.map o n p)
def lW{z:Int}(h:ve z=true): -1000000000000000000<=z/\z<=1000000000000000000:=by
 unfold ve at h;rw[eS,decide_eq_true_iff,decide_eq_true_iff] at h;exact⟨by have:=h.1;lia,by have:=h.2;lia⟩
def Me{a:List Int}(h:((a.all (λ(z:Int)=>af7 z 8))&&decide (a.length<=20000))=true):∃t:aJ,Jo a=some t/\a=t.map (λ(c:Nat)=>(c:Int))/\ (∀c∈t,c<256)/\t.length<=20000:=by
 rw[eS,kH,decide_eq_true_iff] at h;have h8:∀z∈a,0<=z/\z<256:=λz hz=>by
  have:=h.1 z hz;unfold af7 at this;rw[eS,decide_eq_true_iff,decide_eq_true_iff] at this;exact⟨this.1,by have:=this.2;lia⟩
 refine⟨a.map λb=>b.toNat,?_,?_,λc hc=>?_,by rw[bq];exact h.2⟩
 ·unfold Jo;rw[if_pos];unfold NeutralIO.bytes;rw[kH];intro z hz;have:=h8 z hz;simp only[eS,decide_eq_true_iff]
  lia
 ·rw[iO]
  conv=>lhs;rw[<-Jp a]
  refine pL λz hz=>?_;have:=h8 z hz;show z=((z.toNat:Nat):Int)
  lia
 ·obtain⟨z,hz,rfl⟩:=mZ.mp hc;have:=h8 z hz
  lia
def rP{nums:List Int}(h:nums.length=1):∃n,nums=[n]:=by
 match nums,h with
 |[n],_=>exact⟨n,rfl⟩
def Wh{nums:List Int}(h:nums.length=3):∃x y z,nums=[x,y,z]:=by
 match nums,h with
 |[x,y,z],_=>exact⟨x,y,z,rfl⟩
def Mf{q:Nat}{nums row:List Int}(hq:q<=10)(hl:nums.length=dR q)(h:af8 (if kT q=true then[((q:Nat):Int)::nums,row] else[((q:Nat):Int)::nums])=true):
 ∃k,Is q nums (if kT q=true then row else[]) k/\VaarrjNeutral.callOf (if kT q=true then[((q:Nat):Int)::nums,row] else[((q:Nat):Int)::nums])=some k:=by
 match q,hq with
 |0,_=>
  obtain rfl:=Qa.mp hl;obtain⟨t,e1,e2,e3,e4⟩:=Me (a:=row) h;exact⟨.load t,.load e2 e3 e4,by show(Jo row).map Call.load=_;rw[e1];rfl⟩
 |1,_=>
  obtain rfl:=Qa.mp hl;obtain⟨t,e1,e2,e3,e4⟩:=Me (a:=row) h;exact⟨.where_ t,.where_ e2 e3 e4,by show(Jo row).map Call.where_=_;rw[e1];rfl⟩
 |2,_=>
  obtain rfl:=Qa.mp hl;exact⟨_,.plain,rfl⟩
 |3,_=>obtain⟨n,rfl⟩:=rP hl;exact⟨_,.width n (lW h),rfl⟩
 |4,_=>
  obtain⟨n,rfl⟩:=rP hl;have h:(ve n&&(((row.all (λ(z:Int)=>ve z))&&decide (row.length<=3000))))=true:=h;rw[eS,eS,kH,decide_eq_true_iff] at h;exact⟨_,.set n row (lW h.1) (λk hk=>lW (h.2.1 k hk)) h.2.2,rfl⟩
 |5,_=>obtain⟨n,rfl⟩:=rP hl;exact⟨_,.run n (lW h),rfl⟩
 |6,_=>obtain⟨n,rfl⟩:=rP hl;exact⟨_,.array n (lW h),rfl⟩
 |7,_=>obtain⟨n,rfl⟩:=rP hl;exact⟨_,.vector n (lW h),rfl⟩
 |8,_=>obtain⟨n,rfl⟩:=rP hl;exact⟨_,.scalar n (lW h),rfl⟩
 |9,_=>obtain⟨n,rfl⟩:=rP hl;exact⟨_,.mask n (lW h),rfl⟩
 |10,_=>
  obtain⟨x,y,z,rfl⟩:=Wh hl;have h:(ve x&&(ve y&&(ve z)))=true:=h;rw[eS,eS] at h;exact⟨_,.map x y z (lW h.1) (lW h.2.1) (lW h.2.2),rfl⟩
structure Rest(l:List Int)(at_:Nat)(s:State)(done:List Int)(left:Nat):Prop where
 le:at_<=l.length
 ex:∃f cs,sZ m_ f (l.drop at_)=some cs/\cs.all af8=true/\cs.length<=left/\Jq l=done++B3 (Qb qS s cs)
def Wi{l:List Int}(h:Qc l=true):Rest l 0 start [] 40:=by
 unfold Qc at h;unfold PyVaarrj.calls at h;refine⟨eX _,?_⟩;cases e:sZ m_ l.length l with
 |none=>simp only[e] at h;exact ft h
 |some cs=>
  simp only[e] at h;rw[Mb,eS] at h;have h2:=h.2;unfold VaarrjNeutral.asked at h2;rw[eS] at h2;have h1:=h.1;unfold PyFlat.atMost at h1;refine⟨l.length,cs,e,h2.1,by simpa using h1,?_⟩
  unfold Jq PyVaarrj.calls;simp only[e,Mb];rfl
def Wj{l:List Int}{s:State}{done:List Int}{left:Nat}(h:Rest l l.length s done left):Jq l=done:=by
 obtain⟨f,cs,e,_,_,q⟩:=h.ex;rw[BZ] at e;rw[Wg e] at q;rw[q];exact dA _
def Wl{l:List Int}{i:Nat}{s:State}{done:List Int}{left:Nat}(h:Rest l i s done left)(hi:i<l.length):∃(q:Nat) (nums row:List Int) (k:Call) (eO:Nat),left=eO+1/\q<=10/\l[i]? =some (q:Int)/\nums.length=dR q/\Is q nums row k/\nums=(l.drop (i+1)).take (dR q)/\i+1+dR q<=l.length/\
 (kT q=true->l[i+1+dR q]? =some (row.length:Int)/\row=(l.drop (i+1+dR q+1)).take row.length/\i+1+dR q+1+row.length<=l.length)/\ (kT q=false->row=[])/\
 Rest l (if kT q=true then i+1+dR q+1+row.length else i+1+dR q) (step s k).1 (done++(((kJ (step s k).2).length:Int)::kJ (step s k).2)) eO:=by
 obtain⟨f,cs,e,ha,hl,hq⟩:=h.ex;have ed:l.drop i=l[i]::l.drop (i+1):=qP hi;have ei:l[i]? =some l[i]:=eK hi;generalize l[i]=p at ed ei;rw[ed] at e;obtain⟨f',c,t,o6,e1,e2,rfl⟩:=Wf e;obtain⟨q,rfl,zk,nums,hn,alt⟩:=We e1;rw[k_,eS] at ha;rw[cI] at hl;have dl:(l.drop (i+1)).length=l.length-(i+1):=kF;rcases alt with⟨hr,er,rfl⟩|⟨hr,row,er,rfl⟩
 ·obtain⟨k,hk,hc⟩:=Mf (row:=[]) zk hn (by rw[hr];exact ha.1)
  rw[hr] at hk hc;simp only[Jb,if_false] at hk hc;rw[er,bS] at dl;refine⟨q,nums,[],k,left-1,by lia,zk,ei,hn,hk,by rw[er,<-hn,Qe];rfl,by lia,(λz=>by rw[hr] at z;exact ft z),λ_=>rfl,?_⟩
  rw[hr];simp only[Jb,if_false];refine⟨by lia,f',o6,?_,ha.2,by lia,?_⟩
  ·rw[<-Jr,er,<-hn,Qg];exact e2;rfl
  ·rw[hq];show _++B3 ((qS s _).2::Qb qS (qS s _).1 o6)=_;unfold qS;rw[hc];unfold B3;rw[P7,lh]
 ·obtain⟨k,hk,hc⟩:=Mf (row:=row) zk hn (by rw[hr];exact ha.1)
  rw[hr] at hk hc;simp only[if_true] at hk hc;rw[er,bS,cI,bS] at dl;have e3:l.drop (i+1+dR q)=(row.length:Int)::(row++t):=by rw[<-Jr,er,<-hn,Qg];rfl
  have e4:l.drop (i+1+dR q+1)=row++t:=by rw[<-Jr,e3];rfl
  refine⟨q,nums,row,k,left-1,by lia,zk,ei,hn,hk,by rw[er,<-hn,Qe];rfl,by lia,λ_=>⟨?_,by rw[e4,Qe];rfl,by lia⟩,(λz=>by rw[hr] at z;exact tf z),?_⟩
  ·have:=congrArg List.head? e3;rw[List.head?_drop] at this;exact this
  rw[hr];simp only[if_true];refine⟨by lia,f',o6,?_,ha.2,by lia,?_⟩
  ·rw[<-Jr,e4,Qg];exact e2;rfl
  ·rw[hq];show _++B3 ((qS s _).2::Qb qS (qS s _).1 o6)=_;unfold qS;rw[hc];unfold B3;rw[P7,lh]
end MC
namespace MX
open Vaarrj TL
open PySem (Str)
def S(t:aJ):Str:=⟨t.toArray⟩
def kU(t:aJ):tl (S t)=t:=rfl
def Mg(x:Str):S (tl x)=x:=SW x
def lX{t u:aJ}(h:S t=S u):t=u:=by have:=congrArg tl h;exact this
def dG(t u:aJ):S t++S u=S (t++u):=rz (by rw[Dq,kU,kU,kU])
def cM(t:aJ):(S t).length=t.length:=by rw[SV,kU]
def lY(s:String):bU s=S (str s):=rz (by rw[SX,kU];rfl)
theorem Mh:∀(k n:Nat),n<10^k->0<k->x9 k n=rB n
 |0,_,_,h=>absurd h (iK _)
 |k+1,n,h,_=>by
  unfold x9;by_cases hn:n<10
  ·rw[if_pos hn,S0 hn]
  ·rw[if_neg hn,S1 (by lia)]
   have h2:n/10<10^k:=by
    rw[Ji] at h
    lia
   have hk:0<k:=by
    cases k with
    |zero=>simp at h;lia
    |succ k=>exact Nat.succ_pos _
   rw[Mh k (n/10) h2 hk]
def Wm{n:Nat}(h:n<10^40):dec n=rB n:=Mh 40 n h (by decide)
def gq{n:Nat}(h:n<10^40):bU (toString ((n:Nat):Int))=S (dec n):=rz (by rw[SY,kU,Wm h])
def Wn(t:aJ):valueOf t=af9 t:=by
 unfold valueOf af9
 congr 1
 funext n c
 rw[Nat.mul_comm]
end MX
namespace XR
open PySem PySem.W PyProof.Rows
section
variable{prog:bQ}{w:bB}{A:cQ}{E:ai->aq->Prop}{h:aR}{g:Array GenState}{d:Drawn}{t:Nat}{os:OsState}
variable{nm q:Str}{C N:ae}{bs bm:List ai}{hdct:Bool}{sn:List Str}{sub:List ai}{ab:Bool}{col:Option Bool}{dd:Option ae}{k0 k1 k2 k3 k5:Option ai}{B newId Wo:String}
abbrev Wq(C:ae)(t:ae):Obj:={cls:=.ref C,data:=.fields #[.ref t,.none,.none,.none,.bool false,.none]}
abbrev Wr(rest:List ai):Obj:={cls:=.type "tuple",data:=.seq rest.toArray}
def Ws(F:ExcBaseFacts B newId Wo bm){mN:Str->Option ai}{rest:List ai}{f:ae}{K:Frag}{R:Result->aq->Prop}(X:K.In h)
 (hC:h.get? C=some (ng nm q C N bs bm hdct sn sub ab col dd k0 k1 k2 k3 k5 newId)) (hn:h.Ns N mN) (Wt:mN "__init__"=some (.ref f)) (hf:typeIn K (.ref f)=some (.type "function")) (Wu:rest.length<=sizeLine)
 (hq:pH (model prog w) (A.under (.builtin "type.__call__" ⟨.ref C::rest,[]⟩)) (.call (.ref f) ⟨.ref (h.objs.size+1)::rest,[]⟩) (InitBack (h.objs.size+1) R) ⟨(h.push (Wr rest)).push (Wq C h.objs.size),g,d,t,os⟩):
 pH (model prog w) A (.call (.ref C) ⟨rest,[]⟩) R ⟨h,g,d,t,os⟩:=by
 have f1:=tc_lookup;have f2:=tc_bind (.ref C);have hT:(⟨h,g,d,t,os⟩:aq).TypeIs (.ref C) "type":=⟨_,hC,rfl⟩;refine codeAny_of_tree ?_;show aU _ _ (callAny (.ref C) _) _ _ _
 repeat (any_goals (first|assumption|with_reducible refine pN hC ?_|wp_step))
 refine⟨rfl,?_⟩;refine codeAny_call_builtin_at (Code.quiet_builtin _ (by decide+kernel)) entry_typeCall (wpAny_check_type_call_sub hC ?_)
 repeat (first|with_reducible refine pN hC ?_|with_reducible refine wpAny_madeBy_exc hC ?_|wp_step)
 refine codeAny_call_builtin_code (Code.quiet_builtin _ F.quiet) (wpAny_check_new_sub F hC ?_);refine codeAny_exc_new_sub F hC ?_ Wu;show aU _ _ _ _ _ (⟨(h.push {cls:=.type "tuple",data:=.seq rest.toArray}).push {cls:=.ref C,data:=.fields #[.ref h.objs.size,.none,.none,.none,.bool false,.none]},g,d,t,os⟩:aq);have k:∀b o,h.get? b=some o->((h.push {cls:=.type "tuple",data:=.seq rest.toArray}).push {cls:=.ref C,data:=.fields #[.ref h.objs.size,.none,.none,.none,.bool false,.none]}).get? b=some o:=λb o e=>eR _ (eR _ e);have hC₁:=k _ _ hC;have hn₁:((h.push {cls:=.type "tuple",data:=.seq rest.toArray}).push {cls:=.ref C,data:=.fields #[.ref h.objs.size,.none,.none,.none,.bool false,.none]}).Ns N mN:=
  let ⟨o,es,ep,e,r⟩:=hn;⟨o,es,ep,k _ _ e,r⟩
 have Wv:((h.push {cls:=.type "tuple",data:=.seq rest.toArray}).push {cls:=.ref C,data:=.fields #[.ref h.objs.size,.none,.none,.none,.bool false,.none]}).get? (h.objs.size+1)=some {cls:=.ref C,data:=.fields #[.ref h.objs.size,.none,.none,.none,.bool false,.none]}:=by heap_get
 have Ww:(di C::bm).contains (.ref C)=true:=by simp
 have X₁:K.In ((h.push {cls:=.type "tuple",data:=.seq rest.toArray}).push {cls:=.ref C,data:=.fields #[.ref h.objs.size,.none,.none,.none,.bool false,.none]}):=λb o e=>k b o (X b o e);unfold isInstance
 repeat (first|with_reducible refine pN Wv ?_|(with_reducible refine Qh hC₁ ?_;rw[Ww])|wp_step)
 show aU _ _ (qM (.ref C) _) _ _ _;refine yb hC₁ hn₁ F.mroIs F.init.lookup ?_;rw[Wt];refine IL (cg ((bind_fn X₁ (.ref (h.objs.size+1)) hf).here ?_));refine cg (BR (xT hq λr s' z=>?_));rcases r with e|(v|_|_|_)<;>first|exact z|exact z.elim|skip
 obtain⟨rfl,z⟩:=z
 repeat (first|exact z|wp_step)
end
section
variable{prog:bQ}{w:bB}{A:cQ}{E:ai->aq->Prop}{h:aR}{g:Array GenState}{d:Drawn}{t:Nat}{os:OsState}{a dx:ae}{o:Obj}{vs:Array ai}
variable{nm q:Str}{C N:ae}{bs bm:List ai}{sn:List Str}{sub:List ai}{ab:Bool}{col:Option Bool}{dd:Option ae}{k0 k1 k2 k3 k5:Option ai}{B newId:String}{mN mD:Str->Option ai}
def Wx{M:Model}{Mj:ai}{Q:Unit->aq->Prop}(FB:ExcAttrBase B bm)(hC:h.get? C=some (ng nm q C N bs bm true sn sub ab col dd k0 k1 k2 k3 k5 newId))
 (hx:h.get? a=some o) (hc:o.cls=.ref C) (hq:Q () ⟨h,g,d,t,os⟩):aU M A (checkBuiltinCall "BaseException.__getattribute__" ⟨[.ref a,Mj],[]⟩) Q E ⟨h,g,d,t,os⟩:=by
 have hk:builtinKind "BaseException.__getattribute__"=some .slot:=by decide+kernel
 have Wy:splitId "BaseException.__getattribute__"=some ("BaseException","__getattribute__"):=by decide+kernel
 have Eh:(di C::bm).contains (.type "BaseException")=true:=by rw[P5,FB.hasBase];rfl
 have ha:=F.args_bexc_ga (.ref a) Mj;simp only[checkBuiltinCall,hk,Wy];refine cg ?_
 ·unfold isInstance
  repeat (first|(with_reducible refine pN hx ?_;rw[hc])|(with_reducible refine Qh hC ?_;rw[Eh])|wp_step)
  exact hq
def Wz{jO:Str}{tk:Tok}{v:ai}{Q:Fin->aq->Prop}(FB:ExcAttrBase B bm)(hC:h.get? C=some (ng nm q C N bs bm true sn sub ab col dd k0 k1 k2 k3 k5 newId))(hN:h.Ns N mN)
 (hL:qM (.type B) jO=pure none) (vZ:mN jO=none) (hx:h.get? a=some o) (hc:o.cls=.ref C) (hd:o.data=.fields vs) (jr:o.dict=some dx) (hD:h.Ns dx mD) (hv:mD jO=some v) (hq:Q (.done (.ret v)) ⟨h,g,d,t,os⟩):
 aU (model prog w) A (Builtin.«object.__getattribute__» ⟨[.ref a,.str jO tk],[]⟩) Q E ⟨h,g,d,t,os⟩:=by
 repeat (any_goals (first|assumption|(with_reducible refine pN hx ?_;first|rw[hc]|rw[hd])|(with_reducible refine yb hC hN FB.mro hL ?_;rw[vZ])|wp_step))
 rw[jr]
 repeat (any_goals (first|assumption|(with_reducible refine wpAny_nsGet hD ?_;rw[hv])|wp_step))
def WA{jO:Str}{tk:Tok}{v:ai}{R:Result->aq->Prop}(FB:ExcAttrBase B bm)(hC:h.get? C=some (ng nm q C N bs bm true sn sub ab col dd k0 k1 k2 k3 k5 newId))(hN:h.Ns N mN)
 (hL:qM (.type B) jO=pure none) (vZ:mN jO=none) (hx:h.get? a=some o) (hc:o.cls=.ref C) (hd:o.data=.fields vs) (jr:o.dict=some dx) (hD:h.Ns dx mD) (hv:mD jO=some v) (hq:R (.ok (.ret v)) ⟨h,g,d,t,os⟩):
 pH (model prog w) A (.call (.builtin "BaseException.__getattribute__") ⟨[.ref a,.str jO tk],[]⟩) R ⟨h,g,d,t,os⟩:=
 codeAny_call_builtin FB.ga.plain F.entry_bexc_ga (Wx FB hC hx hc (Wz FB hC hN hL vZ hx hc hd jr hD hv hq))
def WB{jO:Str}{i:Int}{ti:Tok}{expr:Bool}{Q:ai->aq->Prop}(FB:ExcAttrBase B bm)(hC:h.get? C=some (ng nm q C N bs bm true sn sub ab col dd k0 k1 k2 k3 k5 newId))(hN:h.Ns N mN)
 (WC:mN "__getattribute__"=none/\mN "__getattr__"=none)
 (hL:qM (.type B) jO=pure none) (vZ:mN jO=none) (hx:h.get? a=some o) (hc:o.cls=.ref C) (hd:o.data=.fields vs) (jr:o.dict=some dx) (hD:h.Ns dx mD) (hv:mD jO=some (.int i ti)) (hq:Q (.int i ti) ⟨h,g,d,t+1,os⟩):
 aU (model prog w) A (getAttr (.ref a) jO expr) Q E ⟨h,g,d,t,os⟩:=by
 obtain⟨Ei,zl⟩:=WC;have f3:=FB.ga.bind (.ref a);have hx0:(expr&&onTheHeap (B4 "BaseException.__getattribute__"))=false:=by cases expr<;>rfl
 have WD:(B4 "BaseException.__getattribute__"==B4 "object.__getattribute__")=false:=by decide+kernel
 have hx1:(onTheHeap (di C)&&B4 "BaseException.__getattribute__"==B4 "object.__getattribute__")=false:=by rw[WD];rfl
 unfold getAttr
 repeat (any_goals (first|assumption|(with_reducible refine pN hx ?_;rw[hc])|(with_reducible refine yb hC hN FB.mro FB.ga.lookup ?_;rw[Ei])|(with_reducible refine yb hC hN FB.mro FB.noGetattr ?_;rw[zl])|wp_step))
 refine WA FB hC hN hL vZ hx hc hd jr hD hv ?_
 repeat (any_goals (first|assumption|wp_step))
end
section
variable{M:Model}{A:cQ}{E:ai->aq->Prop}{env:Env}
variable{nm q:Str}{C N:ae}{bs bm:List ai}{hdct:Bool}{sn:List Str}{sub:List ai}{ab:Bool}{col:Option Bool}{dd:Option ae}{k0 k1 k2 k3 k5:Option ai}{newId:String}
def WE{s:aq}{x:Sem ai}{Q:Flow->aq->Prop}(jn:bm.contains (.type "BaseException")=true)(hh:A.handled=none)
 (h:aU M A x (λv s₁=>∃e t dx,v=.ref e/\s₁.heap.get? C=some (ng nm q C N bs bm hdct sn sub ab col dd k0 k1 k2 k3 k5 newId)/\
   s₁.heap.get? e=some {cls:=.ref C,dict:=dx,data:=.fields #[.ref t,.none,.none,.none,.bool false,.none]}/\E (.ref e) s₁) E s):
 aU M A (raiseStmt env (some x) none) Q E s:=by
 have Eh:(di C::bm).contains (.type "BaseException")=true:=by rw[P5,jn,Bool.or_true]
 unfold raiseStmt;refine cg (fN h (λv s₁ h₁=>?_) λ_ _ x=>x);obtain⟨e,t,dx,rfl,hC,he,hE⟩:=h₁;obtain⟨hp,g,d,tk,os⟩:=s₁
 repeat (first|with_reducible refine pN he ?_|with_reducible refine pN hC ?_|(with_reducible refine Qh hC ?_;rw[Eh])|wp_step)
 exact wpAny_raiseNew_none hh hE
end
def fV(lo:Nat)(x T:ae)(cls:ai)(dx:Option ae)(fl:ai)(h:aR):Prop:=
 ∃oe vs oT ts,h.get? x=some oe/\oe.cls=cls/\oe.dict=dx/\oe.data=.fields vs/\vs[1]? =some (.ref T)/\T≠x/\h.get? T=some oT/\oT.data=.fields ts/\ts[3]? =some fl/\lo<=x/\lo<=T
structure gu(l:List Env)(x T:ae)(h h':aR):Prop where
 keep:∀b o,h.get? b=some o->b≠x->b≠T->b∉l.filterMap (·.frame)->h'.get? b=some o
 slot:∀b o,h.get? b=some o->b≠x->b≠T->∃sl,h'.get? b=some {o with slots:=sl}
section
variable{M:Model}{A:cQ}{E:ai->aq->Prop}{s:aq}
def Ml{base:aR}{env:Env}{outer:List Env}{L e:ae}{oe:Obj}{vs:Array ai}{head:ai}{WG:Bool}{lo:Nat}{Q:Unit->aq->Prop}
 (hG:A.frames=some (env::outer)) (hl:s.heap.FunFrames base (env::outer)) (hf:env.frame=some L)
 (he:s.heap.get? e=some oe) (hd:oe.data=.fields vs) (hsz:1<vs.size) (lZ:lo<=e)
 (h:∀h' T,s.heap.objs.size<=T->fV lo e T oe.cls oe.dict (gG L) h'->gu (env::outer) e e s.heap h'->Q () {s with heap:=h'}):
 aU M A (do let a <-frameOf env;let pl <-entryPlaceOf L WG;let b <-aga head a .none (gG L) .none pl;setField (.ref e) 1 b) Q E s:=by
 have WH:e∉(env::outer).filterMap (·.frame):=λhm=>by
  obtain⟨_,o,ho,o7⟩:=hl.mem hm;rw[he] at ho;injection ho with ho;subst ho;exact o7 vs hd
 refine cg (wpAny_frameOf_fun hG hl hf λh₁ hs₁=>?_);refine cg (wpAny_entryPlaceOf λpl dF=>?_);unfold aga newFields;refine cg (wpAny_newObj_type ?_ (dF.sizeOk5 _ _ _ _ _));have he₁:h₁.get? e=some oe:=(hs₁.2.1 e WH).trans he;have he₂:=eR (h:=h₁) {cls:=.type "traceback",dict:=none,data:=.fields ([head,.ref L,.none,gG L,.none]++(if pl.isEmpty then cZ 6 i0 else pl)).toArray} he₁
 have Mn:h₁.objs.size=s.heap.objs.size:=hs₁.1;have l8:h₁.objs.size≠e:=IM (cY he₁);have WJ:e<s.heap.objs.size:=cY he;refine Js he₂ hd hsz (h _ h₁.objs.size (BO Mn.symm) ?_ ?_)
 ·have hd₃:=B5 hd (·.setIfInBounds 1 (di h₁.objs.size));have he₃:=BX (yc (·.setIfInBounds 1 (di h₁.objs.size))) he₂ (Qi hd₃);have hT₃:=(uZ (h₁.push {cls:=.type "traceback",dict:=none,data:=.fields ([head,.ref L,.none,gG L,.none]++(if pl.isEmpty then cZ 6 i0 else pl)).toArray})
   (yc (·.setIfInBounds 1 (di h₁.objs.size))) (Ne.symm l8)).trans (iM h₁ rfl)
  exact⟨_,_,_,_,he₃,Obj.cls_mapFields _ _,by obtain⟨c,dd,dt,sl⟩:=oe;obtain rfl:dt=.fields vs:=hd;rfl,hd₃,by simp[hsz],l8,hT₃,rfl,by first|(simp;done)|(rcases dF with rfl|⟨_,_,_,_,_,_,_,rfl⟩<;>simp),lZ,by rw[Mn];exact xR (BY lZ WJ)⟩
 ·have keep:∀b o,b≠e->h₁.get? b=some o->
   ((h₁.push {cls:=.type "traceback",dict:=none,data:=.fields ([head,.ref L,.none,gG L,.none]++(if pl.isEmpty then cZ 6 i0 else pl)).toArray}).update e (yc (·.setIfInBounds 1 (di h₁.objs.size)))).get? b=some o:=
   λb o j9 hb=>by
    rw[uZ _ _ (Ne.symm j9)];exact eR _ hb
  refine⟨λb o hb j9 _ o7=>keep b o j9 ((hs₁.2.1 b o7).trans hb),λb o hb j9 _=>?_⟩;obtain⟨sl,hs⟩:=hs₁.2.2 b o hb;exact⟨sl,keep b _ j9 hs⟩
def rQ{lo:Nat}{x T:ae}{cls:ai}{dx:Option ae}{fl:ai}{Q:Unit->aq->Prop}(hf:fV lo x T cls dx fl s.heap)
 (h:∀h',fV lo x T cls dx .none h'->gu [] x T s.heap h'->Q () {s with heap:=h'}):aU M A (yd (.ref x) none) Q E s:=by
 obtain⟨oe,vs,oT,ts,he,hc,jr,hd,h1,l8,hT,kj,h3,l1,l2⟩:=hf;have rR:3<ts.size:=(Array.getElem?_eq_some_iff.mp h3).1;have other:∀b,b≠T->(s.heap.update T (yc (·.setIfInBounds 3 ((none:Option ae).elim i0 λf=>gG f)))).get? b=s.heap.get? b:=
  λb hb=>uZ _ _ (Ne.symm hb)
 unfold yd;refine cg (s_ he hd h1 ?_);rw[if_pos (show(di T !=i0)=true from by simp)]
 refine Js hT kj rR (h _ ?_ ?_)
 ·exact⟨oe,vs,_,_,(other x (Ne.symm l8)).trans he,hc,jr,hd,h1,l8,BX _ hT (Qi (B5 kj _)),B5 kj _,by simp[rR],l1,l2⟩
 ·exact⟨λb o hb _ l9 _=>(other b l9).trans hb,λb o hb _ l9=>⟨o.slots,(other b l9).trans hb⟩⟩
def Mo{base:aR}{env:Env}{outer:List Env}{L e t:ae}{cls:ai}{dx:Option ae}{lo:Nat}{Q:Unit->aq->Prop}
 (hG:A.frames=some (env::outer)) (hl:s.heap.FunFrames base (env::outer)) (hf:env.frame=some L)
 (he:s.heap.get? e=some {cls:=cls,dict:=dx,data:=.fields #[.ref t,.none,.none,.none,.bool false,.none]}) (lZ:lo<=e) (Mp:lo<=s.heap.objs.size)
 (h:∀h' T,s.heap.objs.size<=T->fV lo e T cls dx (gG L) h'->gu (env::outer) e e s.heap h'->Q () {s with heap:=h'}):aU M A (u9 (.ref e) env) Q E s:=by
 unfold u9;simp only[hf];refine cg (s_ he rfl (x:=.none) rfl ?_);rw[if_neg (by decide)]
 exact Ml (oe:={cls:=cls,dict:=dx,data:=.fields #[.ref t,.none,.none,.none,.bool false,.none]}) hG hl hf he rfl (by simp) lZ h
def zm{base:aR}{env:Env}{outer:List Env}{L x T:ae}{cls:ai}{dx:Option ae}{lo:Nat}{Q:Unit->aq->Prop}
 (hG:A.frames=some (env::outer)) (hl:s.heap.FunFrames base (env::outer)) (hf:env.frame=some L) (o8:fV lo x T cls dx .none s.heap)
 (h:∀h' T',s.heap.objs.size<=T'->fV lo x T' cls dx (gG L) h'->gu (env::outer) x T s.heap h'->Q () {s with heap:=h'}):aU M A (u9 (.ref x) env) Q E s:=by
 obtain⟨oe,vs,oT,ts,he,hc,jr,hd,h1,l8,hT,kj,h3,l1,l2⟩:=o8;subst hc jr;have rR:3<ts.size:=(Array.getElem?_eq_some_iff.mp h3).1;unfold u9;simp only[hf];refine cg (s_ he hd h1 ?_);rw[if_pos (show(di T !=i0)=true from by simp)]
 refine cg (s_ hT kj h3 ?_);rw[if_neg (show¬((i0==gG L)=true) from by simp[gG])]
 refine cg (Js hT kj rR ?_);have other:∀b,b≠T->(s.heap.update T (yc (·.setIfInBounds 3 i0))).get? b=s.heap.get? b:=λb hb=>uZ _ _ (Ne.symm hb);have WK:∀b o,s.heap.get? b=some o->(∀vs,o.data≠ .fields vs)->b≠T:=λb o hb o7 q=>by
  rw[q,hT] at hb;injection hb with hb;subst hb;exact o7 ts kj
 refine Ml hG (hl.of_keeps λb o hb o7=>⟨o,(other b (WK b o hb o7)).trans hb,rfl⟩) hf ((other x (Ne.symm l8)).trans he) hd (Array.getElem?_eq_some_iff.mp h1).1 l1
  λh' T' iC fl ⟨k1,k2⟩=>h h' T' (by simpa[aR.update] using iC) fl ⟨λb o hb v_ l9 o7=>k1 b o ((other b l9).trans hb) v_ v_ o7,λb o hb v_ l9=>k2 b o ((other b l9).trans hb) v_ v_⟩
def gu.trans{l l':List Env}{x T T':ae}{h h' tZ:aR}(a:gu l x T h h')(b:gu l' x T' h' tZ)(hs:∀b∈l'.filterMap (·.frame),b∈l.filterMap (·.frame))(hT:∀b o,h.get? b=some o->b≠T'):gu l x T h tZ:=
 ⟨λc o q h1 h2 h3=>b.keep c o (a.keep c o q h1 h2 h3) h1 (hT c o q) (λz=>h3 (hs c z)),λc o q h1 h2=>by
   obtain⟨sl,e1⟩:=a.slot c o q h1 h2;obtain⟨tJ,e2⟩:=b.slot c _ e1 h1 (hT c o q);exact⟨tJ,e2⟩⟩
def Mq{base:aR}{env:Env}{outer:List Env}{L x T:ae}{cls:ai}{dx:Option ae}{lo:Nat}{Q:Unit->aq->Prop}
 (hG:A.frames=some (env::outer)) (hl:s.heap.FunFrames base (env::outer)) (hf:env.frame=some L) (o8:fV lo x T cls dx .none s.heap)
 (h:∀h' T',s.heap.objs.size<=T'->fV lo x T' cls dx .none h'->gu (env::outer) x T s.heap h'->Q () {s with heap:=h'}):aU M A (leaving env (.ref x)) Q E s:=by
 unfold leaving;refine cg (zm hG hl hf o8 λh1 T' iC f1 k1=>?_);refine rQ (s:={s with heap:=h1}) f1 λh2 f2 k2=>h h2 T' iC f2 (k1.trans k2 (λb z=>nomatch z) λb o q z=>?_)
 exact absurd (eC (cY q) (by rw[z];exact iC)) (iK _)
def WL{base:aR}{env:Env}{outer:List Env}{L e t:ae}{cls:ai}{dx:Option ae}{lo:Nat}{Q:Unit->aq->Prop}
 (hG:A.frames=some (env::outer)) (hl:s.heap.FunFrames base (env::outer)) (hf:env.frame=some L)
 (he:s.heap.get? e=some {cls:=cls,dict:=dx,data:=.fields #[.ref t,.none,.none,.none,.bool false,.none]}) (lZ:lo<=e) (Mp:lo<=s.heap.objs.size)
 (h:∀h' T',s.heap.objs.size<=T'->fV lo e T' cls dx .none h'->gu (env::outer) e e s.heap h'->Q () {s with heap:=h'}):aU M A (leaving env (.ref e)) Q E s:=by
 unfold leaving;refine cg (Mo hG hl hf he lZ Mp λh1 T' iC f1 k1=>?_);refine rQ (s:={s with heap:=h1}) f1 λh2 f2 k2=>h h2 T' iC f2 (k1.trans k2 (λb z=>nomatch z) λb o q z=>?_)
 exact absurd (eC (cY q) (by rw[z];exact iC)) (iK _)
end
section
variable{prog:bQ}{w:bB}{A:cQ}{E:ai->aq->Prop}{s:aq}{env:Env}
variable{nm q:Str}{C N:ae}{bs bm:List ai}{hdct:Bool}{sn:List Str}{sub:List ai}{ab:Bool}{col:Option Bool}{dd:Option ae}{k0 k1 k2 k3 k5:Option ai}{newId:String}
def WM{e:ae}{t:bj}{b₀:cD}{l_:List cD}{pos:Pos}{rest:List ExceptHandler}{Q:Flow->aq->Prop}(jn:bm.contains (.type "BaseException")=true)
 (h:aU (model prog w) (A.mark (some (.ref e))) (eval t env) (λc s₁=>c=.ref C/\s₁.heap.get? C=some (ng nm q C N bs bm hdct sn sub ab col dd k0 k1 k2 k3 k5 newId)/\ (∃oe,s₁.heap.get? e=some oe/\oe.cls=.ref C)/\
   aU (model prog w) (A.mark (some (.ref e))) (yd (.ref e) none) (λ_ s₂=>aU (model prog w) (A.mark (some (.ref e))) (execs (b₀::l_) env) Q (λ_ _=>False) s₂) (λ_ _=>False) s₁) (λ_ _=>False) s):
 aU (model prog w) A (handleBy (.ref e) env (.ExceptHandler (some t) none (b₀::l_) pos::rest)) Q E s:=by
 refine wpAny_handleBy_cons (codeAny_handlers_test (fN h (λc s₁ h₁=>?_) λ_ _ x=>x.elim)) (by intro q;cases q)
 obtain⟨rfl,hC,⟨oe,he,hc⟩,hk⟩:=h₁;obtain⟨hp,g,d,tk,os⟩:=s₁;refine wpAny_excMatches_sub_self hC he hc jn ?_;refine codeAny_handlers_suite (fN hk (λ_ s₂ h₂=>?_) λ_ _ x=>x.elim);exact fN h₂ (λ_ _ x=>x) λ_ _ x=>x.elim
def WN{e:ae}{t:bj}{n:Str}{b₀:cD}{l_:List cD}{pos:Pos}{rest:List ExceptHandler}{Q:Flow->aq->Prop}(jn:bm.contains (.type "BaseException")=true)
 (h:aU (model prog w) (A.mark (some (.ref e))) (eval t env) (λc s₁=>c=.ref C/\s₁.heap.get? C=some (ng nm q C N bs bm hdct sn sub ab col dd k0 k1 k2 k3 k5 newId)/\ (∃oe,s₁.heap.get? e=some oe/\oe.cls=.ref C)/\
   aU (model prog w) (A.mark (some (.ref e))) (yd (.ref e) none) (λ_ s₂=>
    aU (model prog w) (A.mark (some (.ref e))) (storeName env n (.ref e)) (λ_ s₃=>
     aU (model prog w) (A.mark (some (.ref e))) (execs (b₀::l_) env)
      (λf s₄=>aU (model prog w) A (do bindName env n .none;unbindBehindTheSuite env n pos) (λ_ s₅=>Q f s₅) E s₄) (λ_ _=>False) s₃) (λ_ _=>False) s₂) (λ_ _=>False) s₁) (λ_ _=>False) s):
 aU (model prog w) A (handleBy (.ref e) env (.ExceptHandler (some t) (some n) (b₀::l_) pos::rest)) Q E s:=by
 refine wpAny_handleBy_cons (codeAny_handlers_test (fN h (λc s₁ h₁=>?_) λ_ _ x=>x.elim)) (by intro q;cases q)
 obtain⟨rfl,hC,⟨oe,he,hc⟩,hk⟩:=h₁;obtain⟨hp,g,d,tk,os⟩:=s₁;refine wpAny_excMatches_sub_self hC he hc jn ?_;refine codeAny_handlers_suite_as (fN hk (λ_ s₂ h₂=>?_) λ_ _ x=>x.elim);refine fN h₂ (λ_ s₃ h₃=>?_) λ_ _ x=>x.elim;exact fN h₃ (λ_ _ x=>x) λ_ _ x=>x.elim
end
open Builtin Builtin.ObjectAttr
section
variable{prog:bQ}{w:bB}{A:cQ}{E:ai->aq->Prop}{h:aR}{g:Array GenState}{d:Drawn}{t:Nat}{os:OsState}
variable{nm q:Str}{C N x t0:ae}{bs bm:List ai}{sn:List Str}{sub:List ai}{ab:Bool}{col:Option Bool}{dd:Option ae}{k0 k1 k2 k3 k5:Option ai}{B newId sa owner:String}
 {mN:Str->Option ai} {name:Str} {v:ai}
abbrev xo(C:ae)(dx:Option ae)(t0:ae):Obj:={cls:=.ref C,dict:=dx,data:=.fields #[.ref t0,.none,.none,.none,.bool false,.none]}
abbrev uj(h:aR)(x:ae):aR:=(h.push {cls:=.type "dict",data:=.dict #[]}).update x λo=>{cls:=o.cls,dict:=some h.objs.size,data:=o.data,slots:=o.slots}
def WO{tk:Tok}{Q:Fin->aq->Prop}(SF:StoreFacts B bm sa owner)
 (hC:h.get? C=some (ng nm q C N bs bm true sn sub ab col dd k0 k1 k2 k3 k5 newId)) (hn:h.Ns N mN) (Ej:mN name=none)
 (hB:qM (.type B) name=pure none) (hx:h.get? x=some (xo C none t0))
 (hq:∀h' kl,h'.Ns1 h.objs.size (λy=>if y=name then some v else none)->xS h.objs.size (uj h x) h'->Q (.done (.ret .none)) ⟨h',g,d,kl,os⟩):
 aU (model prog w) A (Builtin.«object.__setattr__» ⟨[.ref x,.str name tk,v],[]⟩) Q E ⟨h,g,d,t,os⟩:=by
 obtain⟨o,ho⟩:∃o,o=xo C none t0:=⟨_,rfl⟩;rw[<-ho] at hx;have hc:o.cls=.ref C:=by rw[ho]
 have WQ:o.dict=none:=by rw[ho]
 have WR:∀c,o.data≠ .cls c:=λc z=>by rw[ho] at z;cases z
 have WS:=SF.passes (.ref x);unfold Builtin.«object.__setattr__»
 repeat (first|rw[refuse_eq]|(rw[refuseLoop_ref,WS])|(with_reducible refine pN hx ?_;rw[hc])|with_reducible refine wpAny_mroOf_exc hC ?_|(with_reducible refine yb hC hn SF.mro hB ?_;rw[Ej])|wp_step)
 rw[WQ,if_neg (by simp[typeHasDict])]
 split
 ·rename_i fz;exact ns fz
 split
 ·rename_i c fz;exact absurd fz (WR c)
 have hx₁:(h.push {cls:=.type "dict",data:=.dict #[]}).get? x=some o:=eR _ hx;have uk:x≠h.objs.size:=iu (cY hx);refine cg (wpAny_alloc' ?_);refine cg (wpAny_update' hx₁ ?_);refine gc ?_;have WT:(uj h x).get? h.objs.size=some {cls:=.type "dict",data:=.dict #[]}:=
  (aR.get?_update_ne _ _ _ _ uk.symm).trans (aR.get?_push_at rfl rfl)
 have zb:(uj h x).Ns h.objs.size (λ_=>none):=⟨_,#[],_,WT,rfl,λe he=>absurd he (by simp),λ_=>rfl⟩
 show aU _ _ (storeInDict h.objs.size (.str name tk) name v) _ _ _;unfold storeInDict newKeyGuard;refine cg (gc (cg (wpAny_nsSet1 (PK zb) λh' qY hs=>?_)));obtain⟨oD,Rw,Rx,CD,CF,CG⟩:=qY.count (Within.cons name v Within.nil);refine cg (wpAny_lookBehind CD (by rw[CF];exact pastItsLine_dict (dy CG (by rw[cI,eN,aP];lia))) ?_)
 wp_walk
 exact hq h' _ qY hs
def WU{Q:Unit->aq->Prop}(SF:StoreFacts B bm sa owner)
 (hC:h.get? C=some (ng nm q C N bs bm true sn sub ab col dd k0 k1 k2 k3 k5 newId)) (hn:h.Ns N mN) (zo:mN "__setattr__"=none) (Ej:mN name=none)
 (hB:qM (.type B) name=pure none) (hx:h.get? x=some (xo C none t0))
 (hq:∀h' kl,h'.Ns1 h.objs.size (λy=>if y=name then some v else none)->xS h.objs.size (uj h x) h'->Q () ⟨h',g,d,kl,os⟩):
 aU (model prog w) A (setAttr (.ref x) name v) Q E ⟨h,g,d,t,os⟩:=by
 have f3:=SF.slot.bind (.ref x);have hc:(xo C none t0).cls=.ref C:=rfl;unfold setAttr callSpecial? specialOf
 repeat (any_goals (first|assumption|(with_reducible refine pN hx ?_;rw[hc])|(with_reducible refine yb hC hn SF.mro SF.slot.lookup ?_;rw[zo])|wp_step))
 refine codeAny_call_builtin SF.slot.plain SF.entry (wpAny_check_sa SF hC hx hc (WO SF hC hn Ej hB hx λh' kl I' hk=>?_))
 repeat (any_goals (first|assumption|wp_step))
 exact hq h' kl I' hk
end
end XR
namespace L2
open PySem PySem.Spec PyProof.Rows
open XR (fV gu)
def km(C x:ae):HO:=.ext λh=>∃t,h.get? x=some {cls:=.ref C,data:=.fields #[.ref t,.none,.none,.none,.bool false,.none]}
def gE(C x d:ae):HO:=.ext λh=>∃t,h.get? x=some {cls:=.ref C,dict:=some d,data:=.fields #[.ref t,.none,.none,.none,.bool false,.none]}
def qm(C x d:ae):HO:=.ext λh=>∃o vs,h.get? x=some o/\o.cls=.ref C/\o.dict=some d/\o.data=.fields vs
def fK(d:ae)(fs:List (Str×V)):HO:=.ext λh=>∃mA,h.Ns1 d mA/\ (∀f,gx (fs.lookup f) (mA f))/\xQ mA (fs.map (·.1))
section
variable{P:bQ}{w:bB}{H:Hp}{h:aR}{C x d:ae}{fs:List (Str×V)}
def WV{t:ae}(e:h.get? x=some {cls:=.ref C,data:=.fields #[.ref t,.none,.none,.none,.bool false,.none]}):df P w H h x (km C x):=
 ⟨⟨t,e⟩,⟨_,e⟩,λ_ _ ⟨t,e⟩ k=>⟨t,k _ e⟩⟩
def WW{t:ae}(e:h.get? x=some {cls:=.ref C,dict:=some d,data:=.fields #[.ref t,.none,.none,.none,.bool false,.none]}):df P w H h x (gE C x d):=
 ⟨⟨t,e⟩,⟨_,e⟩,λ_ _ ⟨t,e⟩ k=>⟨t,k _ e⟩⟩
def WX{o:Obj}{vs:Array ai}(e:h.get? x=some o)(hc:o.cls=.ref C)(hd:o.dict=some d)(hf:o.data=.fields vs):df P w H h x (qm C x d):=
 ⟨⟨o,vs,e,hc,hd,hf⟩,⟨_,e⟩,λ_ _ ⟨o,vs,e,r⟩ k=>⟨o,vs,k _ e,r⟩⟩
def Ek{mA:Str->Option ai}(hn:h.Ns1 d mA)(r:∀f,gx (fs.lookup f) (mA f))(wi:xQ mA (fs.map (·.1))):df P w H h d (fK d fs):=
 ⟨⟨mA,hn,r,wi⟩,let ⟨o,_,_,e,_⟩:=hn;⟨o,e⟩,λ_ _ ⟨mA,hn,r⟩ k=>⟨mA,hn.at k,r⟩⟩
end
def del(H:Hp)(x:ae):Hp:=λb=>if b=x then none else H b
def qo{H:Hp}{x:ae}:del H x x=none:=by unfold del;rw[if_pos rfl]
def js{H:Hp}{x b:ae}(h:b≠x):del H x b=H b:=by unfold del;rw[if_neg h]
def WY{H:Hp}{x b:ae}{o:HO}(h:del H x b=some o):b≠x/\H b=some o:=by
 by_cases e:b=x
 ·rw[e,qo] at h;exact ns h
 ·rw[js e] at h;exact⟨e,h⟩
theorem c_.del{P:bQ}{w:bB}{H:Hp}{h:aR}{x:ae}{φ:aR->Prop}(ok:c_ P w H h)(hx:H x=some (.ext φ)):c_ P w (del H x) h:=λb u q=>by
 obtain⟨hb,q⟩:=WY q;refine(ok b u q).ny (λ_ _ _ e=>e) (λc r=>?_) λc xs r=>?_
 ·rw[js (λe=>by rw[e,hx] at r;cases r)];exact r
 ·rw[js (λe=>by rw[e,hx] at r;cases r)];exact r
def _root_.XR.fV.mono{lo Ms:Nat}{x T:ae}{cls:ai}{dx:Option ae}{fl:ai}{h:aR}(f:fV lo x T cls dx fl h)(hl:Ms<=lo):fV Ms x T cls dx fl h:=by
 obtain⟨oe,vs,oT,ts,a1,a2,a3,a4,a5,a6,a7,a8,a9,l1,l2⟩:=f;exact⟨oe,vs,oT,ts,a1,a2,a3,a4,a5,a6,a7,a8,a9,dy hl l1,dy hl l2⟩
def _root_.XR.fV.lx{lo:Nat}{x T:ae}{cls:ai}{dx:Option ae}{fl:ai}{h:aR}(f:fV lo x T cls dx fl h):lo<=x:=let ⟨_,_,_,_,_,_,_,_,_,_,_,_,_,l,_⟩:=f;l
def _root_.XR.fV.lT{lo:Nat}{x T:ae}{cls:ai}{dx:Option ae}{fl:ai}{h:aR}(f:fV lo x T cls dx fl h):lo<=T:=let ⟨_,_,_,_,_,_,_,_,_,_,_,_,_,_,l⟩:=f;l
def bf(P:bQ)(w:bB):jG:=λouter H s E e s'=>∃(x T:ae) (cls:ai) (dx:Option ae) (H':Hp),e=.ref x/\s'.os=s.os/\sN s'.gens/\Un (jA outer) [] H H' s.heap s'.heap/\c_ P w H' s'.heap/\
 fV s.heap.objs.size x T cls dx .none s'.heap/\H' x=none/\H' T=none/\E cls dx H'
section
variable{X:Cx}{pins:List (ae×Obj)}{σ:St}{H H':Hp}{s:aq}{h':aR}
def Inv.leave{x T:ae}{base:aR}(I:Inv X pins σ H s)(d9:X.stack=X.env::X.outer/\X.env.frame=some X.env.locals)(hex:X.ex=[])(k:gu X.stack x T s.heap h')(lx:X.dC.heap.objs.size<=x)(lT:X.dC.heap.objs.size<=T):
 Un X.fs [] X.tG H X.dC.heap h':=by
 have nx:X.dC.heap.get? x=none:=Py lx;have nT:X.dC.heap.get? T=none:=Py lT;have wa:∀b,b∉X.ex:=λb=>by rw[hex];simp
 have fr:X.stack.filterMap (·.frame)=X.env.locals::X.fs:=by rw[d9.1,IJ,d9.2];rfl
 have pV:∀b o,X.dC.heap.get? b=some o->b≠X.env.locals:=λb o e=>iu (eC (cY e) I.ok.above);have um:∀b o,X.dC.heap.get? b=some o->b≠x/\b≠T:=λb o e=>⟨λz=>(by rw[z,nx] at e;exact ns e),λz=>(by rw[z,nT] at e;exact ns e)⟩
 refine⟨λb o e n hb _=>?_,λb o e n hb _=>?_,λb o e n _=>I.base.free b o e n (wa b),λb o e _=>?_,I.base.jy,I.base.jg,I.base.jz⟩
 ·refine k.keep b o (I.base.keep b o e n hb (wa b)) (um b o e).1 (um b o e).2 λz=>?_;rw[fr] at z;rcases cC.mp z with z|z
  ·exact pV b o e z
  ·exact hb z
 ·obtain⟨sl,e1⟩:=I.base.slot b o e n hb (wa b);obtain⟨tJ,e2⟩:=k.slot b _ e1 (um b o e).1 (um b o e).2;exact⟨tJ,e2⟩
 ·obtain⟨o',e1⟩:=I.base.there b o e (wa b);obtain⟨tJ,e2⟩:=k.slot b _ e1 (um b o e).1 (um b o e).2;exact⟨_,e2⟩
def c_.kn{P:bQ}{w:bB}{x T:ae}{l:List Env}(ok:c_ P w H s.heap)(k:gu l x T s.heap h')(hx:H x=none)(hT:H T=none)(hl:∀b∈jA l,H b=none):c_ P w H h':=λb u q=>by
 have ne:∀c v,H c=some v->c≠x/\c≠T/\c∉l.filterMap (·.frame):=λc v e=>⟨λz=>(by rw[z,hx] at e;exact ns e),λz=>(by rw[z,hT] at e;exact ns e),λz=>(by rw[hl c z] at e;exact ns e)⟩
 refine(ok b u q).ny (λc v hc e=>?_) (λ_ r=>r) λ_ _ r=>r;have nc:c≠x/\c≠T/\c∉l.filterMap (·.frame):=by
  rcases hc with z|z
  ·rw[z];exact ne b u q
  ·exact ne c _ z
 exact k.keep c v e nc.1 nc.2.1 nc.2.2
end
theorem Un.del{fs ex:List ae}{H H':Hp}{h h':aR}{x:ae}{φ:aR->Prop}(u:Un fs ex H H' h h')(hx:H' x=some (.ext φ)):Un fs ex H (del H' x) h h' where
 keep:=u.keep
 slot:=u.slot
 free:=λb o e n he=>by
  by_cases z:b=x
  ·rw[z];exact qo
  ·rw[js z];exact u.free b o e n he
 there:=u.there
 jy:=λb xs e=>by rw[js λz=>by have:=u.jy b xs e;rw[z,hx] at this;cases this];exact u.jy b xs e
 jg:=λb o v e=>by rw[js λz=>by have:=u.jg b o v e;rw[z,hx] at this;cases this];exact u.jg b o v e
 jz:=λb ps e=>by
  obtain⟨m,q⟩:=u.jz b ps e;exact⟨m,by rw[js λz=>by rw[z,hx] at q;cases q];exact q⟩
section
variable{P:bQ}{w:bB}{K:aI}{mg:Str->Option ai}{base:aR}{N:List Str}{qual:Str}{scope:d6}{f:ae}{cd:ai}{A:cQ}{outer:List Env}{s0:aq}{H0:Hp}{E:XK}
def cS:Passes (bf P w) (i_ (bf P w) P w K mg base N qual scope f cd A outer s0 H0 E) E:=by
 intro pins σ H s e s' I h;obtain⟨x,T,cls,dx,H',rfl,os,bare,un,aQ,fg,hx,hT,q⟩:=h;have I':Inv (i_ (bf P w) P w K mg base N qual scope f cd A outer s0 H0 E) pins σ H' s':=I.vn (ch:=[]) os un aQ bare (λb z=>nomatch z);have fg:=fg.mono (show s0.heap.objs.size<=s.heap.objs.size from I.sz);have lx:=fg.lx;have lT:=fg.lT;refine XR.Mq (base:=base) I'.ok.frames I'.stack rfl fg λtZ T' iC kq k=>?_;exact⟨x,T',cls,dx,H',rfl,I'.os,I'.bare,I'.leave (base:=base) ⟨rfl,rfl⟩ rfl k lx lT,aQ.kn k hx hT I'.pU,kq,hx,I'.aQ.fresh iC,q⟩
end
def Lets(X:Cx)(E:XK):Prop:=∀(pins:List (ae×Obj)) (σ:St) (H:Hp) (s:aq) (x C d:ae),Inv X pins σ H s->H x=some (gE C x d)->X.dC.heap.objs.size<=x->E (.ref C) (some d) (del H x)->X.xe (.ref x) s
section
variable{P:bQ}{w:bB}{K:aI}{mg:Str->Option ai}{base:aR}{N:List Str}{qual:Str}{scope:d6}{f:ae}{cd:ai}{A:cQ}{outer:List Env}{s0:aq}{H0:Hp}{E:XK}
def rS:Lets (i_ (bf P w) P w K mg base N qual scope f cd A outer s0 H0 E) E:=by
 intro pins σ H s x C d I hx lx q;obtain⟨⟨t,ex⟩,_⟩:df P w H s.heap x (gE C x d):=I.aQ x _ hx;refine XR.WL (base:=base) I.ok.frames I.stack rfl ex (lo:=s0.heap.objs.size) lx I.sz λtZ T' iC kq k=>?_;have hf:∀b∈jA (envOfC qual scope s0.heap.objs.size f cd::outer),del H x b=none:=λb hb=>by
  by_cases z:b=x
  ·rw[z];exact qo
  ·rw[js z];exact I.pU b hb
 have hT:T'≠x:=λz=>absurd (eC (cY ex) (by rw[<-z];exact iC)) (iK _)
 exact⟨x,T',.ref C,some d,del H x,rfl,I.os,I.bare,(I.leave (base:=base) ⟨rfl,rfl⟩ rfl k lx lx).del hx,c_.kn (I.aQ.del hx) k qo qo hf,kq,qo,by rw[js hT];exact I.aQ.fresh iC,q⟩
end
abbrev wb:List ai:=[.type "Exception",.type "BaseException",.type "object"]
structure jc(K:aI)(C N f:ae):Prop where
 cls:∃nm q bs sn sub ab col dd k0 k1 k2 k3 k5,K.lookup C=some (ng nm q C N bs wb true sn sub ab col dd k0 k1 k2 k3 k5 "Exception.__new__")
 ok:PySem.W.nsOkIn K N=true
 init:ly K N "__init__"=some (some (.ref f))
 fn:uY K (.ref f)=true
 kp:iN K (.ref C)=true
 sa:ly K N "__setattr__"=some none
 ga:ly K N "__getattribute__"=some none
 gh:ly K N "__getattr__"=some none
structure me(K:aI)(N:ae)(n:Str):Prop where
 own:ly K N n=some none
 base:qM (.type "Exception") n=pure none
def WZ{K:aI}{h:aR}{N:ae}{mN:Str->Option ai}{n:Str}{v:ai}(X:K.In h)(G:h.Ns N mN)(e:ly K N n=some (some v)):mN n=some v:=by
 obtain⟨o,es,ep,ho,hd,_,hf⟩:=G;unfold ly at e
 split at e
 ·rename_i c d yt n' sl q;have:=X _ _ q;rw[ho] at this;obtain rfl:=aZ this;cases hd
  split at e
  ·rename_i y he;rw[<-hf];unfold nsFind findBy;rw[<-Array.find?_toList,he];exact aZ e
  ·split at e<;>cases e
 ·exact ns e
def jc.ns{K:aI}{C N f:ae}{h:aR}(T:jc K C N f)(X:K.In h):h.Ns N (h.nsMap N):=.of_isNs (PySem.W.isNs_of_in X T.ok)
section
variable{X:Cx}{CX:jG}{k:Nat}{C N f:ae}{fd:dP}{ps:List Str}{sp:Sp}{E:XK}{x:Str}{p pos dW:Pos}{e:bj}{es:List bj}{t:TA}
abbrev El(us:List ai):Obj:={cls:=.type "tuple",data:=.seq us.toArray}
abbrev excOf(C t:ae):Obj:={cls:=.ref C,data:=.fields #[.ref t,.none,.none,.none,.bool false,.none]}
def W8{pins:List (ae×Obj)}{σ:St}{H:Hp}{s:aq}{Q:VK}{us:List ai}{vs:List V}(M:jc X.K C N f)(F:aB X.prog X.w X.K X.mg X.base CX k f fd ps sp)(hr:dE (k+1) X.A)(hb:Binds X.K fd ps [])
 (hx:Passes CX X E) (hex:X.ex=[]) (I:Inv X pins σ H s) (r:Vals vs us) (hz:us.length<=sizeLine)
 (h:∀x,H x=none->sp (.ref x::vs) (upd H x (km C x)) (λv H2=>v=.aM/\Q (.ref x) H2) E):
 aU (model X.prog X.w) X.A (call (.ref C) us) (EP X pins σ λv H2=>Q v H2/\ ∃x,v=.ref x/\X.dC.heap.objs.size<=x) X.xe s:=by
 have nw:X.dC.heap.objs.size<=s.heap.objs.size+1:=dy I.sz (BS _);have hq:=h (s.heap.objs.size+1) (I.aQ.fresh (BS _));have e2:((s.heap.push (El us)).push (excOf C s.heap.objs.size)).get? (s.heap.objs.size+1)=some (excOf C s.heap.objs.size):=by
  have:=iM (s.heap.push (El us)) (o:=excOf C s.heap.objs.size) rfl
  rwa [kZ] at this
 have I2:Inv X pins σ (upd H (s.heap.objs.size+1) (km C (s.heap.objs.size+1))) {s with heap:=(s.heap.push (El us)).push (excOf C s.heap.objs.size)}:=
  I.laid (t':=s.toks) (λb u q=>eR _ (eR _ q)) (BS _) (WV e2)
 have r2:Vals (V.ref (s.heap.objs.size+1)::vs) (di (s.heap.objs.size+1)::us):=.cons rfl r;have hl:(di (s.heap.objs.size+1)::us++[]).length=ps.length:=by
  have e:=r2.length;rw[F.len _ _ _ _ hq] at e;rw[dA];exact e.symm
 have bd:=hb _ (di (s.heap.objs.size+1)::us) I2.dm hl;rw[dA] at bd;obtain⟨nm,q,bs,sn,sub,ab,col,dd,k0,k1,k2,k3,k5,lk⟩:=M.cls;have step:=F.run _ X.stack _ _ ⟨di (s.heap.objs.size+1)::us,[]⟩ (di (s.heap.objs.size+1)::us) _ _ E (hr.make C us []) (I2.yL.make C us []) bd r2 hq;obtain⟨hh,g,d,tk,os⟩:=s;refine BR (XR.Ws (K:=X.K) PySem.F.excBase_Exception I.dm (I.dm _ _ lk) (M.ns I.dm) (WZ I.dm (M.ns I.dm) M.init) (beq_iff_eq.mp M.fn) hz (xT step λr s' jH=>?_));cases r with
 |error e=>exact hx pins σ _ _ e s' I2 jH
 |ok fl=>
  cases fl with
  |ret u=>
   obtain⟨v,H',I3,rv,ev,q3⟩:=I2.after jH;subst ev;exact⟨rv,⟨V.ref (hh.objs.size+1),H',I3,rfl,q3,_,rfl,nw⟩⟩
  |next=>exact gw jH
  |brk=>exact gw jH
  |cont=>exact gw jH
def W9(C:ae)(sp:Sp)(E:XK)(t:TA):TS:=λ_ σ H=>t σ H λvs H1=>vs.length<=sizeLine/\ ∀x,H1 x=none->sp (.ref x::vs) (upd H1 x (km C x)) (λv H2=>v=.aM/\ ∃x' d,V.ref x=.ref x'/\H2 x'=some (gE C x' d)/\E (.ref C) (some d) (del H2 x')) E0
def rT(M:jc X.K C N f)(F:aB X.prog X.w X.K X.mg X.base au k f fd ps sp)(hr:dE (k+1) X.A)(hb:Binds X.K fd ps [])(hc:X.calm=true)(hex:X.ex=[])(hL:Lets X E)(hg:Gl X x)(hm:X.mg x=some (.ref C))
 (ha:PA X (e::es) t) (g9:(x==("__debug__":Str))=false:=by decide) (he:cG (e::es) X.env=(false,eval e X.env)::cG es X.env:=by rfl) (dF:(f_ dW (cG es X.env)).any (·.1)=false:=by rfl)
 (hv:(evalOpt (some (.Call (.Name x p) (e::es) [] dW)) X.env)=some (eval (.Call (.Name x p) (e::es) [] dW) X.env):=by rfl) (hn:evalOpt none X.env=none:=by rfl):
 PS X (.Raise (some (.Call (.Name x p) (e::es) [] dW)) none pos) (W9 C sp E t):=by
 intro pins s σ H D I h;obtain⟨nm,q,bs,sn,sub,ab,col,dd,k0,k1,k2,k3,k5,lk⟩:=M.cls;rw[arm_exec_Raise,hv,hn];refine cg (BJ (XR.WE (C:=C) (nm:=nm) (q:=q) (N:=N) (bs:=bs) (bm:=wb) (hdct:=true) (sn:=sn) (sub:=sub) (ab:=ab) (col:=col) (dd:=dd) (k0:=k0) (k1:=k1) (k2:=k2) (k3:=k3) (k5:=k5) (newId:="Exception.__new__") (by decide+kernel) (I.ok.hd hc) ?_))
 refine cg ?_;refine qK (qZ I hg hm ?_ g9);refine xU (h₀:=X.base) I.ok.mod.dB M.kp (aX (ha dW pins s σ H _ I h) λus s1 ⟨vs,H1,I1,r,hz,q⟩=>⟨I1.dm,?_⟩) he dF;refine aX (W8 (Q:=λv H2=>∃x d,v=.ref x/\H2 x=some (gE C x d)/\E (.ref C) (some d) (del H2 x)) (E:=E0) M F hr hb aW hex I1 r (by show us.length<=sizeLine;rw[<-r.length];exact hz) λx n1=>q x n1) λu s2 ⟨v,H2,I2,rv,⟨x,d,ev,hx,q2⟩,x',W_,nx⟩=>?_
 ·subst ev;obtain rfl:x=x':=by injection W_
  obtain rfl:u=di x:=rv;obtain⟨⟨t0,ex⟩,_⟩:df X.prog X.w H2 s2.heap x (gE C x d):=I2.aQ x _ hx;refine cg (BJ (gc ⟨x,t0,some d,rfl,I2.dm _ _ lk,ex,?_⟩));exact hL pins σ H2 s2 x C d I2 hx nx q2
end
section
variable{X:Cx}{pins:List (ae×Obj)}{σ:St}{H:Hp}{s:aq}{A:cQ}{E:ai->aq->Prop}{C N fi x d:ae}{f:Str}{y:V}{u:ai}{fs:List (Str×V)}
def Xa(f:Str)(u:ai):xQ (λy=>if y=f then some u else none) [f]:=λg hg=>by
 by_cases q:g=f
 ·rw[q];exact oC.mpr rfl
 ·exact absurd (show(if g=f then some u else none)=none by rw[if_neg q]) hg
def Xb{Q:Unit->aq->Prop}(I:Inv X pins σ H s)(T:jc X.K C N fi)(e:H x=some (km C x))(n:me X.K N f)(ry:b7 y u)
 (h:∀d s',H d=none->d≠x->Inv X pins σ (upd (upd H d (fK d [(f,y)])) x (gE C x d)) s'->Q () s'):aU (model X.prog X.w) A (setAttr (.ref x) f u) Q E s:=by
 obtain⟨⟨t0,ex⟩,_⟩:df X.prog X.w H s.heap x (km C x):=I.aQ x _ e;obtain⟨nm,q,bs,sn,sub,ab,col,dd,k0,k1,k2,k3,k5,lk⟩:=T.cls;have dB:=I.dm;have hN:=T.ns dB;obtain⟨hh,g,dr,tk,os⟩:=s;refine XR.WU (t0:=t0) agb (dB _ _ lk) hN (vg dB hN T.sa) (vg dB hN n.own) n.base ex λh' kl hn sb=>?_;have uk:x≠hh.objs.size:=iu (cY ex);have Em:H hh.objs.size=none:=I.aQ.fresh (bz _);refine h hh.objs.size _ Em uk.symm ?_;have e1:(hh.push jW).get? hh.objs.size=some jW:=iM hh rfl;have n1:(hh.push jW).Ns hh.objs.size (λ_=>none):=⟨jW,#[],_,e1,rfl,(λe he=>absurd he (by simp)),λ_=>rfl⟩
 have I1:Inv X pins σ (upd H hh.objs.size (fK hh.objs.size [])) ⟨hh.push jW,g,dr,kl,os⟩:=
  I.laid (t':=kl) (λb u q=>eR _ q) (bz _) (Ek (PK n1) (λ_=>True.intro) λy hy=>absurd rfl hy)
 have zp:(hh.push jW).get? x=some (XR.xo C none t0):=eR _ ex;have wc:(XR.uj hh x).get? x=some (XR.xo C (some hh.objs.size) t0):=BX _ zp rfl;have I2:Inv X pins σ (upd (upd H hh.objs.size (fK hh.objs.size [])) x (gE C x hh.objs.size)) ⟨XR.uj hh x,g,dr,kl,os⟩:=by
  refine I1.write (t':=kl) (x:=x) (e:=x) (by rw[ak uk,e];exact True.intro) (.inl rfl) (λb u hb q=>(aR.get?_update_ne _ _ _ _ hb).trans q) ⟨_,wc⟩ (WW wc)
 have I3:=I2.write (t':=kl) (h':=h') (x:=hh.objs.size) (e:=hh.objs.size) (o:=fK hh.objs.size [(f,y)]) (by rw[ak uk.symm,aA];exact True.intro) (.inl rfl) (λb u hb q=>(sb.2 b hb).trans q) (let ⟨o,_,_,e,_⟩:=hn;⟨o,e⟩)
  (Ek hn (λg=>by
    show gx (oA g [(f,y)]) (if g=f then some u else none)
    by_cases q:g=f
    ·subst q;rw[if_pos rfl];simp[oA];exact ry
    ·rw[if_neg q];simp[oA,q,show(g==f)=false by simpa using q];exact True.intro) (Xa f u))
 have e3:upd (upd (upd H hh.objs.size (fK hh.objs.size [])) x (gE C x hh.objs.size)) hh.objs.size (fK hh.objs.size [(f,y)])=upd (upd H hh.objs.size (fK hh.objs.size [(f,y)])) x (gE C x hh.objs.size):=by
  funext b
  unfold upd;by_cases h1:b=hh.objs.size
  ·rw[if_pos h1,if_neg (λz=>uk.symm (h1.symm.trans z)),if_pos h1]
  ·rw[if_neg h1,if_neg h1,if_neg h1]
 rw[e3] at I3;exact I3
def Xc{Q:Unit->aq->Prop}(I:Inv X pins σ H s)(T:jc X.K C N fi)(e:H x=some (gE C x d))(ed:H d=some (fK d fs))(n:me X.K N f)(hl:fs.length<1000)(ry:b7 y u)
 (h:∀s',Inv X pins σ (upd H d (fK d (az f y fs))) s'->Q () s'):aU (model X.prog X.w) A (setAttr (.ref x) f u) Q E s:=by
 obtain⟨⟨t0,ex⟩,_⟩:df X.prog X.w H s.heap x (gE C x d):=I.aQ x _ e;obtain⟨⟨mA,hn,r,wi⟩,_⟩:df X.prog X.w H s.heap d (fK d fs):=I.aQ d _ ed;obtain⟨nm,q,bs,sn,sub,ab,col,dd,k0,k1,k2,k3,k5,lk⟩:=T.cls;have dB:=I.dm;have hN:=T.ns dB;have jr:d≠x:=λz=>by
  subst z;obtain⟨o,es,ep,e1,e2,_⟩:=hn;rw[ex] at e1;obtain rfl:=aZ e1;cases e2
 have Xd:x≠C:=λz=>by
  subst z;have:=dB _ _ lk;rw[ex] at this;cases this
 have hz:(fs.map (·.1)).length<=sizeLine:=by rw[bq,aP];lia
 obtain⟨hh,g,dr,tk,os⟩:=s;refine store_attr agb (dB _ _ lk) hN (vg dB hN T.sa) (vg dB hN n.own) n.base Xd (mA:=mA) ⟨_,ex,rfl,(λc z=>by cases z),.inr ⟨d,rfl,jr,hn⟩⟩ (λh' kl I' kk ox=>?_) wi hz
 obtain⟨o1,zp,c1,c2,c3,c4⟩:=ox _ ex;have e1:o1=XR.xo C (some d) t0:=by
  obtain⟨a1,a2,a3,a4⟩:=o1;have b1:a1=.ref C:=c1;have b2:a3=.fields #[.ref t0,.none,.none,.none,.bool false,.none]:=c2;have b3:a4= #[]:=c3;have b4:a2=some d:=c4 d rfl;subst b1 b2 b3 b4;rfl
 obtain⟨o2,wc,_,_,q2⟩:=I';have qY:h'.Ns1 d (λy=>if y=f then some u else mA y):=by
  rcases q2 with⟨_,z⟩|⟨d',tH,_,z⟩
  ·have z1:(if f=f then some u else mA f)=none:=z f
   rw[if_pos rfl] at z1;cases z1
  ·rw[zp] at wc;obtain rfl:=aZ wc;rw[e1] at tH;have:d=d':=aZ tH;subst this;exact z
 refine h _ (I.write (t':=kl) (x:=d) (e:=d) (by rw[ed];exact True.intro) (.inl rfl) (λb v hb q=>?_) (let ⟨o,_,_,e,_⟩:=qY;⟨o,e⟩) (Ek qY (λg=>?_) λg hg=>?_))
 ·by_cases z:b=x
  ·subst z;rw[ex] at q;obtain rfl:=aZ q;rw[zp,e1]
  ·refine kk b v z (λo₀ dx h0 h1=>?_) q;rw[ex] at h0;obtain rfl:=aZ h0;have:d=dx:=aZ h1;rw[<-this];exact hb
 ·show gx ((az f y fs).lookup g) (if g=f then some u else mA g)
  rw[CH];by_cases q:g=f
  ·rw[if_pos q,if_pos q];exact ry
  ·rw[if_neg q,if_neg q];exact r g
 ·by_cases q:g=f
  ·rw[q];exact(vv f y fs).1
  ·refine(vv f y fs).2 g (wi g λz=>hg ?_);show(if g=f then some u else mA g)=none
   rw[if_neg q];exact z
end
section
variable{X:Cx}{o e value:bj}{f:Str}{pos pos':Pos}{ta tv:TE}{C N fi:ae}
inductive Xe(C:ae)(f:Str)(D:Ends)(σ:L2.St)(y:V)(v:V)(H2:Hp):Prop
 |mk (x:_) (_:v=.ref x) (_:H2 x=some (km C x)) (_:∀d,H2 d=none->d≠x->D.nx σ (upd (upd H2 d (fK d [(f,y)])) x (gE C x d)))
def Xf(C:ae)(ta tv:TE)(f:Str):TS:=λD σ H=>tv σ H λy H1=>ta σ H1 λv H2=>Xe C f D σ y v H2
def Mt(T:jc X.K C N fi)(n:me X.K N f)(ha:PE X o ta)(hv:PE X value tv)(hs:qI value (some (.Attribute o f pos')) pos.line X.env=pure false):PS X (.Assign [.Attribute o f pos'] value pos) (Xf C ta tv f):=by
 intro pins s σ H D I h;refine PL (aX (hv pins s σ H _ I h) λu s1 ⟨y,H1,I1,ry,q⟩=>aX (ha pins s1 σ H1 _ I1 q) λov s2 ⟨v,H2,I2,rx,x,ex,ea,q2⟩=>?_) hs;subst ex;obtain rfl:ov=di x:=rx;exact Xb I2 T ea n ry λd s3 h1 h2 I3=>⟨σ,_,I3,q2 d h1 h2⟩
inductive Xg(C:ae)(f:Str)(D:Ends)(σ:L2.St)(y:V)(v:V)(H2:Hp):Prop
 |mk (x d fs:_) (_:v=.ref x) (_:H2 x=some (gE C x d)) (_:H2 d=some (fK d fs)) (_:fs.length<1000) (_:D.nx σ (upd H2 d (fK d (az f y fs))))
def Xh(C:ae)(ta tv:TE)(f:Str):TS:=λD σ H=>tv σ H λy H1=>ta σ H1 λv H2=>Xg C f D σ y v H2
def Xi(T:jc X.K C N fi)(n:me X.K N f)(ha:PE X o ta)(hv:PE X value tv)(hs:qI value (some (.Attribute o f pos')) pos.line X.env=pure false):PS X (.Assign [.Attribute o f pos'] value pos) (Xh C ta tv f):=by
 intro pins s σ H D I h;refine PL (aX (hv pins s σ H _ I h) λu s1 ⟨y,H1,I1,ry,q⟩=>aX (ha pins s1 σ H1 _ I1 q) λov s2 ⟨v,H2,I2,rx,x,d,fs,ex,ea,ed,hl,q2⟩=>?_) hs;subst ex;obtain rfl:ov=di x:=rx;exact Xc I2 T ea ed n hl ry λs3 I3=>⟨σ,_,I3,q2⟩
inductive Xj(C:ae)(f:Str)(Q:VK)(v:V)(H1:Hp):Prop
 |mk (x d fs i:_) (_:v=.ref x) (_:H1 x=some (qm C x d)) (_:H1 d=some (fK d fs)) (_:fs.lookup f=some (.int i)) (_:Q (.int i) H1)
def Xk(C:ae)(ta:TE)(f:Str):TE:=λσ H Q=>ta σ H λv H1=>Xj C f Q v H1
def Eo(T:jc X.K C N fi)(n:me X.K N f)(he:PE X e ta)(hb:oB e f X.env (eval e X.env)=eval e X.env):PE X (.Attribute e f pos) (Xk C ta f):=by
 intro pins s σ H Q I h;refine Kb hb (aX (he pins s σ H _ I h) λu s1 ⟨v,H1,I1,rx,x,d,fs,i,ev,ex,ed,l,q⟩=>?_);subst ev;obtain rfl:u=di x:=rx;obtain⟨⟨ob,vs,hx,hc,hd,hf⟩,_⟩:df X.prog X.w H1 s1.heap x (qm C x d):=I1.aQ x _ ex;obtain⟨⟨mA,hn,r,wi⟩,_⟩:df X.prog X.w H1 s1.heap d (fK d fs):=I1.aQ d _ ed;obtain⟨nm,q',bs,sn,sub,ab,col,dd,k0,k1,k2,k3,k5,lk⟩:=T.cls;obtain⟨u',hu,ti,rfl⟩:=gx.some_of (v:=.int i) (o:=mA f) (by rw[<-l];exact r f)
 have dB:=I1.dm;have hN:=T.ns dB;obtain⟨hh,g,dr,tk,os⟩:=s1;exact XR.WB (mN:=hh.nsMap N) PySem.F.attrBase_Exception (dB _ _ lk) hN ⟨vg dB hN T.ga,vg dB hN T.gh⟩ n.base (vg dB hN n.own) hx hc hf hd hn.ns hu ⟨.int i,H1,I1.tok _,⟨ti,rfl⟩,q⟩
end
abbrev Cx.gR(X:Cx)(pn:List (ae×Obj))(xe:ai->aq->Prop):Cx:={X with pn:=X.pn++pn,xe:=xe}
abbrev Cx.hand(X:Cx)(e:ai):Cx:={X with A:=X.A.mark (some e),calm:=false,xe:=λ_ _=>False}
section
variable{X:Cx}{pins pn:List (ae×Obj)}{σ:St}{H:Hp}{s:aq}{xe:ai->aq->Prop}{e:ai}{h':aR}
theorem Cx.Ok.gR(ok:X.Ok):(X.gR pn xe).Ok:=⟨ok.mod,ok.kind,ok.glob,ok.blt,ok.above,ok.inj,ok.has,ok.pQ,ok.hd,ok.frames,ok.qW,ok.qX,ok.bs,ok.j_,ok.pR,ok.pS,ok.jh,ok.nA⟩
def Cx.Ok.fW(ok:(X.gR pn xe).Ok):X.Ok:=⟨ok.mod,ok.kind,ok.glob,ok.blt,ok.above,ok.inj,ok.has,ok.pQ,ok.hd,ok.frames,ok.qW,ok.qX,ok.bs,ok.j_,ok.pR,ok.pS,ok.jh,ok.nA⟩
theorem Inv.gR(I:Inv X pins σ H s):Inv (X.gR pins xe) [] σ H s:=⟨I.ok.gR,I.os,I.bare,I.base,I.loc,I.cell,I.free,I.gY,λp hp=>I.pin p (by simpa using hp),I.aQ,I.len⟩
theorem Inv.fW(I:Inv (X.gR pn xe) pins σ H s):Inv X pn σ H s:=⟨I.ok.fW,I.os,I.bare,I.base,I.loc,I.cell,I.free,I.gY,λp hp=>I.pin p (IK _ hp),I.aQ,I.len⟩
theorem Cx.Ok.hand(ok:X.Ok):(X.hand e).Ok:=⟨ok.mod,ok.kind,ok.glob,ok.blt,ok.above,ok.inj,ok.has,ok.pQ,λz=>kG z,ok.frames,ok.qW,ok.qX,ok.bs,ok.j_,ok.pR,ok.pS,ok.jh,ok.nA⟩
theorem Inv.hand(I:Inv X pins σ H s):Inv (X.hand e) pins σ H s:=⟨I.ok.hand,I.os,I.bare,I.base,I.loc,I.cell,I.free,I.gY,I.pin,I.aQ,I.len⟩
def Inv.we(ok:X.Ok)(I:Inv (X.hand e) pins σ H s):Inv X pins σ H s:=⟨ok,I.os,I.bare,I.base,I.loc,I.cell,I.free,I.gY,I.pin,I.aQ,I.len⟩
theorem Inv.kn{x T:ae}{lo:Nat}{s0:aq}{H0:Hp}{σ0:St}(I:Inv X pins σ H s)(I0:Inv X pins σ0 H0 s0)(lZ:s0.heap.objs.size<=lo)(k:gu X.stack x T s.heap h')(hx:H x=none)(hT:H T=none)(lx:lo<=x)(lT:lo<=T):
 Inv X pins σ H {s with heap:=h'}:=by
 have lx:s0.heap.objs.size<=x:=dy lZ lx;have lT:s0.heap.objs.size<=T:=dy lZ lT;have old:∀b,b<s0.heap.objs.size->b≠x/\b≠T:=λb hb=>⟨λz=>absurd (eC hb (by rw[z];exact lx)) (iK _),λz=>absurd (eC hb (by rw[z];exact lT)) (iK _)⟩
 have nl:X.env.locals≠x/\X.env.locals≠T:=old _ I0.lt;have nc:∀y c,X.env.cells.lookup y=some c->c≠x/\c≠T:=λy c e=>by
  obtain⟨v,q⟩:=I0.cell y c e;exact old c q.lt
 have np:∀p∈X.pn++pins,p.1≠x/\p.1≠T:=λp hp=>old _ (cY (I0.pin p hp).1);have Ep:c_ X.prog X.w H h':=c_.kn I.aQ k hx hT I.pU;refine I.step (g':=s.gens) (d':=s.drawn) (t':=s.toks) (ch:=[x,T]) (λb hb=>?_) (λb o h1 h2 h3 e n=>?_) (λb o h1 h2 h3 e n=>?_) (λb o _ e n=>n) (λb o h1 e=>?_) (λ_ _ q=>q) (λ_ _ _ q=>q) (λb ps q=>⟨#[],by rw[q];simp⟩) (λm hm=>?_) Ep I.bare
 ·have hb:b=x\/b=T:=by simpa using hb
  rcases hb with rfl|rfl
  ·exact⟨.inr (dy I0.sz lx),nl.1.symm,λy c e z=>(nc y c e).1 z,λp hp=>(np p hp).1⟩
  ·exact⟨.inr (dy I0.sz lT),nl.2.symm,λy c e z=>(nc y c e).2 z,λp hp=>(np p hp).2⟩
 ·have h3:b≠x/\b≠T:=by simpa using h3
  refine k.keep b o e h3.1 h3.2 λz=>?_;rcases cC.mp (I.vk b z) with z|z
  ·exact h1 z
  ·exact h2 z
 ·have h3:b≠x/\b≠T:=by simpa using h3
  exact k.slot b o e h3.1 h3.2
 ·have h1:b≠x/\b≠T:=by simpa using h1
  obtain⟨sl,q⟩:=k.slot b o e h1.1 h1.2;exact⟨_,q⟩
 ·obtain⟨o,es,ep,ho,r⟩:=hm;obtain⟨sl,q⟩:=k.slot _ o ho nl.1 nl.2;exact⟨_,es,ep,q,r⟩
def Inv.adopt{x:ae}{o:HO}{s0:aq}{H0:Hp}{σ0:St}(I:Inv X pins σ H s)(I0:Inv X pins σ0 H0 s0)(hf:X.ex=[])(lx:s0.heap.objs.size<=x)(hx:H x=none)(ok:df X.prog X.w (upd H x o) s.heap x o)(Xl:x∉X.fs):Inv X pins σ (upd H x o) s:=by
 have old:∀b,b<s0.heap.objs.size->b≠x:=λb hb z=>absurd (eC hb (by rw[z];exact lx)) (iK _)
 have wa:∀b,b∉X.ex:=λb=>by rw[hf];simp
 have us:∀b v,H b=some v->upd H x o b=some v:=λb v e=>by rw[ak (bw e hx)];exact e
 refine⟨I.ok,I.os,I.bare,⟨I.base.keep,I.base.slot,λb ob e n he=>?_,I.base.there,λb xs e=>us _ _ (I.base.jy b xs e),λb ob xs e=>us _ _ (I.base.jg b ob xs e),λb ps e=>?_⟩,I.loc,I.cell,?_,λy c e=>?_,λp hp=>?_,λb v e=>?_,I.len⟩
 ·rw[ak (old b (eC (cY e) I0.sz))];exact I.base.free b ob e n he
 ·obtain⟨m,q⟩:=I.base.jz b ps e;exact⟨m,us _ _ q⟩
 ·rw[ak (old _ I0.lt)];exact I.free
 ·obtain⟨v,q⟩:=I0.cell y c e;rw[ak (old c q.lt)];exact I.gY y c e
 ·obtain⟨e1,e2,e3⟩:=I.pin p hp;exact⟨e1,by rw[ak (old _ (cY (I0.pin p hp).1))];exact e2,e3⟩
 ·by_cases z:b=x
  ·subst z;rw[aA] at e;obtain rfl:=aZ e;exact ok
  ·rw[ak z] at e;exact(I.aQ b v e).ny (λ_ _ _ q=>q) (λc q=>us _ _ q) λc xs q=>us _ _ q
end
def Mu(X:Cx)(body:List cD)(tb:XK->TS):Prop:=∀(pn:List (ae×Obj)) (xe:ai->aq->Prop) (E:XK),Passes (bf X.prog X.w) (X.gR pn xe) E->gy (X.gR pn xe) body (tb E)
section
variable{X:Cx}{C N fi:ae}{cn:Str}{np ui pos:Pos}{body:List cD}{b0:cD}{l_:List cD}{tb:XK->TS}{ts:TS}
def Xm(C:ae)(tb:XK->TS)(ts:TS):TS:=λD σ H=>tb (λcls dx H'=>cls=.ref C/\ ∀σ',σ'.length=σ.length->ts D σ' H') D σ H
def Xn(T:jc X.K C N fi)(d9:X.stack=X.env::X.outer/\X.env.frame=some X.env.locals)(hg:Gl X cn)(hm:X.mg cn=some (.ref C))(hb:Mu X body tb)(hs:∀x,gy (X.hand (.ref x)) (b0::l_) ts)
 (hd:(cn==("__debug__":Str))=false:=by decide):PS X (.Try body [.ExceptHandler (some (.Name cn np)) none (b0::l_) ui] [] [] pos) (Xm C tb ts):=by
 intro pins s σ H D I h;obtain⟨nm,q,bs,sn,sub,ab,col,dd,k0,k1,k2,k3,k5,lk⟩:=T.cls;refine wpAny_Try_except ?_;refine fN (hb pins _ _ ?pass [] s σ H D I.gR h) (λf s1 q1=>?fin) (λ_ _ z=>z)
 case fin=>
  cases f with
  |next=>obtain⟨σ',H',I',q⟩:=q1;exact sP ⟨σ',H',I'.fW,q⟩
  |brk=>obtain⟨σ',H',I',q⟩:=q1;exact⟨σ',H',I'.fW,q⟩
  |cont=>obtain⟨σ',H',I',q⟩:=q1;exact⟨σ',H',I'.fW,q⟩
  |ret u=>obtain⟨v,σ',H',I',r,q⟩:=q1;exact⟨v,σ',H',I'.fW,r,q⟩
 case pass=>
  intro yu σ' H1 s1 e s2 I1 vF;obtain⟨x,Tb,cls,dx,H',rfl,os,bare,un,aQ,fg,hx,hT,rfl,rd⟩:=vF;have J1:=I1.fW;have J2:Inv X pins σ' H' s2:=(I1.vn (ch:=[]) os un aQ bare (λb z=>nomatch z)).fW;have Er:σ'.length=σ.length:=I1.len.trans I.len.symm;have Es:X.A.frames=some (X.env::X.outer):=by rw[<-d9.1];exact J2.ok.frames
  have wg:=J2.stack;rw[d9.1] at wg;refine XR.zm Es wg d9.2 fg λh3 T' iC kq k=>?_;rw[<-d9.1] at k;have J3:Inv X pins σ' H' {s2 with heap:=h3}:=J2.kn J1 (bz _) k hx hT fg.lx fg.lT
  have wj:H' T'=none:=J2.aQ.fresh iC;refine XR.rQ (s:={s2 with heap:=h3}) kq λh4 o9 k4=>?_
  have Et:gu X.stack x T' h3 h4:=⟨λb o a1 a2 a3 _=>k4.keep b o a1 a2 a3 (λz=>nomatch z),k4.slot⟩;have J4:Inv X pins σ' H' {s2 with heap:=h4}:=J3.kn (h':=h4) J1 (bz _) Et hx wj kq.lx kq.lT
  refine XR.WM (C:=C) (nm:=nm) (q:=q) (N:=N) (bs:=bs) (bm:=wb) (hdct:=true) (sn:=sn) (sub:=sub) (ab:=ab) (col:=col) (dd:=dd) (k0:=k0) (k1:=k1) (k2:=k2) (k3:=k3) (k5:=k5) (newId:="Exception.__new__") (by decide+kernel) ?_
  refine qZ (X:=X.hand (.ref x)) J4.hand hg hm ?_ hd;refine⟨rfl,J4.dm _ _ lk,(let ⟨oe,_,_,_,a1,a2,_⟩:=o9;⟨oe,a1,a2⟩),?_⟩;refine XR.rQ (s:={s2 with heap:=h4}) o9 λh5 Mv k5=>?_
  have Eu:gu X.stack x T' h4 h5:=⟨λb o a1 a2 a3 _=>k5.keep b o a1 a2 a3 (λz=>nomatch z),k5.slot⟩;have J5:Inv X pins σ' H' {s2 with heap:=h5}:=J4.kn (h':=h5) J1 (bz _) Eu hx wj o9.lx o9.lT
  refine aX (hs x pins _ σ' H' D J5.hand (rd σ' Er)) λf s6 q6=>?_;cases f with
  |next=>obtain⟨σ7,H7,I7,q⟩:=q6;exact⟨σ7,H7,I7.we J5.ok,q⟩
  |brk=>obtain⟨σ7,H7,I7,q⟩:=q6;exact⟨σ7,H7,I7.we J5.ok,q⟩
  |cont=>obtain⟨σ7,H7,I7,q⟩:=q6;exact⟨σ7,H7,I7.we J5.ok,q⟩
  |ret u=>obtain⟨v,σ7,H7,I7,r,q⟩:=q6;exact⟨v,σ7,H7,I7.we J5.ok,r,q⟩
end
section
variable{X:Cx}{pins:List (ae×Obj)}{σ:St}{H:Hp}{s:aq}{h':aR}
def Inv.forget{t':Nat}(I:Inv X pins σ H s)(sb:xS X.env.locals s.heap h')(hn:∃m,h'.Ns X.env.locals m):Inv X pins (cZ X.N.length none) H {s with heap:=h',toks:=t'}:=by
 obtain⟨m,hn⟩:=hn;have k:∀b o,b≠X.env.locals->s.heap.get? b=some o->h'.get? b=some o:=λb o hb e=>(sb.2 b hb).trans e;have pV:∀b o,X.dC.heap.get? b=some o->b≠X.env.locals:=λb o e=>iu (eC (cY e) I.ok.above);have qV:∀b u,H b=some u->b≠X.env.locals:=λb u e z=>by rw[z,I.free] at e;exact ns e
 refine⟨I.ok,I.os,I.bare,⟨λb o e n hb hx=>k b o (pV b o e) (I.base.keep b o e n hb hx),λb o e n hb hx=>?_,I.base.free,λb o e hx=>?_,I.base.jy,I.base.jg,I.base.jz⟩,⟨m,hn,λi x v _ e2 _=>?_⟩,λx c e=>?_,I.free,I.gY,λp hp=>?_,λb u e=>?_,by rw[qL]⟩
 ·obtain⟨sl,q⟩:=I.base.slot b o e n hb hx;exact⟨sl,k b _ (pV b o e) q⟩
 ·obtain⟨o',q⟩:=I.base.there b o e hx;exact⟨o',k b _ (pV b o e) q⟩
 ·rw[BU] at e2
  split at e2<;>cases e2
 ·obtain⟨v,o,ho,hd⟩:=I.cell x c e;exact⟨v,o,k c o (I.pT x c e) ho,hd⟩
 ·obtain⟨e1,e2,e3,e4⟩:=I.pin p hp;exact⟨k _ _ e3 e1,e2,e3,e4⟩
 ·refine(I.aQ b u e).ny (λc v hc q=>k c v ?_ q) (λ_ q=>q) λ_ _ q=>q;rcases hc with z|z
  ·rw[z];exact qV b u e
  ·exact qV c _ z
end
section
variable{X:Cx}{C N fi:ae}{cn n:Str}{i:Nat}{np ui pos:Pos}{body:List cD}{b0:cD}{l_:List cD}{tb:XK->TS}{ts:TS}
def Xo(C:ae)(i:Nat)(tb:XK->TS)(ts:TS):TS:=λD σ H=>tb (λcls dx H'=>cls=.ref C/\ ∃d,dx=some d/\ ∀(σ':St) (x:ae),σ'.length=σ.length->H' x=none->ts {nx:=λ_ _=>False,rt:=D.rt} (σ'.set i (some (.ref x))) (upd H' x (qm C x d))) D σ H
def Mw(T:jc X.K C N fi)(d9:X.stack=X.env::X.outer/\X.env.frame=some X.env.locals)(hex:X.ex=[])(hN:X.N.Nodup)(hi:X.N[i]? =some n)(hl:X.env.scope.names.lookup n=some .local)(hg:Gl X cn)(hm:X.mg cn=some (.ref C))(hb:Mu X body tb)(hs:∀x,gy (X.hand (.ref x)) (b0::l_) ts)
 (hd:(cn==("__debug__":Str))=false:=by decide):PS X (.Try body [.ExceptHandler (some (.Name cn np)) (some n) (b0::l_) ui] [] [] pos) (Xo C i tb ts):=by
 intro pins s σ H D I h;obtain⟨nm,q,bs,sn,sub,ab,col,dd,k0,k1,k2,k3,k5,lk⟩:=T.cls;refine wpAny_Try_except ?_;refine fN (hb pins _ _ ?pass [] s σ H D I.gR h) (λf s1 q1=>?fin) (λ_ _ z=>z)
 case fin=>
  cases f with
  |next=>obtain⟨σ',H',I',q⟩:=q1;exact sP ⟨σ',H',I'.fW,q⟩
  |brk=>obtain⟨σ',H',I',q⟩:=q1;exact⟨σ',H',I'.fW,q⟩
  |cont=>obtain⟨σ',H',I',q⟩:=q1;exact⟨σ',H',I'.fW,q⟩
  |ret u=>obtain⟨v,σ',H',I',r,q⟩:=q1;exact⟨v,σ',H',I'.fW,r,q⟩
 case pass=>
  intro yu σ' H1 s1 e s2 I1 vF;obtain⟨x,Tb,cls,dx,H',rfl,os,bare,un,aQ,fg,hx,hT,rfl,d,rfl,rd⟩:=vF;have J1:=I1.fW;have J2:Inv X pins σ' H' s2:=(I1.vn (ch:=[]) os un aQ bare (λb z=>nomatch z)).fW;have Er:σ'.length=σ.length:=I1.len.trans I.len.symm;have Es:X.A.frames=some (X.env::X.outer):=by rw[<-d9.1];exact J2.ok.frames
  have wg:=J2.stack;rw[d9.1] at wg;refine XR.zm Es wg d9.2 fg λh3 T' iC kq k=>?_;rw[<-d9.1] at k;have J3:Inv X pins σ' H' {s2 with heap:=h3}:=J2.kn J1 (bz _) k hx hT fg.lx fg.lT
  have wj:H' T'=none:=J2.aQ.fresh iC;refine XR.rQ (s:={s2 with heap:=h3}) kq λh4 o9 k4=>?_
  have Et:gu X.stack x T' h3 h4:=⟨λb o a1 a2 a3 _=>k4.keep b o a1 a2 a3 (λz=>nomatch z),k4.slot⟩;have J4:Inv X pins σ' H' {s2 with heap:=h4}:=J3.kn (h':=h4) J1 (bz _) Et hx wj kq.lx kq.lT
  refine XR.WN (C:=C) (nm:=nm) (q:=q) (N:=N) (bs:=bs) (bm:=wb) (hdct:=true) (sn:=sn) (sub:=sub) (ab:=ab) (col:=col) (dd:=dd) (k0:=k0) (k1:=k1) (k2:=k2) (k3:=k3) (k5:=k5) (newId:="Exception.__new__") (by decide+kernel) ?_
  refine qZ (X:=X.hand (.ref x)) J4.hand hg hm ?_ hd;refine⟨rfl,J4.dm _ _ lk,(let ⟨oe,_,_,_,a1,a2,_⟩:=o9;⟨oe,a1,a2⟩),?_⟩;refine XR.rQ (s:={s2 with heap:=h4}) o9 λh5 Mv k5=>?_
  have Eu:gu X.stack x T' h4 h5:=⟨λb o a1 a2 a3 _=>k5.keep b o a1 a2 a3 (λz=>nomatch z),k5.slot⟩;have J5:Inv X pins σ' H' {s2 with heap:=h5}:=J4.kn (h':=h5) J1 (bz _) Eu hx wj o9.lx o9.lT
  have J6:Inv X pins σ' (upd H' x (qm C x d)) {s2 with heap:=h5}:=by
   refine J5.adopt J1 hex fg.lx hx ?_ (J1.JE fg.lx);obtain⟨oe,vs,_,_,a1,a2,a3,a4,_⟩:=Mv;exact WX a1 a2 a3 a4
  refine Ck (X:=X.hand (.ref x)) (v:=V.ref x) J6.hand hN hi (.inl hl) rfl (λs6 J7=>?_) (.inr hl);refine aX (hs x pins _ _ _ _ J7 (rd σ' x Er hx)) λf s8 q8=>?_;cases f with
  |next=>obtain⟨_,_,_,q⟩:=q8;exact q.elim
  |brk=>obtain⟨_,_,_,q⟩:=q8;exact q.elim
  |cont=>obtain⟨_,_,_,q⟩:=q8;exact q.elim
  |ret u=>
   obtain⟨v,σ8,H8,I8,r,q⟩:=q8;have I8:=I8.we J5.ok;obtain⟨m,hn,_⟩:=id I8.loc;refine wpAny_nameGoes hl hn (by rw[I8.ok.kind];rfl) λh9 m9 Xp sb=>?_
   exact⟨v,_,H8,I8.forget sb ⟨m9,Xp⟩,r,q⟩
end
def aD.Mx{P:bQ}{w:bB}{K:aI}{mg:Str->Option ai}{base:aR}{x qual:Str}{st:cD}{f:ae}{fd:dP}{N ps:List Str}{k:Nat}{sp:Sp}(F:aD K x qual st f fd)(S:aS N ps (aG st))(len:∀vs H Q E,sp vs H Q E->vs.length=ps.length)
 (lK:∀(b9:ai) (A:cQ) (outer:List Env) (s:aq) (H:Hp) (vs:List V) (Q:VK) (E:XK),dE k (A.deeper (envOfC qual (aG st) s.heap.objs.size f b9))->sp vs H Q E->
   ∃t,gy (i_ (bf P w) P w K mg base N qual (aG st) f b9 A outer s H E) (hX st) t/\t {nx:=λ_ H'=>Q .aM H',rt:=Q} (start N vs) H):aB P w K mg base (bf P w) (k+1) f fd ps sp:=by
 obtain⟨oc,od,kV,doc,pm,an,b9,ct,gI,rfl,lk,fz⟩:=F.ex;refine CO lk fz S len λA outer s H vs Q E hr kN=>?_;exact lK b9 A outer s H vs Q E hr kN
inductive My(X:Cx)(f:ae)(r:List V->Hp->VK->Prop):Prop
 |mk (CX:jG) (k:Nat) (fd:dP) (ps:List Str) (sp:Sp) (E:XK) (_:aB X.prog X.w X.K X.mg X.base CX k f fd ps sp) (_:dE k X.A) (_:Binds X.K fd ps []) (_:Passes CX X E) (_:∀vs H Q,r vs H Q->sp vs H Q E)
inductive Xq(X:Cx)(i:Nat)(t:TA)(σ:L2.St)(H:Hp)(Q:VK):Prop
 |mk (f:_) (_:σ[i]? =some (some (.ref f))) (_:iN X.K (.ref f)=true) (_:t σ H λvs H1=>∃r,My X f r/\r vs H1 Q)
def zq{X:Cx}{i:Nat}{x:Str}{p pos:Pos}{e:bj}{es:List bj}{t:TA}(hN:X.N[i]? =some x)(hv:pP X.env.scope x)(ha:PA X (e::es) t)(g9:(x==("__debug__":Str))=false:=by decide)(fz:(x==("__classdict__":Str))=false:=by decide)
 (he:cG (e::es) X.env=(false,eval e X.env)::cG es X.env:=by rfl) (dF:(f_ pos (cG es X.env)).any (·.1)=false:=by rfl):PE X (.Call (.Name x p) (e::es) [] pos) (Xq X i t):=by
 intro pins s σ H Q I h;obtain⟨f,ef,hk,h⟩:=h;refine qK (aX (yw (pos:=p) hN hv g9 fz pins s σ H (λv H1=>v=.ref f/\H1=H) I ⟨_,ef,rfl,rfl⟩) λu s0 ⟨v,H0,I0,ru,ev,eH⟩=>?_);subst ev eH;obtain rfl:u=di f:=ru;refine xU (h₀:=X.base) I.ok.mod.dB hk (aX (ha pos pins s0 σ H0 _ I0 h) λus s1 ⟨vs,H1,I1,r,rr,ab,q⟩=>⟨I1.dm,?_⟩) he dF;obtain⟨CX,k,fd,ps,sp,E,F,hr,hb,hx,im⟩:=ab;exact vw (ds:=[]) (dvs:=[]) F hr hb .nil hx I1 r (by rw[dA];exact im _ _ _ q)
def Ent(w:bB)(p:Key×V)(e:ye):Prop:=qU p.1 e.key=true/\e.hash=JB w p.1/\b7 p.2 e.val
def Tab(K:aI)(w:bB)(a:ae)(D:List (Key×V)):Prop:=(a==sysModules)=false/\ ∃es n,K.lookup a=some ⟨.type "dict",none,.dict es n,#[]⟩/\Paired (Ent w) D es.toList
theorem Mz{P:bQ}{w:bB}{k:Key}:∀{D:List (Key×V)} {l:List ye},Paired (Ent w) D l->gx (dX D k) ((l.find? λe=>(i8 P w).is k e.key).map (·.val))
 |_,_,.nil=>True.intro
 |p::D,e::l,.cons h t=>by
  obtain⟨h1,h2,h3⟩:=h;have q:(i8 P w).is k e.key=decide (k=p.1):=KeyKind.is_eq_decide (knd:=i8 P w) h1 k;by_cases z:p.1=k
  ·rw[Dk z,Jc,q,decide_eq_true z.symm];exact h3
  ·rw[nP z,Jc,q,decide_eq_false λy=>z y.symm];exact Mz t
theorem Ew{P:bQ}{w:bB}:∀{D:List (Key×V)} {l:List ye},Paired (Ent w) D l->∀e∈l,∃k,(i8 P w).is k e.key=true/\e.hash=(i8 P w).hash k
 |_,_,.nil,_,h=>nomatch h
 |p::D,e::l,.cons h t,e',he=>by
  rcases cC.mp he with rfl|he
  ·exact⟨p.1,h.1,h.2.1⟩
  ·exact Ew t e' he
def Tab.mapOf{K:aI}{P:bQ}{w:bB}{a:ae}{D:List (Key×V)}{h:aR}(T:Tab K w a D)(X:K.In h):∃m,h.MapOf (i8 P w) a m/\ ∀k,gx (dX D k) (m k):=by
 obtain⟨_,es,n,lk,pr⟩:=T;refine⟨λk=>findBy (i8 P w).is es k,⟨_,es,n,X _ _ lk,⟨rfl,rfl,rfl⟩,rfl,λe he=>Ew pr e (Array.mem_toList_iff.mpr he),λ_=>rfl⟩,λk=>?_⟩;have q:=Mz (P:=P) (k:=k) pr;rw[Array.find?_toList] at q;exact q
def Tab.obj{K:aI}{w:bB}{a:ae}{D:List (Key×V)}{h:aR}(T:Tab K w a D)(X:K.In h):∃es n,h.get? a=some ⟨.type "dict",none,.dict es n,#[]⟩/\Paired (Ent w) D es.toList:=by
 obtain⟨_,es,n,lk,pr⟩:=T;exact⟨es,n,X _ _ lk,pr⟩
section
variable{X:Cx}{o i e:bj}{pos apos dW:Pos}{td ty:TE}
inductive Xr(K:aI)(w:bB)(Q:VK)(x:V)(y:V)(H2:Hp):Prop
 |mk (a D k v:_) (_:x=.ref a) (_:y=kV k) (_:Tab K w a D) (_:dX D k=some v) (_:Q v H2)
def MA(K:aI)(w:bB)(td ty:TE):TE:=λσ H Q=>td σ H λx H1=>ty σ H1 λy H2=>Xr K w Q x y H2
def rV(ho:PE X o td)(hi:PE X i ty)(hs:Dm i):PE X (.Subscript o i pos) (MA X.K X.w td ty):=by
 intro pins s σ H Q I h;refine SQ PySem.F.slot_dict_getitem.lookup hs (aX (ho pins s σ H _ I h) λu s1 ⟨x,H1,I1,rx,q1⟩=>aX (hi pins s1 σ H1 _ I1 q1) λiv s2 ⟨y,H2,I2,ry,a,D,k,v,ex,ey,T,l,q2⟩=>?_);subst ex ey;obtain rfl:u=di a:=rx;obtain⟨m,hm,rel⟩:=T.mapOf (P:=X.prog) I2.dm;obtain⟨w',hw,vy⟩:=gx.some_of (v:=v) (o:=m k) (by rw[<-l];exact rel k)
 exact⟨hm.typeIs,wpAny_getItem_of (Dl ry) hm hw ⟨v,H2,I2.tok _,vy,q2⟩⟩
inductive Xs(K:aI)(w:bB)(Q:VK)(y:V)(x:V)(H2:Hp):Prop
 |mk (a D k:_) (_:x=.ref a) (_:y=kV k) (_:Tab K w a D) (_:Q (.bl (dX D k).isSome) H2)
def Xt(K:aI)(w:bB)(ty td:TE):TE:=λσ H Q=>ty σ H λy H1=>td σ H1 λx H2=>Xs K w Q y x H2
def uo(hi:PE X i ty)(ho:PE X o td):PC X .In i o (Xt X.K X.w ty td):=by
 intro pins s σ H Q I h;refine aX (hi pins s σ H _ I h) λiv s1 ⟨y,H1,I1,ry,q1⟩=>aX (ho pins s1 σ H1 _ I1 q1) λu s2 ⟨x,H2,I2,rx,a,D,k,ex,ey,T,q2⟩=>?_;subst ex ey;obtain rfl:u=di a:=rx;obtain⟨m,hm,rel⟩:=T.mapOf (P:=X.prog) I2.dm;refine wpAny_in_of (Dl ry) T.1 hm ?_;rw[<-(rel k).SO];exact⟨.bl _,H2,I2.tok _,rfl,q2⟩
inductive Xu(K:aI)(w:bB)(ty:TE)(σ:L2.St)(Q:VK)(x:V)(H1:Hp):Prop
 |mk (a D:_) (_:x=.ref a) (_:Tab K w a D) (_:ty σ H1 λy H2=>∃k,y=kV k/\Q ((dX D k).getD .aM) H2)
def Xv(K:aI)(w:bB)(td ty:TE):TE:=λσ H Q=>td σ H λx H1=>Xu K w ty σ Q x H1
def Xw(ho:PE X o td)(he:PE X e ty)(m:M1 X o "get" apos e dW):PE X (.Call (.Attribute o "get" apos) [e] [] dW) (Xv X.K X.w td ty):=by
 intro pins s σ H Q I h;refine wpAny_Call_method m.base m.K2 m.line PySem.F.plainAttrs_dict agc PySem.F.type_dict_get (aX (ho pins s σ H _ I h) λu s1 ⟨x,H1,I1,rx,a,D,ex,T,q1⟩=>?_);subst ex;obtain rfl:u=di a:=rx;obtain⟨m1,Ei,_⟩:=T.mapOf (P:=X.prog) I1.dm;refine⟨Ei.typeIs,λb q=>?_,?_⟩
 ·obtain rfl:=u4 q;obtain⟨es,n,ob,_⟩:=T.obj I1.dm;exact⟨_,ob,rfl⟩
 rw[m.trees];refine IV rfl (PZ (PR (aX (he pins s1 σ H1 _ I1 q1) λiv s2 ⟨y,H2,I2,ry,k,ey,q2⟩=>PQ ?_)));subst ey;obtain⟨m2,zl,rel⟩:=T.mapOf (P:=X.prog) I2.dm;refine call_meetsIn agc zl.typeIs PySem.F.entry_dict_get (PySem.F.args_dict_get_2 _ _) (meets_dict_get (i8 X.prog X.w) a (Dl ry) T.1) ⟨_,zl,?_⟩;exact⟨_,H2,I2.tok _,(rel k).getD (show b7 .aM i0 from rfl),q2⟩
end
def Xx(v:V)(x:Str):Prop:=(∃i:Int,v=.int i/\i.natAbs.log2<1920/\x=bU (toString i))\/(v=.str x/\x.length<=sizeLine)
def PJ(X:Cx)(es:List bj)(t:Str->TE):Prop:=∀(out:Str) (pins:List (ae×Obj)) (s:aq) (σ:St) (H:Hp) (Q:VK),Inv X pins σ H s->t out σ H Q->aU (model X.prog X.w) X.A (joinParts out (evalEach es X.env)) (EP X pins σ Q) X.xe s
section
variable{X:Cx}{e:bj}{es:List bj}{te:TE}{t:Str->TE}{pos pos':Pos}
inductive Xy(Q:VK)(v:V)(H1:Hp):Prop
 |mk (x:_) (_:Xx v x) (_:Q (.str x) H1)
def Xz(te:TE):TE:=λσ H Q=>te σ H λv H1=>Xy Q v H1
def rW(he:PE X e te):PE X (.FormattedValue e (-1) none pos) (Xz te):=by
 intro pins s σ H Q I h;refine FormattedValue_plain (aX (he pins s σ H _ I h) λu s1 ⟨v,H1,I1,r,x,f,q⟩=>?_);rcases f with⟨i,rfl,hd,rfl⟩|⟨rfl,hz⟩
 ·obtain⟨ti,rfl⟩:=r;exact formatField_int_small hd ⟨.str _,H1,I1.tok _,⟨_,rfl⟩,q⟩
 ·obtain⟨ti,rfl⟩:=r;exact formatField_str (λt' tk=>⟨.str _,H1,I1.tok _,⟨_,rfl⟩,q⟩) hz
def XA:Str->TE:=λout _ H Q=>out.length<=sizeLine/\Q (.str out) H
inductive XB(t:Str->TE)(out:Str)(σ:L2.St)(Q:VK)(v:V)(H1:Hp):Prop
 |mk (x:_) (_:v=.str x) (_:(out++x).length<=sizeLine) (_:t (out++x) σ H1 Q)
def XC(te:TE)(t:Str->TE):Str->TE:=λout σ H Q=>te σ H λv H1=>XB t out σ Q v H1
def wk:PJ X [] XA:=λout pins s σ H Q I h=>joinParts_nil ⟨.str out,H,I.tok _,⟨_,rfl⟩,h.2⟩ h.1
def jt(he:PE X e te)(hr:PJ X es t)(hs:evalEach (e::es) X.env=eval e X.env::evalEach es X.env:=by rfl):PJ X (e::es) (XC te t):=by
 intro out pins s σ H Q I h;rw[hs];refine joinParts_cons (aX (he pins s σ H _ I h) λu s1 ⟨v,H1,I1,r,x,ev,hz,q⟩=>?_);subst ev;obtain⟨ti,rfl⟩:=r;exact⟨hz,hr _ pins s1 σ H1 Q I1 q⟩
def wm{e1 e2:bj}(h:PJ X (e1::e2::es) t)(hs:evalEach (e1::e2::es) X.env=eval e1 X.env::eval e2 X.env::evalEach es X.env:=by rfl):PE X (.JoinedStr (e1::e2::es) pos) (t sQ):=by
 intro pins s σ H Q I hq;refine JoinedStr_many ?_;have q:=h sQ pins s σ H Q I hq;rw[hs] at q;exact q
def XD(h:PE X e te):PE X (.JoinedStr [e] pos) te:=λpins s σ H Q I hq=>JoinedStr_one (h pins s σ H Q I hq)
end
theorem Ex:∀{xs:List V} {us:List ai},xs.length=us.length->(∀(i:Nat) x u,xs[i]? =some x->us[i]? =some u->b7 x u)->Vals xs us
 |[],[],_,_=>.nil
 |x::xs,u::us,hl,h=>.cons (h 0 x u rfl rfl) (Ex (by simpa using hl) λi y v e1 e2=>h (i+1) y v (by simpa using e1) (by simpa using e2))
def XE{a:Int}{n:Nat}{acc:Array ai}(h:ItemsOf (λi v=>∃t,v=.int (a+i*1) t) acc n):Vals ((cB n).map λ(i:Nat)=>V.int (a+i)) acc.toList:=by
 obtain⟨hs,hg⟩:=h;refine Ex (by rw[bq,iy,Array.length_toList,hs]) λi x u e1 e2=>?_
 rw[Array.getElem?_toList] at e2;obtain⟨t,rfl⟩:=hg i u e2;rw[dI] at e1;by_cases hi:i<n
 ·rw[qR hi] at e1;obtain rfl:V.int (a+i)=x:=aZ e1;exact⟨t,by rw[Int.mul_one]⟩
 ·rw[pJ (by rw[iy];lia)] at e1
  cases e1
section
variable{X:Cx}{a:bj}{ta:TA}{p pos:Pos}
inductive XF(Q:VK)(vs:List V)(H1:Hp):Prop
 |mk (j:Int) (_:vs=[.int j]) (_: -(2^62)<=j) (_:j<2^62) (_:∀r,H1 r=none->Q (.ref r) (upd H1 r (.kL 0 j)))
def XG(ta:TA):TE:=λσ H Q=>ta σ H λvs H1=>XF Q vs H1
def XH(hg:Gl X "range")(hm:X.mg "range"=none)(ha:PA X [a] ta)(hs:cG [a] X.env=[(false,eval a X.env)]:=by rfl):PE X (.Call (.Name "range" p) [a] [] pos) (XG ta):=by
 intro pins s σ H Q I h;refine Call_ (yx I hg hm boot_range (Pz (aX (ha pos pins s σ H _ I h) λus s1 ⟨vs,H1,I1,r1,q1⟩=>?_) hs rfl));obtain⟨j,e,q1,q2,q⟩:=q1;subst e;cases r1 with
 |cons r rr=>
  cases rr;obtain⟨t,rfl⟩:=r;refine call_range_1 ?_;exact⟨.ref s1.heap.objs.size,_,I1.laid (o:=.kL 0 j) (λb o e=>eR _ e) (bz _) ⟨_,_,_,iM _ rfl⟩,rfl,q _ (I1.aQ.fresh (bz _))⟩
def XI(hc:X.calm=true):jF X (.type "list") (λxs H Q=>∃r j,xs=[.ref r]/\H r=some (.kL 0 j)/\0<=j/\j<=100000/\ ∀l,H l=none->Q (.ref l) (upd H l (.lst ((cB j.toNat).map λ(i:Nat)=>V.int i)))):=by
 intro pins s σ H xs us Q I r h;obtain⟨ra,j,rfl,hr,lZ,hj,q⟩:=h;obtain⟨u,rfl,rx⟩:=vals1 r;cases rx;obtain⟨t,u,v,ex⟩:df X.prog X.w H s.heap ra (.kL 0 j):=I.aQ ra _ hr
 ·have hn:af3 0 j 1=((j.toNat:Nat):Int):=by rw[rangeSize_one];split<;>lia
  refine call_list_range (I.ok.hd hc) ex (small_one (by lia) (by lia) (by lia) (by lia)) hn (by lia) λh' tk acc c' kp e it=>?_
  have vs:=XE it;have ev:(cB j.toNat).map (λ(i:Nat)=>V.int (0+i))=(cB j.toNat).map λ(i:Nat)=>V.int i:=pL λi _=>by rw[vh]
  rw[ev] at vs;refine⟨.ref s.heap.objs.size,_,I.laid (t':=tk) kp (bz _) (show df X.prog X.w _ h' _ (.lst _) from⟨?_,acc.toList,c',vs,by simpa using e⟩),rfl,q _ (I.aQ.fresh (bz _))⟩
  rw[bq,iy,aP]
  lia
end
theorem MB{P:bQ}{w:bB}:∀{D:List (Key×V)} {l:List ye},Paired (Ent w) D l->∃kvs:List (Key×ai),Pairs (i8 P w) l kvs/\kvs.map (·.1)=D.map (·.1)
 |_,_,.nil=>⟨[],.nil,rfl⟩
 |p::D,e::l,.cons h t=>by
  obtain⟨kvs,h1,h2⟩:=MB (P:=P) t;exact⟨(p.1,e.val)::kvs,.cons h.1 rfl h1,by simp[h2]⟩
def Tab.dictAt{K:aI}{P:bQ}{w:bB}{a:ae}{D:List (Key×V)}{h:aR}(T:Tab K w a D)(nd:(D.map (·.1)).Nodup)(X:K.In h):∃kvs ep,h.DictAt (i8 P w) a kvs ep/\kvs.map (·.1)=D.map (·.1):=by
 obtain⟨_,es,n,lk,pr⟩:=T;obtain⟨kvs,h1,h2⟩:=MB (P:=P) pr;exact⟨kvs,n,⟨_,es,X _ _ lk,⟨rfl,rfl,rfl⟩,rfl,λe he=>Ew pr e (Array.mem_toList_iff.mpr he),h1,by rw[h2];exact nd⟩,h2⟩
section
variable{X:Cx}
def XJ:jF X (.builtin "len") (λxs H Q=>∃a D,xs=[V.ref a]/\Tab X.K X.w a D/\ (D.map (·.1)).Nodup/\D.length<=1000/\Q (.int D.length) H):=by
 intro pins s σ H xs us Q I r h;obtain⟨a,D,rfl,T,nd,hl,q⟩:=h;obtain⟨u,rfl,ru⟩:=vals1 r;cases ru;obtain⟨kvs,ep,da,ek⟩:=T.dictAt (P:=X.prog) nd I.dm;have el:kvs.length=D.length:=by have:=congrArg jX ek;simpa using this
 refine call_len_dict T.1 da.dictOf (by lia) ?_
 rw[el];exact⟨.int D.length,H,I.tok _,⟨_,rfl⟩,q⟩
def XM(hc:X.calm=true):jF X (.type "list") (λxs H Q=>∃a D,xs=[V.ref a]/\Tab X.K X.w a D/\ (D.map (·.1)).Nodup/\D.length<=1000/\ ∀l,H l=none->Q (.ref l) (upd H l (.lst (D.map λp=>kV p.1)))):=by
 intro pins s σ H xs us Q I r h;obtain⟨a,D,rfl,T,nd,hl,q⟩:=h;obtain⟨u,rfl,ru⟩:=vals1 r;cases ru;obtain⟨kvs,ep,da,ek⟩:=T.dictAt (P:=X.prog) nd I.dm;have el:kvs.length=D.length:=by have:=congrArg jX ek;simpa using this
 have hz:D.length<=sizeLine:=by rw[aP];lia
 refine PySem.W.kdl_call (PySem.W.kdl_dict (ep:=ep) (kvs:=kvs) (knd:=i8 X.prog X.w) T.1) (I.ok.hd hc) da (by rw[el];exact hz) λh' tk acc c' kp e it=>?_
 obtain⟨hs,hg⟩:=it;have vs:Vals (D.map λp=>kV p.1) acc.toList:=by
  refine Ex (by simp[hs,el]) λi x u e1 e2=>?_
  rw[Array.getElem?_toList] at e2;obtain⟨k,y,e3,e4⟩:=hg i u e2;have e5:(kvs.map (·.1))[i]? =some k:=by rw[dI,e3];rfl
  rw[ek,dI] at e5;rw[dI] at e1;cases e6:D[i]? with
  |none=>rw[e6] at e1;cases e1
  |some p=>
   rw[e6] at e1 e5;obtain rfl:kV p.1=x:=aZ e1;obtain rfl:p.1=k:=aZ e5;rcases nq (k:=p.1) (v:=u) e4 with⟨j,t,q1,rfl⟩|⟨z,t,q1,rfl⟩
   ·rw[q1];exact⟨t,rfl⟩
   ·rw[q1];exact⟨t,rfl⟩
 exact⟨.ref s.heap.objs.size,_,I.laid (t':=tk) kp (bz _) (show df X.prog X.w _ h' _ (.lst _) from⟨by rw[bq];exact hz,acc.toList,c',vs,by simpa using e⟩),rfl,q _ (I.aQ.fresh (bz _))⟩
end
def iE(c:ae)(q:Str):HO:=.ext λh=>h.CodeRec (.ref c) q
def kW(f:ae)(qual:Str)(params:Arguments)(body:bj)(scope:d6)(c:ae):HO:=.ext λh=>∃pm gv,h.get? f=some (Qj "<lambda>" qual params body scope [] pm c gv)
section
variable{P:bQ}{w:bB}{H:Hp}{h:aR}{c f:ae}{qual:Str}{params:Arguments}{body:bj}{scope:d6}
def XN(e:h.CodeRec (.ref c) qual):df P w H h c (iE c qual):=by
 obtain⟨c',o,vs,t,e1,e2,e3,e4⟩:=e;obtain rfl:=u4 e1;refine⟨⟨c,o,vs,t,rfl,e2,e3,e4⟩,⟨o,e2⟩,λh1 h2 ⟨c',o,vs,t,e1,e2,e3,e4⟩ k=>?_⟩;obtain rfl:=u4 e1;exact⟨c,o,vs,t,rfl,k _ e2,e3,e4⟩
def MD{pm gv:ai}(e:h.get? f=some (Qj "<lambda>" qual params body scope [] pm c gv)):df P w H h f (kW f qual params body scope c):=
 ⟨⟨pm,gv,e⟩,⟨_,e⟩,λ_ _ ⟨pm,gv,e⟩ k=>⟨pm,gv,k _ e⟩⟩
end
def BM(mg:Str->Option ai)(base:aR):Prop:=∃bm ob,mg "__builtins__"=some (.ref bm)/\bm≠BI/\base.get? bm=some ob/\ob.cls=.type "module"/\ob.dict=some BI/\ob.data=.plain
abbrev o_(pos:Pos)(c:ae):Array ai:= #[gG pos.line,gG pos.col,.ref c]
section
variable{X:Cx}{pins:List (ae×Obj)}{σ:St}{H:Hp}{s:aq}
def Inv.ME(I:Inv X pins σ H s)(b:BM X.mg X.base){Pl:ae}{ps:Array ai}(hP:H Pl=some (.dN ps)):s.heap.BuiltinsAt X.mg Pl:=by
 obtain⟨bm,ob,b1,b2,b3,b4,b5,b6⟩:=b;have Ey:=I.bk _ _ b3;have hg:=I.mod.glob.keeps I.bk;refine⟨bm,ob,b1,b2,λq=>?_,λq=>?_,Ey,b4,b5,b6⟩
 ·obtain⟨o,es,ep,e,hd,_⟩:=hg;rw[q,e] at Ey;cases Ey;rw[hd] at b6;cases b6
 ·have e1:=(I.bs _ _ b3).2;rw[q,hP] at e1;cases e1
def MF(I:Inv X pins σ H s){Pl:ae}{ps:Array ai}(hP:H Pl=some (.dN ps)):s.heap.get? Pl=some (yf ps):=I.aQ Pl _ hP
def Inv.grown{h':aR}{t':Nat}{Pl c f:ae}{ps:Array ai}{o1 o2:HO}(I:Inv X pins σ H s)(hP:H Pl=some (.dN ps))(more:Array ai)(hc:s.heap.objs.size<=c)(hf:s.heap.objs.size<=f)(Ez:c≠f)
 (k:∀b o,b≠Pl->s.heap.get? b=some o->h'.get? b=some o) (eP:h'.get? Pl=some (yf (ps++more)))
 (k1:df X.prog X.w (upd (upd (upd H c o1) Pl (.dN (ps++more))) f o2) h' c o1) (k2:df X.prog X.w (upd (upd (upd H c o1) Pl (.dN (ps++more))) f o2) h' f o2):
 Inv X pins σ (upd (upd (upd H c o1) Pl (.dN (ps++more))) f o2) {s with heap:=h',toks:=t'}:=by
 have nc:H c=none:=I.aQ.fresh hc;have nf:H f=none:=I.aQ.fresh hf;have lP:Pl<s.heap.objs.size:=I.aQ.lt hP;have cP:c≠Pl:=IM (eC lP hc);have fP:f≠Pl:=IM (eC lP hf);have old:∀b,b≠c->b≠Pl->b≠f->upd (upd (upd H c o1) Pl (.dN (ps++more))) f o2 b=H b:=λb h1 h2 h3=>by rw[ak h3,ak h2,ak h1]
 have wo:∀b u,H b=some u->b≠Pl->upd (upd (upd H c o1) Pl (.dN (ps++more))) f o2 b=some u:=λb u e hb=>by rw[old b (bw e nc) hb (bw e nf)];exact e
 have lt:∀b o,s.heap.get? b=some o->b≠c/\b≠f:=λb o e=>⟨iu (eC (cY e) hc),iu (eC (cY e) hf)⟩;refine I.un (t':=t') ⟨λb o e n _ _=>k b o (λz=>by rw[z,hP] at n;cases n) e,λb o e n _ _=>⟨o.slots,k b o (λz=>by rw[z,hP] at n;cases n) e⟩,λb o e n _=>?_,λb o e _=>?_,λb xs e=>?_,λb o u e=>?_,λb qs e=>?_⟩ (λb u e=>?_)
 ·rw[old b (lt b o e).1 (λz=>by rw[z,hP] at n;cases n) (lt b o e).2];exact n
 ·by_cases z:b=Pl
  ·subst z;exact⟨_,eP⟩
  ·exact⟨o,k b o z e⟩
 ·exact wo b _ e (λz=>by rw[z,hP] at e;cases e)
 ·exact wo b _ e (λz=>by rw[z,hP] at e;cases e)
 ·by_cases z:b=Pl
  ·subst z;rw[hP] at e;cases e;exact⟨more,by rw[ak fP.symm,aA]⟩
  ·exact⟨#[],by rw[wo b _ e z];simp⟩
 ·by_cases zf:b=f
  ·subst zf;rw[aA] at e;cases e;exact k2
  ·by_cases zP:b=Pl
   ·subst zP;rw[ak zf,aA] at e;cases e;exact eP
   ·by_cases zc:b=c
    ·subst zc;rw[ak zf,ak zP,aA] at e;cases e;exact k1
    ·rw[old b zc zP zf] at e;refine(I.aQ b u e).ny (λx v hx q=>?_) (λx q=>wo x _ q (λz=>by rw[z,hP] at q;cases q)) λx xs q=>wo x _ q (λz=>by rw[z,hP] at q;cases q)
     refine k x v (λz=>?_) q;rcases hx with y|y
     ·exact zP (y.symm.trans z)
     ·rw[z,hP] at y;cases y
end
section
variable{X:Cx}{params:Arguments}{body:bj}{scope:d6}{pos:Pos}{cd Pl:ae}
def MG(Pl:ae)(qual:Str)(params:Arguments)(body:bj)(scope:d6)(pos:Pos):TE:=λ_ H Q=>
 (H Pl=some (.dN #[])/\ ∀c f,H c=none->H f=none->c≠f->Q (.ref f) (upd (upd (upd H c (iE c qual)) Pl (.dN (o_ pos c))) f (kW f qual params body scope c)))\/
 (∃c,H Pl=some (.dN (o_ pos c))/\H c=some (iE c qual)/\ ∀f,H f=none->Q (.ref f) (upd H f (kW f qual params body scope c)))
def XO(pos:Pos):codeAmong pos ([]:List ai)=none:=rfl
def EA{qual:Str}(b:BM X.mg X.base)(MH:X.env.code=.ref cd)(C:B6 X.base cd Pl)(kO:closureFor scope X.env=pure [])(XQ:defaultsOf params X.env=([],[]))(hq:X.env.qual++"<lambda>"=qual)
 (XS:∀c:ae,codeAmong pos (o_ pos c).toList=some (.ref c)) (XT:∀c:ae,TriplesOk (o_ pos c).toList):PE X (.Lambda params body scope pos) (MG Pl qual params body scope pos):=by
 intro pins s σ H Q I h;subst hq;refine PySem.W.kla_eval XQ ?_;have hg:=I.mod.glob.keeps I.bk;rcases h with⟨hP,q⟩|⟨c,hP,hc,q⟩
 ·have zr:=MF I hP;have XU:mU≠Pl:=λz=>by
   obtain⟨o,es,ep,e,hd,_⟩:=hg;rw[z,zr] at e;cases e;cases hd
  refine PySem.W.kla_makeFunction (mg:=X.mg) kO I.ok.glob hg MH (C.keeps I.bk) zr (by exact True.intro) (XO pos) XU (I.ME b hP) λc' gv h' tk hx EB dU XW mh=>?_
  have tV:c'≠h'.objs.size:=iu dU;have hsz:s.heap.objs.size<=h'.objs.size:=xR (BY EB dU);have J:=I.grown (t':=tk) (h':=h'.push (Qj "<lambda>" (X.env.qual++"<lambda>") params body scope [] ((X.mg "__name__").getD .none) c' gv)) (o1:=iE c' (X.env.qual++"<lambda>")) (o2:=kW h'.objs.size (X.env.qual++"<lambda>") params body scope c') hP #[gG pos.line,gG pos.col,.ref c'] EB hsz tV
   (λb o hb e=>eR _ (hx b o hb e)) (eR _ mh) (XN (XW.push _)) (MD (iM _ rfl))
  exact⟨.ref h'.objs.size,_,J,rfl,q c' h'.objs.size (I.aQ.fresh EB) (I.aQ.fresh hsz) tV⟩
 ·have zr:=MF I hP;refine PySem.W.kla_makeFunctionHit (mg:=X.mg) kO I.ok.glob hg MH (C.keeps I.bk) zr (XT c) (XS c) (I.ME b hP) λgv h' tk hk hsz=>?_;have J1:Inv X pins σ H {s with heap:=h',toks:=tk}:=I.kept hk
  exact⟨.ref h'.objs.size,_,J1.laid (t':=tk) (λb o e=>eR _ e) (bz _) (MD (iM _ rfl)),rfl,q _ (J1.aQ.fresh (bz _))⟩
end
section
variable{X:Cx}{pins:List (ae×Obj)}{σ:St}{H:Hp}{s:aq}{Q:VK}{f c:ae}{qual:Str}{params:Arguments}{body:bj}{scope:d6}{N ps:List Str}{te:TE}{k:Nat}
def EC(X:Cx)(N:List Str)(qual:Str)(scope:d6)(body:bj)(te:TE):Prop:=∀(f:ae) (cd:ai) (A:cQ) (outer:List Env) (s:aq) (H:Hp),PE (i_ au X.prog X.w X.K X.mg X.base N qual scope f cd A outer s H E0).tM body te
def XX{us:List ai}{vs:List V}(hr:dE 1 X.A)(I:Inv X pins σ H s)(hf:H f=some (kW f qual params body scope c))(hc:H c=some (iE c qual))(S:aS N ps scope)(hl:vs.length=ps.length)
 (ED:∀pm gv us,us.length=ps.length->qJ (Qk "<lambda>" qual params body scope [] pm (.ref c) gv) ⟨us,[]⟩=pure (ps.zip us)) (he:EC X N qual scope body te) (r:Vals vs us) (h:te (start N vs) H Q):
 aU (model X.prog X.w) X.A (call (.ref f) us) (EP X pins σ Q) X.xe s:=by
 obtain⟨⟨pm,gv,ef⟩,_⟩:df X.prog X.w H s.heap f (kW f qual params body scope c):=I.aQ f _ hf;obtain⟨ec,_⟩:df X.prog X.w H s.heap c (iE c qual):=I.aQ c _ hc;have e0:=I.yL;have XY:us.length=ps.length:=by rw[<-r.length];exact hl
 have CP:∀y∈ps.zip us,scope.names.lookup y.1=some .local\/(scope.names.lookup y.1=some .cell/\ ((gP (s.heap.objs.size+1) scope.names []).lookup y.1).isSome=true):=λ⟨n,v⟩ hy=>by
  rcases S.par n (IU hy).1 with q|q
  ·exact .inl q
  ·exact .inr ⟨q,PU _ _ _ (.inl q)⟩
 refine BR (PySem.W.kla_callFunE hr.depth ef rfl S.co S.gen rfl ec ?_);rw[ED pm gv us XY];refine gc (wpAny_newFunctionEnv_cells S.kind CP λenv XZ s1 x=>?_);subst XZ;refine⟨I.nolimit.keeps x.toInCall.keep,PySem.W.kla_codeExpr ?_⟩;have J:Inv (i_ au X.prog X.w X.K X.mg X.base N qual scope f (.ref c) X.A X.stack s H E0) [] (start N vs) H s1:=Kn S hr.hd e0 hl r x;refine fN (he f (.ref c) X.A X.stack s H [] s1 (start N vs) H Q (J.lE _) h) (λu s2 ⟨v,H2,J2,rv,q⟩=>?_) λ_ _ z=>z.elim;have J2:=J2.oJ;exact I.after ⟨v,H2,J2.os,J2.bare,J2.base,J2.aQ,rv,q⟩
inductive X0(X:Cx)(i:Nat)(t:TA)(σ:L2.St)(H:Hp)(Q:VK):Prop
 |mk (f c qual params body scope:_) (_:σ[i]? =some (some (.ref f))) (_:H f=some (kW f qual params body scope c)) (_:t σ H λvs H1=>H1 f=some (kW f qual params body scope c)/\H1 c=some (iE c qual)/\ ∃N ps te,aS N ps scope/\vs.length=ps.length/\ (∀pm gv us,us.length=ps.length->qJ (Qk "<lambda>" qual params body scope [] pm (.ref c) gv) ⟨us,[]⟩=pure (ps.zip us))/\EC X N qual scope body te/\te (start N vs) H1 Q)
def X1{i:Nat}{x:Str}{p pos:Pos}{e:bj}{es:List bj}{t:TA}(hr:dE 1 X.A)(hN:X.N[i]? =some x)(hv:pP X.env.scope x)(ha:PA X (e::es) t)(g9:(x==("__debug__":Str))=false:=by decide)(fz:(x==("__classdict__":Str))=false:=by decide)
 (he:cG (e::es) X.env=(false,eval e X.env)::cG es X.env:=by rfl) (dF:(f_ pos (cG es X.env)).any (·.1)=false:=by rfl):PE X (.Call (.Name x p) (e::es) [] pos) (X0 X i t):=by
 intro pins s σ H Q I h;obtain⟨f,c,qual,params,body,scope,ef,hf,h⟩:=h;refine qK (aX (yw (pos:=p) hN hv g9 fz pins s σ H (λv H1=>v=.ref f/\H1=H) I ⟨_,ef,rfl,rfl⟩) λu s0 ⟨v,H0,I0,ru,ev,eH⟩=>?_);subst ev eH;obtain rfl:u=di f:=ru;have fnAt:∀{H':Hp} {s':aq},Inv X pins σ H' s'->H' f=some (kW f qual params body scope c)->PySem.W.FnAt f s'.heap:=λI' X2=>by
  obtain⟨⟨pm,gv,ef⟩,_⟩:df X.prog X.w _ _ f (kW f qual params body scope c):=I'.aQ f _ X2;exact⟨_,_,_,_,ef⟩
 refine PySem.W.callWith_F (fnAt I0 hf) (aX (ha pos pins s0 σ H0 _ I0 h) λus s1 ⟨vs,H1,I1,r,MJ,zt,N,ps,te,S,hl,ED,lo,q⟩=>⟨fnAt I1 MJ,?_⟩) he dF;exact XX hr I1 MJ zt S hl ED lo r q
end
end L2
namespace XR
open PySem PySem.Spec PyProof.Rows
section
variable{M:Model}{A:cQ}{E:ai->aq->Prop}{s:aq}
def ML{env:Env}{L x T:ae}{cls:ai}{dx:Option ae}{lo:Nat}{Q:Unit->aq->Prop}(hf:env.frame=some L)(o8:fV lo x T cls dx (gG L) s.heap)(h:Q () s):aU M A (u9 (.ref x) env) Q E s:=by
 obtain⟨oe,vs,oT,ts,he,hc,jr,hd,h1,l8,hT,kj,h3,l1,l2⟩:=o8;unfold u9;simp only[hf];refine cg (s_ he hd h1 ?_);rw[if_pos (show(di T !=i0)=true from by simp)]
 refine cg (s_ hT kj h3 ?_);rw[if_pos (show(gG L==gG L)=true from by simp)]
 exact gc h
def markX{lo:Nat}{x T:ae}{cls:ai}{dx:Option ae}{fl:ai}{fr:Option ae}{Q:Unit->aq->Prop}(hf:fV lo x T cls dx fl s.heap)
 (h:∀h',fV lo x T cls dx (fr.elim i0 λf=>gG f) h'->gu [] x T s.heap h'->Q () {s with heap:=h'}):aU M A (yd (.ref x) fr) Q E s:=by
 obtain⟨oe,vs,oT,ts,he,hc,jr,hd,h1,l8,hT,kj,h3,l1,l2⟩:=hf;have rR:3<ts.size:=(Array.getElem?_eq_some_iff.mp h3).1;have other:∀b,b≠T->(s.heap.update T (yc (·.setIfInBounds 3 (fr.elim i0 λf=>gG f)))).get? b=s.heap.get? b:=
  λb hb=>uZ _ _ (Ne.symm hb)
 unfold yd;refine cg (s_ he hd h1 ?_);rw[if_pos (show(di T !=i0)=true from by simp)]
 refine Js hT kj rR (h _ ?_ ?_)
 ·exact⟨oe,vs,_,_,(other x (Ne.symm l8)).trans he,hc,jr,hd,h1,l8,BX _ hT (Qi (B5 kj _)),B5 kj _,by simp[rR],l1,l2⟩
 ·exact⟨λb o hb _ l9 _=>(other b l9).trans hb,λb o hb _ l9=>⟨o.slots,(other b l9).trans hb⟩⟩
def X3{env:Env}{L x T:ae}{cls:ai}{dx:Option ae}{fl:ai}{lo:Nat}{Q:ai->aq->Prop}(hG:env.frame=some L)(hf:fV lo x T cls dx fl s.heap)
 (h:∀h',fV lo x T cls dx (gG L) h'->gu [] x T s.heap h'->Q (.ref x) {s with heap:=h'}):yg M A env Q (.ref x) s:=by
 have X4:=hf;obtain⟨oe,vs,oT,ts,he,hc,jr,hd,h1,_⟩:=X4;unfold yg;refine cg (s_ he hd h1 ?_);rw[if_neg (show¬((di T==i0)=true) from by simp)]
 refine markX hf λh' f k=>h h' ?_ k;rw[hG] at f;exact f
end
end XR
namespace L2
open PySem PySem.Spec PyProof.Rows
open XR (fV gu)
structure Apart(X:Cx)(pins:List (ae×Obj))(x:ae):Prop where
 lo:X.dC.heap.objs.size<=x
 loc:X.env.locals≠x
 EE:∀y c,X.env.cells.lookup y=some c->c≠x
 pin:∀p∈X.pn++pins,p.1≠x
section
variable{X:Cx}{pins:List (ae×Obj)}{σ:St}{H:Hp}{s:aq}{h':aR}{x T:ae}
def Apart.zu(I:Inv X pins σ H s)(h:s.heap.objs.size<=x):Apart X pins x:=by
 have old:∀b,b<s.heap.objs.size->b≠x:=λb hb z=>absurd (eC hb (by rw[z];exact h)) (iK _)
 refine⟨dy I.sz h,old _ I.lt,λy c e=>?_,λp hp=>old _ (cY (I.pin p hp).1)⟩;obtain⟨v,q⟩:=I.cell y c e;exact old c q.lt
def Apart.tracked(I:Inv X pins σ H s){o:HO}(h:H x=some o)(lo:X.dC.heap.objs.size<=x):Apart X pins x:=by
 refine⟨lo,λz=>?_,λy c e z=>?_,λp hp z=>?_⟩
 ·have:=I.free;rw[z,h] at this;exact sn this
 ·have:=I.gY y c e;rw[z,h] at this;exact sn this
 ·have:=(I.pin p hp).2.1;rw[z,h] at this;exact sn this
def Inv.EF(I:Inv X pins σ H s)(k:gu X.stack x T s.heap h')(hx:H x=none)(hT:H T=none)(ax:Apart X pins x)(aT:Apart X pins T):Inv X pins σ H {s with heap:=h'}:=by
 have Ep:c_ X.prog X.w H h':=c_.kn I.aQ k hx hT I.pU;refine I.step (g':=s.gens) (d':=s.drawn) (t':=s.toks) (ch:=[x,T]) (λb hb=>?_) (λb o h1 h2 h3 e n=>?_) (λb o h1 h2 h3 e n=>?_) (λb o _ e n=>n) (λb o h1 e=>?_) (λ_ _ q=>q) (λ_ _ _ q=>q) (λb ps q=>⟨#[],by rw[q];simp⟩) (λm hm=>?_) Ep I.bare
 ·have hb:b=x\/b=T:=by simpa using hb
  rcases hb with rfl|rfl
  ·exact⟨.inr ax.lo,ax.loc.symm,λy c e z=>ax.EE y c e z,λp hp=>ax.pin p hp⟩
  ·exact⟨.inr aT.lo,aT.loc.symm,λy c e z=>aT.EE y c e z,λp hp=>aT.pin p hp⟩
 ·have h3:b≠x/\b≠T:=by simpa using h3
  refine k.keep b o e h3.1 h3.2 λz=>?_;rcases cC.mp (I.vk b z) with z|z
  ·exact h1 z
  ·exact h2 z
 ·have h3:b≠x/\b≠T:=by simpa using h3
  exact k.slot b o e h3.1 h3.2
 ·have h1:b≠x/\b≠T:=by simpa using h1
  obtain⟨sl,q⟩:=k.slot b o e h1.1 h1.2;exact⟨_,q⟩
 ·obtain⟨o,es,ep,ho,r⟩:=hm;obtain⟨sl,q⟩:=k.slot _ o ho ax.loc aT.loc;exact⟨_,es,ep,q,r⟩
theorem Inv.del{φ:aR->Prop}(I:Inv X pins σ H s)(hx:H x=some (.ext φ)):Inv X pins σ (del H x) s:=by
 have d:∀b,H b=none->L2.del H x b=none:=λb e=>by
  by_cases z:b=x
  ·rw[z];exact qo
  ·rw[js z];exact e
 exact⟨I.ok,I.os,I.bare,I.base.del hx,I.loc,I.cell,d _ I.free,λy c e=>d _ (I.gY y c e),λp hp=>let ⟨a,b,c⟩:=I.pin p hp;⟨a,d _ b,c⟩,c_.del I.aQ hx,I.len⟩
end
inductive Own(X:Cx)(E:XK)(e:ai)(s:aq):Prop
 |mk (pins σ H x:_) (_:e=.ref x) (_:Inv X pins σ H s) (_:Apart X pins x) (_:((∃C d,H x=some (gE C x d)/\E (.ref C) (some d) (del H x))\/(∃T cls dx fl,(fl=.none\/∃L,X.env.frame=some L/\fl=gG L)/\fV X.dC.heap.objs.size x T cls dx fl s.heap/\Apart X pins T/\H x=none/\H T=none/\E cls dx H)))
def mi(X:Cx)(E:XK):Prop:=∀e s,Own X E e s->X.xe e s
section
variable{X:Cx}{E:XK}
def mi.lets(t:mi X E):Lets X E:=λpins σ H s x C d I hx lx q=>t _ _ ⟨pins,σ,H,x,rfl,I,Apart.tracked I hx lx,.inl ⟨C,d,hx,q⟩⟩
def mi.passes(t:mi X E):Passes (bf X.prog X.w) X E:=by
 intro pins σ H s e s' I h;obtain⟨x,T,cls,dx,H',rfl,os,bare,un,aQ,fg,hx,hT,q⟩:=h;have I':Inv X pins σ H' s':=I.vn (ch:=[]) os un aQ bare (λb z=>nomatch z);exact t _ _ ⟨pins,σ,H',x,rfl,I',Apart.zu I fg.lx,.inr ⟨T,cls,dx,.none,.inl rfl,fg.mono I.sz,Apart.zu I fg.lT,hx,hT,q⟩⟩
def MN{x T:ae}{h h':aR}{l:List Env}(k:gu [] x T h h'):gu l x T h h':=⟨λb o a1 a2 a3 _=>k.keep b o a1 a2 a3 (λz=>nomatch z),k.slot⟩
theorem mi.MO(t:mi X E)(d9:X.stack=X.env::X.outer/\X.env.frame=some X.env.locals){e:ai}{s:aq}(o:Own X E e s):pK (model X.prog X.w) X.A X.env (yg (model X.prog X.w) X.A X.env X.xe) e s:=by
 obtain⟨pins,σ,H,x,rfl,I,ax,o⟩:=o;have hG:X.A.frames=some (X.env::X.outer):=by rw[<-d9.1];exact I.ok.frames
 have fr:=I.stack;rw[d9.1] at fr;have back:∀(h1:aR) (H1:Hp) (T:ae) (cls:ai) (dx:Option ae),Inv X pins σ H1 {s with heap:=h1}->fV X.dC.heap.objs.size x T cls dx (gG X.env.locals) h1->Apart X pins T->H1 x=none->H1 T=none->E cls dx H1->
  yg (model X.prog X.w) X.A X.env X.xe (.ref x) {s with heap:=h1}:=by
  intro h1 H1 T cls dx J fl aT hx hT q;refine XR.X3 (s:={s with heap:=h1}) d9.2 fl λh2 f2 k2=>t _ _ ⟨pins,σ,H1,x,rfl,J.EF (h':=h2) (MN k2) hx hT ax aT,ax,.inr ⟨T,cls,dx,_,.inr ⟨_,d9.2,rfl⟩,f2,aT,hx,hT,q⟩⟩
 unfold pK;rcases o with⟨C,d,hx,q⟩|⟨T,cls,dx,fl,o8,fg,aT,hx,hT,q⟩
 ·obtain⟨⟨t0,ex⟩,_⟩:df X.prog X.w H s.heap x (gE C x d):=I.aQ x _ hx;refine XR.Mo hG fr d9.2 ex ax.lo I.sz λh1 T1 uq f1 k1=>?_;rw[<-d9.1] at k1;have J:=I.del hx;have hd:del H x x=none:=qo;have hT:T1≠x:=λz=>absurd (eC (cY ex) (by rw[<-z];exact uq)) (iK _)
  exact back h1 _ T1 _ _ (J.EF k1 hd hd ax ax) f1 (Apart.zu I uq) hd (by rw[js hT];exact I.aQ.fresh uq) q
 ·rcases o8 with rfl|⟨L,eL,rfl⟩
  ·refine XR.zm hG fr d9.2 fg λh1 T1 uq f1 k1=>?_;rw[<-d9.1] at k1;exact back h1 H T1 _ _ (I.EF k1 hx hT ax aT) f1 (Apart.zu I uq) hx (I.aQ.fresh uq) q
  ·rw[d9.2] at eL;obtain rfl:=aZ eL;exact XR.ML d9.2 fg (back s.heap H T _ _ I fg aT hx hT q)
def X5{pn:List (ae×Obj)}{xe:ai->aq->Prop}{e:ai}{s:aq}(o:Own (X.gR pn xe) E e s):Own X E e s:=by
 obtain⟨pins,σ,H,x,rfl,I,ax,o⟩:=o;have ap:∀{y:ae},Apart (X.gR pn xe) pins y->Apart X pn y:=λa=>⟨a.lo,a.loc,a.EE,λp hp=>a.pin p (IK _ hp)⟩;refine⟨pn,σ,H,x,rfl,I.fW,ap ax,o.imp id λ⟨T,cls,dx,fl,h1,h2,h3,h4⟩=>⟨T,cls,dx,fl,h1,h2,ap h3,h4⟩⟩
def MQ{pn:List (ae×Obj)}:mi (X.gR pn (Own X E)) E:=λe s o=>X5 o
end
section
variable{P:bQ}{w:bB}{K:aI}{mg:Str->Option ai}{base:aR}{N:List Str}{qual:Str}{scope:d6}{f:ae}{cd:ai}{A:cQ}{outer:List Env}{s0:aq}{H0:Hp}{E:XK}
def qp:mi (i_ (bf P w) P w K mg base N qual scope f cd A outer s0 H0 E) E:=by
 rintro e s ⟨pins,σ,H,x,rfl,I,ax,o⟩;rcases o with⟨C,d,hx,q⟩|⟨T,cls,dx,fl,o8,fg,aT,hx,hT,q⟩
 ·exact rS pins σ H s x C d I hx ax.lo q
 ·rcases o8 with rfl|⟨L,eL,rfl⟩
  ·refine XR.Mq (base:=base) I.ok.frames I.stack rfl fg λtZ T' iC kq k=>?_;exact⟨x,T',cls,dx,H,rfl,I.os,I.bare,I.leave (base:=base) ⟨rfl,rfl⟩ rfl k ax.lo aT.lo,I.aQ.kn k hx hT I.pU,kq,hx,I.aQ.fresh iC,q⟩
  ·have eL:some s0.heap.objs.size=some L:=eL;obtain rfl:=aZ eL;show aU _ _ (leaving _ _) _ _ _;unfold leaving;refine cg (XR.ML (L:=s0.heap.objs.size) rfl fg ?_);refine XR.rQ fg λh2 f2 k2=>?_;have k:gu (envOfC qual scope s0.heap.objs.size f cd::outer) x T s.heap h2:=MN k2;exact⟨x,T,cls,dx,H,rfl,I.os,I.bare,I.leave (base:=base) ⟨rfl,rfl⟩ rfl k ax.lo aT.lo,I.aQ.kn k hx hT I.pU,f2,hx,hT,q⟩
end
def MS(X:Cx)(body:List cD)(tb:XK->TS):Prop:=∀(pn:List (ae×Obj)) (xe:ai->aq->Prop) (E:XK),mi (X.gR pn xe) E->gy (X.gR pn xe) body (tb E)
section
variable{X:Cx}{E:XK}{pos:Pos}
def zv{c:bj}{body:List cD}{tc:TT}{tb:XK->TS}(ht:mi X E)(d9:X.stack=X.env::X.outer/\X.env.frame=some X.env.locals)(hc:∀pn xe,PT (X.gR pn xe) c tc)(hb:MS X body tb):PS X (.While c body [] pos) (JT tc (tb E)):=by
 intro pins s σ H D I h;obtain⟨W,⟨m0,w0⟩,turn⟩:=h;have out:∀{α:Type} {t:Sem α} {Q:α->aq->Prop} {s:aq},aU (model X.prog X.w) X.A t Q (Own X E) s->aU (model X.prog X.w) X.A t Q (pK (model X.prog X.w) X.A X.env (yg (model X.prog X.w) X.A X.env X.xe)) s:=λh=>fN h (λ_ _ z=>z) λe s o=>ht.MO d9 o;refine wpAny_While (codeAny_whileLoop (λn s'=>∃σ' H',Inv X pins σ' H' s'/\W n σ' H') ?_ m0 ⟨σ,H,I,w0⟩);rintro n s1 ⟨σ1,H1,I1,w1⟩;refine out (aX (hc pins (Own X E) [] s1 σ1 H1 _ I1.gR (turn n σ1 H1 w1)) λb s2 ⟨H2,I2,q2⟩=>?_);cases b with
 |true=>
  obtain⟨N,hN,q2⟩:=q2;rw[if_pos rfl];refine out (aX (hb pins (Own X E) E MQ [] s2 σ1 H2 _ I2 q2) λf s3 q3=>?_);cases f with
  |next=>
   obtain⟨σ3,H3,I3,n3⟩:=q3;obtain⟨m',hm,w3⟩:=hN σ3 H3 n3;exact⟨m',hm,σ3,H3,I3.fW,w3⟩
  |cont=>
   obtain⟨σ3,H3,I3,n3⟩:=q3;obtain⟨m',hm,w3⟩:=hN σ3 H3 n3;exact⟨m',hm,σ3,H3,I3.fW,w3⟩
  |brk=>obtain⟨σ3,H3,I3,q3⟩:=q3;exact⟨σ3,H3,I3.fW,q3⟩
  |ret v=>obtain⟨x7,σ7,H7,I7,r7,q7⟩:=q3;exact⟨x7,σ7,H7,I7.fW,r7,q7⟩
 |false=>
  rw[if_neg cW];exact sP ⟨σ1,H2,I2.fW,q2⟩
def zw{tg iter:bj}{body:List cD}{wi:TI}{g:TG}{tb:XK->TS}(ht:mi X E)(d9:X.stack=X.env::X.outer/\X.env.frame=some X.env.locals)(hc:X.calm=true)(hi:PI X tg iter wi)(hg:∀pn xe,PG (X.gR pn xe) tg g)(hb:MS X body tb)
 (hs:∀x,BK iter X.env x=pure x:=by intro _;rfl):PS X (.For tg iter body [] pos) (JU wi g (tb E)):=by
 intro pins s σ H D I h;have out:∀{α:Type} {t:Sem α} {Q:α->aq->Prop} {s:aq},aU (model X.prog X.w) X.A t Q (Own X E) s->aU (model X.prog X.w) X.A t Q (pK (model X.prog X.w) X.A X.env (yg (model X.prog X.w) X.A X.env X.xe)) s:=λh=>fN h (λ_ _ z=>z) λe s o=>ht.MO d9 o;refine wpAny_For (aX (hi pins s σ H _ I h) λv s1 h1=>aX h1 λyE s2 h2=>?_) hs;obtain⟨it,fp,tn,J,H2,e,I2,T,tP,f2,W,⟨m0,w0⟩,turn⟩:=h2;subst e;have lH:∀{H':Hp},(∀b∈fp,H' b=none)->∀b∈fp,lF X pins H' b:=λhn b hb=>⟨hn b hb,(f2 b hb).2⟩;refine codeAny_forLoop_any (λn s'=>∃i σ' H',Inv X pins σ' H' s'/\tn i s'.heap/\ (∀b∈fp,H' b=none)/\W i n σ' H') ?_ m0 ⟨0,σ,H2,I2,tP,λb hb=>(f2 b hb).1,w0⟩;rintro n s3 ⟨i,σ3,H3,I3,q_,vq,w3⟩;rcases turn i n σ3 H3 w3 with⟨stop,qn⟩|⟨go,N,hN,step⟩
 ·refine out (aX (T.done X rfl rfl rfl hc i pins s3 σ3 H3 (Own X E) I3 (lH vq) q_ stop) λr s4 ⟨hr,I4⟩=>?_);subst hr;exact sP ⟨σ3,H3,I4,qn⟩
 ·refine out (aX (T.item X rfl rfl rfl hc i pins s3 σ3 H3 (Own X E) I3 (lH vq) q_ go) λr s4 ⟨u,hr,h4⟩=>?_);subst hr;refine out (aX h4 λ_ s5 ⟨x,H5,I5,r5,y5,nI,Cr⟩=>?_);have Cs:=I5.pinned (lH Cr) (T.obj _ _ nI);refine out (aX (hg (pins++p9 fp s5.heap) (Own X E) [] s5 σ3 H5 x u _ Cs.gR r5 (step x H5 y5)) λ_ s6 ⟨σ6,H6,I6,q6⟩=>?_);refine out (aX (hb (pins++p9 fp s5.heap) (Own X E) E MQ [] s6 σ6 H6 _ I6 q6) λf s7 q7=>?_);have again:∀{σ7:St} {H7:Hp},Inv X (pins++p9 fp s5.heap) σ7 H7 s7->N σ7 H7->∃m,m<n/\ ∃i σ' H',Inv X pins σ' H' s7/\tn i s7.heap/\ (∀b∈fp,H' b=none)/\W i m σ' H':=λ{σ7 H7} I7 n7=>by
   obtain⟨m',hm,w7⟩:=hN σ7 H7 n7;refine⟨m',hm,i+1,σ7,H7,I7.q0,T.keep _ _ _ nI λb hb o e=>(I7.pin (b,o) (mY _ (mY _ (vp hb e)))).1,λb hb=>?_,w7⟩;obtain⟨o,e,d⟩:=T.obj _ _ nI b hb;exact(I7.pin (b,o) (mY _ (mY _ (vp hb e)))).2.1
  cases f with
  |next=>obtain⟨σ7,H7,I7,n7⟩:=q7;exact again I7.fW n7
  |cont=>obtain⟨σ7,H7,I7,n7⟩:=q7;exact again I7.fW n7
  |brk=>obtain⟨σ7,H7,I7,q7⟩:=q7;exact⟨σ7,H7,I7.fW.q0,q7⟩
  |ret v=>obtain⟨x7,σ7,H7,I7,r7,q7⟩:=q7;exact⟨x7,σ7,H7,I7.fW.q0,r7,q7⟩
end
section
variable{X:Cx}{x:Str}{e:bj}{te:TE}{pos pos':Pos}
def bE(i:Nat)(hN:X.N.Nodup)(he:PE X e te)(hi:X.N[i]? =some x:=by exact rfl)(hx:Loc X.env.scope x:=by exact .inl rfl)(hs:qI e (some (.Name x pos')) pos.line X.env=pure false:=by exact rfl)(hf:X.fn x=true\/X.env.scope.names.lookup x=some .local:=by first|exact .inl rfl|exact .inr rfl|assumption):
 PS X (.Assign [.Name x pos'] e pos) (yB te (tO i)):=JS hN hi hx he hs hf
def fD(i:Nat)(hN:X.N.Nodup)(hi:X.N[i]? =some x:=by exact rfl)(hx:Loc X.env.scope x:=by exact .inl rfl)(hf:X.fn x=true\/X.env.scope.names.lookup x=some .local:=by first|exact .inl rfl|exact .inr rfl|assumption):PG X (.Name x pos) (tO i):=Q2 hN hi hx hf
end
end L2
namespace Lm
variable{P:bQ}{w:bB}{K:aI}{mg:Str->Option ai}{base:aR}{f:ae}{fd:dP}
open PySem PySem.Spec PyProof.Rows L2
def top(i:Nat):cD:=PySem.Challenge.pw_lanemachine_s01_answers.main.body.getD i (.Pass ⟨0,0,0,0⟩)
def aY{N P:List Str}{sc:d6}(h:sc.kind=.function/\sc.isCoroutine=false/\sc.isGenerator=false/\N.Nodup/\N.take P.length=P/\ (∀x∈P,sc.names.lookup x=some .local\/sc.names.lookup x=some .cell)/\ ∀y∈sc.names,y.2≠ .free:=by decide+kernel):aS N P sc:=
 let ⟨a,b,c,d,e,f,g⟩:=h;⟨a,b,c,d,e,f,g⟩
def _root_.L2.aD.oK{P:bQ}{w:bB}{K:aI}{mg:Str->Option ai}{base:aR}{x qual:Str}{st:cD}{f:ae}{fd:dP}{N ps:List Str}{k:Nat}{sp:Sp}(F:aD K x qual st f fd)(S:aS N ps (aG st))
 (lK:∀(b9:ai) (A:cQ) (outer:List Env) (s:aq) (H:Hp) (vs:List V) (Q:VK) (E:XK),dE k (A.deeper (envOfC qual (aG st) s.heap.objs.size f b9))->sp vs H Q E->
   ∃t,gy (i_ au P w K mg base N qual (aG st) f b9 A outer s H E).tM (hX st) t/\t {nx:=λ_ H'=>Q .aM H',rt:=Q} (start N vs) H)
 (len:∀vs H Q E,sp vs H Q E->vs.length=ps.length:=by intro _ _ _ _ h;repeat first|(cases h;subst_vars;rfl)|obtain⟨_,h⟩:=h):aB P w K mg base au (k+1) f fd ps sp:=F.ok S len lK
def _root_.L2.aD.oX{P:bQ}{w:bB}{K:aI}{mg:Str->Option ai}{base:aR}{x qual:Str}{st:cD}{f:ae}{fd:dP}{N ps:List Str}{k:Nat}{sp:Sp}(F:aD K x qual st f fd)(S:aS N ps (aG st))
 (lK:∀(b9:ai) (A:cQ) (outer:List Env) (s:aq) (H:Hp) (vs:List V) (Q:VK) (E:XK),dE k (A.deeper (envOfC qual (aG st) s.heap.objs.size f b9))->sp vs H Q E->
   ∃t,gy (i_ (bf P w) P w K mg base N qual (aG st) f b9 A outer s H E) (hX st) t/\t {nx:=λ_ H'=>Q .aM H',rt:=Q} (start N vs) H)
 (len:∀vs H Q E,sp vs H Q E->vs.length=ps.length:=by intro _ _ _ _ h;repeat first|(cases h;subst_vars;rfl)|obtain⟨_,h⟩:=h):aB P w K mg base (bf P w) (k+1) f fd ps sp:=F.Mx S len lK
section
variable{x l:Str}{st:cD}
def _root_.L2.aD.b1(F:aD K x l st f fd)(p:Str)(h:∀(kV doc pm:ai) (an:Option ae) (b9 ct a:ai),qJ (j0 x l (ke st) (hX st) (aG st) .none kV doc pm an b9 ct) ⟨[a],[]⟩=pure [(p,a)]:=by intros;rfl):Binds K fd [p] []:=
 F.binds λ_ _ _ _ _ _ us hl=>match us,hl with|[_],_=>h ..
def _root_.L2.aD.b2(F:aD K x l st f fd)(p q:Str)(h:∀(kV doc pm:ai) (an:Option ae) (b9 ct a b:ai),qJ (j0 x l (ke st) (hX st) (aG st) .none kV doc pm an b9 ct) ⟨[a,b],[]⟩=pure [(p,a),(q,b)]:=by intros;rfl):Binds K fd [p,q] []:=
 F.binds λ_ _ _ _ _ _ us hl=>match us,hl with|[_,_],_=>h ..
def _root_.L2.aD.b3(F:aD K x l st f fd)(p q r:Str)(h:∀(kV doc pm:ai) (an:Option ae) (b9 ct a b c:ai),qJ (j0 x l (ke st) (hX st) (aG st) .none kV doc pm an b9 ct) ⟨[a,b,c],[]⟩=pure [(p,a),(q,b),(r,c)]:=by intros;rfl):Binds K fd [p,q,r] []:=
 F.binds λ_ _ _ _ _ _ us hl=>match us,hl with|[_,_,_],_=>h ..
def _root_.L2.aD.b4(F:aD K x l st f fd)(p q r s:Str)(h:∀(kV doc pm:ai) (an:Option ae) (b9 ct a b c d:ai),qJ (j0 x l (ke st) (hX st) (aG st) .none kV doc pm an b9 ct) ⟨[a,b,c,d],[]⟩=pure [(p,a),(q,b),(r,c),(s,d)]:=by intros;rfl):Binds K fd [p,q,r,s] []:=
 F.binds λ_ _ _ _ _ _ us hl=>match us,hl with|[_,_,_,_],_=>h ..
end
abbrev EG:=top 26
abbrev X6:List Str:=["a","b","total"]
def MU:aS X6 ["a","b"] (aG EG):=aY
abbrev EH:=top 27
abbrev X7:List Str:=["a","b","difference"]
def MV:aS X7 ["a","b"] (aG EH):=aY
abbrev EI:=top 28
abbrev X8:List Str:=["a","b","product"]
def MW:aS X8 ["a","b"] (aG EI):=aY
abbrev EJ:=top 29
abbrev X9:List Str:=["a","b"]
def X_:aS X9 ["a","b"] (aG EJ):=aY
abbrev EL:=top 30
abbrev X':List Str:=["a","b"]
def Ya:aS X' ["a","b"] (aG EL):=aY
abbrev EM:=top 31
abbrev Yb:List Str:=["a","b"]
def Yc:aS Yb ["a","b"] (aG EM):=aY
abbrev uu:=top 32
abbrev Yd:List Str:=["a","b"]
def Ye:aS Yd ["a","b"] (aG uu):=aY
abbrev EN:=top 33
abbrev Yf:List Str:=["a","b"]
def Yg:aS Yf ["a","b"] (aG EN):=aY
abbrev EO:=top 34
abbrev Yh:List Str:=["a","b"]
def Yi:aS Yh ["a","b"] (aG EO):=aY
abbrev ER:=top 35
abbrev Yj:List Str:=["a","b"]
def Yk:aS Yj ["a","b"] (aG ER):=aY
abbrev ES:=top 36
abbrev Yl:List Str:=["a","b"]
def Ym:aS Yl ["a","b"] (aG ES):=aY
abbrev rX:=top 37
abbrev Yn:List Str:=["number"]
def Yo:aS Yn ["number"] (aG rX):=aY
abbrev ET:=top 38
abbrev Yp:List Str:=["a","b"]
def Yq:aS Yp ["a","b"] (aG ET):=aY
abbrev EU:=top 39
abbrev Yr:List Str:=["a","b"]
def Ys:aS Yr ["a","b"] (aG EU):=aY
abbrev EV:=top 40
abbrev Yt:List Str:=["a"]
def Yu:aS Yt ["a"] (aG EV):=aY
abbrev EW:=top 41
abbrev Yv:List Str:=["a"]
def Yw:aS Yv ["a"] (aG EW):=aY
abbrev EX:=top 42
abbrev Yx:List Str:=["a"]
def Yy:aS Yx ["a"] (aG EX):=aY
abbrev EY:=top 43
abbrev Yz:List Str:=["a"]
def YA:aS Yz ["a"] (aG EY):=aY
abbrev wq:=top 46
abbrev YB:List Str:=["operator"]
def YC:aS YB ["operator"] (aG wq):=aY
abbrev EZ:=inClass (top 48) 0
abbrev YD:List Str:=["self","kind","place"]
def YE:aS YD ["self","kind","place"] (aG EZ):=aY
abbrev uv:=inClass (top 49) 0
abbrev E4:List Str:=["self","width","number"]
def wt:aS E4 ["self","width"] (aG uv):=aY
abbrev wu:=inClass (top 50) 0
abbrev MY:List Str:=["self","width","arrays","budget","array"]
def E5:aS MY ["self","width","arrays","budget"] (aG wu):=aY
abbrev zx:=top 51
abbrev YF:List Str:=["run"]
def YG:aS YF ["run"] (aG zx):=aY
abbrev wx:=top 52
abbrev MZ:List Str:=["run","lane","kind","place","other"]
def E6:aS MZ ["run","lane","kind","place"] (aG wx):=aY
abbrev wz:=top 53
abbrev M0:List Str:=["run","told","mask","lane"]
def zy:aS M0 ["run","told"] (aG wz):=aY
abbrev zA:=top 54
abbrev YH:List Str:=["run","told","operand"]
def YI:aS YH ["run","told","operand"] (aG zA):=aY
abbrev zB:=top 55
abbrev YJ:List Str:=["run","told","operand"]
def YK:aS YJ ["run","told","operand"] (aG zB):=aY
abbrev zC:=top 56
abbrev YL:List Str:=["run","told","operand"]
def YM:aS YL ["run","told","operand"] (aG zC):=aY
abbrev zD:=top 57
abbrev YN:List Str:=["run","told","number"]
def YO:aS YN ["run","told","number"] (aG zD):=aY
abbrev E7:=top 58
abbrev YQ:List Str:=["run","told","target","lane"]
def E8:aS YQ ["run","told"] (aG E7):=aY
abbrev zE:=top 59
abbrev YR:List Str:=["run","told","number","target","lane"]
def E9:aS YR ["run","told","number"] (aG zE):=aY
abbrev E_:=top 60
abbrev YS:List Str:=["run","told"]
def YT:aS YS ["run","told"] (aG E_):=aY
abbrev Fb:=top 61
abbrev YU:List Str:=["run","told"]
def YV:aS YU ["run","told"] (aG Fb):=aY
abbrev Fd:=top 62
abbrev YW:List Str:=["run","told","target","source","lane"]
def zF:aS YW ["run","told"] (aG Fd):=aY
abbrev Fe:=top 63
abbrev YX:List Str:=["run","told","operator","target","source","lane","number"]
def uw:aS YX ["run","told"] (aG Fe):=aY
abbrev Ff:=top 64
abbrev YY:List Str:=["run","told","operator","target","first","second","lane","number"]
def rY:aS YY ["run","told"] (aG Ff):=aY
abbrev zG:=top 65
abbrev YZ:List Str:=["run","told","kind","place","target","array","where","lane"]
def wA:aS YZ ["run","told","kind","place"] (aG zG):=aY
abbrev Fg:=top 66
abbrev Y0:List Str:=["run","told"]
def Y1:aS Y0 ["run","told"] (aG Fg):=aY
abbrev Fh:=top 67
abbrev Y2:List Str:=["run","told"]
def Y3:aS Y2 ["run","told"] (aG Fh):=aY
abbrev Fj:=top 68
abbrev Y4:List Str:=["run","told","array","where","source","lane"]
def wB:aS Y4 ["run","told"] (aG Fj):=aY
abbrev Fl:=top 69
abbrev Y5:List Str:=["run","told","target","source","lane"]
def zI:aS Y5 ["run","told"] (aG Fl):=aY
abbrev Fn:=top 70
abbrev Y6:List Str:=["run","told","target","bound","lane"]
def zJ:aS Y6 ["run","told"] (aG Fn):=aY
abbrev zK:=top 71
abbrev Y7:List Str:=["run","told","combined","target","first","second","lane"]
def wC:aS Y7 ["run","told","combined"] (aG zK):=aY
abbrev wD:=top 72
abbrev Y8:List Str:=["run","told"]
def Y9:aS Y8 ["run","told"] (aG wD):=aY
abbrev wF:=top 73
abbrev Y_:List Str:=["run","told"]
def Y':aS Y_ ["run","told"] (aG wF):=aY
abbrev wG:=top 74
abbrev Za:List Str:=["run","told"]
def Zb:aS Za ["run","told"] (aG wG):=aY
abbrev Fp:=top 75
abbrev Zc:List Str:=["run","told"]
def Zd:aS Zc ["run","told"] (aG Fp):=aY
abbrev Fq:=top 76
abbrev Ze:List Str:=["run","told"]
def Zf:aS Ze ["run","told"] (aG Fq):=aY
abbrev Fs:=top 77
abbrev Zg:List Str:=["run","told"]
def Zh:aS Zg ["run","told"] (aG Fs):=aY
abbrev Ft:=top 78
abbrev Zi:List Str:=["run","told","operator","number"]
def Fu:aS Zi ["run","told"] (aG Ft):=aY
abbrev zL:=top 79
abbrev Zj:List Str:=["run","number"]
def Zk:aS Zj ["run","number"] (aG zL):=aY
abbrev Fv:=top 80
abbrev Zl:List Str:=["run","told","source"]
def M4:aS Zl ["run","told"] (aG Fv):=aY
abbrev Fw:=top 81
abbrev Zm:List Str:=["run","told","target"]
def M5:aS Zm ["run","told"] (aG Fw):=aY
abbrev Fy:=top 82
abbrev Zn:List Str:=["run","told","number"]
def M6:aS Zn ["run","told"] (aG Fy):=aY
abbrev Fz:=top 83
abbrev Zo:List Str:=["run","told"]
def Zp:aS Zo ["run","told"] (aG Fz):=aY
abbrev zM:=top 84
abbrev Zq:List Str:=["run","fault"]
def M7:aS Zq ["run"] (aG zM):=aY
abbrev FD:=top 85
abbrev Zr:List Str:=["run","told"]
def Zs:aS Zr ["run","told"] (aG FD):=aY
abbrev FE:=top 87
abbrev Zt:List Str:=["run","body","told","action"]
def FF:aS Zt ["run","body"] (aG FE):=aY
abbrev FG:=top 88
abbrev Zu:List Str:=["code","width","arrays","budget","run"]
def M8:aS Zu ["code","width","arrays","budget"] (aG FG):=aY
abbrev FH:=inClass (top 98) 0
abbrev Zv:List Str:=["self","position"]
def Zw:aS Zv ["self","position"] (aG FH):=aY
abbrev zN:=inClass (top 99) 0
abbrev Zx:List Str:=["self","text","start","end"]
def Zy:aS Zx ["self","text","start","end"] (aG zN):=aY
abbrev zO:=top 100
abbrev Zz:List Str:=["byte"]
def ZA:aS Zz ["byte"] (aG zO):=aY
abbrev zQ:=top 101
abbrev ZC:List Str:=["byte"]
def ZD:aS ZC ["byte"] (aG zQ):=aY
abbrev zR:=top 102
abbrev ZE:List Str:=["byte"]
def ZF:aS ZE ["byte"] (aG zR):=aY
abbrev wH:=top 103
abbrev M9:List Str:=["text","start","end","byte"]
def FI:aS M9 ["text","start","end"] (aG wH):=aY
abbrev zT:=top 104
abbrev ZG:List Str:=["digits","most","number"]
def M_:aS ZG ["digits","most"] (aG zT):=aY
abbrev zU:=top 105
abbrev ZH:List Str:=["text","at","end"]
def FJ:aS ZH ["text","at"] (aG zU):=aY
abbrev zV:=top 106
abbrev ZI:List Str:=["text","at","start"]
def zW:aS ZI ["text","at"] (aG zV):=aY
abbrev zX:=top 107
abbrev ZJ:List Str:=["text","start","end"]
def FN:aS ZJ ["text","start"] (aG zX):=aY
abbrev zY:=top 108
abbrev ZK:List Str:=["text","start","end","digits"]
def zZ:aS ZK ["text","start"] (aG zY):=aY
abbrev z7:=top 109
abbrev ZL:List Str:=["text","at","start","byte"]
def FO:aS ZL ["text","at"] (aG z7):=aY
abbrev z8:=inClass (top 114) 0
abbrev ZM:List Str:=["self","action","operator","parts"]
def ZN:aS ZM ["self","action","operator","parts"] (aG z8):=aY
abbrev z9:=inClass (top 115) 0
abbrev ZO:List Str:=["self"]
def ZP:aS ZO ["self"] (aG z9):=aY
abbrev z_:=inClass (top 116) 0
abbrev ZQ:List Str:=["self","text"]
def ZR:aS ZQ ["self","text"] (aG z_):=aY
abbrev wI:=inClass (top 116) 1
abbrev ZS:List Str:=["self"]
def ZT:aS ZS ["self"] (aG wI):=aY
abbrev wJ:=inClass (top 116) 2
abbrev ZU:List Str:=["self","fits"]
def ZV:aS ZU ["self","fits"] (aG wJ):=aY
abbrev wK:=inClass (top 116) 3
abbrev ZW:List Str:=["self","text"]
def ZX:aS ZW ["self","text"] (aG wK):=aY
abbrev wL:=inClass (top 116) 4
abbrev ZY:List Str:=["self","most","number"]
def M':aS ZY ["self","most"] (aG wL):=aY
abbrev Aa:=top 117
abbrev ZZ:List Str:=["reader","letter"]
def Z0:aS ZZ ["reader","letter"] (aG Aa):=aY
abbrev Ab:=top 118
abbrev Z1:List Str:=["reader","letter","word","number"]
def FP:aS Z1 ["reader","letter"] (aG Ab):=aY
abbrev FQ:=top 119
abbrev Z2:List Str:=["reader","told"]
def Z3:aS Z2 ["reader","told"] (aG FQ):=aY
abbrev FR:=top 120
abbrev Z4:List Str:=["reader","told","below","distance","number"]
def Ad:aS Z4 ["reader","told"] (aG FR):=aY
abbrev FU:=top 121
abbrev Z5:List Str:=["reader","told"]
def Z6:aS Z5 ["reader","told"] (aG FU):=aY
abbrev FV:=top 122
abbrev Z7:List Str:=["reader","told"]
def Z8:aS Z7 ["reader","told"] (aG FV):=aY
abbrev Ae:=top 123
abbrev Z9:List Str:=["reader","part","told","number"]
def Na:aS Z9 ["reader","part","told"] (aG Ae):=aY
abbrev Af:=top 124
abbrev Z_:List Str:=["word"]
def Z':aS Z_ ["word"] (aG Af):=aY
abbrev Ag:=top 125
abbrev aaa:List Str:=["word"]
def aab:aS aaa ["word"] (aG Ag):=aY
abbrev Ah:=top 126
abbrev aac:List Str:=["reader","around","body"]
def FW:aS aac ["reader","around"] (aG Ah):=aY
abbrev FX:=top 127
abbrev aad:List Str:=["reader","told","around"]
def aae:aS aad ["reader","told","around"] (aG FX):=aY
abbrev FY:=top 128
abbrev aaf:List Str:=["reader","around","word","shape","told","part"]
def wM:aS aaf ["reader","around"] (aG FY):=aY
abbrev FZ:=top 129
abbrev aag:List Str:=["reader"]
def aah:aS aag ["reader"] (aG FZ):=aY
abbrev Ai:=top 130
abbrev aai:List Str:=["text","reader"]
def Nb:aS aai ["text"] (aG Ai):=aY
abbrev Aj:=top 132
abbrev Nc:List Str:=["text","sign"]
def F_:aS Nc ["text"] (aG Aj):=aY
abbrev F':=top 133
abbrev aaj:List Str:=["body","lines","told"]
def Gb:aS aaj ["body"] (aG F'):=aY
abbrev Ak:=top 134
abbrev aak:List Str:=["told","head","lines"]
def wN:aS aak ["told"] (aG Ak):=aY
abbrev wO:=top 135
abbrev Gd:List Str:=["code","lines","length","line"]
def wQ:aS Gd ["code"] (aG wO):=aY
abbrev Ge:=top 136
abbrev aal:List Str:=["operator","length","place","array","begin","each_strip"]
def Al:aS aal ["operator","length","place"] (aG Ge):=aY
abbrev Am:=inClass (top 138) 0
abbrev aam:List Str:=["self"]
def aan:aS aam ["self"] (aG Am):=aY
abbrev An:=top 139
abbrev Nd:List Str:=["machine","numbers","text","code","length"]
def Ao:aS Nd ["machine","numbers","text"] (aG An):=aY
abbrev Gf:=top 140
abbrev aao:List Str:=["machine","numbers","text","wrong"]
def Nf:aS aao ["machine","numbers","text"] (aG Gf):=aY
abbrev Gg:=top 141
abbrev aap:List Str:=["machine","numbers","row"]
def aaq:aS aap ["machine","numbers","row"] (aG Gg):=aY
abbrev Gh:=top 142
abbrev aar:List Str:=["machine","numbers","row","width"]
def Ng:aS aar ["machine","numbers","row"] (aG Gh):=aY
abbrev Gi:=top 143
abbrev aas:List Str:=["number"]
def aat:aS aas ["number"] (aG Gi):=aY
abbrev Gj:=top 144
abbrev aau:List Str:=["rows","wanted"]
def aav:aS aau ["rows","wanted"] (aG Gj):=aY
abbrev Ap:=top 145
abbrev Nh:List Str:=["machine","numbers","data","wanted","number"]
def Aq:aS Nh ["machine","numbers","data"] (aG Ap):=aY
abbrev Gk:=top 146
abbrev aaw:List Str:=["machine","numbers","row","budget","run","stop"]
def Ar:aS aaw ["machine","numbers","row"] (aG Gk):=aY
abbrev Gm:=top 147
abbrev aax:List Str:=["rows","wanted"]
def aay:aS aax ["rows","wanted"] (aG Gm):=aY
abbrev Gs:=top 148
abbrev aaz:List Str:=["machine","numbers","row"]
def aaA:aS aaz ["machine","numbers","row"] (aG Gs):=aY
abbrev Gv:=top 149
abbrev aaB:List Str:=["machine","numbers","row"]
def aaC:aS aaB ["machine","numbers","row"] (aG Gv):=aY
abbrev Gw:=top 150
abbrev aaD:List Str:=["machine","numbers","row","scalars"]
def Ni:aS aaD ["machine","numbers","row"] (aG Gw):=aY
abbrev Gx:=top 151
abbrev aaE:List Str:=["machine","numbers","row"]
def aaF:aS aaE ["machine","numbers","row"] (aG Gx):=aY
abbrev Gy:=top 152
abbrev aaG:List Str:=["machine","numbers","row","operator","length","place"]
def As:aS aaG ["machine","numbers","row"] (aG Gy):=aY
abbrev Au:=top 156
abbrev aaH:List Str:=["calls","machine","answered","at","call","row_at","numbers","row","answerer","answer"]
def ks:aS aaH ["calls"] (aG Au):=aY
structure GI(mg:Str->Option ai):Prop where
 qr:∃t,mg "LARGEST"=some (.int (1000000000000000000) t)
 Av:∃t,mg "SMALLEST"=some (.int (-1000000000000000000) t)
 aaI:∃t,mg "FIRST_WIDTH"=some (.int (4) t)
 aaJ:∃t,mg "MOST_WIDTH"=some (.int (16) t)
 Nj:∃t,mg "VECTORS"=some (.int (16) t)
 Nk:∃t,mg "SCALARS"=some (.int (16) t)
 Nl:∃t,mg "MASKS"=some (.int (8) t)
 Nm:∃t,mg "MOST_BYTES"=some (.int (16384) t)
 aaK:∃t,mg "MOST_ARRAYS"=some (.int (32) t)
 Nn:∃t,mg "MOST_LENGTH"=some (.int (1024) t)
 aaL:∃t,mg "MOST_INSTRUCTIONS"=some (.int (512) t)
 Np:∃t,mg "MOST_AROUND"=some (.int (7) t)
 aaM:∃t,mg "MOST_BUDGET"=some (.int (100000) t)
 aaN:∃t,mg "INDEX"=some (.int (3) t)
 aaO:∃t,mg "ZERO"=some (.int (4) t)
 aaP:∃t,mg "BIG"=some (.int (5) t)
 aaQ:∃t,mg "DOMAIN"=some (.int (7) t)
 aaR:∃t,mg "STEPS"=some (.int (9) t)
 Gz:∃t,mg "OUT"=some (.int (12) t)
 aaS:∃t,mg "REFUSED_LONG"=some (.int (-1) t)
 aaT:∃t,mg "REFUSED_FORM"=some (.int (-2) t)
 Aw:∃t,mg "REFUSED_NONE"=some (.int (-3) t)
 Ax:∃t,mg "REFUSED_LIMIT"=some (.int (-4) t)
 GG:∃t,mg "REFUSED_ABSENT"=some (.int (-5) t)
 aaU:∃t,mg "REFUSED_DATA"=some (.int (-6) t)
 Nq:∃t,mg "LETTERS"=some (.str "abcdefghijklmnopqrstuvwxyz" t)
 Nr:∃t,mg "DIGITS"=some (.str "0123456789" t)
 aaV:∃t,mg "REMARK_BEGINS"=some (.int (35) t)
 aaW:∃t,mg "REMARK_ENDS"=some (.int (10) t)
 GH:∃t,mg "BYTE_OF_0"=some (.int (48) t)
 GJ:∃t,mg "BYTE_OF_A"=some (.int (97) t)
 aaX:∃t,mg "SHAPE_OF_ONE"=some (.str "vv@?" t)
 aaY:∃t,mg "SHAPE_OF_TWO"=some (.str "vvv@?" t)
 fX:mg "len"=none
 ux:mg "range"=none
 Ay:mg "list"=none
 aaZ:mg "sum"=none
 aa0:mg "all"=none
 aa1:mg "abs"=none
 aa2:mg "int"=none
 Az:mg "str"=none
 aa3:mg "ord"=none
open Vaarrj (work1 work2)
def b_{X:Cx}{x:Str}{i:Int}{pos:Pos}(hm:∃t,X.mg x=some (.int i t))(hg:Gl X x:=by rfl)(hd:(x==("__debug__":Str))=false:=by decide):PE X (.Name x pos) (tC (.int i)):=by
 obtain⟨t,hm⟩:=hm;exact Cm (v:=.int i) hg hm ⟨t,rfl⟩ hd
def uy{X:Cx}{x u:Str}{pos:Pos}(hm:∃t,X.mg x=some (.str u t))(hg:Gl X x:=by rfl)(hd:(x==("__debug__":Str))=false:=by decide):PE X (.Name x pos) (tC (.str u)):=by
 obtain⟨t,hm⟩:=hm;exact Cm (v:=.str u) hg hm ⟨t,rfl⟩ hd
def aa4{X:Cx}:e_ X (oz .FloorDiv) (rI (λ_ j=>j≠0/\j.natAbs<2^64) λi j=>.int (i.fdiv j)):=Cy λi j _ _ _ _ _ hc q=>by
 refine floordiv_int hc.1 q (.inl (PyProof.noPylong_of_log2 ?_));have h0:j.natAbs≠0:=λz=>hc.1 (Int.natAbs_eq_zero.mp z);have:=(Nat.log2_lt h0).mpr hc.2
 lia
def opt(r:Except Nat Int):V:=match r with
 | .ok n=>.int n
 | .error _=>.aM
inductive h_(o:Nat)(vs:List V)(H:Hp)(Q:VK)(_:XK):Prop
 |mk (a b:Int) (_:vs=[.int a,.int b]) (_:MR.Num a) (_:MR.Num b) (_:Q (opt (work2 o a b)) H)
inductive rZ(o:Nat)(vs:List V)(H:Hp)(Q:VK)(_:XK):Prop
 |mk (a:Int) (_:vs=[.int a]) (_:MR.Num a) (_:Q (opt (work1 o a)) H)
def bX{p:Prop}[Decidable p]{A B:Prop}(h1:p->A)(h2: ¬p->B):if decide p=true then A else B:=by
 by_cases h:p
 ·rw[decide_eq_true h];exact du (h1 h)
 ·rw[decide_eq_false h];exact dY (h2 h)
def nV{p:Prop}[Decidable p]{A B:Prop}(h1: ¬p->A)(h2:p->B):if(!decide p)=true then A else B:=by
 by_cases h:p
 ·rw[decide_eq_true h];exact dY (h2 h)
 ·rw[decide_eq_false h];exact du (h1 h)
def GK{n:Int}(h1: -1000000000000000000<=n)(h2:n<=1000000000000000000):yh n=.ok n:=by
 unfold yh B7;rw[if_pos (by rw[eS,decide_eq_true_eq,decide_eq_true_eq];exact⟨h1,h2⟩)]
def uz{n:Int}(h: ¬(-1000000000000000000<=n/\n<=1000000000000000000)):yh n=.error oF:=by
 unfold yh B7;rw[if_neg (by rw[eS,decide_eq_true_eq,decide_eq_true_eq];exact h)]
def aa5(F:aD K "plus" "plus" EG f fd)(g:GI mg):aB P w K mg base au 1 f fd ["a","b"] (h_ 0):=by
 refine F.oK MU λ_ _ _ _ H vs Q E hr h=>?_;obtain⟨a,b,rfl,ha,hb,q⟩:=h;refine⟨_,ay (bE 2 MU.nd (cy i9 (pv 0) (pv 1))) (aw (bh (jj (vt iQ iQ (b_ g.Av) (pv 2) (b_ g.qr)) (pv 2) jC))),?_⟩;refine⟨_,rfl,_,rfl,_,_,rfl,rfl,_,rfl,_,_,rfl,rfl,?_⟩;refine⟨_,rfl,bX (λl1=>⟨_,_,rfl,rfl,_,rfl,bX (λl2=>⟨_,rfl,?_⟩) λl2=>?_⟩) λl1=>⟨_,rfl,dY ?_⟩⟩
 ·have e:work2 0 a b=.ok (a+b):=GK l1 l2;rw[e] at q;exact q
 ·have e:work2 0 a b=.error oF:=uz λz=>l2 z.2;rw[e] at q;exact q
 ·have e:work2 0 a b=.error oF:=uz λz=>l1 z.1;rw[e] at q;exact q
def num_mul{a:Int}(h:MR.Num a): -(2^64)<a/\a<2^64:=by
 obtain⟨h1,h2⟩:=h;rw[MR.great] at h1 h2
 lia
def aa6{a:Int}(h:MR.Num a):a.natAbs<2^64:=by
 obtain⟨h1,h2⟩:=h;rw[MR.great] at h1 h2
 lia
def w3(a b:Int):work2 3 a b=if b=0 then .error vi else .ok (a.fdiv b):=rfl
def w4(a b:Int):work2 4 a b=if b=0 then .error vi else .ok (a-b*a.fdiv b):=rfl
def w5(a b:Int):work2 5 a b=.ok (if a<b then a else b):=rfl
def w6(a b:Int):work2 6 a b=.ok (if a<b then b else a):=rfl
def w7(a b:Int):work2 7 a b=.ok (if decide (a<b)=true then 1 else 0):=rfl
def w8(a b:Int):work2 8 a b=.ok (if decide (a<=b)=true then 1 else 0):=rfl
def w9(a b:Int):work2 9 a b=.ok (if decide (a=b)=true then 1 else 0):=rfl
def Nt(a b:Int):work2 10 a b=.ok (if decide (a≠b)=true then 1 else 0):=rfl
def GO(a b:Int):work2 11 a b=if(jx a&&jx b)=true then Ql (a==1&&b==1) else .error nj:=rfl
def GQ(a b:Int):work2 12 a b=if(jx a&&jx b)=true then Ql (a==1||b==1) else .error nj:=rfl
def v1(a:Int):work1 1 a=.ok ((a.natAbs:Nat):Int):=rfl
def v2(a:Int):work1 2 a=.ok (if a<0 then-1 else if a=0 then 0 else 1):=rfl
def v3(a:Int):work1 3 a=if jx a=true then Ql (a==0) else .error nj:=rfl
def aa7(F:aD K "minus" "minus" EH f fd)(g:GI mg):aB P w K mg base au 1 f fd ["a","b"] (h_ 1):=by
 refine F.oK MV λ_ _ _ _ H vs Q E hr h=>?_;obtain⟨a,b,rfl,ha,hb,q⟩:=h;refine⟨_,ay (bE 2 MV.nd (cy p_ (pv 0) (pv 1))) (aw (bh (jj (vt iQ iQ (b_ g.Av) (pv 2) (b_ g.qr)) (pv 2) jC))),?_⟩;refine⟨_,rfl,_,rfl,_,_,rfl,rfl,_,rfl,_,_,rfl,rfl,?_⟩;refine⟨_,rfl,bX (λl1=>⟨_,_,rfl,rfl,_,rfl,bX (λl2=>⟨_,rfl,?_⟩) λl2=>?_⟩) λl1=>⟨_,rfl,dY ?_⟩⟩
 ·have e:work2 1 a b=.ok (a-b):=GK l1 l2;rw[e] at q;exact q
 ·have e:work2 1 a b=.error oF:=uz λz=>l2 z.2;rw[e] at q;exact q
 ·have e:work2 1 a b=.error oF:=uz λz=>l1 z.1;rw[e] at q;exact q
def aa8(F:aD K "times" "times" EI f fd)(g:GI mg):aB P w K mg base au 1 f fd ["a","b"] (h_ 2):=by
 refine F.oK MW λ_ _ _ _ H vs Q E hr h=>?_;obtain⟨a,b,rfl,ha,hb,q⟩:=h;refine⟨_,ay (bE 2 MW.nd (cy JV (pv 0) (pv 1))) (aw (bh (jj (vt iQ iQ (b_ g.Av) (pv 2) (b_ g.qr)) (pv 2) jC))),?_⟩;refine⟨_,rfl,_,rfl,_,_,rfl,rfl,.inl (num_mul ha),_,rfl,_,_,rfl,rfl,?_⟩;refine⟨_,rfl,bX (λl1=>⟨_,_,rfl,rfl,_,rfl,bX (λl2=>⟨_,rfl,?_⟩) λl2=>?_⟩) λl1=>⟨_,rfl,dY ?_⟩⟩
 ·have e:work2 2 a b=.ok (a*b):=GK l1 l2;rw[e] at q;exact q
 ·have e:work2 2 a b=.error oF:=uz λz=>l2 z.2;rw[e] at q;exact q
 ·have e:work2 2 a b=.error oF:=uz λz=>l1 z.1;rw[e] at q;exact q
def aa9(F:aD K "quotient" "quotient" EJ f fd):aB P w K mg base au 1 f fd ["a","b"] (h_ 3):=by
 refine F.oK X_ λ_ _ _ _ H vs Q E hr h=>?_;obtain⟨a,b,rfl,ha,hb,q⟩:=h;refine⟨_,ay (bZ (bV fT (pv 1) aO (bO _)) (aw (bh jC)) cJ) (aw (bh (cy aa4 (pv 0) (pv 1)))),?_⟩;refine⟨_,rfl,rfl,_,rfl,bX (λz=>?_) λz=>?_⟩
 ·have z:b=0:=by injection z
  have e:work2 3 a b=.error vi:=by simp only[w3,z,if_true]
  rw[e] at q;exact q
 ·have z:b≠0:=λy=>z (by rw[y])
  have e:work2 3 a b=.ok (a.fdiv b):=by simp only[w3,z,if_false]
  rw[e] at q;exact⟨_,rfl,_,rfl,_,_,rfl,rfl,⟨z,aa6 hb⟩,q⟩
def aba(F:aD K "remainder" "remainder" EL f fd):aB P w K mg base au 1 f fd ["a","b"] (h_ 4):=by
 refine F.oK Ya λ_ _ _ _ H vs Q E hr h=>?_;obtain⟨a,b,rfl,ha,hb,q⟩:=h;refine⟨_,ay (bZ (bV fT (pv 1) aO (bO _)) (aw (bh jC)) cJ) (aw (bh (cy Rf (pv 0) (pv 1)))),?_⟩;refine⟨_,rfl,rfl,_,rfl,bX (λz=>?_) λz=>?_⟩
 ·have z:b=0:=by injection z
  have e:work2 4 a b=.error vi:=by simp only[w4,z,if_true]
  rw[e] at q;exact q
 ·have z:b≠0:=λy=>z (by rw[y])
  have e:work2 4 a b=.ok (a.fmod b):=by simp only[w4,z,if_false,Jl]
  rw[e] at q;exact⟨_,rfl,_,rfl,_,_,rfl,rfl,z,q⟩
def abb(F:aD K "smaller" "smaller" EM f fd):aB P w K mg base au 1 f fd ["a","b"] (h_ 5):=by
 refine F.oK Yc λ_ _ _ _ H vs Q E hr h=>?_;obtain⟨a,b,rfl,ha,hb,q⟩:=h;refine⟨_,aw (bh (jj (bV gz (pv 0) (pv 1) (bO _)) (pv 0) (pv 1))),?_⟩;refine⟨_,rfl,_,rfl,_,_,rfl,rfl,_,rfl,bX (λz=>⟨_,rfl,?_⟩) λz=>⟨_,rfl,?_⟩⟩
 ·have e:work2 5 a b=.ok a:=by simp only[w5,z,if_true]
  rw[e] at q;exact q
 ·have e:work2 5 a b=.ok b:=by simp only[w5,z,if_false]
  rw[e] at q;exact q
def Nu(F:aD K "larger" "larger" uu f fd):aB P w K mg base au 1 f fd ["a","b"] (h_ 6):=by
 refine F.oK Ye λ_ _ _ _ H vs Q E hr h=>?_;obtain⟨a,b,rfl,ha,hb,q⟩:=h;refine⟨_,aw (bh (jj (bV lJ (pv 0) (pv 1) (bO _)) (pv 0) (pv 1))),?_⟩;refine⟨_,rfl,_,rfl,_,_,rfl,rfl,_,rfl,bX (λz=>⟨_,rfl,?_⟩) λz=>⟨_,rfl,?_⟩⟩
 ·have z:b<a:=z;have e:work2 6 a b=.ok a:=by rw[w6,if_neg (by lia)]
  rw[e] at q;exact q
 ·have z: ¬b<a:=z;have e:work2 6 a b=.ok b:=by
   rw[w6];by_cases y:a<b
   ·simp only[y,if_true]
   ·have:a=b:=by lia
    rw[if_neg y,this]
  rw[e] at q;exact q
def abc(F:aD K "is_less" "is_less" EN f fd):aB P w K mg base au 1 f fd ["a","b"] (h_ 7):=by
 refine F.oK Yg λ_ _ _ _ H vs Q E hr h=>?_;obtain⟨a,b,rfl,ha,hb,q⟩:=h;refine⟨_,aw (bh (jj (bV gz (pv 0) (pv 1) (bO _)) aO aO)),?_⟩;refine⟨_,rfl,_,rfl,_,_,rfl,rfl,_,rfl,bX (λz=>?_) λz=>?_⟩
 ·have e:work2 7 a b=.ok 1:=by rw[w7,decide_eq_true (show a<b from z)];rfl
  rw[e] at q;exact q
 ·have e:work2 7 a b=.ok 0:=by rw[w7,decide_eq_false (show¬a<b from z)];rfl
  rw[e] at q;exact q
def abd(F:aD K "is_at_most" "is_at_most" EO f fd):aB P w K mg base au 1 f fd ["a","b"] (h_ 8):=by
 refine F.oK Yi λ_ _ _ _ H vs Q E hr h=>?_;obtain⟨a,b,rfl,ha,hb,q⟩:=h;refine⟨_,aw (bh (jj (bV iQ (pv 0) (pv 1) (bO _)) aO aO)),?_⟩;refine⟨_,rfl,_,rfl,_,_,rfl,rfl,_,rfl,bX (λz=>?_) λz=>?_⟩
 ·have e:work2 8 a b=.ok 1:=by rw[w8,decide_eq_true (show a<=b from z)];rfl
  rw[e] at q;exact q
 ·have e:work2 8 a b=.ok 0:=by rw[w8,decide_eq_false (show¬a<=b from z)];rfl
  rw[e] at q;exact q
def abe(F:aD K "is_equal" "is_equal" ER f fd):aB P w K mg base au 1 f fd ["a","b"] (h_ 9):=by
 refine F.oK Yk λ_ _ _ _ H vs Q E hr h=>?_;obtain⟨a,b,rfl,ha,hb,q⟩:=h;refine⟨_,aw (bh (jj (bV fT (pv 0) (pv 1) (bO _)) aO aO)),?_⟩;refine⟨_,rfl,_,rfl,rfl,_,rfl,bX (λz=>?_) λz=>?_⟩
 ·have z:a=b:=by injection z
  have e:work2 9 a b=.ok 1:=by rw[w9,decide_eq_true z];rfl
  rw[e] at q;exact q
 ·have z: ¬a=b:=λy=>z (by rw[y])
  have e:work2 9 a b=.ok 0:=by rw[w9,decide_eq_false z];rfl
  rw[e] at q;exact q
def abf(F:aD K "is_unequal" "is_unequal" ES f fd):aB P w K mg base au 1 f fd ["a","b"] (h_ 10):=by
 refine F.oK Ym λ_ _ _ _ H vs Q E hr h=>?_;obtain⟨a,b,rfl,ha,hb,q⟩:=h;refine⟨_,aw (bh (jj (bV jk (pv 0) (pv 1) (bO _)) aO aO)),?_⟩;refine⟨_,rfl,_,rfl,rfl,_,rfl,nV (λz=>?_) λz=>?_⟩
 ·have z:a≠b:=λy=>z (by rw[y])
  have e:work2 10 a b=.ok 1:=by rw[Nt,decide_eq_true z];rfl
  rw[e] at q;exact q
 ·have z:a=b:=by injection z
  have e:work2 10 a b=.ok 0:=by rw[Nt,decide_eq_false (λy=>y z)];rfl
  rw[e] at q;exact q
inductive AA(vs:List V)(H:Hp)(Q:VK)(_:XK):Prop
 |mk (a:Int) (_:vs=[.int a]) (_:Q (.bl (jx a)) H)
def GU(F:aD K "is_truth" "is_truth" rX f fd):aB P w K mg base au 1 f fd ["number"] AA:=by
 refine F.oK Yo λ_ _ _ _ H vs Q E hr h=>?_;obtain⟨a,rfl,q⟩:=h;refine⟨_,aw (bh (QS (oO fT (pv 0) aO (bO _)) (Cn (oO fT (pv 0) aO (bO _))))),?_⟩;refine⟨_,rfl,rfl,_,rfl,bX (λz=>?_) λz=>⟨_,rfl,rfl,?_⟩⟩
 ·have z:a=0:=by injection z
  have e:jx a=true:=by rw[z];rfl
  rw[e] at q;exact q
 ·have z: ¬a=0:=λy=>z (by rw[y])
  have e:jx a=decide (V.int a=V.int 1):=by
   unfold jx;rw[CB,beq_eq_false_iff_ne.mpr z,Bool.false_or]
  rw[e] at q;exact q
def wR{a:Int}(h:jx a=true):a=0\/a=1:=by
 unfold jx at h;rw[pM,beq_iff_eq,beq_iff_eq] at h;exact h
def abg(F:aD K "both_true" "both_true" ET f fd){ft:ae}{pb:dP}(FT:aD K "is_truth" "is_truth" rX ft pb)(mT:mg "is_truth"=some (.ref ft)):aB P w K mg base au 2 f fd ["a","b"] (h_ 11):=by
 have GT:aB P w K mg base au 1 ft pb ["number"] AA:=GU FT;have bT:=FT.b1 "number";refine F.oK Yq λ_ _ _ _ H vs Q E hr h=>?_;obtain⟨a,b,rfl,ha,hb,q⟩:=h;refine⟨_,ay (bZ (kM (lD (gZ (rk GT hr (by rfl) mT FT.kp bT .nil aW (ah (pv 0) aj)))) (nH (lD (gZ (rk GT hr (by rfl) mT FT.kp bT .nil aW (ah (pv 1) aj)))))).pt (aw (bh jC)) cJ) (aw (bh (cy JV (pv 0) (pv 1)))),?_⟩
 refine⟨_,rfl,a,rfl,_,rfl,?_⟩;cases t1:jx a with
 |false=>
  refine du (du ?_);have e:work2 11 a b=.error nj:=by rw[GO,if_neg (by rw[t1];simp)]
  rw[e] at q;exact q
 |true=>
  refine dY ⟨_,rfl,b,rfl,_,rfl,?_⟩;cases t2:jx b with
  |false=>
   refine du ?_;have e:work2 11 a b=.error nj:=by rw[GO,if_neg (by rw[t2];simp)]
   rw[e] at q;exact q
  |true=>
   refine dY ⟨_,rfl,_,rfl,_,_,rfl,rfl,.inl (num_mul ha),?_⟩;have e:work2 11 a b=.ok (a*b):=by
    rw[GO];rw[if_pos (by rw[t1,t2];rfl)]
    rcases wR t1 with rfl|rfl<;>rcases wR t2 with rfl|rfl<;>rfl
   rw[e] at q;exact q
def abh(F:aD K "either_true" "either_true" EU f fd){ft:ae}{pb:dP}(FT:aD K "is_truth" "is_truth" rX ft pb)(mT:mg "is_truth"=some (.ref ft)){fl:ae}{GV:dP}(FL:aD K "larger" "larger" uu fl GV)(mL:mg "larger"=some (.ref fl)):aB P w K mg base au 2 f fd ["a","b"] (h_ 12):=by
 have GT:aB P w K mg base au 1 ft pb ["number"] AA:=GU FT;have bT:=FT.b1 "number";have GL:aB P w K mg base au 1 fl GV ["a","b"] (h_ 6):=Nu FL;have bL:=FL.b2 "a" "b";refine F.oK Ys λ_ _ _ _ H vs Q E hr h=>?_;obtain⟨a,b,rfl,ha,hb,q⟩:=h;refine⟨_,ay (bZ (kM (lD (gZ (rk GT hr (by rfl) mT FT.kp bT .nil aW (ah (pv 0) aj)))) (nH (lD (gZ (rk GT hr (by rfl) mT FT.kp bT .nil aW (ah (pv 1) aj)))))).pt (aw (bh jC)) cJ) (aw (bh (rk GL (hr.mono (by decide)) (by rfl) mL FL.kp bL .nil aW (ah (pv 0) (ah (pv 1) aj))))),?_⟩
 refine⟨_,rfl,a,rfl,_,rfl,?_⟩;cases t1:jx a with
 |false=>
  refine du (du ?_);have e:work2 12 a b=.error nj:=by rw[GQ,if_neg (by rw[t1];simp)]
  rw[e] at q;exact q
 |true=>
  refine dY ⟨_,rfl,b,rfl,_,rfl,?_⟩;cases t2:jx b with
  |false=>
   refine du ?_;have e:work2 12 a b=.error nj:=by rw[GQ,if_neg (by rw[t2];simp)]
   rw[e] at q;exact q
  |true=>
   refine dY ⟨_,rfl,_,rfl,a,b,rfl,ha,hb,?_⟩;have e:work2 12 a b=work2 6 a b:=by
    rw[GQ];rw[if_pos (by rw[t1,t2];rfl)]
    rcases wR t1 with rfl|rfl<;>rcases wR t2 with rfl|rfl<;>rfl
   rw[e] at q;exact q
def abi(F:aD K "negative" "negative" EV f fd):aB P w K mg base au 1 f fd ["a"] (rZ 0):=by
 refine F.oK Yu λ_ _ _ _ H vs Q E hr h=>?_;obtain⟨a,rfl,ha,q⟩:=h;exact⟨_,aw (bh (Cw CA (pv 0))),_,rfl,_,rfl,q⟩
def abj(F:aD K "magnitude" "magnitude" EW f fd)(g:GI mg):aB P w K mg base au 1 f fd ["a"] (rZ 1):=by
 refine F.oK Yw λ_ _ _ _ H vs Q E hr h=>?_;obtain⟨a,rfl,ha,q⟩:=h;refine⟨_,aw (bh (eV Ro rfl g.aa1 (by decide+kernel) (ah (pv 0) aj))),_,rfl,_,rfl,?_⟩
 have e:work1 1 a=.ok (if a<0 then-a else a):=by
  rw[v1,show((a.natAbs:Nat):Int)=if a<0 then-a else a from by split<;>lia]
 rw[e] at q;exact q
def abk(F:aD K "sign_of" "sign_of" EX f fd):aB P w K mg base au 1 f fd ["a"] (rZ 2):=by
 refine F.oK Yy λ_ _ _ _ H vs Q E hr h=>?_;obtain⟨a,rfl,ha,q⟩:=h;refine⟨_,ay (bZ (bV fT (pv 0) aO (bO _)) (aw (bh aO)) cJ) (aw (bh (jj (bV lJ (pv 0) aO (bO _)) aO (Cw CA aO)))),?_⟩;refine⟨_,rfl,rfl,_,rfl,bX (λz=>?_) λz=>⟨_,rfl,_,_,rfl,rfl,_,rfl,bX (λy=>?_) λy=>⟨_,rfl,?_⟩⟩⟩
 ·have z:a=0:=by injection z
  have e:work1 2 a=.ok 0:=by rw[v2,z];rfl
  rw[e] at q;exact q
 ·have y:0<a:=y;have e:work1 2 a=.ok 1:=by rw[v2,if_neg (by lia),if_neg (by lia)]
  rw[e] at q;exact q
 ·have z: ¬a=0:=λy=>z (by rw[y])
  have y: ¬0<a:=y;have e:work1 2 a=.ok (-1):=by rw[v2,if_pos (by lia)]
  rw[e] at q;exact q
def abl(F:aD K "opposite" "opposite" EY f fd){ft:ae}{pb:dP}(FT:aD K "is_truth" "is_truth" rX ft pb)(mT:mg "is_truth"=some (.ref ft)):aB P w K mg base au 2 f fd ["a"] (rZ 3):=by
 have GT:aB P w K mg base au 1 ft pb ["number"] AA:=GU FT;have bT:=FT.b1 "number";refine F.oK YA λ_ _ _ _ H vs Q E hr h=>?_;obtain⟨a,rfl,ha,q⟩:=h;refine⟨_,ay (bZ (lD (gZ (rk GT hr (by rfl) mT FT.kp bT .nil aW (ah (pv 0) aj)))) (aw (bh jC)) cJ) (aw (bh (cy p_ aO (pv 0)))),?_⟩
 refine⟨_,rfl,a,rfl,_,rfl,?_⟩;cases t1:jx a with
 |false=>
  refine du ?_;have e:work1 3 a=.error nj:=by rw[v3,if_neg (by rw[t1];simp)]
  rw[e] at q;exact q
 |true=>
  refine dY ⟨_,rfl,_,_,rfl,rfl,?_⟩;have e:work1 3 a=.ok (1-a):=by
   rw[v3,if_pos t1];rcases wR t1 with rfl|rfl<;>rfl
  rw[e] at q;exact q
def kindOf(t:Vaarrj.Text):Nat:=if t=aC "add"\/t=aC "sub"\/t=aC "mul" then oF else if t=aC "quo"\/t=aC "rem" then vi else nj
def abm{o:Nat}{a:Int}{k:Nat}(ho:o<4)(h:work1 o a=.error k):kindOf (fQ tj o)=k:=by
 have hk:k=nj:=by
  unfold work1 at h
  split at h
  ·exact oe h
  ·exact oe h
  ·exact oe h
  ·split at h
   ·cases h
   ·obtain rfl:=P6 h;rfl
 subst hk
 match o,ho with
 |0,_=>decide+kernel
 |1,_=>decide+kernel
 |2,_=>decide+kernel
 |3,_=>decide+kernel
def Nv{o:Nat}{a b:Int}{k:Nat}(ho:o<13)(h:work2 o a b=.error k):kindOf (fQ eZ o)=k:=by
 have sm:∀n:Int,yh n=.error k->k=oF:=λn z=>by
  unfold yh at z
  split at z
  ·exact oe z
  ·obtain rfl:=P6 z;rfl
 have e:∀j:Nat,j<13->kindOf (fQ eZ j)=(if j<3 then oF else if j<5 then vi else nj):=by decide+kernel
 rw[e o ho]
 match o,ho with
 |0,_=>exact(sm _ h).symm
 |1,_=>exact(sm _ h).symm
 |2,_=>exact(sm _ h).symm
 |3,_=>unfold work2 at h;simp only at h;split at h<;>cases h;rfl
 |4,_=>unfold work2 at h;simp only at h;split at h<;>cases h;rfl
 |5,_=>cases h
 |6,_=>cases h
 |7,_=>cases h
 |8,_=>cases h
 |9,_=>cases h
 |10,_=>cases h
 |11,_=>unfold work2 at h;simp only at h;split at h<;>cases h;rfl
 |12,_=>unfold work2 at h;simp only at h;split at h<;>cases h;rfl
open MR
open Vaarrj (Machine Fault vecOf laneOf scalarOf maskOf onIn arrayOf setVec setScalar setMask)
inductive Slot where
 |run|ss|fa|tb (i:Nat)|v (k:Nat)|m (k:Nat)|a (k:Nat)
structure Rn where
 run:ae
 iF:ae
 reg:ae
 uA:ae
 vs:ae
 ss:ae
 ms:ae
 ar:ae
 fa:ae
 va:List ae
 ma:List ae
 aa:List ae
 tb:List ae
structure Cl where
 run:ae
 reg:ae
 ins:ae
 stop:ae
 r0:List (Pos×Str)
 cf:List ae
def Rn.at(L:Rn):Slot->Option ae
 | .run=>some L.run
 | .ss=>some L.ss
 | .fa=>some L.fa
 | .tb i=>L.tb[i]?
 | .v k=>L.va[k]?
 | .m k=>L.ma[k]?
 | .a k=>L.aa[k]?
inductive Rn.mut(L:Rn)(b:ae):Prop
 |mk (s:_) (_:L.at s=some b)
def Kp(L:Rn)(H H':Hp):Prop:=∀b o,H b=some o-> ¬L.mut b->H' b=some o
def Kp.refl{L:Rn}{H:Hp}:Kp L H H:=λ_ _ h _=>h
def Kp.trans{L:Rn}{H H1 H2:Hp}(h:Kp L H H1)(k:Kp L H1 H2):Kp L H H2:=λb o e n=>k b o (h b o e n) n
def Kp.wr{L:Rn}{H:Hp}{a:ae}{o:HO}(h:L.mut a):Kp L H (upd H a o):=λb u e n=>by rw[ak λz=>n (by rw[z];exact h)];exact e
def Kp.new{L:Rn}{H:Hp}{a:ae}{o:HO}(h:H a=none):Kp L H (upd H a o):=λb u e n=>by rw[ak λz=>by rw[z,h] at e;exact ns e];exact e
def bit(b:Bool):V:=.int (if b=true then 1 else 0)
def nats(l:List Nat):List V:=l.map λ(k:Nat)=>V.int (k:Int)
def r6(L:Rn)(H:Hp)(v:V):Option Fault->Prop
 |none=>v=.aM
 |some e=>∃t,v=.ref t/\ ¬L.mut t/\H t=some (.tup [.int (e.1:Nat),.int (e.2:Nat)])
def gS(L:Rn)(n:Nat)(un:ae):List (Str×V):=[("registers",.ref L.reg),("arrays",.ref L.ar),("left",.int (n:Nat)),("faults",.ref L.fa),("unfailed",.ref un)]
def abn(L:Rn)(w:Nat):List (Str×V):=[("width",.int (w:Nat)),("vectors",.ref L.vs),("scalars",.ref L.ss),("masks",.ref L.ms)]
def Is(R:Cl)(L:Rn)(x:a_)(n:Nat)(H:Hp):Slot->HO->Prop
 | .run,o=>∃un,¬L.mut un/\o=.ins R.run L.iF (gS L n un)/\H un=some (.lst (nats (dk x)))
 | .ss,o=>o=.lst (x.ss.map V.int)
 | .fa,o=>∃fs,o=.lst fs/\Paired (r6 L H) fs x.faults
 | .tb i,o=>∃q,R.r0[i]? =some q/\ (o=.dN #[]\/∃c,¬L.mut c/\o=.dN (o_ q.1 c)/\H c=some (iE c q.2))
 | .v k,o=>o=.lst ((c9 x k).map V.int)
 | .m k,o=>o=.lst ((maskOf x k).map bit)
 | .a k,o=>o=.lst ((dM x k).map V.int)
structure bH(R:Cl)(H0:Hp)(L:Rn)(x:a_)(n:Nat)(H:Hp):Prop where
 wf:WF x
 nums:Nums x
 inj:∀s t b,L.at s=some b->L.at t=some b->s=t
 va:L.va.length=16
 ma:L.ma.length=8
 aa:L.aa.length=x.arrays.length
 tb:L.tb=R.cf
 all:∀s b,L.at s=some b->∃o,H b=some o/\Is R L x n H s o
 reg: ¬L.mut L.reg/\H L.reg=some (.ins R.reg L.uA (abn L x.width))
 vs: ¬L.mut L.vs/\H L.vs=some (.lst (L.va.map V.ref))
 ms: ¬L.mut L.ms/\H L.ms=some (.lst (L.ma.map V.ref))
 ar: ¬L.mut L.ar/\H L.ar=some (.lst (L.aa.map V.ref))
 old:∀b o,H0 b=some o->H b=some o
 new:∀b,L.mut b->H0 b=none
section
variable{R:Cl}{H0 H H':Hp}{L:Rn}{x x':a_}{n n':Nat}
def r6.kp{v:V}{e:Option Fault}(h:r6 L H v e)(k:Kp L H H'):r6 L H' v e:=by
 cases e with
 |none=>exact h
 |some e=>obtain⟨t,e1,e2,e3⟩:=h;exact⟨t,e1,e2,k _ _ e3 e2⟩
theorem GX{α β:Type}{p q:α->β->Prop}(h:∀a b,p a b->q a b):∀{l:List α} {r:List β},Paired p l r->Paired q l r
 |_,_,.nil=>.nil
 |_,_,.cons a t=>.cons (h _ _ a) (GX h t)
theorem Is.kp{s:Slot}{o:HO}(h:Is R L x n H s o)(k:Kp L H H'):Is R L x n H' s o:=by
 cases s with
 |run=>obtain⟨un,e1,e2,e3⟩:=h;exact⟨un,e1,e2,k _ _ e3 e1⟩
 |ss=>exact h
 |fa=>obtain⟨fs,e1,e2⟩:=h;exact⟨fs,e1,GX (λ_ _ z=>z.kp k) e2⟩
 |tb i=>
  obtain⟨q,e1,e2⟩:=h;refine⟨q,e1,e2.imp id λz=>?_⟩;obtain⟨c,h1,h2,h3⟩:=z;exact⟨c,h1,h2,k _ _ h3 h1⟩
 |v j=>exact h
 |m j=>exact h
 |a j=>exact h
def bH.step(r:bH R H0 L x n H)(k:Kp L H H')(wf:WF x')(nums:Nums x')(hw:x'.width=x.width)(ha:x'.arrays.length=x.arrays.length)
 (all:∀s b,L.at s=some b->∃o,H' b=some o/\Is R L x' n' H' s o):bH R H0 L x' n' H':=
 ⟨wf,nums,r.inj,r.va,r.ma,by rw[ha];exact r.aa,r.tb,all,⟨r.reg.1,by rw[hw];exact k _ _ r.reg.2 r.reg.1⟩,⟨r.vs.1,k _ _ r.vs.2 r.vs.1⟩,⟨r.ms.1,k _ _ r.ms.2 r.ms.1⟩,⟨r.ar.1,k _ _ r.ar.2 r.ar.1⟩,
   λb o e=>k _ _ (r.old b o e) (λz=>by rw[r.new b z] at e;exact ns e),r.new⟩
def bH.more(r:bH R H0 L x n H)(k:∀b o,H b=some o->H' b=some o):bH R H0 L x n H':=
 r.step (λb o e _=>k b o e) r.wf r.nums rfl rfl λs b e=>let ⟨o,h1,h2⟩:=r.all s b e;⟨o,k _ _ h1,h2.kp λb o e _=>k b o e⟩
def bH.write(r:bH R H0 L x n H){s:Slot}{b:ae}{o:HO}(hs:L.at s=some b)(wf:WF x')(nums:Nums x')(hw:x'.width=x.width)(ha:x'.arrays.length=x.arrays.length)
 (ho:Is R L x' n' H s o) (same:∀t u,t≠s->Is R L x n H t u->Is R L x' n' H t u):bH R H0 L x' n' (upd H b o)/\Kp L H (upd H b o):=by
 have k:Kp L H (upd H b o):=Kp.wr ⟨s,hs⟩;refine⟨r.step k wf nums hw ha λt c e=>?_,k⟩;by_cases z:c=b
 ·subst z;obtain rfl:=r.inj t s c e hs;exact⟨o,aA,ho.kp k⟩
 ·obtain⟨u,h1,h2⟩:=r.all t c e;exact⟨u,by rw[ak z];exact h1,(same t u (λy=>z (by rw[y,hs] at e;exact(aZ e).symm)) h2).kp k⟩
def bH.tracked(r:bH R H0 L x n H){b:ae}(h:H b=none): ¬L.mut b:=λ⟨s,e⟩=>by
 obtain⟨o,h1,_⟩:=r.all s b e;rw[h] at h1;exact ns h1
def GY{α:Type}{l:List α}{i j:Nat}{a d:α}(h:j≠i):((l.set i a)[j]?).getD d=(l[j]?).getD d:=by
 rw[uW (Ne.symm h)]
def AB{α:Type}{l:List α}{i:Nat}{a d:α}(h:i<l.length):((l.set i a)[i]?).getD d=a:=by
 rw[uV h];rfl
theorem bH.setVec(r:bH R H0 L x n H){d:Nat}{b:ae}{v:List Int}(hd:L.va[d]? =some b)(hl:v.length=x.width)(hv:∀k∈v,Num k):
 bH R H0 L (setVec x d v) n (upd H b (.lst (v.map V.int)))/\Kp L H (upd H b (.lst (v.map V.int))):=by
 have h16:d<x.vs.length:=by rw[r.wf.vs,<-r.va];exact(dz.mp hd).1
 refine r.write (s:=.v d) hd (r.wf.setVec hl d) (r.nums.setVec hv d) rfl rfl ?_ λt u ht h=>?_
 ·show HO.lst _=HO.lst ((c9 (B8 x d v) d).map V.int);rw[show c9 (B8 x d v) d=v from AB h16]
 ·cases t with
  |v k=>
   show u=HO.lst ((c9 (B8 x d v) k).map V.int);rw[show c9 (B8 x d v) k=c9 x k from GY λz=>ht (by rw[z])]
   exact h
  |run=>exact h
  |ss=>exact h
  |fa=>exact h
  |tb i=>exact h
  |m k=>exact h
  |a k=>exact h
theorem bH.setMask(r:bH R H0 L x n H){d:Nat}{b:ae}{v:List Bool}(hd:L.ma[d]? =some b)(hl:v.length=x.width):
 bH R H0 L (setMask x d v) n (upd H b (.lst (v.map bit)))/\Kp L H (upd H b (.lst (v.map bit))):=by
 have h8:d<x.ms.length:=by rw[r.wf.ms,<-r.ma];exact(dz.mp hd).1
 refine r.write (s:=.m d) hd (r.wf.setMask hl d) ⟨r.nums.vs,r.nums.ss,r.nums.ar⟩ rfl rfl ?_ λt u ht h=>?_
 ·show HO.lst _=HO.lst ((maskOf (Jt x d v) d).map bit);rw[show maskOf (Jt x d v) d=v from AB h8]
 ·cases t with
  |m k=>
   show u=HO.lst ((maskOf (Jt x d v) k).map bit);rw[show maskOf (Jt x d v) k=maskOf x k from GY λz=>ht (by rw[z])]
   exact h
  |run=>exact h
  |ss=>exact h
  |fa=>exact h
  |tb i=>exact h
  |v k=>exact h
  |a k=>exact h
theorem bH.setScalar(r:bH R H0 L x n H)(d:Nat){k:Int}(hk:Num k):
 bH R H0 L (setScalar x d k) n (upd H L.ss (.lst ((x.ss.set d k).map V.int)))/\Kp L H (upd H L.ss (.lst ((x.ss.set d k).map V.int))):=by
 refine r.write (s:=.ss) rfl (r.wf.setScalar d k) (r.nums.setScalar hk d) rfl rfl rfl λt u ht h=>?_;cases t with
 |ss=>exact absurd rfl ht
 |run=>exact h
 |fa=>exact h
 |tb i=>exact h
 |v k=>exact h
 |m k=>exact h
 |a k=>exact h
theorem bH.zg(r:bH R H0 L x n H){d:Nat}{b:ae}{v:List Int}(hd:L.aa[d]? =some b)(hv:∀k∈v,Num k):
 bH R H0 L {x with arrays:=x.arrays.set d v} n (upd H b (.lst (v.map V.int)))/\Kp L H (upd H b (.lst (v.map V.int))):=by
 have h8:d<x.arrays.length:=by rw[<-r.aa];exact(dz.mp hd).1
 refine r.write (s:=.a d) hd (r.wf.arrays _) (r.nums.zg hv d) rfl (gV) ?_ λt u ht h=>?_
 ·show HO.lst _=HO.lst ((dM {x with arrays:=x.arrays.set d v} d).map V.int)
  rw[show dM {x with arrays:=x.arrays.set d v} d=v from AB h8]
 ·cases t with
  |a k=>
   show u=HO.lst ((dM {x with arrays:=x.arrays.set d v} k).map V.int)
   rw[show dM {x with arrays:=x.arrays.set d v} k=dM x k from GY λz=>ht (by rw[z])]
   exact h
  |run=>exact h
  |ss=>exact h
  |fa=>exact h
  |tb i=>exact h
  |v k=>exact h
  |m k=>exact h
def bH.abo(r:bH R H0 L x n H)(n':Nat){un:ae}(hu: ¬L.mut un)(hn:H un=some (.lst (nats (dk x)))):
 bH R H0 L x n' (upd H L.run (.ins R.run L.iF (gS L n' un)))/\Kp L H (upd H L.run (.ins R.run L.iF (gS L n' un))):=by
 refine r.write (s:=.run) rfl r.wf r.nums rfl rfl ⟨un,hu,rfl,hn⟩ λt u ht h=>?_;cases t with
 |run=>exact absurd rfl ht
 |ss=>exact h
 |fa=>exact h
 |tb i=>exact h
 |v k=>exact h
 |m k=>exact h
 |a k=>exact h
def bH.ju(r:bH R H0 L x n H):∃un,¬L.mut un/\H L.run=some (.ins R.run L.iF (gS L n un))/\H un=some (.lst (nats (dk x))):=by
 obtain⟨o,h1,un,h2,rfl,h3⟩:=r.all .run _ rfl;exact⟨un,h2,h1,h3⟩
def bH.GZ(r:bH R H0 L x n H):H L.ss=some (.lst (x.ss.map V.int)):=by
 obtain⟨o,h1,rfl⟩:=r.all .ss _ rfl;exact h1
def bH.Nw(r:bH R H0 L x n H):∃fs,H L.fa=some (.lst fs)/\Paired (r6 L H) fs x.faults:=by
 obtain⟨o,h1,fs,rfl,h2⟩:=r.all .fa _ rfl;exact⟨fs,h1,h2⟩
def bH.eJ(r:bH R H0 L x n H){k:Nat}(h:k<16):∃b,L.va[k]? =some b/\H b=some (.lst ((c9 x k).map V.int)):=by
 obtain⟨b,e⟩:∃b,L.va[k]? =some b:=⟨_,eK (by rw[r.va];exact h)⟩
 obtain⟨o,h1,rfl⟩:=r.all (.v k) _ e;exact⟨_,e,h1⟩
def bH.kX(r:bH R H0 L x n H){k:Nat}(h:k<8):∃b,L.ma[k]? =some b/\H b=some (.lst ((maskOf x k).map bit)):=by
 obtain⟨b,e⟩:∃b,L.ma[k]? =some b:=⟨_,eK (by rw[r.ma];exact h)⟩
 obtain⟨o,h1,rfl⟩:=r.all (.m k) _ e;exact⟨_,e,h1⟩
def bH.AD(r:bH R H0 L x n H){k:Nat}(h:k<x.arrays.length):∃b,L.aa[k]? =some b/\H b=some (.lst ((dM x k).map V.int)):=by
 obtain⟨b,e⟩:∃b,L.aa[k]? =some b:=⟨_,eK (by rw[r.aa];exact h)⟩
 obtain⟨o,h1,rfl⟩:=r.all (.a k) _ e;exact⟨_,e,h1⟩
def jd(R:Cl)(H:Hp):Prop:=∀(i:Nat) (b:ae),R.cf[i]? =some b->∃q:Pos×Str,R.r0[i]? =some q/\ (H b=some (.dN #[])\/∃c,H b=some (.dN (o_ q.1 c))/\H c=some (iE c q.2))
def jd.mono(h:jd R H)(k:∀b o,H b=some o->H' b=some o):jd R H':=λi b e=>by
 obtain⟨q,e1,e2⟩:=h i b e;refine⟨q,e1,e2.imp (k _ _) λz=>?_⟩;obtain⟨c,h1,h2⟩:=z;exact⟨c,k _ _ h1,k _ _ h2⟩
def bH.wU(r:bH R H0 L x n H):jd R H:=λi b e=>by
 obtain⟨o,h1,q,h2,h3⟩:=r.all (.tb i) b (by rw[<-r.tb] at e;exact e)
 refine⟨q,h2,?_⟩;rcases h3 with rfl|⟨c,_,rfl,hc⟩
 ·exact .inl h1
 ·exact .inr ⟨c,h1,hc⟩
end
structure EK(K:aI)(R:Cl):Prop where
 eW:iz K R.run
 mj:dD K R.run "registers"
 AE:dD K R.run "arrays"
 wV:dD K R.run "left"
 G0:dD K R.run "faults"
 wW:dD K R.run "unfailed"
 iG:iz K R.reg
 r8:dD K R.reg "width"
 G1:dD K R.reg "vectors"
 AF:dD K R.reg "scalars"
 AG:dD K R.reg "masks"
 bW:iz K R.ins
 mn:dD K R.ins "action"
 nW:dD K R.ins "operator"
 jP:dD K R.ins "operands"
 pd:dD K R.ins "parts"
 r9:dD K R.ins "place"
 wX:dD K R.ins "mask"
 uB:dD K R.ins "body"
 wY:dD K R.ins "otherwise"
structure Tl where
 ac:Str
 op:Str
 os:List Int
 m:Option Nat
 p:Nat
 b:ae
 c:ae
 pa:List Str
def mV:Option Nat->V
 |none=>.aM
 |some k=>.int (k:Nat)
structure wZ(R:Cl)(H:Hp)(t:ae)(T:Tl)(dx:ae)(fs:List (Str×V))(ol:ae):Prop where
 ob:H t=some (.ins R.ins dx fs)
 ac:fs.lookup ("action":Str)=some (.str T.ac)
 op:fs.lookup ("operator":Str)=some (.str T.op)
 os:fs.lookup ("operands":Str)=some (.ref ol)
 ls:H ol=some (.lst (T.os.map V.int))
 m:fs.lookup ("mask":Str)=some (mV T.m)
 p:fs.lookup ("place":Str)=some (.int (T.p:Nat))
 b:fs.lookup ("body":Str)=some (.ref T.b)
 c:fs.lookup ("otherwise":Str)=some (.ref T.c)
 pt:∃pl,fs.lookup ("parts":Str)=some (.ref pl)/\H pl=some (.lst (T.pa.map V.str))
def wZ.mono{R:Cl}{H H':Hp}{t:ae}{T:Tl}{dx:ae}{fs:List (Str×V)}{ol:ae}(h:wZ R H t T dx fs ol)(k:∀b o,H b=some o->H' b=some o):wZ R H' t T dx fs ol:=
 ⟨k _ _ h.ob,h.ac,h.op,h.os,k _ _ h.ls,h.m,h.p,h.b,h.c,let ⟨pl,e1,e2⟩:=h.pt;⟨pl,e1,k _ _ e2⟩⟩
inductive Told(R:Cl)(H:Hp)(t:ae)(T:Tl):Prop
 |mk (dx fs ol:_) (_:wZ R H t T dx fs ol)
theorem Told.mono{R:Cl}{H H':Hp}{t:ae}{T:Tl}(h:Told R H t T)(k:∀b o,H b=some o->H' b=some o):Told R H' t T:=
 let ⟨dx,fs,ol,h⟩:=h;⟨dx,fs,ol,h.mono k⟩
def cX{α:Type}{xs:List α}{k:Nat}{v:α}(h:xs[k]? =some v):kb xs (k:Int)=some v:=by
 have hl:=(dz.mp h).1;unfold kb ka;rw[if_pos (by lia),if_pos (by lia)]
 show xs[((k:Int)).toNat]? =_;rw[gW];exact h
def jQ{n k:Nat}(h:k<n):ka n (k:Int)=some k:=by
 unfold ka;rw[if_pos (by lia),if_pos (by lia),gW]
def ia{α β:Type}{f:α->β}{l:List α}{k:Nat}{a:α}(h:l[k]? =some a):(l.map f)[k]? =some (f a):=by rw[dI,h];rfl
def ku(R:Cl)(L:Rn)(E:XK)(H:Hp)(k p:Nat):Prop:=∀H' d,Kp L H H'->jd R H'->H' d=some (fK d [("kind",.int (k:Nat)),("place",.int (p:Nat))])->E (.ref R.stop) (some d) H'
def ku.kp{R:Cl}{L:Rn}{E:XK}{H H':Hp}{k p:Nat}(h:ku R L E H k p)(q:Kp L H H'):ku R L E H' k p:=λH2 d q2 t e=>h H2 d (q.trans q2) t e
section
variable{R:Cl}
inductive r_(C:ae)(vs:List V)(H:Hp)(Q:VK)(_:XK):Prop
 |mk (x k p:_) (_:vs=[.ref x,.int k,.int p]) (_:H x=some (km C x)) (_:∀d,H d=none->d≠x->Q .aM (upd (upd (upd H d (fK d [("kind",.int k)])) x (gE C x d)) d (fK d [("kind",.int k),("place",.int p)])))
structure G3(K:aI)(C N:ae)(fi:ae)(fh:dP):Prop where
 cls:jc K C N fi
 kind:me K N "kind"
 place:me K N "place"
 fn:aD K "__init__" "Stop.__init__" EZ fi fh
def AH{C N:ae}(S:G3 K C N f fd):aB P w K mg base au 1 f fd ["self","kind","place"] (r_ C):=by
 refine S.fn.oK YE λ_ _ _ _ H vs Q E hr h=>?_;obtain⟨x,k,p,rfl,hx,q⟩:=h;refine⟨_,ay (Mt S.cls S.kind (pv 0) (pv 1) rfl) (aw (Xi S.cls S.place (pv 0) (pv 2) rfl)),?_⟩;refine⟨_,rfl,_,rfl,x,rfl,hx,λd hd hn=>?_⟩;refine⟨_,rfl,_,rfl,x,d,_,rfl,aA,by rw[ak hn,aA],(by show 1<1000;decide),?_⟩
 exact q d hd hn
end
section
variable{R:Cl}
def stop_left{L:Rn}{E:XK}{H:Hp}{k p:Nat}{x:ae}(h:ku R L E H k p)(hT:jd R H)(hx:H x=none):
 r_ R.stop [.ref x,.int (k:Nat),.int (p:Nat)] (upd H x (km R.stop x)) (λv H2=>v=.aM/\ ∃x' d,V.ref x=.ref x'/\H2 x'=some (gE R.stop x' d)/\E (.ref R.stop) (some d) (del H2 x')) E0:=by
 refine⟨x,_,_,rfl,aA,λd hd hn=>?_⟩;have k:∀b o,H b=some o->del (upd (upd (upd (upd H x (km R.stop x)) d (fK d [("kind",.int (k:Nat))])) x (gE R.stop x d)) d (fK d [("kind",.int (k:Nat)),("place",.int (p:Nat))])) x b=some o:=λb o e=>by
  have b1:b≠x:=λz=>by rw[z,hx] at e;exact ns e
  have b2:b≠d:=λz=>by rw[z] at e;rw[ak hn] at hd;rw[hd] at e;exact ns e
  rw[js b1,ak b2,ak b1,ak b2,ak b1];exact e
 exact⟨rfl,x,d,rfl,by rw[ak (Ne.symm hn),aA],h _ d (λb o e _=>k b o e) (hT.mono k) (by rw[js hn,aA])⟩
inductive AI(R:Cl)(vs:List V)(H:Hp)(Q:VK)(E:XK):Prop
 |mk (H0 L x n:_) (_:vs=[.ref L.run]) (_:bH R H0 L x n H) (_:(n=0->ku R L E H 9 0)) (_:(∀k,n=k+1->∀H',bH R H0 L x k H'->Kp L H H'->Q .aM H'))
def abp(F:aD K "take_step" "take_step" zx f fd)(g:GI mg)(e:EK K R){N fi:ae}{fh:dP}(S:G3 K R.stop N fi fh)(mS:mg "Stop"=some (.ref R.stop)):aB P w K mg base (bf P w) 3 f fd ["run"] (AI R):=by
 have GI:aB P w K mg base au 1 fi fh ["self","kind","place"] (r_ R.stop):=AH S;have bI:=S.fn.b3 "self" "kind" "place";refine F.oX YG λ_ _ _ _ H vs Q E hr h=>?_;obtain⟨H0,L,x,n,rfl,r,h1,h2⟩:=h;refine⟨_,ay (bZ (bV fT (aN (pv 0) rfl) aO (bO _)) (aw (rT S.cls GI hr bI rfl rfl rS rfl mS (ah (b_ g.aaR) (ah aO aj)))) cJ) (aw (cT (pv 0) (cy p_ (aN (pv 0) rfl) aO) rfl)),?_⟩;obtain⟨un,hu,hR,hU⟩:=r.ju;refine⟨_,rfl,_,_,_,_,_,rfl,hR,e.eW,e.wV,rfl,rfl,_,rfl,bX (λz=>?_) λz=>?_⟩
 ·have z:n=0:=by injection z with z;lia
  exact⟨by decide,λy hy=>stop_left (h1 z) r.wU hy⟩
 ·obtain⟨k,rfl⟩:∃k,n=k+1:=⟨n-1,by
   have:n≠0:=λy=>z (by rw[y];rfl)
   lia⟩
  refine⟨_,rfl,_,_,_,_,_,rfl,hR,e.eW,e.wV,rfl,_,_,rfl,rfl,_,rfl,_,_,_,_,rfl,hR,e.eW,e.wV,(by show 5<1000;decide),?_⟩
  have w:=r.abo k hu hU;have ee:az "left" (.int (((k+1:Nat):Int)-1)) (gS L (k+1) un)=gS L k un:=by
   rw[show(((k+1:Nat):Int)-1)=(k:Nat) from by lia];rfl
  show Q .aM (upd H L.run (.ins R.run L.iF (az "left" (.int (((k+1:Nat):Int)-1)) (gS L (k+1) un))));rw[ee];exact h2 k rfl _ w.1 w.2
end
section
variable{R:Cl}
inductive G4(R:Cl)(vs:List V)(H:Hp)(Q:VK)(_:XK):Prop
 |mk (H0 L x n t T j k b:_) (_:vs=[.ref L.run,.ref t,.int (j:Nat)]) (_:bH R H0 L x n H) (_:Told R H t T) (_:T.os[j]? =some ((k:Nat):Int)) (_:L.va[k]? =some b) (_:Q (.ref b) H)
inductive G5(R:Cl)(vs:List V)(H:Hp)(Q:VK)(_:XK):Prop
 |mk (H0 L x n t T j k b:_) (_:vs=[.ref L.run,.ref t,.int (j:Nat)]) (_:bH R H0 L x n H) (_:Told R H t T) (_:T.os[j]? =some ((k:Nat):Int)) (_:L.ma[k]? =some b) (_:Q (.ref b) H)
inductive G6(R:Cl)(vs:List V)(H:Hp)(Q:VK)(_:XK):Prop
 |mk (H0 L x n t T j k:_) (_:vs=[.ref L.run,.ref t,.int (j:Nat)]) (_:bH R H0 L x n H) (_:Told R H t T) (_:T.os[j]? =some ((k:Nat):Int)) (_:k<16) (_:Q (.int (dJ x k)) H)
inductive G7(R:Cl)(vs:List V)(H:Hp)(Q:VK)(_:XK):Prop
 |mk (H0 L x n t T k v:_) (_:vs=[.ref L.run,.ref t,.int v]) (_:bH R H0 L x n H) (_:Told R H t T) (_:T.os[0]? =some ((k:Nat):Int)) (_:k<16) (_:Num v) (_:∀H',bH R H0 L (setScalar x k v) n H'->Kp L H H'->Q .aM H')
def abq(F:aD K "vector" "vector" zA f fd)(e:EK K R):aB P w K mg base au 1 f fd ["run","told","operand"] (G4 R):=by
 refine F.oK YI λ_ _ _ _ H vs Q E hr h=>?_;obtain⟨H0,L,x,n,t,T,j,k,b,rfl,r,⟨dx,fs,ol,t⟩,hj,hb,q⟩:=h;refine⟨_,aw (bh (cj cH (aN (aN (pv 0) rfl) rfl) (cj cH (aN (pv 1) rfl) (pv 2) (λ_ _=>rfl)) (λ_ _=>rfl))),?_⟩;obtain⟨un,hu,hR,hU⟩:=r.ju;refine⟨_,rfl,_,_,_,_,_,rfl,hR,e.eW,e.mj,rfl,_,_,_,_,_,rfl,r.reg.2,e.iG,e.G1,rfl,?_⟩;refine⟨_,rfl,_,_,_,_,_,rfl,t.ob,e.bW,e.jP,t.os,_,rfl,_,_,_,_,rfl,rfl,aF.of t.ls,cX (ia hj),?_⟩;exact⟨_,_,_,_,rfl,rfl,aF.of r.vs.2,cX (ia hb),q⟩
def abr(F:aD K "mask_lanes" "mask_lanes" zB f fd)(e:EK K R):aB P w K mg base au 1 f fd ["run","told","operand"] (G5 R):=by
 refine F.oK YK λ_ _ _ _ H vs Q E hr h=>?_;obtain⟨H0,L,x,n,t,T,j,k,b,rfl,r,⟨dx,fs,ol,t⟩,hj,hb,q⟩:=h;refine⟨_,aw (bh (cj cH (aN (aN (pv 0) rfl) rfl) (cj cH (aN (pv 1) rfl) (pv 2) (λ_ _=>rfl)) (λ_ _=>rfl))),?_⟩;obtain⟨un,hu,hR,hU⟩:=r.ju;refine⟨_,rfl,_,_,_,_,_,rfl,hR,e.eW,e.mj,rfl,_,_,_,_,_,rfl,r.reg.2,e.iG,e.AG,rfl,?_⟩;refine⟨_,rfl,_,_,_,_,_,rfl,t.ob,e.bW,e.jP,t.os,_,rfl,_,_,_,_,rfl,rfl,aF.of t.ls,cX (ia hj),?_⟩;exact⟨_,_,_,_,rfl,rfl,aF.of r.ms.2,cX (ia hb),q⟩
def abt(F:aD K "scalar" "scalar" zC f fd)(e:EK K R):aB P w K mg base au 1 f fd ["run","told","operand"] (G6 R):=by
 refine F.oK YM λ_ _ _ _ H vs Q E hr h=>?_;obtain⟨H0,L,x,n,t,T,j,k,rfl,r,⟨dx,fs,ol,t⟩,hj,hk,q⟩:=h;refine⟨_,aw (bh (cj cH (aN (aN (pv 0) rfl) rfl) (cj cH (aN (pv 1) rfl) (pv 2) (λ_ _=>rfl)) (λ_ _=>rfl))),?_⟩;obtain⟨un,hu,hR,hU⟩:=r.ju;refine⟨_,rfl,_,_,_,_,_,rfl,hR,e.eW,e.mj,rfl,_,_,_,_,_,rfl,r.reg.2,e.iG,e.AF,rfl,?_⟩;refine⟨_,rfl,_,_,_,_,_,rfl,t.ob,e.bW,e.jP,t.os,_,rfl,_,_,_,_,rfl,rfl,aF.of t.ls,cX (ia hj),?_⟩;exact⟨_,_,_,_,rfl,rfl,aF.of r.GZ,cX (ia (VL (by rw[r.wf.ss];exact hk))),q⟩
def abu(F:aD K "hold" "hold" zD f fd)(e:EK K R):aB P w K mg base au 1 f fd ["run","told","number"] (G7 R):=by
 refine F.oK YO λ_ _ _ _ H vs Q E hr h=>?_;obtain⟨H0,L,x,n,t,T,k,v,rfl,r,⟨dx,fs,ol,t⟩,hj,hk,hv,q⟩:=h;refine⟨_,aw (jE (pv 2) (jD (aN (aN (pv 0) rfl) rfl) (cj cH (aN (pv 1) rfl) aO (λ_ _=>rfl)) set_list)),?_⟩;obtain⟨un,hu,hR,hU⟩:=r.ju;have hl:k<(x.ss.map V.int).length:=by rw[bq,r.wf.ss];exact hk
 refine⟨_,rfl,_,rfl,_,_,_,_,_,rfl,hR,e.eW,e.mj,rfl,_,_,_,_,_,rfl,r.reg.2,e.iG,e.AF,rfl,?_⟩;refine⟨_,rfl,_,_,_,_,_,rfl,t.ob,e.bW,e.jP,t.os,_,_,_,_,rfl,rfl,aF.of t.ls,cX (k:=0) (ia hj),?_⟩;refine⟨_,_,_,_,rfl,rfl,r.GZ,jQ hl,?_⟩;have w:=r.setScalar k hv;rw[vd] at w;exact q _ w.1 w.2
inductive G8(R:Cl)(vs:List V)(H:Hp)(Q:VK)(_:XK):Prop
 |mk (H0 L x n t T:_) (_:vs=[.ref L.run,.ref t]) (_:bH R H0 L x n H) (_:Told R H t T) (_:(∀k,T.m=some k->k<8)) (_:∀H' a,(∀b o,H b=some o->H' b=some o)-> ¬L.mut a->H' a=some (.lst (nats (cU x T.m)))->Q (.ref a) H')
def abv(F:aD K "active_lanes" "active_lanes" wz f fd)(e:EK K R):aB P w K mg base au 1 f fd ["run","told"] (G8 R):=by
 refine F.oK zy λ_ _ _ _ H vs Q E hr h=>?_;obtain⟨H0,L,x,n,t,T,rfl,r,⟨dx,fs,ol,t⟩,hm,q⟩:=h;refine⟨_,ay (bZ (ji (oI (aN (pv 1) rfl))) (aw (bh (aN (pv 0) rfl))) cJ) (ay (JS (i:=2) zy.nd rfl (Or.inr rfl) (cj cH (aN (aN (pv 0) rfl) rfl) (aN (pv 1) rfl) (λ_ _=>rfl)))
  (aw (bh (nO (own:=[("lane",3)]) rfl zy.nd (g8 (aN (pv 0) rfl)) (show jo M0 (aG wz) _ _ from⟨rfl,by decide+kernel,by decide+kernel,by decide+kernel,by decide+kernel⟩) (λ_ _ _ _ _=>fD 3 zy.nd)
    (λ_ _ _ _ _=>KP (bV fT (cj (r:=CT K) cH (pv 2) (pv 3) (λ_ _=>rfl)) aO (bO _))) (λ_ _ _ _ _=>pv 3))))),?_⟩
 obtain⟨un,hu,hR,hU⟩:=r.ju;refine⟨_,rfl,_,_,_,_,_,rfl,t.ob,e.bW,e.wX,t.m,_,rfl,bX (λz=>?_) λz=>?_⟩
 ·have z:T.m=none:=by
   cases y:T.m with
   |none=>rfl
   |some k=>rw[y] at z;cases z
  refine⟨_,rfl,_,_,_,_,_,rfl,hR,e.eW,e.wW,rfl,q H un (λ_ _ z=>z) hu ?_⟩;rw[z,V2];exact hU
 ·obtain⟨k,z⟩:∃k,T.m=some k:=by
   cases y:T.m with
   |none=>rw[y] at z;exact absurd rfl z
   |some k=>exact⟨k,rfl⟩
  have hk:=hm k z;obtain⟨b,hb,hB⟩:=r.kX hk;have tm:=t.m;rw[z] at tm;refine⟨_,rfl,_,_,_,_,_,rfl,hR,e.eW,e.mj,rfl,_,_,_,_,_,rfl,r.reg.2,e.iG,e.AG,rfl,?_⟩;refine⟨_,rfl,_,_,_,_,_,rfl,t.ob,e.bW,e.wX,tm,_,_,_,_,rfl,rfl,aF.of r.ms.2,cX (ia hb),?_⟩;refine⟨_,rfl,_,_,_,_,_,rfl,hR,e.eW,e.wW,rfl,_,rfl,⟨_,aF.of hU⟩,λD hD=>?_⟩;have abw:∀i,(((dk x).take i).filter (fv x k)).length<=16:=λi=>by
   have h1:(dk x).length<=x.width:=by
    have:=B9 (λl=>((x.faults[l]?).getD none).isNone) (cB x.width);rw[iy] at this;exact this
   have h2:=B9 (fv x k) ((dk x).take i);have h3:=List.length_take_le i (dk x);have h4:((dk x).take i).length<=(dk x).length:=by rw[jY];exact PY _ _
   have:=r.wf.fB
   lia
  refine qg (K:=K) (a:=un) (xs:=nats (dk x)) (λi H'=>(∀b o,H b=some o->H' b=some o)/\H' D=some (.lst (nats (((dk x).take i).filter (fv x k))))) ⟨λb o e=>?_,?_⟩ (λi H' _ p=>aF.of (p.1 _ _ hU)) (λi v H' hi p=>?_) λH' p=>?_
  ·rw[ak (bw e hD)];exact e
  ·rw[aA];rfl
  ·obtain⟨l,hl,rfl⟩:∃l,(dk x)[i]? =some l/\v=.int (l:Nat):=by
    unfold nats at hi;rw[dI] at hi;cases y:(dk x)[i]? with
    |none=>rw[y] at hi;cases hi
    |some l=>rw[y] at hi;exact⟨l,rfl,by injection hi with hi;exact hi.symm⟩
   have lw:l<x.width:=qG.mp (BH.mp (d7 hl)).1;have ml:=r.wf.mask hk;have sn:((dk x).take (i+1)).filter (fv x k)=((dk x).take i).filter (fv x k)++(if fv x k l=true then[l] else[]):=by
    rw[take_snoc hl,List.filter_append];congr 1;rw[Jk,List.filter_nil]
   refine⟨rfl,_,rfl,_,rfl,_,_,_,_,rfl,rfl,aF.of (p.1 _ _ hB),cX (ia (LW (by rw[ml];exact lw))),rfl,_,rfl,?_⟩
   cases o:fv x k l with
   |true=>
    refine du ⟨_,rfl,_,p.2,?_,λb ob eb=>?_,?_⟩
    ·unfold nats;rw[bq,aP];have:=abw i;lia
    ·rw[ak (bw eb hD)];exact p.1 _ _ eb
    ·rw[aA,sn,o];unfold nats;rw[iw];rfl
   |false=>
    refine dY ⟨p.1,?_⟩;rw[sn,o,if_neg cW,dA];exact p.2
  ·refine q H' D p.1 (r.tracked hD) ?_;have hl:(nats (dk x)).length=(dk x).length:=by unfold nats;rw[bq]
   rw[p.2,hl,oG,z,V3]
end
theorem Ny{α β:Type}{p:α->β->Prop}{a:α}{b:β}(h:p a b):∀{l:List α} {r:List β} (i:Nat),Paired p l r->Paired p (l.set i a) (r.set i b)
 |_,_,_,.nil=>.nil
 |_,_,0,.cons _ t=>.cons h t
 |_,_,i+1,.cons q t=>.cons q (Ny h i t)
def ph{l:List Nat}{i:Nat}{v:V}(h:(nats l)[i]? =some v):∃k,l[i]? =some k/\v=.int (k:Nat):=by
 unfold nats at h;rw[dI] at h;cases y:l[i]? with
 |none=>rw[y] at h;cases h
 |some k=>rw[y] at h;exact⟨k,rfl,by injection h with h;exact h.symm⟩
def abx(x:a_):(dk x).length<=x.width:=by
 have:=B9 (λl=>((x.faults[l]?).getD none).isNone) (cB x.width);rw[iy] at this;exact this
section
variable{R:Cl}{H0 H H3:Hp}{L:Rn}{x:a_}{n:Nat}
def bH.fail(r:bH R H0 L x n H){l:Nat}{e:Fault}{t D:ae}{fs:List V}(Xl:H L.fa=some (.lst fs))(hp:Paired (r6 L H) fs x.faults)(ht:H t=none)
 (h3:∀b o,upd (upd H t (.tup [.int (e.1:Nat),.int (e.2:Nat)])) L.fa (.lst (fs.set l (.ref t))) b=some o->H3 b=some o) (hD:H D=none) (hU:H3 D=some (.lst (nats (dk (gD x l e))))):
 bH R H0 L (gD x l e) n (upd H3 L.run (.ins R.run L.iF (gS L n D)))/\Kp L H (upd H3 L.run (.ins R.run L.iF (gS L n D))):=by
 have mt: ¬L.mut t:=r.tracked ht;have mD: ¬L.mut D:=r.tracked hD;have tf:t≠L.fa:=λz=>mt (by rw[z];exact⟨.fa,rfl⟩)
 have tr:t≠L.run:=λz=>mt (by rw[z];exact⟨.run,rfl⟩)
 have Dr:D≠L.run:=λz=>mD (by rw[z];exact⟨.run,rfl⟩)
 have fr:L.fa≠L.run:=λz=>by have:=r.inj .fa .run L.fa rfl (by rw[z];rfl);cases this
 have st:∀b o,H b=some o->b≠L.fa->b≠L.run->upd H3 L.run (.ins R.run L.iF (gS L n D)) b=some o:=λb o e1 n1 n2=>by
  rw[ak n2];refine h3 b o ?_;rw[ak n1,ak (bw e1 ht)];exact e1
 have k:Kp L H (upd H3 L.run (.ins R.run L.iF (gS L n D))):=λb o e1 m=>st b o e1 (λz=>m (by rw[z];exact⟨.fa,rfl⟩)) λz=>m (by rw[z];exact⟨.run,rfl⟩)
 have w_:∀s b,L.at s=some b->s≠ .fa->s≠ .run->(∀o,Is R L x n H s o->Is R L (gD x l e) n H s o)->∃o,upd H3 L.run (.ins R.run L.iF (gS L n D)) b=some o/\Is R L (gD x l e) n (upd H3 L.run (.ins R.run L.iF (gS L n D))) s o:=λs b hs n1 n2 hi=>by
  obtain⟨o,e1,e2⟩:=r.all s b hs;exact⟨o,st b o e1 (λz=>n1 (r.inj s .fa b hs (by rw[z];rfl))) (λz=>n2 (r.inj s .run b hs (by rw[z];rfl))),(hi o e2).kp k⟩
 refine⟨r.step k (r.wf.gD l e) (r.nums.gD l e) rfl rfl λs b hs=>?_,k⟩;cases s with
 |run=>
  cases hs;exact⟨_,aA,D,mD,rfl,by rw[ak Dr];exact hU⟩
 |fa=>
  cases hs;refine⟨.lst (fs.set l (.ref t)),?_,fs.set l (.ref t),rfl,?_⟩
  ·rw[ak fr];exact h3 _ _ aA
  ·refine Ny ⟨t,rfl,mt,?_⟩ l (GX (λ_ _ z=>z.kp k) hp);rw[ak tr];refine h3 _ _ ?_;rw[ak tf,aA]
 |ss=>exact w_ _ b hs (λz=>nomatch z) (λz=>nomatch z) λo h=>h
 |tb i=>exact w_ _ b hs (λz=>nomatch z) (λz=>nomatch z) λo h=>h
 |v i=>exact w_ _ b hs (λz=>nomatch z) (λz=>nomatch z) λo h=>h
 |m i=>exact w_ _ b hs (λz=>nomatch z) (λz=>nomatch z) λo h=>h
 |a i=>exact w_ _ b hs (λz=>nomatch z) (λz=>nomatch z) λo h=>h
inductive G9(R:Cl)(vs:List V)(H:Hp)(Q:VK)(_:XK):Prop
 |mk (H0 L x n l k p:_) (_:vs=[.ref L.run,.int (l:Nat),.int (k:Nat),.int (p:Nat)]) (_:bH R H0 L x n H) (_:l<x.width) (_:∀H',bH R H0 L (gD x l (k,p)) n H'->Kp L H H'->Q .aM H')
def aby(F:aD K "fail" "fail" wx f fd)(e:EK K R):aB P w K mg base au 1 f fd ["run","lane","kind","place"] (G9 R):=by
 refine F.oK E6 λ_ _ _ _ H vs Q E hr h=>?_;obtain⟨H0,L,x,n,l,k,p,rfl,r,hl,q⟩:=h;refine⟨_,ay (jE (CK (ah (pv 2) (ah (pv 3) aj))) (jD (aN (pv 0) rfl) (pv 1) set_list)) (aw (cT (pv 0)
  (nO (own:=[("other",4)]) rfl E6.nd (g8 (aN (pv 0) rfl)) (show jo MZ (aG wx) _ _ from⟨rfl,by decide+kernel,by decide+kernel,by decide+kernel,by decide+kernel⟩) (λ_ _ _ _ _=>fD 4 E6.nd)
    (λ_ _ _ _ _=>KP (bV jk (pv 4) (pv 1) (bO _))) (λ_ _ _ _ _=>pv 4)) rfl)),?_⟩
 obtain⟨un,hu,hR,hU⟩:=r.ju;obtain⟨fs,hF,hP⟩:=r.Nw;refine⟨_,rfl,_,rfl,(by show 2<=sizeLine;rw[aP];decide),λt ht=>?_⟩
 have tr:L.run≠t:=bw hR ht;have tf:L.fa≠t:=bw hF ht;have fr:L.run≠L.fa:=cE hR hF (by simp)
 have fu:un≠L.fa:=λz=>hu (by rw[z];exact⟨.fa,rfl⟩)
 refine⟨_,rfl,_,_,_,_,_,rfl,(by rw[ak tr];exact hR),e.eW,e.G0,rfl,_,rfl,_,_,_,_,rfl,rfl,(by rw[ak tf];exact hF),jQ (by rw[hP.length,r.wf.fl];exact hl),?_⟩
 have sd:upd (upd H t (.tup [.int (k:Nat),.int (p:Nat)])) L.fa (.lst (fs.set l (.ref t))) L.run=some (.ins R.run L.iF (gS L n un)):=by rw[ak fr,ak tr];exact hR
 have Nz:upd (upd H t (.tup [.int (k:Nat),.int (p:Nat)])) L.fa (.lst (fs.set l (.ref t))) un=some (.lst (nats (dk x))):=by rw[ak fu,ak (bw hU ht)];exact hU
 refine⟨_,rfl,_,_,_,_,_,rfl,sd,e.eW,e.wW,rfl,_,rfl,⟨_,aF.of Nz⟩,λD hD=>?_⟩;refine qg (K:=K) (a:=un) (xs:=nats (dk x)) (λi H'=>(∀b o,upd (upd H t (.tup [.int (k:Nat),.int (p:Nat)])) L.fa (.lst (fs.set l (.ref t))) b=some o->H' b=some o)/\H' D=some (.lst (nats (((dk x).take i).filter λj=>j !=l)))) ⟨λb o e=>?_,?_⟩ (λi H' _ p=>aF.of (p.1 _ _ Nz)) (λi v H' hi p=>?_) λH' p4=>?_
 ·rw[ak (bw e hD)];exact e
 ·rw[aA];rfl
 ·obtain⟨j,hj,rfl⟩:=ph hi;have sn:((dk x).take (i+1)).filter (λj=>j !=l)=((dk x).take i).filter (λj=>j !=l)++(if(j !=l)=true then[j] else[]):=by
   rw[take_snoc hj,List.filter_append];congr 1;rw[Jk,List.filter_nil]
  refine⟨rfl,_,rfl,_,rfl,rfl,_,rfl,nV (λz=>?_) λz=>?_⟩
  ·have z:(j !=l)=true:=by
    rw[bne_iff_ne];intro y;exact z (by rw[y])
   refine⟨_,rfl,_,p.2,?_,λb ob eb=>?_,?_⟩
   ·unfold nats;rw[bq,aP];have h1:=B9 (λj=>j !=l) ((dk x).take i);have h2:((dk x).take i).length<=(dk x).length:=by rw[jY];exact PY _ _
    have h3:=abx x;have:=r.wf.fB
    lia
   ·rw[ak (bw eb hD)];exact p.1 _ _ eb
   ·rw[aA,sn,z];unfold nats;rw[iw];rfl
  ·have z:(j !=l)=false:=by
    have:(j:Int)=l:=by injection z
    have:j=l:=by lia
    rw[this];simp
   refine⟨p.1,?_⟩;rw[sn,z,if_neg cW,dA];exact p.2
 ·have Cf:(nats (dk x)).length=(dk x).length:=by unfold nats;rw[bq]
  have hD0:H D=none:=by
   cases y:H D with
   |none=>rfl
   |some o=>
    exfalso;by_cases z:D=L.fa
    ·rw[z,aA] at hD;exact sn hD
    ·rw[ak z,ak (bw y ht),y] at hD;exact sn hD
  have w:=r.fail (e:=(k,p)) hF hP ht p4.1 hD0 (by rw[p4.2,Cf,oG,V1 r.wf hl])
  refine⟨_,rfl,_,_,_,_,rfl,p4.1 _ _ sd,e.eW,e.wW,(by show 5<1000;decide),?_⟩
  exact q _ w.1 w.2
end
open Vaarrj (Instr Block doOne doAll inLanes)
def Df(K:aI)(mg:Str->Option ai)(x:Str)(st:cD)(f:ae)(fd:dP):Prop:=aD K x x st f fd/\mg x=some (.ref f)
structure aK(P:bQ)(w:bB)(K:aI)(mg:Str->Option ai)(base:aR)(CX:jG)(k:Nat)(x:Str)(ps:List Str)(sp:Sp):Prop where
 ex:∃f fd,aB P w K mg base CX k f fd ps sp/\mg x=some (.ref f)/\iN K (.ref f)=true/\Binds K fd ps []
def aV{X:Cx}{CX:jG}{k:Nat}{x:Str}{ps:List Str}{sp:Sp}{E:XK}{e:bj}{es:List bj}{t:TA}{p pos:Pos}(c:aK X.prog X.w X.K X.mg X.base CX k x ps sp)(hr:dE k X.A)(hx:Passes CX X E)(ha:PA X (e::es) t)(hg:Gl X x:=by rfl)
 (g9:(x==("__debug__":Str))=false:=by decide) (he:cG (e::es) X.env=(false,eval e X.env)::cG es X.env:=by rfl) (dF:(f_ pos (cG es X.env)).any (·.1)=false:=by rfl):
 PE X (.Call (.Name x p) (e::es) [] pos) (CL sp [] E t):=by
 obtain⟨f,fd,h1,h2,h3,h4⟩:=c.ex;exact rk h1 hr hg h2 h3 h4 .nil hx ha g9 he dF
def se(i:cw)(b c:ae):Tl:=⟨MX.S (MP.toldOf i).act,MX.S (MP.toldOf i).op,(MP.toldOf i).args,(MP.toldOf i).mask,(MP.toldOf i).place,b,c,(MP.toldOf i).parts.map MX.S⟩
def Res(R:Cl)(H0:Hp)(L:Rn)(H:Hp)(r:yi)(Q:VK)(E:XK):Prop:=match r with
 | .ok y=>∀H',bH R H0 L y.1 y.2 H'->Kp L H H'->Q .aM H'
 | .error e=>ku R L E H e.1 e.2
inductive fL(R:Cl)(S:cw->Prop)(vs:List V)(H:Hp)(Q:VK)(E:XK):Prop
 |mk (H0 L x n t i b c:_) (_:vs=[.ref L.run,.ref t]) (_:S i) (_:bH R H0 L x n H) (_:Told R H0 t (se i b c)) (_:MP.lQ x.arrays.length i) (_:Res R H0 L H (cx i x n) Q E)
structure LI(R:Cl)(H0:Hp)(L:Rn)(x:a_)(n:Nat)(H:Hp)(m:Option Nat)(d:Nat)(f:Nat->Except Fault Int)(i:Nat)(y:a_)(H':Hp):Prop where
 eq:y=((cU x m).take i).foldl (eI d f) x
 at_:bH R H0 L y n H'
 kp:Kp L H H'
 mid:rL x y ((cU x m).take i)
section
variable{R:Cl}{H0 H H' H2:Hp}{L:Rn}{x y:a_}{n:Nat}{m:Option Nat}{d:Nat}{f:Nat->Except Fault Int}{i l:Nat}
theorem LI.start(r:bH R H0 L x n H2)(k:Kp L H H2):LI R H0 L x n H m d f 0 x H2:=⟨rfl,r,k,rL.start r.wf⟩
def LI.next(I:LI R H0 L x n H m d f i y H')(hl:(cU x m)[i]? =some l)(hd:d<16)(r:bH R H0 L (eI d f y l) n H2)(k:Kp L H' H2):LI R H0 L x n H m d f (i+1) (eI d f y l) H2:=
 ⟨by rw[take_snoc hl,Qm,<-I.eq];rfl,r,I.kp.trans k,by rw[take_snoc hl];exact I.mid.step hd⟩
theorem LI.iB(I:LI R H0 L x n H m d f i y H')(hl:(cU x m)[i]? =some l)(a:Nat):bN y a l=bN x a l:=I.mid.iB a l (LZ (LY x m) hl)
def LI.lt(I:LI R H0 L x n H m d f i y H')(hl:(cU x m)[i]? =some l):l<y.width:=by rw[I.mid.w];exact vW (d7 hl)
def LI.get(I:LI R H0 L x n H m d f i y H')(hl:(cU x m)[i]? =some l){a:Nat}(ha:a<16):((c9 y a).map V.int)[l]? =some (.int (bN x a l)):=by
 rw[<-I.iB hl a];exact ia (za (by rw[I.at_.wf.vec ha];exact I.lt hl))
theorem LI.set(I:LI R H0 L x n H m d f i y H')(hl:(cU x m)[i]? =some l)(hd:d<16){b:ae}(hb:L.va[d]? =some b){v:Int}(hv:f l=.ok v)(hn:Num v):LI R H0 L x n H m d f (i+1) (eI d f y l) (upd H' b (.lst (((c9 y d).map V.int).set l (.int v)))):=by
 have e:eI d f y l=B8 y d ((c9 y d).set l v):=by unfold eI;rw[hv];rfl
 have w:=I.at_.setVec hb (v:=(c9 y d).set l v) (by rw[gV];exact I.at_.wf.vec hd) λk hk=>(mem_set hk).elim (λz=>by rw[z];exact hn) (I.at_.nums.vec d k)
 rw[vd,<-e] at w;exact I.next hl hd w.1 w.2
def LI.fail(I:LI R H0 L x n H m d f i y H')(hl:(cU x m)[i]? =some l)(hd:d<16){e:Fault}(hv:f l=.error e)(r:bH R H0 L (gD y l e) n H2)(k:Kp L H' H2):LI R H0 L x n H m d f (i+1) (eI d f y l) H2:=by
 have e:eI d f y l=gD y l e:=by unfold eI;rw[hv]
 exact I.next hl hd (by rw[e];exact r) k
def LI.done(I:LI R H0 L x n H m d f (nats (cU x m)).length y H')(W:WF x)(hd:d<16):bH R H0 L (inLanes x m d f) n H'/\Kp L H H':=by
 have e:=I.eq;rw[show(nats (cU x m)).length=(cU x m).length from bq _,oG,VU W m hd f] at e;rw[<-e];exact⟨I.at_,I.kp⟩
end
section
variable{R:Cl}
def abz(F:Df K mg "vector" zA f fd)(e:EK K R):aK P w K mg base au 1 "vector" ["run","told","operand"] (G4 R):=
 ⟨f,fd,abq F.1 e,F.2,F.1.kp,F.1.b3 "run" "told" "operand"⟩
def abA(F:Df K mg "mask_lanes" zB f fd)(e:EK K R):aK P w K mg base au 1 "mask_lanes" ["run","told","operand"] (G5 R):=
 ⟨f,fd,abr F.1 e,F.2,F.1.kp,F.1.b3 "run" "told" "operand"⟩
def abB(F:Df K mg "scalar" zC f fd)(e:EK K R):aK P w K mg base au 1 "scalar" ["run","told","operand"] (G6 R):=
 ⟨f,fd,abt F.1 e,F.2,F.1.kp,F.1.b3 "run" "told" "operand"⟩
def abC(F:Df K mg "hold" zD f fd)(e:EK K R):aK P w K mg base au 1 "hold" ["run","told","number"] (G7 R):=
 ⟨f,fd,abu F.1 e,F.2,F.1.kp,F.1.b3 "run" "told" "number"⟩
def abD(F:Df K mg "active_lanes" wz f fd)(e:EK K R):aK P w K mg base au 1 "active_lanes" ["run","told"] (G8 R):=
 ⟨f,fd,abv F.1 e,F.2,F.1.kp,F.1.b2 "run" "told"⟩
def abE(F:Df K mg "fail" wx f fd)(e:EK K R):aK P w K mg base au 1 "fail" ["run","lane","kind","place"] (G9 R):=
 ⟨f,fd,aby F.1 e,F.2,F.1.kp,F.1.b4 "run" "lane" "kind" "place"⟩
structure fj(P:bQ)(w:bB)(K:aI)(mg:Str->Option ai)(base:aR)(R:Cl):Prop where
 ek:EK K R
 vec:aK P w K mg base au 1 "vector" ["run","told","operand"] (G4 R)
 jM:aK P w K mg base au 1 "mask_lanes" ["run","told","operand"] (G5 R)
 sca:aK P w K mg base au 1 "scalar" ["run","told","operand"] (G6 R)
 hold:aK P w K mg base au 1 "hold" ["run","told","number"] (G7 R)
 act:aK P w K mg base au 1 "active_lanes" ["run","told"] (G8 R)
 fail:aK P w K mg base au 1 "fail" ["run","lane","kind","place"] (G9 R)
def abF(F:aD K "do_lanes" "do_lanes" E7 f fd)(G:fj P w K mg base R):aB P w K mg base au 2 f fd ["run","told"] (fL R λi=>∃d m,i=.lanes d m):=by
 refine F.oK E8 λ_ _ _ _ H vs Q E hr h=>?_;obtain⟨H0,L,x,n,t,i,b,c,rfl,⟨d,m,rfl⟩,r,T,⟨hd,hm⟩,q⟩:=h;replace T:=T.mono r.old;refine⟨_,ay (bE 2 E8.nd (aV G.vec hr aW (ah (pv 0) (ah (pv 1) (ah aO aj))))) (aw (lG j6 rfl (g8 (aV G.act hr aW (ah (pv 0) (ah (pv 1) aj)))) (fD 3 E8.nd)
  (aw (jE (pv 3) (jD (pv 2) (pv 3) set_list))))),?_⟩
 obtain⟨bd,hb,hB⟩:=r.eJ hd;refine⟨_,rfl,_,rfl,H0,L,x,n,t,_,0,d,bd,rfl,r,T,rfl,hb,?_⟩;refine⟨_,rfl,_,rfl,H0,L,x,n,t,_,rfl,r,T,hm,λH1 a h1 ma ha=>?_⟩;have k1:Kp L H H1:=λb o e _=>h1 b o e;refine⟨_,rfl,⟨_,aF.of ha⟩,lI (xs:=nats (cU x m)) (λi σ H'=>(∃v,σ=[some (.ref L.run),some (.ref t),some (.ref bd),v])/\ ∃y,LI R H0 L x n H1 m d (λl=>.ok ((l:Nat):Int)) i y H') ⟨⟨_,rfl⟩,x,LI.start (r.more h1) Kp.refl⟩ (λi σ H' _ p=>?_) (λi v σ H' hi p=>?_) λσ H' p=>?_⟩
 ·obtain⟨_,y,I⟩:=p;exact aF.of (I.kp _ _ ha ma)
 ·obtain⟨⟨v0,rfl⟩,y,I⟩:=p;obtain⟨l,hl,rfl⟩:=ph hi;obtain⟨b2,ck,gT⟩:=I.at_.eJ hd;rw[hb] at ck;obtain rfl:=aZ ck;refine⟨_,rfl,_,rfl,_,rfl,_,_,_,_,rfl,rfl,gT,jQ (by rw[bq,I.at_.wf.vec hd];exact I.lt hl),?_⟩
  have lw:=I.lt hl;have fB:=I.at_.wf.fB;exact⟨⟨_,rfl⟩,_,I.set hl hd hb rfl (Eg (by lia))⟩
 ·obtain⟨_,y,I⟩:=p;obtain⟨r2,k2⟩:=I.done r.wf hd;exact q H' r2 (k1.trans k2)
end
section
variable{R:Cl}
inductive AJ(R:Cl)(vs:List V)(H:Hp)(Q:VK)(_:XK):Prop
 |mk (H0 L x n t T d v:_) (_:vs=[.ref L.run,.ref t,.int v]) (_:bH R H0 L x n H) (_:Told R H t T) (_:T.os[0]? =some ((d:Nat):Int)) (_:d<16) (_:Num v) (_:(∀k,T.m=some k->k<8)) (_:∀H',bH R H0 L (inLanes x T.m d λ_=>.ok v) n H'->Kp L H H'->Q .aM H')
def abG(F:aD K "fill_lanes" "fill_lanes" zE f fd)(G:fj P w K mg base R):aB P w K mg base au 2 f fd ["run","told","number"] (AJ R):=by
 refine F.oK E9 λ_ _ _ _ H vs Q E hr h=>?_;obtain⟨H0,L,x,n,t,T,d,v,rfl,r,hT,ho,hd,hv,hm,q⟩:=h;refine⟨_,ay (bE 3 E9.nd (aV G.vec hr aW (ah (pv 0) (ah (pv 1) (ah aO aj))))) (aw (lG j6 rfl (g8 (aV G.act hr aW (ah (pv 0) (ah (pv 1) aj)))) (fD 4 E9.nd)
  (aw (jE (pv 2) (jD (pv 3) (pv 4) set_list))))),?_⟩
 obtain⟨bd,hb,hB⟩:=r.eJ hd;refine⟨_,rfl,_,rfl,H0,L,x,n,t,T,0,d,bd,rfl,r,hT,ho,hb,?_⟩;refine⟨_,rfl,_,rfl,H0,L,x,n,t,T,rfl,r,hT,hm,λH1 a h1 ma ha=>?_⟩;have k1:Kp L H H1:=λb o e _=>h1 b o e;refine⟨_,rfl,⟨_,aF.of ha⟩,lI (xs:=nats (cU x T.m)) (λi σ H'=>(∃u,σ=[some (.ref L.run),some (.ref t),some (.int v),some (.ref bd),u])/\ ∃y,LI R H0 L x n H1 T.m d (λ_=>.ok v) i y H') ⟨⟨_,rfl⟩,x,LI.start (r.more h1) Kp.refl⟩ (λi σ H' _ p=>?_) (λi v σ H' hi p=>?_) λσ H' p=>?_⟩
 ·obtain⟨_,y,I⟩:=p;exact aF.of (I.kp _ _ ha ma)
 ·obtain⟨⟨v0,rfl⟩,y,I⟩:=p;obtain⟨l,hl,rfl⟩:=ph hi;obtain⟨b2,ck,gT⟩:=I.at_.eJ hd;rw[hb] at ck;obtain rfl:=aZ ck;refine⟨_,rfl,_,rfl,_,rfl,_,_,_,_,rfl,rfl,gT,jQ (by rw[bq,I.at_.wf.vec hd];exact I.lt hl),?_⟩
  exact⟨⟨_,rfl⟩,_,I.set hl hd hb rfl hv⟩
 ·obtain⟨_,y,I⟩:=p;obtain⟨r2,k2⟩:=I.done r.wf hd;exact q H' r2 (k1.trans k2)
def abH(F:Df K mg "fill_lanes" zE f fd)(G:fj P w K mg base R):aK P w K mg base au 2 "fill_lanes" ["run","told","number"] (AJ R):=
 ⟨f,fd,abG F.1 G,F.2,F.1.kp,F.1.b3 "run" "told" "number"⟩
def abI(F:aD K "do_const" "do_const" E_ f fd)(G:fj P w K mg base R)(GF:aK P w K mg base au 2 "fill_lanes" ["run","told","number"] (AJ R)):aB P w K mg base au 3 f fd ["run","told"] (fL R λi=>∃d k m,i=.const d k m):=by
 refine F.oK YT λ_ _ _ _ H vs Q E hr h=>?_;obtain⟨H0,L,x,n,t,i,b,c,rfl,⟨d,k,m,rfl⟩,r,T,⟨hd,hk,hm⟩,q⟩:=h;replace T:=T.mono r.old;refine⟨_,aw (bK (aV GF hr aW (ah (pv 0) (ah (pv 1) (ah (cj cH (aN (pv 1) rfl) aO (λ_ _=>rfl)) aj))))),?_⟩;have T0:=T;obtain⟨dx,fs,ol,T⟩:=T;refine⟨_,rfl,_,rfl,_,rfl,_,_,_,_,_,rfl,T.ob,G.ek.bW,G.ek.jP,T.os,_,_,_,_,rfl,rfl,aF.of T.ls,cX (k:=1) rfl,?_⟩;exact⟨H0,L,x,n,t,_,d,k,rfl,r,T0,rfl,hd,hk,hm,q⟩
def abJ(F:aD K "do_fill" "do_fill" Fb f fd)(G:fj P w K mg base R)(GF:aK P w K mg base au 2 "fill_lanes" ["run","told","number"] (AJ R)):aB P w K mg base au 3 f fd ["run","told"] (fL R λi=>∃d k m,i=.fill d k m):=by
 refine F.oK YV λ_ _ _ _ H vs Q E hr h=>?_;obtain⟨H0,L,x,n,t,i,b,c,rfl,⟨d,k,m,rfl⟩,r,T,⟨hd,hk,hm⟩,q⟩:=h;replace T:=T.mono r.old;refine⟨_,aw (bK (aV GF hr aW (ah (pv 0) (ah (pv 1) (ah (aV G.sca (hr.mono (by decide)) aW (ah (pv 0) (ah (pv 1) (ah aO aj)))) aj))))),?_⟩
 refine⟨_,rfl,_,rfl,_,rfl,_,rfl,H0,L,x,n,t,_,1,k,rfl,r,T,rfl,hk,?_⟩;exact⟨H0,L,x,n,t,_,d,_,rfl,r,T,rfl,hd,r.nums.scalar k,hm,q⟩
def abK(F:aD K "do_copy" "do_copy" Fd f fd)(G:fj P w K mg base R):aB P w K mg base au 2 f fd ["run","told"] (fL R λi=>∃d a m,i=.copy d a m):=by
 refine F.oK zF λ_ _ _ _ H vs Q E hr h=>?_;obtain⟨H0,L,x,n,t,i,b,c,rfl,⟨d,a1,m,rfl⟩,r,T,⟨hd,dj,hm⟩,q⟩:=h;replace T:=T.mono r.old;refine⟨_,ay (bE 2 zF.nd (aV G.vec hr aW (ah (pv 0) (ah (pv 1) (ah aO aj))))) (ay (bE 3 zF.nd (aV G.vec hr aW (ah (pv 0) (ah (pv 1) (ah aO aj)))))
  (aw (lG j6 rfl (g8 (aV G.act hr aW (ah (pv 0) (ah (pv 1) aj)))) (fD 4 zF.nd)
  (aw (jE (cj cH (pv 3) (pv 4) (λ_ _=>rfl)) (jD (pv 2) (pv 4) set_list)))))),?_⟩
 obtain⟨bd,hb,hB⟩:=r.eJ hd;obtain⟨ba,fM,xa⟩:=r.eJ dj;refine⟨_,rfl,_,rfl,H0,L,x,n,t,_,0,d,bd,rfl,r,T,rfl,hb,?_⟩;refine⟨_,rfl,_,rfl,H0,L,x,n,t,_,1,a1,ba,rfl,r,T,rfl,fM,?_⟩;refine⟨_,rfl,_,rfl,H0,L,x,n,t,_,rfl,r,T,hm,λH1 a h1 ma ha=>?_⟩;have k1:Kp L H H1:=λb o e _=>h1 b o e;refine⟨_,rfl,⟨_,aF.of ha⟩,lI (xs:=nats (cU x m)) (λi σ H'=>(∃u,σ=[some (.ref L.run),some (.ref t),some (.ref bd),some (.ref ba),u])/\ ∃y,LI R H0 L x n H1 m d (λl=>.ok (bN x a1 l)) i y H') ⟨⟨_,rfl⟩,x,LI.start (r.more h1) Kp.refl⟩ (λi σ H' _ p=>?_) (λi v σ H' hi p=>?_) λσ H' p=>?_⟩
 ·obtain⟨_,y,I⟩:=p;exact aF.of (I.kp _ _ ha ma)
 ·obtain⟨⟨v0,rfl⟩,y,I⟩:=p;obtain⟨l,hl,rfl⟩:=ph hi;obtain⟨b2,ck,gT⟩:=I.at_.eJ hd;rw[hb] at ck;obtain rfl:=aZ ck;obtain⟨b3,eB,kx⟩:=I.at_.eJ dj;rw[fM] at eB;obtain rfl:=aZ eB;refine⟨_,rfl,_,rfl,_,_,_,_,rfl,rfl,aF.of kx,cX (I.get hl dj),?_⟩;refine⟨_,rfl,_,rfl,_,_,_,_,rfl,rfl,gT,jQ (by rw[bq,I.at_.wf.vec hd];exact I.lt hl),?_⟩
  exact⟨⟨_,rfl⟩,_,I.set hl hd hb rfl (r.nums.iB a1 l)⟩
 ·obtain⟨_,y,I⟩:=p;obtain⟨r2,k2⟩:=I.done r.wf hd;exact q H' r2 (k1.trans k2)
end
section
variable{R:Cl}
def AK(s:String)(t:Vaarrj.Text):nN (.str (bU s)) (.str (MX.S t))=decide (t=aC s):=by
 show(bU s==MX.S t)=_;rw[MX.lY,BL,beq_iff_eq,decide_eq_true_eq];exact⟨λz=>(MX.lX z).symm,λz=>by rw[z]⟩
def j7{b:Bool}{A B:Prop}(h1:b=true->A)(h2:b=false->B):if b=true then A else B:=by
 cases b with
 |true=>exact du (h1 rfl)
 |false=>exact dY (h2 rfl)
inductive G_(vs:List V)(H:Hp)(Q:VK)(_:XK):Prop
 |mk (t:Vaarrj.Text) (_:vs=[.str (MX.S t)]) (_:∀H',(∀b o,H b=some o->H' b=some o)->Q (.int (kindOf t:Nat)) H')
def abL(F:aD K "refusal_kind" "refusal_kind" wq f fd)(g:GI mg):aB P w K mg base au 1 f fd ["operator"] G_:=by
 refine F.oK YC λ_ _ _ _ H vs Q E hr h=>?_;obtain⟨t,rfl,q⟩:=h;refine⟨_,ay (bZ (bV yN (pv 0) (CK (ah bY (ah bY (ah bY aj)))) (by rfl)) (aw (bh (b_ g.aaP))) cJ)
  (ay (bZ (bV yN (pv 0) (CK (ah bY (ah bY aj))) (by rfl)) (aw (bh (b_ g.aaO))) cJ) (aw (bh (b_ g.aaQ)))),?_⟩
 refine⟨_,rfl,(by show 3<=sizeLine;rw[aP];decide),λp hp=>⟨_,_,rfl,.inr (fR.of aA),rfl,rfl,_,rfl,j7 (λz=>?_) λz=>?_⟩⟩
 ·have z:jI (.str (MX.S t)) [.str (bU "add"),.str (bU "sub"),.str (bU "mul")]=true:=z;simp only[jI,qN,B_,AK,sU,pM,decide_eq_true_eq] at z;have e:kindOf t=oF:=by unfold kindOf;rw[if_pos z]
  rw[e] at q;exact q _ λb o eb=>by rw[ak (bw eb hp)];exact eb
 ·have z:jI (.str (MX.S t)) [.str (bU "add"),.str (bU "sub"),.str (bU "mul")]=false:=z;have z: ¬(t=aC "add"\/t=aC "sub"\/t=aC "mul"):=λy=>by
   rw[<-Bool.not_eq_true] at z;apply z;simp only[jI,qN,B_,AK,sU,pM,decide_eq_true_eq];exact y
  refine⟨_,rfl,(by show 2<=sizeLine;rw[aP];decide),λp2 nX=>⟨_,_,rfl,.inr (fR.of aA),rfl,rfl,_,rfl,j7 (λz2=>?_) λz2=>?_⟩⟩
  ·have z2:jI (.str (MX.S t)) [.str (bU "quo"),.str (bU "rem")]=true:=z2;simp only[jI,qN,B_,AK,sU,pM,decide_eq_true_eq] at z2;have e:kindOf t=vi:=by unfold kindOf;rw[if_neg z,if_pos z2]
   rw[e] at q;exact q _ λb o eb=>by rw[ak (bw (by rw[ak (bw eb hp)];exact eb) nX),ak (bw eb hp)];exact eb
  ·have z2:jI (.str (MX.S t)) [.str (bU "quo"),.str (bU "rem")]=false:=z2;have z2: ¬(t=aC "quo"\/t=aC "rem"):=λy=>by
    rw[<-Bool.not_eq_true] at z2;apply z2;simp only[jI,qN,B_,AK,sU,pM,decide_eq_true_eq];exact y
   have e:kindOf t=nj:=by unfold kindOf;rw[if_neg z,if_neg z2]
   rw[e] at q;exact q _ λb o eb=>by rw[ak (bw (by rw[ak (bw eb hp)];exact eb) nX),ak (bw eb hp)];exact eb
def abM(F:Df K mg "refusal_kind" wq f fd)(g:GI mg):aK P w K mg base au 1 "refusal_kind" ["operator"] G_:=
 ⟨f,fd,abL F.1 g,F.2,F.1.kp,F.1.b1 "operator"⟩
end
open Vaarrj (opName ops1 ops2 atPlace)
structure xb(P:bQ)(w:bB)(K:aI)(mg:Str->Option ai)(base:aR):Prop where
 one:∃a D,mg "OF_ONE"=some (.ref a)/\Tab K w a D/\ ∀o,o<4->∃f fd ps,dX D (.inr (MX.S (opName ops1 o)))=some (.ref f)/\iN K (.ref f)=true/\aB P w K mg base au 2 f fd ps (rZ o)/\Binds K fd ps []
 two:∃a D,mg "OF_TWO"=some (.ref a)/\Tab K w a D/\ ∀o,o<13->∃f fd ps,dX D (.inr (MX.S (opName ops2 o)))=some (.ref f)/\iN K (.ref f)=true/\aB P w K mg base au 2 f fd ps (h_ o)/\Binds K fd ps []
 kind:aK P w K mg base au 1 "refusal_kind" ["operator"] G_
def iH{X:Cx}{x:Str}{a:ae}{pos:Pos}(hm:X.mg x=some (.ref a))(hg:Gl X x:=by rfl)(hd:(x==("__debug__":Str))=false:=by decide):PE X (.Name x pos) (tC (.ref a)):=Cm (v:=.ref a) hg hm rfl hd
section
variable{R:Cl}
def abN(F:aD K "do_one" "do_one" Fe f fd)(G:fj P w K mg base R)(O:xb P w K mg base):aB P w K mg base au 3 f fd ["run","told"] (fL R λi=>∃o d a p m,i=.one o d a p m):=by
 refine F.oK uw λ_ _ _ _ H vs Q E hr h=>?_;obtain⟨H0,L,x,n,t,i,b,c,rfl,⟨o,d,a1,p,m,rfl⟩,r,TT,⟨ho,hd,dj,hp,hm⟩,q⟩:=h;have cN:=hr.mono (show 1<=2 by decide)
 obtain⟨ta,D,mO,tab,ops⟩:=O.one;obtain⟨fo,xc,xf,eo,ko,Fo,bo⟩:=ops o ho;refine⟨_,ay (bE 2 uw.nd (rV (iH mO) (aN (pv 1) rfl) (λ_ _=>rfl))) (ay (bE 3 uw.nd (aV G.vec cN aW (ah (pv 0) (ah (pv 1) (ah aO aj))))) (ay (bE 4 uw.nd (aV G.vec cN aW (ah (pv 0) (ah (pv 1) (ah aO aj)))))
  (aw (lG j6 rfl (g8 (aV G.act cN aW (ah (pv 0) (ah (pv 1) aj)))) (fD 5 uw.nd)
  (ay (bE 6 uw.nd (zq (i:=2) rfl (Or.inl rfl) (ah (cj cH (pv 4) (pv 5) (λ_ _=>rfl)) aj)))
  (aw (bZ (ji (oI (pv 6))) (aw (bK (aV G.fail cN aW (ah (pv 0) (ah (pv 5) (ah (aV O.kind cN aW (ah (aN (pv 1) rfl) aj)) (ah (aN (pv 1) rfl) aj)))))))
    (aw (jE (pv 6) (jD (pv 3) (pv 5) set_list)))))))))),?_⟩
 obtain⟨bd,hb,hB⟩:=r.eJ hd;obtain⟨ba,fM,xa⟩:=r.eJ dj;have T:=TT.mono r.old;obtain⟨dx,fs,ol,T1⟩:=T;refine⟨_,rfl,_,_,_,_,_,rfl,T1.ob,G.ek.bW,G.ek.nW,T1.op,ta,D,.inr (MX.S (opName ops1 o)),.ref fo,rfl,rfl,tab,eo,?_⟩;refine⟨_,rfl,_,rfl,H0,L,x,n,t,_,0,d,bd,rfl,r,⟨dx,fs,ol,T1⟩,rfl,hb,?_⟩;refine⟨_,rfl,_,rfl,H0,L,x,n,t,_,1,a1,ba,rfl,r,⟨dx,fs,ol,T1⟩,rfl,fM,?_⟩;refine⟨_,rfl,_,rfl,H0,L,x,n,t,_,rfl,r,⟨dx,fs,ol,T1⟩,hm,λH1 a h1 ma ha=>?_⟩;have k1:Kp L H H1:=λb o e _=>h1 b o e;refine⟨_,rfl,⟨_,aF.of ha⟩,lI (xs:=nats (cU x m)) (λi σ H'=>(∃u v,σ=[some (.ref L.run),some (.ref t),some (.ref fo),some (.ref bd),some (.ref ba),u,v])/\ ∃y,LI R H0 L x n H1 m d (λl=>atPlace p (work1 o (bN x a1 l))) i y H') ⟨⟨_,_,rfl⟩,x,LI.start (r.more h1) Kp.refl⟩ (λi σ H' _ p=>?_) (λi v σ H' hi p=>?_) λσ H' p=>?_⟩
 ·obtain⟨_,y,I⟩:=p;exact aF.of (I.kp _ _ ha ma)
 ·obtain⟨⟨v0,v1,rfl⟩,y,I⟩:=p;obtain⟨l,hl,rfl⟩:=ph hi;obtain⟨b2,ck,gT⟩:=I.at_.eJ hd;rw[hb] at ck;obtain rfl:=aZ ck;obtain⟨b3,eB,kx⟩:=I.at_.eJ dj;rw[fM] at eB;obtain rfl:=aZ eB;refine⟨fo,rfl,ko,_,rfl,_,rfl,_,_,_,_,rfl,rfl,aF.of kx,cX (I.get hl dj),?_⟩;refine⟨λvs H Q=>rZ o vs H Q E0,⟨au,2,xc,xf,rZ o,E0,Fo,hr,bo,aW,λvs H Q h=>h⟩,bN x a1 l,rfl,r.nums.iB a1 l,?_⟩;cases ew:work1 o (bN x a1 l) with
  |ok v=>
   refine⟨_,rfl,_,rfl,dY ?_⟩;refine⟨_,rfl,_,rfl,_,rfl,_,_,_,_,rfl,rfl,gT,jQ (by rw[bq,I.at_.wf.vec hd];exact I.lt hl),?_⟩
   exact⟨⟨_,_,rfl⟩,_,I.set hl hd hb (by show atPlace p _=_;rw[ew];rfl) (V8 (r.nums.iB a1 l) ew)⟩
  |error k=>
   obtain⟨AL,fs2,ol2,T2⟩:=TT.mono I.at_.old;refine⟨_,rfl,_,rfl,du ?_⟩;refine⟨_,rfl,_,rfl,_,rfl,_,_,_,_,_,rfl,T2.ob,G.ek.bW,G.ek.nW,T2.op,opName ops1 o,rfl,λH2 h2=>?_⟩;rw[abm ho ew];refine⟨_,rfl,_,_,_,_,_,rfl,h2 _ _ T2.ob,G.ek.bW,G.ek.r9,T2.p,?_⟩;refine⟨H0,L,y,n,l,k,p,rfl,I.at_.more h2,I.lt hl,λH3 r3 k3=>?_⟩;exact⟨⟨_,_,rfl⟩,_,I.fail hl hd (by show atPlace p _=_;rw[ew];rfl) r3 (Kp.trans (λb o e _=>h2 b o e) k3)⟩
 ·obtain⟨_,y,I⟩:=p;obtain⟨r2,k2⟩:=I.done r.wf hd;exact q H' r2 (k1.trans k2)
end
open Vaarrj (elementOf)
section
variable{R:Cl}
def abO(F:aD K "do_two" "do_two" Ff f fd)(G:fj P w K mg base R)(O:xb P w K mg base):aB P w K mg base au 3 f fd ["run","told"] (fL R λi=>∃o d a b p m,i=.two o d a b p m):=by
 refine F.oK rY λ_ _ _ _ H vs Q E hr h=>?_;obtain⟨H0,L,x,n,t,i,b,c,rfl,⟨o,d,a1,a2,p,m,rfl⟩,r,TT,⟨ho,hd,dj,ig,hp,hm⟩,q⟩:=h;have cN:=hr.mono (show 1<=2 by decide)
 obtain⟨ta,D,mO,tab,ops⟩:=O.two;obtain⟨fo,xc,xf,eo,ko,Fo,bo⟩:=ops o ho;refine⟨_,ay (bE 2 rY.nd (rV (iH mO) (aN (pv 1) rfl) (λ_ _=>rfl))) (ay (bE 3 rY.nd (aV G.vec cN aW (ah (pv 0) (ah (pv 1) (ah aO aj))))) (ay (bE 4 rY.nd (aV G.vec cN aW (ah (pv 0) (ah (pv 1) (ah aO aj)))))
  (ay (bE 5 rY.nd (aV G.vec cN aW (ah (pv 0) (ah (pv 1) (ah aO aj)))))
  (aw (lG j6 rfl (g8 (aV G.act cN aW (ah (pv 0) (ah (pv 1) aj)))) (fD 6 rY.nd)
  (ay (bE 7 rY.nd (zq (i:=2) rfl (Or.inl rfl) (ah (cj cH (pv 4) (pv 6) (λ_ _=>rfl)) (ah (cj cH (pv 5) (pv 6) (λ_ _=>rfl)) aj))))
  (aw (bZ (ji (oI (pv 7))) (aw (bK (aV G.fail cN aW (ah (pv 0) (ah (pv 6) (ah (aV O.kind cN aW (ah (aN (pv 1) rfl) aj)) (ah (aN (pv 1) rfl) aj)))))))
    (aw (jE (pv 7) (jD (pv 3) (pv 6) set_list))))))))))),?_⟩
 obtain⟨bd,hb,hB⟩:=r.eJ hd;obtain⟨ba,fM,xa⟩:=r.eJ dj;obtain⟨bb,mq,hBb⟩:=r.eJ ig;have T:=TT.mono r.old;obtain⟨dx,fs,ol,T1⟩:=T;refine⟨_,rfl,_,_,_,_,_,rfl,T1.ob,G.ek.bW,G.ek.nW,T1.op,ta,D,.inr (MX.S (opName ops2 o)),.ref fo,rfl,rfl,tab,eo,?_⟩;refine⟨_,rfl,_,rfl,H0,L,x,n,t,_,0,d,bd,rfl,r,⟨dx,fs,ol,T1⟩,rfl,hb,?_⟩;refine⟨_,rfl,_,rfl,H0,L,x,n,t,_,1,a1,ba,rfl,r,⟨dx,fs,ol,T1⟩,rfl,fM,?_⟩;refine⟨_,rfl,_,rfl,H0,L,x,n,t,_,2,a2,bb,rfl,r,⟨dx,fs,ol,T1⟩,rfl,mq,?_⟩;refine⟨_,rfl,_,rfl,H0,L,x,n,t,_,rfl,r,⟨dx,fs,ol,T1⟩,hm,λH1 a h1 ma ha=>?_⟩;have k1:Kp L H H1:=λb o e _=>h1 b o e;refine⟨_,rfl,⟨_,aF.of ha⟩,lI (xs:=nats (cU x m)) (λi σ H'=>(∃u v,σ=[some (.ref L.run),some (.ref t),some (.ref fo),some (.ref bd),some (.ref ba),some (.ref bb),u,v])/\ ∃y,LI R H0 L x n H1 m d (λl=>atPlace p (work2 o (bN x a1 l) (bN x a2 l))) i y H') ⟨⟨_,_,rfl⟩,x,LI.start (r.more h1) Kp.refl⟩ (λi σ H' _ p=>?_) (λi v σ H' hi p=>?_) λσ H' p=>?_⟩
 ·obtain⟨_,y,I⟩:=p;exact aF.of (I.kp _ _ ha ma)
 ·obtain⟨⟨v0,v1,rfl⟩,y,I⟩:=p;obtain⟨l,hl,rfl⟩:=ph hi;obtain⟨b2,ck,gT⟩:=I.at_.eJ hd;rw[hb] at ck;obtain rfl:=aZ ck;obtain⟨b3,eB,kx⟩:=I.at_.eJ dj;rw[fM] at eB;obtain rfl:=aZ eB;obtain⟨b4,mv,qt⟩:=I.at_.eJ ig;rw[mq] at mv;obtain rfl:=aZ mv;refine⟨fo,rfl,ko,_,rfl,_,rfl,_,_,_,_,rfl,rfl,aF.of kx,cX (I.get hl dj),?_⟩;refine⟨_,rfl,_,rfl,_,_,_,_,rfl,rfl,aF.of qt,cX (I.get hl ig),?_⟩;refine⟨λvs H Q=>h_ o vs H Q E0,⟨au,2,xc,xf,h_ o,E0,Fo,hr,bo,aW,λvs H Q h=>h⟩,bN x a1 l,bN x a2 l,rfl,r.nums.iB a1 l,r.nums.iB a2 l,?_⟩;cases ew:work2 o (bN x a1 l) (bN x a2 l) with
  |ok v=>
   refine⟨_,rfl,_,rfl,dY ?_⟩;refine⟨_,rfl,_,rfl,_,rfl,_,_,_,_,rfl,rfl,gT,jQ (by rw[bq,I.at_.wf.vec hd];exact I.lt hl),?_⟩
   exact⟨⟨_,_,rfl⟩,_,I.set hl hd hb (by show atPlace p _=_;rw[ew];rfl) (L8 (r.nums.iB a1 l) (r.nums.iB a2 l) ew)⟩
  |error k=>
   obtain⟨AL,fs2,ol2,T2⟩:=TT.mono I.at_.old;refine⟨_,rfl,_,rfl,du ?_⟩;refine⟨_,rfl,_,rfl,_,rfl,_,_,_,_,_,rfl,T2.ob,G.ek.bW,G.ek.nW,T2.op,opName ops2 o,rfl,λH2 h2=>?_⟩;rw[Nv ho ew];refine⟨_,rfl,_,_,_,_,_,rfl,h2 _ _ T2.ob,G.ek.bW,G.ek.r9,T2.p,?_⟩;refine⟨H0,L,y,n,l,k,p,rfl,I.at_.more h2,I.lt hl,λH3 r3 k3=>?_⟩;exact⟨⟨_,_,rfl⟩,_,I.fail hl hd (by show atPlace p _=_;rw[ew];rfl) r3 (Kp.trans (λb o e _=>h2 b o e) k3)⟩
 ·obtain⟨_,y,I⟩:=p;obtain⟨r2,k2⟩:=I.done r.wf hd;exact q H' r2 (k1.trans k2)
inductive AM(R:Cl)(vs:List V)(H:Hp)(Q:VK)(_:XK):Prop
 |mk (H0 L x n t T d ra a k p:_) (_:vs=[.ref L.run,.ref t,.int (k:Nat),.int (p:Nat)]) (_:bH R H0 L x n H) (_:Told R H t T) (_:T.os=[((d:Nat):Int),((ra:Nat):Int),((a:Nat):Int)]) (_:d<16) (_:ra<x.arrays.length) (_:a<16) (_:(∀k,T.m=some k->k<8)) (_:∀H',bH R H0 L (inLanes x T.m d λl=>yj (dM x ra) (bN x a l) (k,p)) n H'->Kp L H H'->Q .aM H')
def abP{a:List Int}{n:Int}{e:Fault}(h0:0<=n)(h1:n<(a.length:Int)):∃v,a[n.toNat]? =some v/\yj a n e=.ok v:=by
 have hl:n.toNat<a.length:=by lia
 refine⟨_,eK hl,?_⟩;unfold yj;rw[if_pos h0,eK hl]
def NA{a:List Int}{n:Int}{e:Fault}(h: ¬(0<=n/\n<(a.length:Int))):yj a n e=.error e:=by
 unfold yj;by_cases h0:0<=n
 ·have hl:a.length<=n.toNat:=by lia
  rw[if_pos h0,pJ hl]
 ·rw[if_neg h0]
end
section
variable{R:Cl}
def gj:mX "len"=some (.builtin "len"):=by decide+kernel
def abQ(F:aD K "take_from_array" "take_from_array" zG f fd)(G:fj P w K mg base R)(g:GI mg):aB P w K mg base au 2 f fd ["run","told","kind","place"] (AM R):=by
 refine F.oK wA λ_ _ _ _ H vs Q E hr h=>?_;obtain⟨H0,L,x,n,t,T,d,ra,a1,k,p,rfl,r,hT,ho,hd,nY,dj,hm,q⟩:=h;refine⟨_,ay (bE 4 wA.nd (aV G.vec hr aW (ah (pv 0) (ah (pv 1) (ah aO aj))))) (ay (bE 5 wA.nd (cj cH (aN (pv 0) rfl) (cj cH (aN (pv 1) rfl) aO (λ_ _=>rfl)) (λ_ _=>rfl)))
  (ay (bE 6 wA.nd (aV G.vec hr aW (ah (pv 0) (ah (pv 1) (ah aO aj)))))
  (aw (lG j6 rfl (g8 (aV G.act hr aW (ah (pv 0) (ah (pv 1) aj)))) (fD 7 wA.nd)
  (aw (bZ (vt iQ gz aO (cj cH (pv 6) (pv 7) (λ_ _=>rfl)) (eV iA (by rfl) g.fX gj (ah (pv 5) aj)))
    (aw (jE (cj cH (pv 5) (cj cH (pv 6) (pv 7) (λ_ _=>rfl)) (λ_ _=>rfl)) (jD (pv 4) (pv 7) set_list)))
    (aw (bK (aV G.fail hr aW (ah (pv 0) (ah (pv 7) (ah (pv 2) (ah (pv 3) aj))))))))))))),?_⟩
 obtain⟨bd,hb,hB⟩:=r.eJ hd;obtain⟨ba,fM,xa⟩:=r.eJ dj;obtain⟨br,uC,hBr⟩:=r.AD nY;obtain⟨un,hu,hR,hU⟩:=r.ju;have sf:=hT;obtain⟨dx,fs,ol,T1⟩:=hT;refine⟨_,rfl,_,rfl,H0,L,x,n,t,T,0,d,bd,rfl,r,sf,by rw[ho];rfl,hb,?_⟩
 refine⟨_,rfl,_,_,_,_,_,rfl,hR,G.ek.eW,G.ek.AE,rfl,_,rfl,_,_,_,_,_,rfl,T1.ob,G.ek.bW,G.ek.jP,T1.os,_,_,_,_,rfl,rfl,aF.of T1.ls,cX (k:=1) (v:=.int (ra:Nat)) (by rw[ho];rfl),?_⟩
 refine⟨_,_,_,_,rfl,rfl,aF.of r.ar.2,cX (ia uC),?_⟩;refine⟨_,rfl,_,rfl,H0,L,x,n,t,T,2,a1,ba,rfl,r,sf,by rw[ho];rfl,fM,?_⟩
 refine⟨_,rfl,_,rfl,H0,L,x,n,t,T,rfl,r,sf,hm,λH1 a h1 ma ha=>?_⟩;have k1:Kp L H H1:=λb o e _=>h1 b o e;refine⟨_,rfl,⟨_,aF.of ha⟩,lI (xs:=nats (cU x T.m)) (λi σ H'=>(∃u,σ=[some (.ref L.run),some (.ref t),some (.int (k:Nat)),some (.int (p:Nat)),some (.ref bd),some (.ref br),some (.ref ba),u])/\ ∃y,LI R H0 L x n H1 T.m d (λl=>yj (dM x ra) (bN x a1 l) (k,p)) i y H') ⟨⟨_,rfl⟩,x,LI.start (r.more h1) Kp.refl⟩ (λi σ H' _ p=>?_) (λi v σ H' hi p=>?_) λσ H' p=>?_⟩
 ·obtain⟨_,y,I⟩:=p;exact aF.of (I.kp _ _ ha ma)
 ·obtain⟨⟨v0,rfl⟩,y,I⟩:=p;obtain⟨l,hl,rfl⟩:=ph hi;obtain⟨b2,ck,gT⟩:=I.at_.eJ hd;rw[hb] at ck;obtain rfl:=aZ ck;obtain⟨b3,eB,kx⟩:=I.at_.eJ dj;rw[fM] at eB;obtain rfl:=aZ eB;obtain⟨b4,mv,qt⟩:=I.at_.AD (k:=ra) (by rw[I.mid.ar];exact nY)
  rw[uC] at mv;obtain rfl:=aZ mv;have ea:dM y ra=dM x ra:=by unfold dM;rw[I.mid.ar]
  rw[ea] at qt;refine⟨_,rfl,_,rfl,_,_,_,_,rfl,rfl,aF.of kx,cX (I.get hl dj),_,_,rfl,rfl,_,rfl,bX (λl1=>?_) λl1=>⟨_,rfl,dY ?_⟩⟩
  ·refine⟨_,rfl,_,_,rfl,.inl (aF.of qt),_,_,rfl,rfl,_,rfl,bX (λl2=>?_) λl2=>?_⟩
   ·rw[bq] at l2;obtain⟨v,ev,ee⟩:=abP (e:=(k,p)) l1 l2;have Ha:(((bN x a1 l).toNat:Nat):Int)=bN x a1 l:=Ju l1;refine⟨_,rfl,_,rfl,_,rfl,_,_,_,_,rfl,rfl,aF.of kx,cX (I.get hl dj),_,_,_,_,rfl,rfl,aF.of qt,(by rw[<-Ha];exact cX (ia ev)),?_⟩
    refine⟨_,rfl,_,rfl,_,_,_,_,rfl,rfl,gT,jQ (by rw[bq,I.at_.wf.vec hd];exact I.lt hl),?_⟩
    exact⟨⟨_,rfl⟩,_,I.set hl hd hb ee (r.nums.array ra v (d7 ev))⟩
   ·rw[bq] at l2;exact⟨_,rfl,_,rfl,_,rfl,_,rfl,H0,L,y,n,l,k,p,rfl,I.at_,I.lt hl,λH3 r3 k3=>⟨⟨_,rfl⟩,_,I.fail hl hd (NA λz=>l2 z.2) r3 k3⟩⟩
  ·exact⟨_,rfl,_,rfl,_,rfl,_,rfl,H0,L,y,n,l,k,p,rfl,I.at_,I.lt hl,λH3 r3 k3=>⟨⟨_,rfl⟩,_,I.fail hl hd (NA λz=>l1 z.1) r3 k3⟩⟩
 ·obtain⟨_,y,I⟩:=p;obtain⟨r2,k2⟩:=I.done r.wf hd;exact q H' r2 (k1.trans k2)
def abR(F:Df K mg "take_from_array" zG f fd)(G:fj P w K mg base R)(g:GI mg):aK P w K mg base au 2 "take_from_array" ["run","told","kind","place"] (AM R):=
 ⟨f,fd,abQ F.1 G g,F.2,F.1.kp,F.1.b4 "run" "told" "kind" "place"⟩
def abS(F:aD K "do_read" "do_read" Fg f fd)(g:GI mg)(GF:aK P w K mg base au 2 "take_from_array" ["run","told","kind","place"] (AM R)):aB P w K mg base au 3 f fd ["run","told"] (fL R λi=>∃d ra a m,i=.read d ra a m):=by
 refine F.oK Y1 λ_ _ _ _ H vs Q E hr h=>?_;obtain⟨H0,L,x,n,t,i,b,c,rfl,⟨d,ra,a,m,rfl⟩,r,T,⟨hd,nY,ha,hm⟩,q⟩:=h;refine⟨_,aw (bK (aV GF hr aW (ah (pv 0) (ah (pv 1) (ah (b_ g.Gz) (ah aO aj)))))),?_⟩;exact⟨_,rfl,_,rfl,H0,L,x,n,t,_,d,ra,a,12,0,rfl,r,T.mono r.old,rfl,hd,nY,ha,hm,q⟩
def abT(F:aD K "do_pick" "do_pick" Fh f fd)(G:fj P w K mg base R)(g:GI mg)(GF:aK P w K mg base au 2 "take_from_array" ["run","told","kind","place"] (AM R)):aB P w K mg base au 3 f fd ["run","told"] (fL R λi=>∃d ra a p m,i=.pick d ra a p m):=by
 refine F.oK Y3 λ_ _ _ _ H vs Q E hr h=>?_;obtain⟨H0,L,x,n,t,i,b,c,rfl,⟨d,ra,a,p,m,rfl⟩,r,T,⟨hd,nY,ha,hp,hm⟩,q⟩:=h;refine⟨_,aw (bK (aV GF hr aW (ah (pv 0) (ah (pv 1) (ah (b_ g.aaN) (ah (aN (pv 1) rfl) aj)))))),?_⟩;have T0:=T.mono r.old;obtain⟨dx,fs,ol,T1⟩:=T0;exact⟨_,rfl,_,rfl,_,rfl,_,_,_,_,_,rfl,T1.ob,G.ek.bW,G.ek.r9,T1.p,H0,L,x,n,t,_,d,ra,a,3,p,rfl,r,T.mono r.old,rfl,hd,nY,ha,hm,q⟩
end
open Vaarrj (writeLanes maskLanes)
structure WI(R:Cl)(H0:Hp)(L:Rn)(x:a_)(n:Nat)(H:Hp)(m:Option Nat)(ra a b:Nat)(i:Nat)(y:a_)(H':Hp):Prop where
 eq:y=((cU x m).take i).foldl (rM x ra a b) x
 at_:bH R H0 L y n H'
 kp:Kp L H H'
 vs:y.vs=x.vs
 w:y.width=x.width
 al:y.arrays.length=x.arrays.length
 len:(dM y ra).length=(dM x ra).length
section
variable{R:Cl}{H0 H H' H2:Hp}{L:Rn}{x y:a_}{n:Nat}{m:Option Nat}{ra a b i l:Nat}
def WI.iB(I:WI R H0 L x n H m ra a b i y H')(k j:Nat):bN y k j=bN x k j:=by unfold bN c9;rw[I.vs]
def WI.get(I:WI R H0 L x n H m ra a b i y H')(hl:l<x.width){k:Nat}(hk:k<16):((c9 y k).map V.int)[l]? =some (.int (bN x k l)):=by
 rw[<-I.iB k l];exact ia (za (by rw[I.at_.wf.vec hk,I.w];exact hl))
def abU(F:aD K "do_write" "do_write" Fj f fd)(G:fj P w K mg base R)(g:GI mg):aB P w K mg base au 2 f fd ["run","told"] (fL R λi=>∃ra a b m,i=.write ra a b m):=by
 refine F.oK wB λ_ _ _ _ H vs Q E hr h=>?_;obtain⟨H0,L,x,n,t,i,b,c,rfl,⟨ra,a1,a2,m,rfl⟩,r,TT,⟨nY,dj,ig,hm⟩,q⟩:=h;refine⟨_,ay (bE 2 wB.nd (cj cH (aN (pv 0) rfl) (cj cH (aN (pv 1) rfl) aO (λ_ _=>rfl)) (λ_ _=>rfl))) (ay (bE 3 wB.nd (aV G.vec hr aW (ah (pv 0) (ah (pv 1) (ah aO aj)))))
  (ay (bE 4 wB.nd (aV G.vec hr aW (ah (pv 0) (ah (pv 1) (ah aO aj)))))
  (aw (lG j6 rfl (g8 (aV G.act hr aW (ah (pv 0) (ah (pv 1) aj)))) (fD 5 wB.nd)
  (aw (bZ (vt iQ gz aO (cj cH (pv 3) (pv 5) (λ_ _=>rfl)) (eV iA (by rfl) g.fX gj (ah (pv 2) aj)))
    (aw (jE (cj cH (pv 4) (pv 5) (λ_ _=>rfl)) (jD (pv 2) (cj cH (pv 3) (pv 5) (λ_ _=>rfl)) set_list)))
    (aw (bK (aV G.fail hr aW (ah (pv 0) (ah (pv 5) (ah (b_ g.Gz) (ah aO aj))))))))))))),?_⟩
 obtain⟨ba,fM,xa⟩:=r.eJ dj;obtain⟨bb,mq,hBb⟩:=r.eJ ig;obtain⟨br,uC,hBr⟩:=r.AD nY;obtain⟨un,hu,hR,hU⟩:=r.ju;have sf:=TT.mono r.old;obtain⟨dx,fs,ol,T1⟩:=TT.mono r.old;refine⟨_,rfl,_,_,_,_,_,rfl,hR,G.ek.eW,G.ek.AE,rfl,_,rfl,_,_,_,_,_,rfl,T1.ob,G.ek.bW,G.ek.jP,T1.os,_,_,_,_,rfl,rfl,aF.of T1.ls,cX (k:=0) (v:=.int (ra:Nat)) rfl,?_⟩;refine⟨_,_,_,_,rfl,rfl,aF.of r.ar.2,cX (ia uC),?_⟩;refine⟨_,rfl,_,rfl,H0,L,x,n,t,_,1,a1,ba,rfl,r,sf,rfl,fM,?_⟩;refine⟨_,rfl,_,rfl,H0,L,x,n,t,_,2,a2,bb,rfl,r,sf,rfl,mq,?_⟩;refine⟨_,rfl,_,rfl,H0,L,x,n,t,_,rfl,r,sf,hm,λH1 a h1 ma ha=>?_⟩;have k1:Kp L H H1:=λb o e _=>h1 b o e;refine⟨_,rfl,⟨_,aF.of ha⟩,lI (xs:=nats (cU x m)) (λi σ H'=>(∃u,σ=[some (.ref L.run),some (.ref t),some (.ref br),some (.ref ba),some (.ref bb),u])/\ ∃y,WI R H0 L x n H1 m ra a1 a2 i y H') ⟨⟨_,rfl⟩,x,rfl,r.more h1,Kp.refl,rfl,rfl,rfl,rfl⟩ (λi σ H' _ p=>?_) (λi v σ H' hi p=>?_) λσ H' p=>?_⟩
 ·obtain⟨_,y,I⟩:=p;exact aF.of (I.kp _ _ ha ma)
 ·obtain⟨⟨v0,rfl⟩,y,I⟩:=p;obtain⟨l,hl,rfl⟩:=ph hi;have lw:l<x.width:=vW (d7 hl);obtain⟨b2,ck,gT⟩:=I.at_.eJ ig;rw[mq] at ck;obtain rfl:=aZ ck;obtain⟨b3,eB,kx⟩:=I.at_.eJ dj;rw[fM] at eB;obtain rfl:=aZ eB;obtain⟨b4,mv,qt⟩:=I.at_.AD (k:=ra) (by rw[I.al];exact nY)
  rw[uC] at mv;obtain rfl:=aZ mv;have NB:((cU x m).take (i+1)).foldl (rM x ra a1 a2) x=rM x ra a1 a2 y l:=by rw[take_snoc hl,Qm,<-I.eq];rfl
  have bad: ¬(0<=bN x a1 l/\bN x a1 l<((dM x ra).length:Int))->∀H3,bH R H0 L (gD y l (12,0)) n H3->Kp L H' H3->∃y,WI R H0 L x n H1 m ra a1 a2 (i+1) y H3:=λz H3 r3 k3=>
   ⟨gD y l (12,0),by rw[NB];unfold rM;rw[if_neg z];rfl,r3,I.kp.trans k3,I.vs,I.w,I.al,I.len⟩
  refine⟨_,rfl,_,rfl,_,_,_,_,rfl,rfl,aF.of kx,cX (I.get lw dj),_,_,rfl,rfl,_,rfl,bX (λl1=>?_) λl1=>⟨_,rfl,dY ?_⟩⟩
  ·refine⟨_,rfl,_,_,rfl,.inl (aF.of qt),_,_,rfl,rfl,_,rfl,bX (λl2=>?_) λl2=>?_⟩
   ·rw[bq,I.len] at l2;have Ha:(((bN x a1 l).toNat:Nat):Int)=bN x a1 l:=Ju l1;refine⟨_,rfl,_,rfl,_,_,_,_,rfl,rfl,aF.of gT,cX (I.get lw ig),?_⟩;refine⟨_,rfl,_,rfl,_,rfl,_,_,_,_,rfl,rfl,aF.of kx,cX (I.get lw dj),?_⟩;refine⟨_,_,_,_,rfl,rfl,qt,(by rw[<-Ha];exact jQ (by rw[bq,I.len];lia)),?_⟩
    have wr:=I.at_.zg uC (v:=(dM y ra).set (bN x a1 l).toNat (bN x a2 l)) λk hk=>(mem_set hk).elim (λz=>by rw[z];exact r.nums.iB a2 l) (I.at_.nums.array ra k)
    rw[vd] at wr;refine⟨⟨_,rfl⟩,_,by rw[NB];unfold rM;rw[if_pos ⟨l1,l2⟩],wr.1,I.kp.trans wr.2,I.vs,I.w,?_,?_⟩
    ·show(y.arrays.set _ _).length=_;rw[gV];exact I.al
    ·show(dM {y with arrays:=y.arrays.set ra _} ra).length=_
     rw[show dM {y with arrays:=y.arrays.set ra ((dM y ra).set (bN x a1 l).toNat (bN x a2 l))} ra=(dM y ra).set (bN x a1 l).toNat (bN x a2 l) from AB (by rw[I.al];exact nY),gV]
     exact I.len
   ·rw[bq,I.len] at l2;exact⟨_,rfl,_,rfl,H0,L,y,n,l,12,0,rfl,I.at_,by rw[I.w];exact lw,λH3 r3 k3=>⟨⟨_,rfl⟩,bad (λz=>l2 z.2) H3 r3 k3⟩⟩
  ·exact⟨_,rfl,_,rfl,H0,L,y,n,l,12,0,rfl,I.at_,by rw[I.w];exact lw,λH3 r3 k3=>⟨⟨_,rfl⟩,bad (λz=>l1 z.1) H3 r3 k3⟩⟩
 ·obtain⟨_,y,I⟩:=p;have e:=I.eq;rw[show(nats (cU x m)).length=(cU x m).length from bq _,oG] at e;have e2:B2 x m ra a1 a2 (cB x.width) x=y:=by rw[zd];exact e.symm
  have r2:=I.at_;rw[<-e2] at r2;exact q H' r2 (k1.trans I.kp)
end
structure MI(R:Cl)(H0:Hp)(L:Rn)(x:a_)(n:Nat)(H:Hp)(qs:List Nat)(d:Nat)(f:Nat->Bool)(i:Nat)(y:a_)(H':Hp):Prop where
 eq:y=(qs.take i).foldl (λy l=>ki y d l (f l)) x
 at_:bH R H0 L y n H'
 kp:Kp L H H'
 mid:rN x y d (qs.take i)
section
variable{fa:ae}{R:Cl}{H0 H H' H2:Hp}{L:Rn}{x y:a_}{n:Nat}{qs:List Nat}{d i l:Nat}{f:Nat->Bool}
theorem MI.start(r:bH R H0 L x n H2)(k:Kp L H H2):MI R H0 L x n H qs d f 0 x H2:=⟨rfl,r,k,rN.start r.wf d⟩
theorem MI.set(I:MI R H0 L x n H qs d f i y H')(hl:qs[i]? =some l)(hd:d<8){b:ae}(hb:L.ma[d]? =some b){v:V}(hv:v=bit (f l)):MI R H0 L x n H qs d f (i+1) (ki y d l (f l)) (upd H' b (.lst (((maskOf y d).map bit).set l v))):=by
 have w:=I.at_.setMask hb (v:=(maskOf y d).set l (f l)) (by rw[gV];exact I.at_.wf.mask hd)
 rw[vd,<-hv] at w;exact⟨by rw[take_snoc hl,Qm,<-I.eq];rfl,w.1,I.kp.trans w.2,by rw[take_snoc hl];exact I.mid.step hd _⟩
def MI.iB(I:MI R H0 L x n H qs d f i y H')(a j:Nat):bN y a j=bN x a j:=by unfold bN c9;rw[I.mid.vs]
def abV(F:aD K "do_test" "do_test" Fl fa fd)(G:fj P w K mg base R):aB P w K mg base au 2 fa fd ["run","told"] (fL R λi=>∃d a m,i=.test d a m):=by
 refine F.oK zI λ_ _ _ _ H vs Q E hr h=>?_;obtain⟨H0,L,x,n,t,i,b,c,rfl,⟨d,a1,m,rfl⟩,r,TT,⟨hd,dj,hm⟩,q⟩:=h;refine⟨_,ay (bE 2 zI.nd (aV G.jM hr aW (ah (pv 0) (ah (pv 1) (ah aO aj))))) (ay (bE 3 zI.nd (aV G.vec hr aW (ah (pv 0) (ah (pv 1) (ah aO aj)))))
  (aw (lG j6 rfl (g8 (aV G.act hr aW (ah (pv 0) (ah (pv 1) aj)))) (fD 4 zI.nd)
  (aw (jE (jj (bV jk (cj cH (pv 3) (pv 4) (λ_ _=>rfl)) aO (bO _)) aO aO) (jD (pv 2) (pv 4) set_list)))))),?_⟩
 obtain⟨bd,hb,hB⟩:=r.kX hd;obtain⟨ba,fM,xa⟩:=r.eJ dj;have T:=TT.mono r.old;refine⟨_,rfl,_,rfl,H0,L,x,n,t,_,0,d,bd,rfl,r,T,rfl,hb,?_⟩;refine⟨_,rfl,_,rfl,H0,L,x,n,t,_,1,a1,ba,rfl,r,T,rfl,fM,?_⟩;refine⟨_,rfl,_,rfl,H0,L,x,n,t,_,rfl,r,T,hm,λH1 a h1 ma ha=>?_⟩;have k1:Kp L H H1:=λb o e _=>h1 b o e;refine⟨_,rfl,⟨_,aF.of ha⟩,lI (xs:=nats (cU x m)) (λi σ H'=>(∃u,σ=[some (.ref L.run),some (.ref t),some (.ref bd),some (.ref ba),u])/\ ∃y,MI R H0 L x n H1 (cU x m) d (λl=>bN x a1 l !=0) i y H') ⟨⟨_,rfl⟩,x,MI.start (r.more h1) Kp.refl⟩ (λi σ H' _ p=>?_) (λi v σ H' hi p=>?_) λσ H' p=>?_⟩
 ·obtain⟨_,y,I⟩:=p;exact aF.of (I.kp _ _ ha ma)
 ·obtain⟨⟨v0,rfl⟩,y,I⟩:=p;obtain⟨l,hl,rfl⟩:=ph hi;have lw:l<x.width:=vW (d7 hl);obtain⟨b2,ck,gT⟩:=I.at_.kX hd;rw[hb] at ck;obtain rfl:=aZ ck;obtain⟨b3,eB,kx⟩:=I.at_.eJ dj;rw[fM] at eB;obtain rfl:=aZ eB;have gl:((c9 y a1).map V.int)[l]? =some (.int (bN x a1 l)):=by
   rw[<-I.iB a1 l];exact ia (za (by rw[I.at_.wf.vec dj,I.mid.w];exact lw))
  have ix:ka ((maskOf y d).map bit).length ((l:Nat):Int)=some l:=jQ (by rw[bq,I.at_.wf.mask hd,I.mid.w];exact lw)
  refine⟨_,rfl,_,rfl,_,_,_,_,rfl,rfl,aF.of kx,cX gl,rfl,_,rfl,nV (λz=>?_) λz=>?_⟩
  ·refine⟨_,rfl,_,rfl,_,_,_,_,rfl,rfl,gT,ix,⟨_,rfl⟩,_,I.set hl hd hb ?_⟩;have z:bN x a1 l≠0:=λy=>z (by rw[y])
   unfold bit;rw[if_pos (by rw[bne_iff_ne];exact z)]
  ·refine⟨_,rfl,_,rfl,_,_,_,_,rfl,rfl,gT,ix,⟨_,rfl⟩,_,I.set hl hd hb ?_⟩;have z:bN x a1 l=0:=by injection z
   unfold bit;rw[z];rfl
 ·obtain⟨_,y,I⟩:=p;have e:=I.eq;rw[show(nats (cU x m)).length=(cU x m).length from bq _,oG,V6 r.wf hd m] at e;have r2:=I.at_;rw[e] at r2;exact q H' r2 (k1.trans I.kp)
def abW(F:aD K "do_tail" "do_tail" Fn fa fd)(G:fj P w K mg base R)(g:GI mg):aB P w K mg base au 2 fa fd ["run","told"] (fL R λi=>∃d a,i=.tail d a):=by
 refine F.oK zJ λ_ _ _ _ H vs Q E hr h=>?_;obtain⟨H0,L,x,n,t,i,b,c,rfl,⟨d,a1,rfl⟩,r,TT,⟨hd,dj⟩,q⟩:=h;refine⟨_,ay (bE 2 zJ.nd (aV G.jM hr aW (ah (pv 0) (ah (pv 1) (ah aO aj))))) (ay (bE 3 zJ.nd (aV G.sca hr aW (ah (pv 0) (ah (pv 1) (ah aO aj)))))
  (aw (lG j6 rfl (vo rfl g.ux (ah (aN (aN (pv 0) rfl) rfl) aj)) (fD 4 zJ.nd)
  (aw (jE (jj (bV gz (pv 4) (pv 3) (bO _)) aO aO) (jD (pv 2) (pv 4) set_list)))))),?_⟩
 obtain⟨bd,hb,hB⟩:=r.kX hd;obtain⟨un,hu,hR,hU⟩:=r.ju;have T:=TT.mono r.old;have fB:=r.wf.fB;refine⟨_,rfl,_,rfl,H0,L,x,n,t,_,0,d,bd,rfl,r,T,rfl,hb,?_⟩;refine⟨_,rfl,_,rfl,H0,L,x,n,t,_,1,a1,rfl,r,T,rfl,dj,?_⟩;refine⟨_,rfl,_,_,_,_,_,rfl,hR,G.ek.eW,G.ek.mj,rfl,_,_,_,_,_,rfl,r.reg.2,G.ek.iG,G.ek.r8,rfl,_,rfl,by lia,by lia,?_⟩
 refine Ct (n:=(x.width:Int).toNat) (λi σ H'=>(∃u,σ=[some (.ref L.run),some (.ref t),some (.ref bd),some (.int (dJ x a1)),u])/\ ∃y,MI R H0 L x n H (cB x.width) d (λl=>decide (((l:Nat):Int)<dJ x a1)) i y H') ⟨⟨_,rfl⟩,x,MI.start r Kp.refl⟩ (λi σ H' hi p=>?_) λσ H' p=>?_
 ·obtain⟨⟨v0,rfl⟩,y,I⟩:=p;have lw:i<x.width:=by lia
  have hl:(cB x.width)[i]? =some i:=by rw[qR lw]
  obtain⟨b2,ck,gT⟩:=I.at_.kX hd;rw[hb] at ck;obtain rfl:=aZ ck;have ix:ka ((maskOf y d).map bit).length (0+((i:Nat):Int))=some i:=by rw[vh];exact jQ (by rw[bq,I.at_.wf.mask hd,I.mid.w];exact lw)
  refine⟨_,rfl,_,rfl,_,_,rfl,rfl,_,rfl,bX (λz=>?_) λz=>?_⟩
  ·refine⟨_,rfl,_,rfl,_,_,_,_,rfl,rfl,gT,ix,⟨_,rfl⟩,_,I.set hl hd hb ?_⟩;rw[vh] at z;unfold bit;rw[if_pos (decide_eq_true z)]
  ·refine⟨_,rfl,_,rfl,_,_,_,_,rfl,rfl,gT,ix,⟨_,rfl⟩,_,I.set hl hd hb ?_⟩;rw[vh] at z;unfold bit;rw[if_neg (by rw[decide_eq_true_eq];exact z)]
 ·obtain⟨_,y,I⟩:=p;have e:=I.eq;rw[gW,show(cB x.width).take x.width=cB x.width from IY (by rw[iy];exact bz _),L4 r.wf hd] at e
  have r2:=I.at_;rw[e] at r2;exact q H' r2 I.kp
end
open Vaarrj (laneNumber)
section
variable{R:Cl}
def boot_sum:mX "sum"=some (.builtin "sum"):=by decide+kernel
def abX(F:aD K "do_count" "do_count" Fp f fd)(G:fj P w K mg base R)(g:GI mg):aB P w K mg base au 2 f fd ["run","told"] (fL R λi=>∃d a,i=.count d a):=by
 refine F.oK Zd λ_ _ _ _ H vs Q E hr h=>?_;obtain⟨H0,L,x,n,t,i,b,c,rfl,⟨d,a,rfl⟩,r,TT,⟨hd,ha⟩,q⟩:=h;refine⟨_,aw (bK (aV G.hold hr aW (ah (pv 0) (ah (pv 1) (ah (eV (Sa rfl) (by rfl) g.aaZ boot_sum (ah (aV G.jM hr aW (ah (pv 0) (ah (pv 1) (ah aO aj)))) aj)) aj))))),?_⟩
 obtain⟨bd,hb,hB⟩:=r.kX ha;have T:=TT.mono r.old;have ml:=r.wf.mask ha;have e:=V7 (x:=x) (a:=a) ml;have lw:((cB x.width).filter (fv x a)).length<=x.width:=by
  have:=B9 (fv x a) (cB x.width);rw[iy] at this;exact this
 have fB:=r.wf.fB;refine⟨_,rfl,_,rfl,_,rfl,_,rfl,H0,L,x,n,t,_,1,a,bd,rfl,r,T,rfl,hb,?_⟩;refine⟨bd,(maskOf x a).map λb=>if b=true then(1:Int) else 0,rfl,aF.of (by rw[hB,iO];rfl),?_⟩
 rw[<-e];exact⟨H0,L,x,n,t,_,d,_,rfl,r,T,rfl,hd,Eg (by lia),q⟩
def abY(F:aD K "do_num" "do_num" Fq f fd)(G:fj P w K mg base R):aB P w K mg base au 2 f fd ["run","told"] (fL R λi=>∃d k,i=.num d k):=by
 refine F.oK Zf λ_ _ _ _ H vs Q E hr h=>?_;obtain⟨H0,L,x,n,t,i,b,c,rfl,⟨d,k,rfl⟩,r,TT,⟨hd,hk⟩,q⟩:=h;refine⟨_,aw (bK (aV G.hold hr aW (ah (pv 0) (ah (pv 1) (ah (cj cH (aN (pv 1) rfl) aO (λ_ _=>rfl)) aj))))),?_⟩;obtain⟨dx,fs,ol,T⟩:=TT.mono r.old;refine⟨_,rfl,_,rfl,_,rfl,_,_,_,_,_,rfl,T.ob,G.ek.bW,G.ek.jP,T.os,_,_,_,_,rfl,rfl,aF.of T.ls,cX (k:=1) rfl,?_⟩;exact⟨H0,L,x,n,t,_,d,k,rfl,r,TT.mono r.old,rfl,hd,hk,q⟩
def abZ(F:aD K "do_width" "do_width" Fs f fd)(G:fj P w K mg base R):aB P w K mg base au 2 f fd ["run","told"] (fL R λi=>∃d,i=.width d):=by
 refine F.oK Zh λ_ _ _ _ H vs Q E hr h=>?_;obtain⟨H0,L,x,n,t,i,b,c,rfl,⟨d,rfl⟩,r,TT,hd,q⟩:=h;refine⟨_,aw (bK (aV G.hold hr aW (ah (pv 0) (ah (pv 1) (ah (aN (aN (pv 0) rfl) rfl) aj))))),?_⟩;obtain⟨un,hu,hR,hU⟩:=r.ju;have fB:=r.wf.fB;refine⟨_,rfl,_,rfl,_,rfl,_,_,_,_,_,rfl,hR,G.ek.eW,G.ek.mj,rfl,_,_,_,_,_,rfl,r.reg.2,G.ek.iG,G.ek.r8,rfl,?_⟩;exact⟨H0,L,x,n,t,_,d,_,rfl,r,TT.mono r.old,rfl,hd,Eg (by lia),q⟩
structure nZ(K:aI)(mg:Str->Option ai)(R:Cl):Prop where
 ex:∃N fi fh,G3 K R.stop N fi fh/\mg "Stop"=some (.ref R.stop)
def ab0(F:aD K "do_calc" "do_calc" Ft f fd)(G:fj P w K mg base R)(O:xb P w K mg base)(S:nZ K mg R):aB P w K mg base (bf P w) 3 f fd ["run","told"] (fL R λi=>∃o d a b p,i=.calc o d a b p):=by
 obtain⟨N,fi,fh,S,mS⟩:=S.ex;have GI:aB P w K mg base au 1 fi fh ["self","kind","place"] (r_ R.stop):=AH S;have bI:=S.fn.b3 "self" "kind" "place";refine F.oX Fu λ_ _ _ _ H vs Q E hr h=>?_;obtain⟨H0,L,x,n,t,i,b,c,rfl,⟨o,d,a1,a2,p,rfl⟩,r,TT,⟨ho,hd,dj,ig,hp⟩,q⟩:=h;have cN:=hr.mono (show 1<=2 by decide)
 obtain⟨ta,D,mO,tab,ops⟩:=O.two;obtain⟨fo,xc,xf,eo,ko,Fo,bo⟩:=ops o ho;refine⟨_,ay (bE 2 Fu.nd (rV (iH mO) (aN (pv 1) rfl) (λ_ _=>rfl)))
  (ay (bE 3 Fu.nd (zq (i:=2) rfl (Or.inl rfl) (ah (aV G.sca cN aW (ah (pv 0) (ah (pv 1) (ah aO aj)))) (ah (aV G.sca cN aW (ah (pv 0) (ah (pv 1) (ah aO aj)))) aj))))
  (ay (bZ (ji (oI (pv 3))) (aw (rT S.cls GI hr bI rfl rfl rS rfl mS (ah (aV O.kind cN aW (ah (aN (pv 1) rfl) aj)) (ah (aN (pv 1) rfl) aj)))) cJ)
  (aw (bK (aV G.hold cN aW (ah (pv 0) (ah (pv 1) (ah (pv 3) aj)))))))),?_⟩
 have T0:=TT.mono r.old;obtain⟨dx,fs,ol,T1⟩:=TT.mono r.old;refine⟨_,rfl,_,_,_,_,_,rfl,T1.ob,G.ek.bW,G.ek.nW,T1.op,ta,D,.inr (MX.S (opName ops2 o)),.ref fo,rfl,rfl,tab,eo,?_⟩;refine⟨fo,rfl,ko,_,rfl,_,rfl,H0,L,x,n,t,_,1,a1,rfl,r,T0,rfl,dj,?_⟩;refine⟨_,rfl,_,rfl,H0,L,x,n,t,_,2,a2,rfl,r,T0,rfl,ig,?_⟩;refine⟨λvs H Q=>h_ o vs H Q E0,⟨au,2,xc,xf,h_ o,E0,Fo,hr,bo,aW,λvs H Q h=>h⟩,_,_,rfl,r.nums.scalar a1,r.nums.scalar a2,?_⟩;have q:Res R H0 L H (match work2 o (dJ x a1) (dJ x a2) with| .ok k=>.ok (setScalar x d k,n)| .error e=>.error (e,p)) Q E:=q
 cases ew:work2 o (dJ x a1) (dJ x a2) with
 |ok v=>
  rw[ew] at q;refine⟨_,rfl,_,rfl,dY ?_⟩;exact⟨_,rfl,_,rfl,_,rfl,H0,L,x,n,t,_,d,v,rfl,r,T0,rfl,hd,L8 (r.nums.scalar a1) (r.nums.scalar a2) ew,q⟩
 |error k=>
  rw[ew] at q;refine⟨_,rfl,_,rfl,du ?_⟩;refine⟨_,rfl,_,_,_,_,_,rfl,T1.ob,G.ek.bW,G.ek.nW,T1.op,opName ops2 o,rfl,λH2 h2=>?_⟩;rw[Nv ho ew];refine⟨_,rfl,_,_,_,_,_,rfl,h2 _ _ T1.ob,G.ek.bW,G.ek.r9,T1.p,(by show 2<=sizeLine;rw[aP];decide),λy hy=>?_⟩
  exact stop_left (ku.kp q λb o e _=>h2 b o e) (r.wU.mono h2) hy
inductive AN(R:Cl)(vs:List V)(H:Hp)(Q:VK)(E:XK):Prop
 |mk (H0 L x n v:_) (_:vs=[.ref L.run,.int v]) (_:bH R H0 L x n H) (_:((0<=v/\v<(x.width:Int))->Q (.int v) H)) (_:(¬(0<=v/\v<(x.width:Int))->ku R L E H 12 0))
def ab1(F:aD K "told_lane" "told_lane" zL f fd)(e:EK K R)(g:GI mg)(S:nZ K mg R):aB P w K mg base (bf P w) 3 f fd ["run","number"] (AN R):=by
 obtain⟨N,fi,fh,S,mS⟩:=S.ex;have GI:aB P w K mg base au 1 fi fh ["self","kind","place"] (r_ R.stop):=AH S;have bI:=S.fn.b3 "self" "kind" "place";refine F.oX Zk λ_ _ _ _ H vs Q E hr h=>?_;obtain⟨H0,L,x,n,v,rfl,r,h1,h2⟩:=h;refine⟨_,ay (bZ (kM (bV gz (pv 1) aO (bO _)) (nH (bV J8 (pv 1) (aN (aN (pv 0) rfl) rfl) (bO _)))).pt (aw (rT S.cls GI hr bI rfl rfl rS rfl mS (ah (b_ g.Gz) (ah aO aj)))) cJ) (aw (bh (pv 1))),?_⟩;obtain⟨un,hu,hR,hU⟩:=r.ju;have stop: ¬(0<=v/\v<(x.width:Int))->([V.int 12,V.int 0]:List V).length<=sizeLine/\ ∀y,H y=none->r_ R.stop [.ref y,.int 12,.int 0] (upd H y (km R.stop y)) (λv H2=>v=.aM/\ ∃x' d,V.ref y=.ref x'/\H2 x'=some (gE R.stop x' d)/\E (.ref R.stop) (some d) (del H2 x')) E0:=λz=>
  ⟨by show 2<=sizeLine;rw[aP];decide,λy hy=>stop_left (h2 z) r.wU hy⟩
 refine⟨_,rfl,_,_,rfl,rfl,_,rfl,bX (λz=>du (stop λy=>by lia)) λz=>?_⟩
 refine⟨_,rfl,_,rfl,_,_,_,_,_,rfl,hR,e.eW,e.mj,rfl,_,_,_,_,_,rfl,r.reg.2,e.iG,e.r8,rfl,_,_,rfl,rfl,_,rfl,bX (λz2=>stop λy=>?_) λz2=>?_⟩
 ·have z2:(x.width:Int)<=v:=z2
  lia
 ·have z2: ¬(x.width:Int)<=v:=z2;exact⟨_,rfl,h1 ⟨by lia,by lia⟩⟩
end
open Vaarrj (firstFault raised)
section
variable{R:Cl}
def ab2(F:Df K mg "told_lane" zL f fd)(e:EK K R)(g:GI mg)(S:nZ K mg R):aK P w K mg base (bf P w) 3 "told_lane" ["run","number"] (AN R):=
 ⟨f,fd,ab1 F.1 e g S,F.2,F.1.kp,F.1.b2 "run" "number"⟩
def ab3(F:aD K "do_get" "do_get" Fv f fd)(G:fj P w K mg base R)(GL:aK P w K mg base (bf P w) 3 "told_lane" ["run","number"] (AN R)):aB P w K mg base (bf P w) 4 f fd ["run","told"] (fL R λi=>∃d v s,i=.get d v s):=by
 refine F.oX M4 λ_ _ _ _ H vs Q E hr h=>?_;obtain⟨H0,L,x,n,t,i,b,c,rfl,⟨d,v,sc,rfl⟩,r,TT,⟨hd,hv,rq⟩,q⟩:=h;have cN:=hr.mono (show 1<=3 by decide)
 refine⟨_,ay (bE 2 M4.nd (aV G.vec cN aW (ah (pv 0) (ah (pv 1) (ah aO aj)))))
  (aw (bK (aV G.hold cN aW (ah (pv 0) (ah (pv 1) (ah (cj cH (pv 2) (aV GL hr cS (ah (pv 0) (ah (aV G.sca cN aW (ah (pv 0) (ah (pv 1) (ah aO aj)))) aj))) (λ_ _=>rfl)) aj)))))),?_⟩
 obtain⟨bd,hb,hB⟩:=r.eJ hv;have T:=TT.mono r.old;have q:Res R H0 L H (match sY x sc with|some l=>.ok (setScalar x d (bN x v l),n)|none=>.error (12,0)) Q E:=q
 unfold sY at q;refine⟨_,rfl,_,rfl,H0,L,x,n,t,_,1,v,bd,rfl,r,T,rfl,hb,?_⟩;refine⟨_,rfl,_,rfl,_,rfl,_,rfl,_,rfl,_,rfl,H0,L,x,n,t,_,2,sc,rfl,r,T,rfl,rq,?_⟩;refine⟨H0,L,x,n,_,rfl,r,λz=>?_,λz=>?_⟩
 ·rw[if_pos z] at q;have e1:(((dJ x sc).toNat:Nat):Int)=dJ x sc:=Ju z.1;refine⟨_,_,_,_,rfl,rfl,aF.of hB,(by rw[<-e1];exact cX (ia (za (by rw[r.wf.vec hv];lia)))),?_⟩
  exact⟨H0,L,x,n,t,_,d,_,rfl,r,T,rfl,hd,r.nums.iB v _,q⟩
 ·rw[if_neg z] at q;exact q
def ab4(F:aD K "do_put" "do_put" Fw f fd)(G:fj P w K mg base R)(GL:aK P w K mg base (bf P w) 3 "told_lane" ["run","number"] (AN R)):aB P w K mg base (bf P w) 4 f fd ["run","told"] (fL R λi=>∃v s t,i=.put v s t):=by
 refine F.oX M5 λ_ _ _ _ H vs Q E hr h=>?_;obtain⟨H0,L,x,n,t,i,b,c,rfl,⟨v,sc,st,rfl⟩,r,TT,⟨hv,rq,d9⟩,q⟩:=h;have cN:=hr.mono (show 1<=3 by decide)
 refine⟨_,ay (bE 2 M5.nd (aV G.vec cN aW (ah (pv 0) (ah (pv 1) (ah aO aj)))))
  (aw (jE (aV G.sca cN aW (ah (pv 0) (ah (pv 1) (ah aO aj)))) (jD (pv 2) (aV GL hr cS (ah (pv 0) (ah (aV G.sca cN aW (ah (pv 0) (ah (pv 1) (ah aO aj)))) aj))) set_list))),?_⟩
 obtain⟨bd,hb,hB⟩:=r.eJ hv;have T:=TT.mono r.old;have q:Res R H0 L H (match sY x sc with|some l=>.ok (setVec x v ((c9 x v).set l (dJ x st)),n)|none=>.error (12,0)) Q E:=q
 unfold sY at q;refine⟨_,rfl,_,rfl,H0,L,x,n,t,_,0,v,bd,rfl,r,T,rfl,hb,?_⟩;refine⟨_,rfl,_,rfl,H0,L,x,n,t,_,2,st,rfl,r,T,rfl,d9,?_⟩;refine⟨_,rfl,_,rfl,_,rfl,_,rfl,H0,L,x,n,t,_,1,sc,rfl,r,T,rfl,rq,?_⟩;refine⟨H0,L,x,n,_,rfl,r,λz=>?_,λz=>?_⟩
 ·rw[if_pos z] at q;have e1:(((dJ x sc).toNat:Nat):Int)=dJ x sc:=Ju z.1;have lw:(dJ x sc).toNat<x.width:=by lia
  refine⟨_,_,_,_,rfl,rfl,hB,(by rw[<-e1];exact jQ (by rw[bq,r.wf.vec hv];exact lw)),?_⟩
  have wr:=r.setVec hb (v:=(c9 x v).set (dJ x sc).toNat (dJ x st)) (by rw[gV];exact r.wf.vec hv) λk hk=>(mem_set hk).elim (λz=>by rw[z];exact r.nums.scalar st) (r.nums.vec v k)
  rw[vd] at wr;exact q _ wr.1 wr.2
 ·rw[if_neg z] at q;exact q
theorem NC:∀{l:List (Option Fault)} {i:Nat} {e:Fault},(∀y∈l.take i,y=none)->l[i]? =some (some e)->(l.find? λy=>y.isSome).getD none=some e
 |[],i,e,_,h=>by simp at h
 |y::r,0,e,_,h=>by
  have:y=some e:=by simpa using h
  rw[this];rfl
 |y::r,i+1,e,ha,h=>by
  have hy:y=none:=ha y (by simp)
  subst hy;have h':r[i]? =some (some e):=by simpa using h
  have:=NC (l:=r) (i:=i) (λz hz=>ha z (by rw[x5];exact fG _ hz)) h'
  simpa using this
def ab5{l:List (Option Fault)}(h:∀y∈l,y=none):(l.find? λy=>y.isSome).getD none=none:=by
 have:l.find? (λy=>y.isSome)=none:=List.find?_eq_none.mpr λy hy=>by rw[h y hy];simp
 rw[this];rfl
theorem Dp{α β:Type}{p:α->β->Prop}:∀{l:List α} {r:List β} {i:Nat} {a:α},Paired p l r->l[i]? =some a->∃b,r[i]? =some b/\p a b
 |_,_,_,_,.nil,e=>by simp at e
 |_,_,0,_,.cons q _,e=>by simp at e;subst e;exact⟨_,rfl,q⟩
 |_,_,i+1,_,.cons _ t,e=>by
  obtain⟨b,h1,h2⟩:=Dp (i:=i) t (by simpa using e)
  exact⟨b,by simpa using h1,h2⟩
inductive Hb(R:Cl)(vs:List V)(H:Hp)(Q:VK)(E:XK):Prop
 |mk (H0 L x n:_) (_:vs=[.ref L.run]) (_:bH R H0 L x n H) (_:match yk x with|some e=>ku R L E H e.1 e.2|none=>Q .aM H)
def ab6(F:aD K "raise_first_fault" "raise_first_fault" zM f fd)(e:EK K R)(S:nZ K mg R):aB P w K mg base (bf P w) 3 f fd ["run"] (Hb R):=by
 obtain⟨N,fi,fh,S,mS⟩:=S.ex;have GI:aB P w K mg base au 1 fi fh ["self","kind","place"] (r_ R.stop):=AH S;have bI:=S.fn.b3 "self" "kind" "place";refine F.oX M7 λ_ _ _ _ H vs Q E hr h=>?_;obtain⟨H0,L,x,n,rfl,r,q⟩:=h;refine⟨_,aw (zw qp ⟨rfl,rfl⟩ rfl (g8 (aN (pv 0) rfl)) (λ_ _=>fD 1 M7.nd)
  (λpn xe E ht=>aw (bZ (ji (yy (pv 1))) (aw (rT S.cls GI hr bI rfl rfl ht.lets rfl mS (ah (cj (r:=CU K) Kw (pv 1) aO (λ_ _=>rfl)) (ah (cj (r:=CU K) Kw (pv 1) aO (λ_ _=>rfl)) aj)))) cJ))),?_⟩
 obtain⟨un,hu,hR,hU⟩:=r.ju;obtain⟨fs,hF,hP⟩:=r.Nw;refine⟨_,rfl,_,_,_,_,_,rfl,hR,e.eW,e.G0,rfl,_,rfl,⟨_,aF.of hF⟩,?_⟩;refine lI (xs:=fs) (λi σ H'=>(∃u,σ=[some (.ref L.run),u])/\H'=H/\ ∀y∈x.faults.take i,y=none) ⟨⟨_,rfl⟩,rfl,by simp⟩ (λi σ H' _ p=>?_) (λi v σ H' hi p=>?_) λσ H' p=>?_
 ·obtain⟨_,rfl,_⟩:=p;exact aF.of hF
 ·obtain⟨⟨v0,rfl⟩,rfl,pr⟩:=p;obtain⟨y,hy,hv⟩:=Dp hP hi;cases y with
  |none=>
   have hv:v=.aM:=hv;subst hv;refine⟨_,rfl,_,rfl,dY ⟨⟨_,rfl⟩,rfl,λy ND=>?_⟩⟩;rw[take_snoc hy] at ND;rcases gO.mp ND with z|z
   ·exact pr y z
   ·simpa using z
  |some ft=>
   obtain⟨ta,rfl,_,NG⟩:=hv;have ff:yk x=some ft:=NC pr hy;rw[ff] at q;refine⟨_,rfl,_,rfl,du ?_⟩;refine⟨_,rfl,_,_,_,_,rfl,rfl,fR.of NG,cX (k:=0) rfl,_,rfl,_,_,_,_,rfl,rfl,fR.of NG,cX (k:=1) rfl,(by show 2<=sizeLine;rw[aP];decide),λy hy=>?_⟩
   exact stop_left q r.wU hy
 ·obtain⟨_,rfl,pr⟩:=p;have ff:yk x=none:=ab5 (by rw[hP.length,oG] at pr;exact pr)
  rw[ff] at q;exact q
end
open Vaarrj (rounds)
mutual
def fY(R:Cl)(H:Hp)(i:cw)(t:ae):Prop:=match i with
 | .for_ d c b=>∃ba ca ts,Told R H t (se (.for_ d c b) ba ca)/\H ba=some (.lst (ts.map V.ref))/\b8 R H b ts/\H ca=some (.lst [])
 | .when s b c=>∃ba ca ts us,Told R H t (se (.when s b c) ba ca)/\H ba=some (.lst (ts.map V.ref))/\b8 R H b ts/\H ca=some (.lst (us.map V.ref))/\b8 R H c us
 |i=>∃ba ca,Told R H t (se i ba ca)
def b8(R:Cl)(H:Hp)(b:c6)(ts:List ae):Prop:=match b with
 | .nil=>ts=[]
 | .cons i r=>∃t us,ts=t::us/\fY R H i t/\b8 R H r us
end
open MP (eh fJ)
inductive pj(R:Cl)(h:Nat)(i:cw)(vs:List V)(H:Hp)(Q:VK)(E:XK):Prop
 |mk (H0 L x n t:_) (_:vs=[.ref L.run,.ref t]) (_:bH R H0 L x n H) (_:fY R H0 i t) (_:eh x.arrays.length i h) (_:Res R H0 L H (cx i x n) Q E)
inductive AO(R:Cl)(h:Nat)(vs:List V)(H:Hp)(Q:VK)(E:XK):Prop
 |mk (H0 L x n a ts b:_) (_:vs=[.ref L.run,.ref a]) (_:bH R H0 L x n H) (_:H0 a=some (.lst (ts.map V.ref))) (_:b8 R H0 b ts) (_:fJ x.arrays.length b h) (_:Res R H0 L H (eY b x n) Q E)
def n6(P:bQ)(w:bB)(K:aI)(mg:Str->Option ai)(base:aR)(k:Nat)(f:ae)(sp:Sp):Prop:=iN K (.ref f)=true/\ ∃fd ps,Binds K fd ps []/\
 ((∃iW,aB P w K mg base au k f fd ps iW/\ ∀vs H Q E,sp vs H Q E->iW vs H Q E0)\/(∃iW,aB P w K mg base (bf P w) k f fd ps iW/\ ∀vs H Q E,sp vs H Q E->iW vs H Q E))
inductive ActT(P:bQ)(w:bB)(K:aI)(mg:Str->Option ai)(base:aR)(R:Cl)(k h:Nat):Prop
 |mk (a D:_) (_:mg "ACTIONS"=some (.ref a)) (_:Tab K w a D) (_:∀i n,eh n i h->∃f,dX D (.inr (MX.S (MP.toldOf i).act))=some (.ref f)/\n6 P w K mg base k f (pj R h i))
section
variable{R:Cl}
def n6.ab7{X:Cx}{k:Nat}{E:XK}{sp:Sp}(A:n6 X.prog X.w X.K X.mg X.base k f sp)(hr:dE k X.A)(hx:Passes (bf X.prog X.w) X E):My X f (λvs H Q=>sp vs H Q E):=by
 obtain⟨_,fd,ps,hb,⟨iW,F,im⟩|⟨iW,F,im⟩⟩:=A
 ·exact⟨au,k,fd,ps,iW,E0,F,hr,hb,aW,λvs H Q h=>im _ _ _ _ h⟩
 ·exact⟨bf X.prog X.w,k,fd,ps,iW,E,F,hr,hb,hx,λvs H Q h=>im _ _ _ _ h⟩
def jR{X:Cx}{e:bj}{x:Str}{pos:Pos}{ta:TE}{K:aI}(hK:X.K=K)(he:PE X e ta)(hb:oB e x X.env (eval e X.env)=eval e X.env):PE X (.Attribute e x pos) (Kc K ta x):=by subst hK;exact aN he hb
def ab8{X:Cx}{o i:bj}{pos:Pos}{td ty:TE}{K:aI}{w:bB}(hK:X.K=K)(hw:X.w=w)(ho:PE X o td)(hi:PE X i ty)(hs:Dm i):PE X (.Subscript o i pos) (MA K w td ty):=by subst hK hw;exact rV ho hi hs
inductive ab9(P:bQ)(w:bB)(K:aI)(mg:Str->Option ai)(base:aR)(k:Nat)(E:XK)(i:Nat)(t:TA)(σ:L2.St)(H:Hp)(Q:VK):Prop
 |mk (f sp:_) (_:σ[i]? =some (some (.ref f))) (_:n6 P w K mg base k f sp) (_:t σ H λvs H1=>sp vs H1 Q E)
def aca{X:Cx}{P:bQ}{w:bB}{K:aI}{mg:Str->Option ai}{base:aR}{k:Nat}{E:XK}(h5:X.prog=P/\X.w=w/\X.K=K/\X.mg=mg/\X.base=base)(hr:dE k X.A)(hx:Passes (bf X.prog X.w) X E){i:Nat}{x:Str}{p pos:Pos}{e:bj}{es:List bj}{t:TA}(hN:X.N[i]? =some x)(hv:pP X.env.scope x)(ha:PA X (e::es) t)(g9:(x==("__debug__":Str))=false:=by decide)(fz:(x==("__classdict__":Str))=false:=by decide)
 (he:cG (e::es) X.env=(false,eval e X.env)::cG es X.env:=by rfl) (dF:(f_ pos (cG es X.env)).any (·.1)=false:=by rfl):PE X (.Call (.Name x p) (e::es) [] pos) (ab9 P w K mg base k E i t):=by
 obtain⟨rfl,rfl,rfl,rfl,rfl⟩:=h5;intro pins s σ H Q I h;obtain⟨f,sp,ef,A,h⟩:=h;refine qK (aX (yw (pos:=p) hN hv g9 fz pins s σ H (λv H1=>v=.ref f/\H1=H) I ⟨_,ef,rfl,rfl⟩) λu s0 ⟨v,H0,I0,ru,ev,eH⟩=>?_);subst ev eH;obtain rfl:u=di f:=ru;refine xU (h₀:=X.base) I.ok.mod.dB A.1 (aX (ha pos pins s0 σ H0 _ I0 h) λus s1 ⟨vs,H1,I1,r,q⟩=>⟨I1.dm,?_⟩) he dF;obtain⟨CX,k,fd,ps,iW,E',F,hr,hb,hx,im⟩:=A.ab7 hr hx;exact vw (ds:=[]) (dvs:=[]) F hr hb .nil hx I1 r (by rw[dA];exact im _ _ _ q)
def fY.told{H:Hp}{i:cw}{t:ae}(h:fY R H i t):∃ba ca,Told R H t (se i ba ca):=by
 cases i with
 |for_ d c b=>obtain⟨ba,ca,_,h,_⟩:=h;exact⟨ba,ca,h⟩
 |when s b c=>obtain⟨ba,ca,_,_,h,_⟩:=h;exact⟨ba,ca,h⟩
 |_=>exact h
def acb(F:Df K mg "take_step" zx f fd)(g:GI mg)(e:EK K R)(S:nZ K mg R):aK P w K mg base (bf P w) 3 "take_step" ["run"] (AI R):=by
 obtain⟨N,fi,fh,S,mS⟩:=S.ex;exact⟨f,fd,abp F.1 g e S mS,F.2,F.1.kp,F.1.b1 "run"⟩
def bH.NH{H0 H H':Hp}{L:Rn}{x y:a_}{n m:Nat}(r:bH R H0 L x n H)(r':bH R H0 L y m H'):y.arrays.length=x.arrays.length:=r'.aa.symm.trans r.aa
def acd(x:a_)(n:Nat):eY .nil x n=.ok (x,n):=by rw[eY]
def ace(i:cw)(b:c6)(x:a_):eY (.cons i b) x 0=.error (9,0):=by rw[eY];rfl
def acf{i:cw}{b:c6}{x:a_}{n:Nat}{z:a_×Nat}(h:cx i x n=.ok z):eY (.cons i b) x (n+1)=eY b z.1 z.2:=by rw[eY,h]
def acg{i:cw}{b:c6}{x:a_}{n:Nat}{e:Fault}(h:cx i x n=.error e):eY (.cons i b) x (n+1)=.error e:=by rw[eY,h]
def NI{k h:Nat}(F:aD K "do_all" "do_all" FE f fd)(e:EK K R)(GS:aK P w K mg base (bf P w) 3 "take_step" ["run"] (AI R))(T:ActT P w K mg base R (k+3) h):aB P w K mg base (bf P w) (k+4) f fd ["run","body"] (AO R h):=by
 obtain⟨ta,D,mT,tab,ach⟩:=T;refine F.oX FF λ_ A _ _ H vs Q E hr h=>?_;obtain⟨H0,L,x,n,a,ts,b,rfl,r,ha,hb,ok,q⟩:=h;have fk:=hr.mono (show 3<=k+3 by lia)
 refine⟨_,(aw (zw qp ⟨rfl,rfl⟩ rfl (g8 (pv 1)) (λ_ _=>fD 2 FF.nd)
  (λpn xe E ht=>ay (bK (aV GS fk ht.passes (ah (pv 0) aj))) (ay (bE 3 FF.nd (ab8 (K:=K) (w:=w) rfl rfl (iH mT) (jR (K:=K) rfl (pv 2) rfl) (λ_ _=>rfl)))
    (aw (bK (aca (P:=P) (w:=w) (K:=K) (mg:=mg) (base:=base) (k:=k+3) (i:=3) ⟨rfl,rfl,rfl,rfl,rfl⟩ hr ht.passes rfl (Or.inl rfl) (ah (pv 0) (ah (pv 2) aj))))))))),?_⟩
 refine⟨_,rfl,a,rfl,⟨_,aF.of (r.old _ _ ha)⟩,lI (xs:=ts.map V.ref) (λi σ H'=>(∃u v,σ=[some (.ref L.run),some (.ref a),u,v])/\ ∃y m rest,bH R H0 L y m H'/\Kp L H H'/\b8 R H0 rest (ts.drop i)/\fJ x.arrays.length rest h/\eY b x n=eY rest y m)
  ⟨⟨_,_,rfl⟩,x,n,b,r,Kp.refl,hb,ok,rfl⟩ (λi σ H' _ p=>?_) (λi v σ H' hi p=>?_) λσ H' p=>?_⟩
 ·obtain⟨_,y,m,rest,r1,_⟩:=p;exact aF.of (r1.old _ _ ha)
 ·obtain⟨⟨v0,v1,rfl⟩,y,m,rest,r1,k1,hB,jq,eq⟩:=p;obtain⟨t,ht,rfl⟩:∃t,ts[i]? =some t/\v=.ref t:=by
   rw[dI] at hi;cases y:ts[i]? with
   |none=>rw[y] at hi;cases hi
   |some t=>rw[y] at hi;exact⟨t,rfl,by injection hi with hi;exact hi.symm⟩
  have dr:ts.drop i=t::ts.drop (i+1):=by
   obtain⟨hl,e1⟩:=dz.mp ht;rw[<-e1];exact qP hl
  cases rest with
  |nil=>
   have hB:ts.drop i=[]:=by simpa only[b8] using hB
   rw[dr] at hB;cases hB
  |cons j rs=>
   simp only[b8] at hB;obtain⟨t2,us,e2,hI,hB⟩:=hB;rw[dr] at e2;obtain⟨rfl,rfl⟩:=oE e2;simp only[fJ] at jq;refine⟨_,rfl,H0,L,y,m,rfl,r1,λz=>?_,λk2 mw H2 r2 qu=>?_⟩
   ·subst z;rw[eq,ace] at q;exact ku.kp q k1
   ·subst mw;obtain⟨ba,ca,dx,fs,ol,T⟩:=hI.told;replace T:=T.mono r2.old;obtain⟨fa,hv,A⟩:=ach j x.arrays.length jq.1;refine⟨_,rfl,_,_,_,_,_,rfl,T.ob,e.bW,e.mn,T.ac,ta,D,.inr (MX.S (MP.toldOf j).act),.ref fa,rfl,rfl,tab,hv,?_⟩;refine⟨fa,pj R h j,rfl,A,_,rfl,_,rfl,H0,L,y,k2,t,rfl,r2,hI,by rw[r.NH r2];exact jq.1,?_⟩
    cases ed:cx j y k2 with
    |ok z=>
     rw[acf ed] at eq;exactλH3 r3 k3=>⟨⟨_,_,rfl⟩,z.1,z.2,rs,r3,(k1.trans qu).trans k3,hB,jq.2,eq⟩
    |error er=>
     rw[eq,acg ed] at q;exact ku.kp q (k1.trans qu)
 ·obtain⟨_,y,m,rest,r1,k1,hB,jq,eq⟩:=p;rw[bq,BZ] at hB;cases rest with
  |nil=>
   rw[eq,acd] at q;exact q H' r1 k1
  |cons j rs=>
   simp only[b8] at hB;obtain⟨t2,us,e2,_⟩:=hB;cases e2
end
section
variable{R:Cl}
def NJ(F:Df K mg "raise_first_fault" zM f fd)(e:EK K R)(S:nZ K mg R):aK P w K mg base (bf P w) 3 "raise_first_fault" ["run"] (Hb R):=
 ⟨f,fd,ab6 F.1 e S,F.2,F.1.kp,F.1.b1 "run"⟩
def aci(F:aD K "do_raise" "do_raise" FD f fd)(GR:aK P w K mg base (bf P w) 3 "raise_first_fault" ["run"] (Hb R)):aB P w K mg base (bf P w) 4 f fd ["run","told"] (fL R λi=>i=.raise):=by
 refine F.oX Zs λ_ _ _ _ H vs Q E hr h=>?_;obtain⟨H0,L,x,n,t,i,b,c,rfl,rfl,r,TT,_,q⟩:=h;refine⟨_,aw (bK (aV GR hr cS (ah (pv 0) aj))),?_⟩;refine⟨_,rfl,H0,L,x,n,rfl,r,?_⟩;have q:Res R H0 L H (match yk x with|some e=>.error e|none=>.ok (x,n)) Q E:=q
 cases ff:yk x with
 |none=>rw[ff] at q;exact q H r Kp.refl
 |some e=>rw[ff] at q;exact q
def acj(g:a_->Nat->yi)(d i:Nat)(x:a_)(n:Nat):rounds g d 0 i x n=.ok (x,n):=by rw[rounds]
def ack(g:a_->Nat->yi)(d k i:Nat)(x:a_):rounds g d (k+1) i x 0=.error (9,0):=by rw[rounds];rfl
def acm{g:a_->Nat->yi}{d k i:Nat}{x:a_}{n:Nat}{z:a_×Nat}(h:g (setScalar x d ((i:Nat):Int)) n=.ok z):rounds g d (k+1) i x (n+1)=rounds g d k (i+1) z.1 z.2:=by rw[rounds];simp only[h]
def acn{g:a_->Nat->yi}{d k i:Nat}{x:a_}{n:Nat}{e:Fault}(h:g (setScalar x d ((i:Nat):Int)) n=.error e):rounds g d (k+1) i x (n+1)=.error e:=by rw[rounds];simp only[h]
def aco{k h:Nat}(F:aD K "do_for" "do_for" Fy f fd)(G:fj P w K mg base R)(g:GI mg)(GS:aK P w K mg base (bf P w) 3 "take_step" ["run"] (AI R))(GA:aK P w K mg base (bf P w) (k+4) "do_all" ["run","body"] (AO R h)):
 aB P w K mg base (bf P w) (k+5) f fd ["run","told"] (λvs H Q E=>∃d c b,pj R (h+1) (.for_ d c b) vs H Q E):=by
 refine F.oX M6 λ_ _ _ _ H vs Q E hr h=>?_;obtain⟨d,c,b,H0,L,x,n,t,rfl,r,hI,ok,q⟩:=h;have cN:=hr.mono (show 1<=k+4 by lia)
 have fk:=hr.mono (show 3<=k+4 by lia)
 simp only[fY] at hI;obtain⟨ba,ca,ts,TT,fM,hB,_⟩:=hI;simp only[eh] at ok;obtain⟨hd,hc,k0,tX,jq⟩:=ok;obtain rfl:h=k0:=by lia
 have q:Res R H0 L H (rounds (eY b) d (dJ x c).toNat 0 x n) Q E:=q;refine⟨_,aw (zw qp ⟨rfl,rfl⟩ rfl (vo rfl g.ux (ah (aV G.sca cN aW (ah (pv 0) (ah (pv 1) (ah aO aj)))) aj)) (λ_ _=>fD 2 M6.nd)
  (λpn xe E ht=>ay (bK (aV GS fk ht.passes (ah (pv 0) aj))) (ay (bK (aV G.hold cN aW (ah (pv 0) (ah (pv 1) (ah (pv 2) aj)))))
    (aw (bK (aV GA hr ht.passes (ah (pv 0) (ah (jR (K:=K) rfl (pv 1) rfl) aj)))))))),?_⟩
 have T:=TT.mono r.old;have hs:=V9 (r.nums.scalar c);refine⟨_,rfl,_,rfl,H0,L,x,n,t,_,1,c,rfl,r,T,rfl,hc,_,rfl,by lia,by lia,?_⟩
 refine Ct (n:=(dJ x c).toNat) (λi σ H'=>(∃u,σ=[some (.ref L.run),some (.ref t),u])/\ ∃y m,bH R H0 L y m H'/\Kp L H H'/\rounds (eY b) d (dJ x c).toNat 0 x n=rounds (eY b) d ((dJ x c).toNat-i) i y m) ⟨⟨_,rfl⟩,x,n,r,Kp.refl,rfl⟩ (λi σ H' hi p=>?_) λσ H' p=>?_
 ·obtain⟨⟨v0,rfl⟩,y,m,r1,k1,eq⟩:=p;have e1:(dJ x c).toNat-i=((dJ x c).toNat-(i+1))+1:=by lia
  rw[e1] at eq;refine⟨_,rfl,H0,L,y,m,rfl,r1,λz=>?_,λk2 mw H2 r2 qu=>?_⟩
  ·subst z;rw[eq,ack] at q;exact ku.kp q k1
  ·subst mw;have ni:Num ((i:Nat):Int):=⟨by rw[great];lia,by rw[great];lia⟩
   refine⟨_,rfl,_,rfl,_,rfl,H0,L,y,k2,t,_,d,((i:Nat):Int),(by show[V.ref L.run,V.ref t,V.int (0+((i:Nat):Int))]=_;rw[vh]),r2,TT.mono r2.old,rfl,hd,ni,λH3 r3 k3=>?_⟩
   obtain⟨dx,fs,ol,T3⟩:=TT.mono r3.old;refine⟨_,rfl,_,rfl,_,_,_,_,_,rfl,T3.ob,G.ek.bW,G.ek.uB,T3.b,?_⟩;refine⟨H0,L,_,k2,ba,ts,b,rfl,r3,fM,hB,by rw[r.NH r3];exact jq,?_⟩
   cases ed:eY b (setScalar y d ((i:Nat):Int)) k2 with
   |ok z=>
    rw[acm ed] at eq;exactλH4 r4 k4=>⟨⟨_,rfl⟩,z.1,z.2,r4,((k1.trans qu).trans k3).trans k4,eq⟩
   |error er=>
    rw[eq,acn ed] at q;exact ku.kp q ((k1.trans qu).trans k3)
 ·obtain⟨_,y,m,r1,k1,eq⟩:=p;rw[Nat.sub_self,acj] at eq;rw[eq] at q;exact q H' r1 k1
def acp{k h:Nat}(F:aD K "do_when" "do_when" Fz f fd)(G:fj P w K mg base R)(GA:aK P w K mg base (bf P w) (k+4) "do_all" ["run","body"] (AO R h)):
 aB P w K mg base (bf P w) (k+5) f fd ["run","told"] (λvs H Q E=>∃s b c,pj R (h+1) (.when s b c) vs H Q E):=by
 refine F.oX Zp λ_ _ _ _ H vs Q E hr h=>?_;obtain⟨sc,b,c,H0,L,x,n,t,rfl,r,hI,ok,q⟩:=h;have cN:=hr.mono (show 1<=k+4 by lia)
 simp only[fY] at hI;obtain⟨ba,ca,ts,us,TT,fM,hB,xg,hC⟩:=hI;simp only[eh] at ok;obtain⟨hs,k0,tX,jq,Hc⟩:=ok;obtain rfl:h=k0:=by lia
 have q:Res R H0 L H (if dJ x sc≠0 then eY b x n else eY c x n) Q E:=q
 refine⟨_,aw (bZ (bV jk (aV G.sca cN aW (ah (pv 0) (ah (pv 1) (ah aO aj)))) aO (bO _)) (aw (bK (aV GA hr cS (ah (pv 0) (ah (aN (pv 1) rfl) aj)))))
  (aw (bK (aV GA hr cS (ah (pv 0) (ah (aN (pv 1) rfl) aj)))))),?_⟩
 have T:=TT.mono r.old;obtain⟨dx,fs,ol,T1⟩:=TT.mono r.old;refine⟨_,rfl,_,rfl,H0,L,x,n,t,_,0,sc,rfl,r,T,rfl,hs,rfl,_,rfl,nV (λz=>?_) λz=>?_⟩
 ·rw[if_pos (λy=>z (by rw[y]))] at q
  exact⟨_,rfl,_,rfl,_,_,_,_,_,rfl,T1.ob,G.ek.bW,G.ek.uB,T1.b,H0,L,x,n,ba,ts,b,rfl,r,fM,hB,jq,q⟩
 ·have z:dJ x sc=0:=by injection z
  rw[if_neg (λy=>y z)] at q;exact⟨_,rfl,_,rfl,_,_,_,_,_,rfl,T1.ob,G.ek.bW,G.ek.wY,T1.c,H0,L,x,n,ca,us,c,rfl,r,xg,hC,Hc,q⟩
end
structure acq(qual:Str)(params:Arguments)(body:bj)(scope:d6)(g:Bool->Bool->Bool):Prop where
 ex:∃(N ps:List Str) (te:TE),aS N ps scope/\ps.length=2/\ (∀(c:ae) (pm gv:ai) (us:List ai),us.length=ps.length->qJ (Qk "<lambda>" qual params body scope [] pm (.ref c) gv) ⟨us,[]⟩=pure (ps.zip us))/\
  (∀X:Cx,EC X N qual scope body te)/\ ∀(u v:Bool) (H:Hp) (Q:VK),Q (bit (g u v)) H->te (start N [bit u,bit v]) H Q
inductive xh(R:Cl)(vs:List V)(H:Hp)(Q:VK)(_:XK):Prop
 |mk (H0 L x n t T d a b f c qual params body scope g:_) (_:vs=[.ref L.run,.ref t,.ref f]) (_:bH R H0 L x n H) (_:Told R H t T) (_:T.os=[((d:Nat):Int),((a:Nat):Int),((b:Nat):Int)]) (_:d<8) (_:a<8) (_:b<8) (_:H f=some (kW f qual params body scope c)) (_:H c=some (iE c qual)) (_: ¬L.mut f) (_: ¬L.mut c) (_:acq qual params body scope g) (_:∀H',bH R H0 L (maskLanes x d λl=>g (fv x a l) (fv x b l)) n H'->Kp L H H'->Q .aM H')
section
variable{fa:ae}{R:Cl}
def acr(F:aD K "combine_masks" "combine_masks" zK fa fd)(G:fj P w K mg base R)(g:GI mg):aB P w K mg base au 2 fa fd ["run","told","combined"] (xh R):=by
 refine F.oK wC λ_ _ _ _ H vs Q E hr h=>?_;obtain⟨H0,L,x,n,t,T,d,a1,a2,fl,cl,qual,params,body,scope,gg,rfl,r,hT,ho,hd,dj,ig,hf,hc,mf,mc,lam,q⟩:=h;obtain⟨N,ps,te,S,hps,bnd,lo,te2⟩:=lam.ex;refine⟨_,ay (bE 3 wC.nd (aV G.jM hr aW (ah (pv 0) (ah (pv 1) (ah aO aj))))) (ay (bE 4 wC.nd (aV G.jM hr aW (ah (pv 0) (ah (pv 1) (ah aO aj)))))
  (ay (bE 5 wC.nd (aV G.jM hr aW (ah (pv 0) (ah (pv 1) (ah aO aj)))))
  (aw (lG j6 rfl (vo rfl g.ux (ah (aN (aN (pv 0) rfl) rfl) aj)) (fD 6 wC.nd)
  (aw (jE (X1 (i:=2) hr rfl (Or.inl rfl) (ah (cj cH (pv 4) (pv 6) (λ_ _=>rfl)) (ah (cj cH (pv 5) (pv 6) (λ_ _=>rfl)) aj))) (jD (pv 3) (pv 6) set_list))))))),?_⟩
 obtain⟨bd,hb,hB⟩:=r.kX hd;obtain⟨b1,AQ,hB1⟩:=r.kX dj;obtain⟨b2,ck,gT⟩:=r.kX ig;obtain⟨un,hu,hR,hU⟩:=r.ju;have fB:=r.wf.fB;refine⟨_,rfl,_,rfl,H0,L,x,n,t,T,0,d,bd,rfl,r,hT,by rw[ho];rfl,hb,?_⟩
 refine⟨_,rfl,_,rfl,H0,L,x,n,t,T,1,a1,b1,rfl,r,hT,by rw[ho];rfl,AQ,?_⟩
 refine⟨_,rfl,_,rfl,H0,L,x,n,t,T,2,a2,b2,rfl,r,hT,by rw[ho];rfl,ck,?_⟩
 refine⟨_,rfl,_,_,_,_,_,rfl,hR,G.ek.eW,G.ek.mj,rfl,_,_,_,_,_,rfl,r.reg.2,G.ek.iG,G.ek.r8,rfl,_,rfl,by lia,by lia,?_⟩
 refine Ct (n:=(x.width:Int).toNat) (λi σ H'=>(∃u,σ=[some (.ref L.run),some (.ref t),some (.ref fl),some (.ref bd),some (.ref b1),some (.ref b2),u])/\ ∃y,MI R H0 L x n H (cB x.width) d (λl=>gg (fv x a1 l) (fv x a2 l)) i y H') ⟨⟨_,rfl⟩,x,MI.start r Kp.refl⟩ (λi σ H' hi p=>?_) λσ H' p=>?_
 ·obtain⟨⟨v0,rfl⟩,y,I⟩:=p;have lw:i<x.width:=by lia
  have hl:(cB x.width)[i]? =some i:=by rw[qR lw]
  have nt:i∉(cB x.width).take i:=LZ List.nodup_range hl;obtain⟨c0,mx,hC0⟩:=I.at_.kX hd;rw[hb] at mx;obtain rfl:=aZ mx;obtain⟨c1,zt,hC1⟩:=I.at_.kX dj;rw[AQ] at zt;obtain rfl:=aZ zt;obtain⟨c2,NK,hC2⟩:=I.at_.kX ig;rw[ck] at NK;obtain rfl:=aZ NK;have NL:∀{k:Nat},k<8->kb ((maskOf y k).map bit) (0+((i:Nat):Int))=some (bit (fv x k i)):=λ{k} hk=>by
   rw[vh,<-I.mid.on k i nt];exact cX (ia (LW (by rw[I.at_.wf.mask hk,I.mid.w];exact lw)))
  have ix:ka ((maskOf y d).map bit).length (0+((i:Nat):Int))=some i:=by rw[vh];exact jQ (by rw[bq,I.at_.wf.mask hd,I.mid.w];exact lw)
  refine⟨fl,cl,qual,params,body,scope,rfl,I.kp _ _ hf mf,_,rfl,_,rfl,_,_,_,_,rfl,rfl,aF.of hC1,NL dj,?_⟩;refine⟨_,rfl,_,rfl,_,_,_,_,rfl,rfl,aF.of hC2,NL ig,?_⟩;refine⟨I.kp _ _ hf mf,I.kp _ _ hc mc,N,ps,te,S,hps.symm,λpm gv us hl=>bnd cl pm gv us hl,lo _,te2 _ _ _ _ ?_⟩;exact⟨_,rfl,_,rfl,_,_,_,_,rfl,rfl,hC0,ix,⟨_,rfl⟩,_,I.set hl hd hb rfl⟩
 ·obtain⟨_,y,I⟩:=p;have e:=I.eq;rw[gW,show(cB x.width).take x.width=cB x.width from IY (by rw[iy];exact bz _),L4 r.wf hd] at e
  have r2:=I.at_;rw[e] at r2;exact q H' r2 I.kp
end
def aD.xi{P:bQ}{w:bB}{K:aI}{mg:Str->Option ai}{base:aR}{x qual:Str}{st:cD}{f:ae}{fd:dP}{N ps:List Str}{k:Nat}{sp:Sp}{AR:ai}(F:aD K x qual st f fd)(hc:fd.code=AR)(S:aS N ps (aG st))(len:∀vs H Q E,sp vs H Q E->vs.length=ps.length)
 (lK:∀(A:cQ) (outer:List Env) (s:aq) (H:Hp) (vs:List V) (Q:VK) (E:XK),dE k (A.deeper (envOfC qual (aG st) s.heap.objs.size f AR))->sp vs H Q E->
   ∃t,gy (i_ (bf P w) P w K mg base N qual (aG st) f AR A outer s H E) (hX st) t/\t {nx:=λ_ H'=>Q .aM H',rt:=Q} (start N vs) H):aB P w K mg base (bf P w) (k+1) f fd ps sp:=by
 obtain⟨oc,od,kV,doc,pm,an,b9,ct,gI,rfl,lk,fz⟩:=F.ex;have hc:b9=AR:=hc;subst hc;refine CO lk fz S len λA outer s H vs Q E hr kN=>?_;exact lK A outer s H vs Q E hr kN
structure xj(base:aR)(fd:dP)(R:Cl)(j:Nat)(pos:Pos)(qual:Str)(cd Pl:ae):Prop where
 code:fd.code=.ref cd
 hd:B6 base cd Pl
 tb:R.cf[j]? =some Pl
 lam:R.r0[j]? =some (pos,qual)
section
variable{R:Cl}{H0 H:Hp}{L:Rn}{x:a_}{n:Nat}
def Hd(pos:Pos)(c:ae):TriplesOk (o_ pos c).toList:=trivial
def He{j:Nat}{pos:Pos}{qual:Str}{cd Pl:ae}{params:Arguments}{body:bj}{scope:d6}{σ:L2.St}{Q:VK}(D:xj base fd R j pos qual cd Pl)(r:bH R H0 L x n H)
 (hq:∀f c H',bH R H0 L x n H'->Kp L H H'->H' f=some (kW f qual params body scope c)->H' c=some (iE c qual)-> ¬L.mut f-> ¬L.mut c->Q (.ref f) H'):MG Pl qual params body scope pos σ H Q:=by
 have ht:L.tb[j]? =some Pl:=by rw[r.tb];exact D.tb
 obtain⟨o,hP,⟨p1,q1⟩,e1,alt⟩:=r.all (.tb j) Pl ht;rw[D.lam] at e1;obtain⟨rfl,rfl⟩:=Prod.mk.inj (aZ e1);rcases alt with rfl|⟨c,mc,rfl,hc⟩
 ·refine .inl ⟨hP,λc f hc hf Ez=>?_⟩;have mc:=r.tracked hc;have mf:=r.tracked hf;have cP:c≠Pl:=λz=>mc (by rw[z];exact⟨.tb j,ht⟩)
  have fP:f≠Pl:=λz=>mf (by rw[z];exact⟨.tb j,ht⟩)
  have r1:bH R H0 L x n (upd H c (iE c qual)):=r.more λb o e=>by rw[ak (bw e hc)];exact e
  have w:=r1.write (s:=.tb j) (o:=.dN (o_ pos c)) (n':=n) ht r1.wf r1.nums rfl rfl ⟨_,D.lam,.inr ⟨c,mc,rfl,aA⟩⟩ λt u _ h=>h;have NM:upd (upd H c (iE c qual)) Pl (.dN (o_ pos c)) f=none:=by rw[ak fP,ak (Ne.symm Ez)];exact hf
  refine hq f c _ (w.1.more λb o e=>by rw[ak (bw e NM)];exact e) (((Kp.new hc).trans w.2).trans (Kp.new NM)) aA ?_ mf mc
  rw[ak Ez,ak cP,aA]
 ·refine .inr ⟨c,hP,hc,λf hf=>?_⟩;refine hq f c _ (r.more λb o e=>by rw[ak (bw e hf)];exact e) (Kp.new hf) aA ?_ (r.tracked hf) mc
  rw[ak (bw hc hf)];exact hc
def acs(F:Df K mg "combine_masks" zK f fd)(G:fj P w K mg base R)(g:GI mg):aK P w K mg base au 2 "combine_masks" ["run","told","combined"] (xh R):=
 ⟨f,fd,acr F.1 G g,F.2,F.1.kp,F.1.b3 "run" "told" "combined"⟩
def qv(st:cD):Pos:=match hX st with
 |[.Expr (.Call _ [_,_,.Lambda _ _ _ p] _ _) _]=>p
 |_=>⟨0,0,0,0⟩
def acu{cd Pl:ae}(F:aD K "do_both" "do_both" wD f fd)(bm:BM mg base)(D:xj base fd R 0 (qv wD) "do_both.<locals>.<lambda>" cd Pl)(GC:aK P w K mg base au 2 "combine_masks" ["run","told","combined"] (xh R)):aB P w K mg base (bf P w) 3 f fd ["run","told"] (fL R λi=>∃d a b,i=.both d a b):=by
 refine aD.xi F D.code Y9 (λvs H Q E h=>?_) (λA outer s H vs Q E hr h=>?_)
 ·obtain⟨_,_,_,_,_,_,_,_,rfl,_⟩:=h;rfl
 obtain⟨H0,L,x,n,t,i,b,c,rfl,⟨d,a1,a2,rfl⟩,r,TT,⟨hd,dj,ig⟩,q⟩:=h;refine⟨_,aw (bK (aV GC hr aW (ah (pv 0) (ah (pv 1) (ah (EA (qual:="do_both.<locals>.<lambda>") bm rfl D.hd rfl rfl (by rfl) (λ_=>rfl) (λ_=>Hd _ _)) aj))))),?_⟩
 refine⟨_,rfl,_,rfl,He D r λfl cl H' r' k' hf hc mf mc=>?_⟩;refine⟨H0,L,x,n,t,_,d,a1,a2,fl,cl,_,_,_,_,(λu v=>u&&v),rfl,r',TT.mono r'.old,rfl,hd,dj,ig,hf,hc,mf,mc,?_,λH2 r2 k2=>q H2 r2 (k'.trans k2)⟩;exact⟨["first","second"],["first","second"],_,⟨rfl,rfl,rfl,by decide+kernel,rfl,by decide+kernel,by decide+kernel⟩,rfl,λc pm gv us hl=>match us,hl with|[_,_],_=>rfl,λX f cd A outer s H=>cy JW (pv 0) (pv 1),λu v H Q q=>⟨_,rfl,_,rfl,_,_,rfl,rfl,by cases u<;>cases v<;>exact q⟩⟩
def acv{cd Pl:ae}(F:aD K "do_less" "do_less" wF f fd)(bm:BM mg base)(D:xj base fd R 1 (qv wF) "do_less.<locals>.<lambda>" cd Pl)(GC:aK P w K mg base au 2 "combine_masks" ["run","told","combined"] (xh R)):aB P w K mg base (bf P w) 3 f fd ["run","told"] (fL R λi=>∃d a b,i=.less d a b):=by
 refine aD.xi F D.code Y' (λvs H Q E h=>?_) (λA outer s H vs Q E hr h=>?_)
 ·obtain⟨_,_,_,_,_,_,_,_,rfl,_⟩:=h;rfl
 obtain⟨H0,L,x,n,t,i,b,c,rfl,⟨d,a1,a2,rfl⟩,r,TT,⟨hd,dj,ig⟩,q⟩:=h;refine⟨_,aw (bK (aV GC hr aW (ah (pv 0) (ah (pv 1) (ah (EA (qual:="do_less.<locals>.<lambda>") bm rfl D.hd rfl rfl (by rfl) (λ_=>rfl) (λ_=>Hd _ _)) aj))))),?_⟩
 refine⟨_,rfl,_,rfl,He D r λfl cl H' r' k' hf hc mf mc=>?_⟩;refine⟨H0,L,x,n,t,_,d,a1,a2,fl,cl,_,_,_,_,(λu v=>u&& !v),rfl,r',TT.mono r'.old,rfl,hd,dj,ig,hf,hc,mf,mc,?_,λH2 r2 k2=>q H2 r2 (k'.trans k2)⟩;exact⟨["first","second"],["first","second"],_,⟨rfl,rfl,rfl,by decide+kernel,rfl,by decide+kernel,by decide+kernel⟩,rfl,λc pm gv us hl=>match us,hl with|[_,_],_=>rfl,λX f cd A outer s H=>cy JW (pv 0) (cy p_ aO (pv 1)),λu v H Q q=>⟨_,rfl,_,rfl,_,_,rfl,rfl,_,_,rfl,rfl,by cases u<;>cases v<;>exact q⟩⟩
def acw{cd Pl:ae}(F:aD K "do_either" "do_either" wG f fd)(bm:BM mg base)(D:xj base fd R 2 (qv wG) "do_either.<locals>.<lambda>" cd Pl)(GC:aK P w K mg base au 2 "combine_masks" ["run","told","combined"] (xh R)):aB P w K mg base (bf P w) 3 f fd ["run","told"] (fL R λi=>∃d a b,i=.either d a b):=by
 refine aD.xi F D.code Zb (λvs H Q E h=>?_) (λA outer s H vs Q E hr h=>?_)
 ·obtain⟨_,_,_,_,_,_,_,_,rfl,_⟩:=h;rfl
 obtain⟨H0,L,x,n,t,i,b,c,rfl,⟨d,a1,a2,rfl⟩,r,TT,⟨hd,dj,ig⟩,q⟩:=h;refine⟨_,aw (bK (aV GC hr aW (ah (pv 0) (ah (pv 1) (ah (EA (qual:="do_either.<locals>.<lambda>") bm rfl D.hd rfl rfl (by rfl) (λ_=>rfl) (λ_=>Hd _ _)) aj))))),?_⟩
 refine⟨_,rfl,_,rfl,He D r λfl cl H' r' k' hf hc mf mc=>?_⟩;refine⟨H0,L,x,n,t,_,d,a1,a2,fl,cl,_,_,_,_,(λu v=>u||v),rfl,r',TT.mono r'.old,rfl,hd,dj,ig,hf,hc,mf,mc,?_,λH2 r2 k2=>q H2 r2 (k'.trans k2)⟩;exact⟨["first","second"],["first","second"],_,⟨rfl,rfl,rfl,by decide+kernel,rfl,by decide+kernel,by decide+kernel⟩,rfl,λc pm gv us hl=>match us,hl with|[_,_],_=>rfl,λX f cd A outer s H=>cy Rh (pv 0) (pv 1),λu v H Q q=>⟨_,rfl,_,rfl,_,_,rfl,rfl,by cases u<;>cases v<;>exact q⟩⟩
end
open Vaarrj (fresh)
structure Made(p:ae)(H H':Hp)(as:List ae):Prop where
 kp:∀b o,H b=some o->b≠p->H' b=some o
 nd:as.Nodup
 fr:∀a∈as,H a=none
 tr:∀a∈as,∃o,H' a=some o
 p0:∃o,H p=some o
 p1:∃o,H' p=some o
def Made.trans{p:ae}{H H1 H2:Hp}{as bs:List ae}(a:Made p H H1 as)(b:Made p H1 H2 bs):Made p H H2 (as++bs) where
 kp:=λc o e n=>b.kp c o (a.kp c o e n) n
 nd:=vc.mpr ⟨a.nd,b.nd,λx hx y hy e=>by
  obtain⟨o,h⟩:=a.tr x hx;rw[e,b.fr y hy] at h;exact ns h⟩
 fr:=λc hc=>by
  rcases gO.mp hc with h|h
  ·exact a.fr c h
  ·cases q:H c with
   |none=>rfl
   |some o=>
    have n:=b.fr c h;by_cases z:c=p
    ·obtain⟨o2,h2⟩:=a.p1;rw[z,h2] at n;exact sn n
    ·rw[a.kp c o q z] at n;exact sn n
 tr:=λc hc=>by
  rcases gO.mp hc with h|h
  ·obtain⟨o,h1⟩:=a.tr c h;obtain⟨o2,h2⟩:=a.p0;exact⟨o,b.kp c o h1 λz=>by rw[<-z,a.fr c h] at h2;exact ns h2⟩
  ·exact b.tr c h
 p0:=a.p0
 p1:=b.p1
def Made.write{p:ae}{H H1:Hp}{as:List ae}{o:HO}(a:Made p H H1 as):Made p H (upd H1 p o) as where
 kp:=λc u e n=>by rw[ak n];exact a.kp c u e n
 nd:=a.nd
 fr:=a.fr
 tr:=λc hc=>by
  obtain⟨u,h⟩:=a.tr c hc;by_cases z:c=p
  ·exact⟨o,by rw[z,aA]⟩
  ·exact⟨u,by rw[ak z];exact h⟩
 p0:=a.p0
 p1:=⟨o,aA⟩
def Made.refl{p:ae}{H:Hp}(h:∃o,H p=some o):Made p H H []:=⟨λ_ _ e _=>e,List.nodup_nil,(λ_ h=>nomatch h),(λ_ h=>nomatch h),h,h⟩
def Made.one{p a:ae}{H H1 H2:Hp}{as:List ae}{o:HO}(m:Made p H H1 as)(hn:H1 a=none)(k:∀b u,H1 b=some u->H2 b=some u)(h:H2 a=some o):Made p H H2 (as++[a]):=
 m.trans ⟨λb u e _=>k b u e,by simp,λc hc=>by rw[oC.mp hc];exact hn,λc hc=>by rw[oC.mp hc];exact⟨o,h⟩,m.p1,let ⟨o,h⟩:=m.p1;⟨o,k _ _ h⟩⟩
inductive iX(H1:Hp)(D:ae)(row:Nat->HO)(i:Nat)(H':Hp):Prop
 |mk (as:List ae) (_:as.length=i) (_:as.Nodup) (_:(∀b o,H1 b=some o->H' b=some o)) (_:(∀k a,as[k]? =some a->H1 a=none/\a≠D/\H' a=some (row k))) (_:H' D=some (.lst (as.map V.ref)))
def iX.start{H1:Hp}{D:ae}{row:Nat->HO}(h:H1 D=none):iX H1 D row 0 (upd H1 D (.lst [])):=
 ⟨[],rfl,List.nodup_nil,λb o e=>by rw[ak (bw e h)];exact e,(λk a h=>nomatch h),aA⟩
def iX.next{H1 H' H2:Hp}{D r:ae}{row:Nat->HO}{i:Nat}(h:iX H1 D row i H')(hD:H1 D=none)(hr:H' r=none)(k:∀b o,H' b=some o->H2 b=some o)(h2:H2 r=some (row i))(hi:i<100000):
 ∃acc,H2 D=some (.lst acc)/\acc.length<sizeLine/\iX H1 D row (i+1) (upd H2 D (.lst (acc++[.ref r]))):=by
 obtain⟨as,hl,nd,kp,at_,hd⟩:=h;have rD:r≠D:=λz=>by rw[z,hd] at hr;exact sn hr
 refine⟨as.map V.ref,k _ _ hd,by rw[bq,hl,aP];lia,as++[r],by rw[bS,hl];rfl,?_,λb o e=>?_,λj a ha=>?_,by rw[aA,iw];rfl⟩
 ·refine vc.mpr ⟨nd,by simp,λx hx y hy e=>?_⟩
  obtain⟨j,hj⟩:=lA hx;rw[e,oC.mp hy] at hj;rw[(at_ j r hj).2.2] at hr;exact sn hr
 ·rw[ak (bw e hD)];exact k _ _ (kp b o e)
 ·by_cases z:j<as.length
  ·rw[PX z] at ha;obtain⟨a1,a2,a3⟩:=at_ j a ha;exact⟨a1,a2,by rw[ak a2];exact k _ _ a3⟩
  ·have hj:j=as.length:=by
    have:=(dz.mp ha).1;rw[bS] at this;simp at this;lia
   subst hj;rw[PV (bz _),Nat.sub_self] at ha;obtain rfl:r=a:=by simpa using ha
   refine⟨?_,rD,by rw[ak rD,h2,hl]⟩
   cases q:H1 r with
   |none=>rfl
   |some o=>rw[kp r o q] at hr;exact sn hr
def iX.made{p:ae}{H H1 H':Hp}{D:ae}{row:Nat->HO}{i:Nat}{bs:List ae}(m:Made p H H1 bs)(h:iX H1 D row i H')(hD:H1 D=none):∃as:List ae,as.length=i/\ (∀k a,as[k]? =some a->H' a=some (row k))/\H' D=some (.lst (as.map V.ref))/\Made p H H' (bs++(D::as)):=by
 obtain⟨as,hl,nd,kp,at_,hd⟩:=h;refine⟨as,hl,λk a ha=>(at_ k a ha).2.2,hd,m.trans ⟨λb o e _=>kp b o e,fI.mpr ⟨λz=>?_,nd⟩,λa ha=>?_,λa ha=>?_,m.p1,let ⟨o,h⟩:=m.p1;⟨o,kp _ _ h⟩⟩⟩
 ·obtain⟨j,hj⟩:=lA z;exact(at_ j D hj).2.1 rfl
 ·rcases cC.mp ha with z|z
  ·rw[z];exact hD
  ·obtain⟨j,hj⟩:=lA z;exact(at_ j a hj).1
 ·rcases cC.mp ha with z|z
  ·rw[z];exact⟨_,hd⟩
  ·obtain⟨j,hj⟩:=lA z;exact⟨_,(at_ j a hj).2.2⟩
structure Rg where
 reg:ae
 uA:ae
 vs:ae
 ss:ae
 ms:ae
 va:List ae
 ma:List ae
def Rg.fs(G:Rg)(w:Nat):List (Str×V):=[("width",.int (w:Nat)),("vectors",.ref G.vs),("scalars",.ref G.ss),("masks",.ref G.ms)]
structure n8(R:Cl)(H:Hp)(G:Rg)(x:a_):Prop where
 reg:H G.reg=some (.ins R.reg G.uA (G.fs x.width))
 vs:H G.vs=some (.lst (G.va.map V.ref))
 ms:H G.ms=some (.lst (G.ma.map V.ref))
 ss:H G.ss=some (.lst (x.ss.map V.int))
 va:G.va.length=16
 ma:G.ma.length=8
 v:∀k b,G.va[k]? =some b->H b=some (.lst ((c9 x k).map V.int))
 m:∀k b,G.ma[k]? =some b->H b=some (.lst ((maskOf x k).map bit))
def Rg.all(G:Rg):List ae:=G.vs::G.va++(G.ss::(G.ms::G.ma))
def n8.mono{R:Cl}{H H':Hp}{G:Rg}{x:a_}(h:n8 R H G x)(k:∀b o,H b=some o->b=G.reg\/b∈G.all->H' b=some o):n8 R H' G x:=by
 have i1:G.vs∈G.all:=by unfold Rg.all;simp
 have i2:G.ss∈G.all:=by unfold Rg.all;simp
 have i3:G.ms∈G.all:=by unfold Rg.all;simp
 exact⟨k _ _ h.reg (.inl rfl),k _ _ h.vs (.inr i1),k _ _ h.ms (.inr i3),k _ _ h.ss (.inr i2),h.va,h.ma,
  λj b e=>k _ _ (h.v j b e) (.inr (by have:=d7 e;unfold Rg.all;simp[this])),λj b e=>k _ _ (h.m j b e) (.inr (by have:=d7 e;unfold Rg.all;simp[this]))⟩
inductive xk(R:Cl)(vs:List V)(H:Hp)(Q:VK)(_:XK):Prop
 |mk (p dx w:_) (_:vs=[.ref p,.int (w:Nat)]) (_:H p=some (.ins R.reg dx [])) (_:1<=w) (_:w<=16) (_:∀H' G,G.reg=p->G.uA=dx->(∀ar,n8 R H' G (fresh w ar))->Made p H H' G.all->Q .aM H')
section
variable{R:Cl}
def Hf{α:Type}(k:Nat)(a:α):(cZ k [a]).flatten=cZ k a:=by
 induction k with
 |zero=>rfl
 |succ k ih=>rw[xW,u5,ih];rfl
def acx{w k:Nat}{ar:List (List Int)}(h:k<16):(c9 (fresh w ar) k).map V.int=cZ w (.int 0):=by
 unfold c9 tq;rw[BU,if_pos h];exact Qn
def acy{w k:Nat}{ar:List (List Int)}(h:k<8):(maskOf (fresh w ar) k).map bit=cZ w (.int 0):=by
 unfold maskOf tq;rw[BU,if_pos h];exact Qn
def AS(F:aD K "__init__" "Registers.__init__" uv f fd)(g:GI mg)(e:EK K R):aB P w K mg base au 1 f fd ["self","width"] (xk R):=by
 refine F.oK wt λ_ _ _ _ H vs Q E hr h=>?_;obtain⟨p,dx,w,rfl,hp,h1,h2,q⟩:=h;refine⟨_,ay (cT (pv 0) (pv 1) rfl) (ay (cT (pv 0)
  (nO (own:=[("number",2)]) rfl wt.nd (vo rfl g.ux (ah (b_ g.Nj) aj)) (show jo E4 (aG uv) _ _ from⟨rfl,by decide+kernel,by decide+kernel,by decide+kernel,by decide+kernel⟩) (λ_ _ _ _ _=>fD 2 wt.nd)
    (λ_ _ _ _ _=>oS) (λ_ _ _ _ _=>cy vB (cR (ah aO aj)) (pv 1))) rfl)
  (ay (cT (pv 0) (cy vB (cR (ah aO aj)) (b_ g.Nk)) rfl)
  (aw (cT (pv 0)
  (nO (own:=[("number",2)]) rfl wt.nd (vo rfl g.ux (ah (b_ g.Nl) aj)) (show jo E4 (aG uv) _ _ from⟨rfl,by decide+kernel,by decide+kernel,by decide+kernel,by decide+kernel⟩) (λ_ _ _ _ _=>fD 2 wt.nd)
    (λ_ _ _ _ _=>oS) (λ_ _ _ _ _=>cy vB (cR (ah aO aj)) (pv 1))) rfl)))),?_⟩
 have m0:Made p H H []:=Made.refl ⟨_,hp⟩;refine⟨_,rfl,_,rfl,_,_,_,_,rfl,hp,e.iG,e.r8,(by show 0<1000;decide),?_⟩
 have m1:=m0.write (o:=.ins R.reg dx (az "width" (.int (w:Nat)) []));generalize eH1:upd H p (.ins R.reg dx (az "width" (.int (w:Nat)) []))=H1 at m1⊢;have p1:H1 p=some (.ins R.reg dx (az "width" (.int (w:Nat)) [])):=by rw[<-eH1,aA]
 have turn:∀(σ:L2.St) (H2 H':Hp) (D:ae) (i n:Nat),H2 D=none->n<=16->i<n->σ[1]? =some (some (.int (w:Nat)))->iX H2 D (λ_=>.lst (cZ w (.int 0))) i H'->
  vr KI (Ke (qa (tC (.int 0)) tR)) (nF 1) σ H' λy H4=>∃acc,H4 D=some (.lst acc)/\acc.length<sizeLine/\iX H2 D (λ_=>.lst (cZ w (.int 0))) (i+1) (upd H4 D (.lst (acc++[y]))):=by
  intro σ H2 H' D i n hD hn hi hσ rI;refine⟨(by show 1<=sizeLine;rw[aP];decide),λl hl=>⟨_,hσ,l,_,_,rfl,rfl,aA,by lia,by lia,(by show 1*_<=sizeLine;rw[aP,gW];lia),λr hr=>?_⟩⟩
  have lr:r≠l:=λz=>by rw[z,aA] at hr;exact sn hr
  have si:H' r=none:=by rw[ak lr] at hr;exact hr
  rw[gW,Hf];exact rI.next hD si (λb o eb=>by rw[ak (bw eb si),ak (bw eb hl)];exact eb) aA (by lia)
 refine⟨16,rfl,by decide,by decide,λD hD=>K1 (n:=16) (iX H1 D λ_=>.lst (cZ w (.int 0))) (iX.start hD) (λi H' hi rI=>⟨rfl,turn _ _ _ _ _ 16 hD (bz _) hi rfl rI⟩) λH2 rI=>?_⟩
 obtain⟨va,NN,hva,hD2,m2⟩:=rI.made m1 hD;have p2:H2 p=some (.ins R.reg dx (az "width" (.int (w:Nat)) [])):=by obtain⟨_,_,_,kp,_⟩:=rI;exact kp _ _ p1
 refine⟨_,rfl,_,_,_,_,rfl,p2,e.iG,e.G1,(by show 1<1000;decide),?_⟩
 have m3:=m2.write (o:=.ins R.reg dx (az "vectors" (.ref D) (az "width" (.int (w:Nat)) [])));generalize NO:upd H2 p (.ins R.reg dx (az "vectors" (.ref D) (az "width" (.int (w:Nat)) [])))=H3 at m3⊢;have p3:H3 p=some (.ins R.reg dx (az "vectors" (.ref D) (az "width" (.int (w:Nat)) []))):=by rw[<-NO,aA]
 refine⟨(by show 1<=sizeLine;rw[aP];decide),λl hl=>⟨l,_,_,rfl,rfl,aA,by decide,by decide,(by show 1*_<=sizeLine;rw[aP];decide),λS hS=>?_⟩⟩
 have lS:S≠l:=λz=>by rw[z,aA] at hS;exact sn hS
 have xm:H3 S=none:=by rw[ak lS] at hS;exact hS
 have k4:∀b o,H3 b=some o->upd (upd H3 l (.lst [.int 0])) S (.lst (cZ (16:Int).toNat [V.int 0]).flatten) b=some o:=λb o eb=>by rw[ak (bw eb xm),ak (bw eb hl)];exact eb
 have m4:=m3.one (o:=.lst (cZ (16:Int).toNat [V.int 0]).flatten) xm k4 aA;generalize Hg:upd (upd H3 l (.lst [.int 0])) S (.lst (cZ (16:Int).toNat [V.int 0]).flatten)=H4 at m4 k4;have s4:H4 S=some (.lst (cZ 16 (V.int 0))):=by rw[<-Hg,aA];rfl
 have p4:H4 p=some (.ins R.reg dx (az "vectors" (.ref D) (az "width" (.int (w:Nat)) []))):=k4 _ _ p3;refine⟨_,rfl,_,_,_,_,rfl,p4,e.iG,e.AF,(by show 2<1000;decide),?_⟩
 have m5:=m4.write (o:=.ins R.reg dx (az "scalars" (.ref S) (az "vectors" (.ref D) (az "width" (.int (w:Nat)) []))));generalize AU:upd H4 p (.ins R.reg dx (az "scalars" (.ref S) (az "vectors" (.ref D) (az "width" (.int (w:Nat)) []))))=H5 at m5⊢;have p5:H5 p=some (.ins R.reg dx (az "scalars" (.ref S) (az "vectors" (.ref D) (az "width" (.int (w:Nat)) [])))):=by rw[<-AU,aA]
 refine⟨8,rfl,by decide,by decide,λM hM=>K1 (n:=8) (iX H5 M λ_=>.lst (cZ w (.int 0))) (iX.start hM) (λi H' hi rI=>⟨rfl,turn _ _ _ _ _ 8 hM (by decide) hi rfl rI⟩) λH6 rI=>?_⟩
 obtain⟨ma,NP,hma,hM6,m6⟩:=rI.made m5 hM;have k6:∀b o,H5 b=some o->H6 b=some o:=by obtain⟨_,_,_,kp,_⟩:=rI;exact kp
 refine⟨_,rfl,_,_,_,_,rfl,k6 _ _ p5,e.iG,e.AG,(by show 3<1000;decide),?_⟩
 have m7:=m6.write (o:=.ins R.reg dx (az "masks" (.ref M) (az "scalars" (.ref S) (az "vectors" (.ref D) (az "width" (.int (w:Nat)) [])))));have np:∀a,H a=none->a≠p:=λa h z=>by rw[z,hp] at h;exact sn h
 have nD:D≠p:=np D (m2.fr D (by simp))
 have nS:S≠p:=np S (m4.fr S (by simp))
 have nM:M≠p:=np M (m6.fr M (by simp))
 have nva:∀(k:Nat) (b:ae),va[k]? =some b->b≠p:=λk b h=>np b (m2.fr b (by simp[d7 h]))
 have nma:∀(k:Nat) (b:ae),ma[k]? =some b->b≠p:=λk b h=>np b (m6.fr b (by simp[d7 h]))
 have k3:∀b o,H2 b=some o->b≠p->H3 b=some o:=λb o eb n=>by rw[<-NO,ak n];exact eb
 have k5:∀b o,H4 b=some o->b≠p->H5 b=some o:=λb o eb n=>by rw[<-AU,ak n];exact eb
 have k7:∀b o,H6 b=some o->b≠p->upd H6 p (.ins R.reg dx (az "masks" (.ref M) (az "scalars" (.ref S) (az "vectors" (.ref D) (az "width" (.int (w:Nat)) []))))) b=some o:=λb o eb n=>by rw[ak n];exact eb
 have NQ:∀b o,H2 b=some o->b≠p->upd H6 p (.ins R.reg dx (az "masks" (.ref M) (az "scalars" (.ref S) (az "vectors" (.ref D) (az "width" (.int (w:Nat)) []))))) b=some o:=λb o eb n=>k7 _ _ (k6 _ _ (k5 _ _ (k4 _ _ (k3 _ _ eb n)) n)) n;refine q _ ⟨p,dx,D,S,M,va,ma⟩ rfl rfl (λar=>⟨aA,NQ _ _ hD2 nD,k7 _ _ hM6 nM,k7 _ _ (k6 _ _ (k5 _ _ s4 nS)) nS,NN,NP,λk b h=>?_,λk b h=>?_⟩) (by
  have e1:Rg.all ⟨p,dx,D,S,M,va,ma⟩=(([]++(D::va))++[S])++(M::ma):=by unfold Rg.all;simp
  rw[e1];exact m7)
 ·rw[acx (by rw[<-NN];exact(dz.mp h).1)]
  exact NQ _ _ (hva k b h) (nva k b h)
 ·rw[acy (by rw[<-NP];exact(dz.mp h).1)]
  exact k7 _ _ (hma k b h) (nma k b h)
end
structure uD(H:Hp)(a:ae)(as:List ae)(ar:List (List Int)):Prop where
 l:H a=some (.lst (as.map V.ref))
 n:as.length=ar.length
 at_:∀(k:Nat) (b:ae),as[k]? =some b->H b=some (.lst (((ar[k]?).getD []).map V.int))
structure xn(R:Cl)(H0 H:Hp)(w:Nat)(a0:ae)(jS:List ae)(ar:List (List Int)):Prop where
 w1:1<=w
 w2:w<=16
 arr:uD H a0 jS ar
 al:ar.length<=32
 nums:∀v∈ar,∀n∈v,Num n
 tb:jd R H
 tl:R.cf.length=R.r0.length
 tn:R.cf.Nodup
 old:∀b o,H0 b=some o->H b=some o
 ot:∀b∈R.cf,H0 b=none
def Rn.flat(L:Rn):List ae:=L.run::L.ss::L.fa::(L.tb++(L.va++(L.ma++L.aa)))
def Rn.pos(L:Rn):Slot->Nat
 | .run=>0
 | .ss=>1
 | .fa=>2
 | .tb i=>3+i
 | .v k=>3+(L.tb.length+k)
 | .m k=>3+(L.tb.length+(L.va.length+k))
 | .a k=>3+(L.tb.length+(L.va.length+(L.ma.length+k)))
def AV{α:Type}(a b c:α)(l:List α)(k:Nat):(a::b::c::l)[3+k]? =l[k]? :=by
 rw[show 3+k=k+1+1+1 by lia];rfl
def uE{α:Type}(l r:List α)(k:Nat):(l++r)[l.length+k]? =r[k]? :=by
 rw[PV (by lia)]
 congr 1;lia
def Hh{α:Type}{l:List α}(r:List α){k:Nat}{a:α}(h:l[k]? =some a):(l++r)[k]? =some a:=by
 rw[PX (dz.mp h).1];exact h
def Rn.Hi{L:Rn}{s:Slot}{b:ae}(h:L.at s=some b):L.flat[L.pos s]? =some b:=by
 cases s with
 |run=>exact h
 |ss=>exact h
 |fa=>exact h
 |tb i=>show L.flat[3+i]? =some b;unfold Rn.flat;rw[AV];exact Hh _ h
 |v i=>show L.flat[3+(_+i)]? =some b;unfold Rn.flat;rw[AV,uE];exact Hh _ h
 |m i=>show L.flat[3+(_+(_+i))]? =some b;unfold Rn.flat;rw[AV,uE,uE];exact Hh _ h
 |a i=>show L.flat[3+(_+(_+(_+i)))]? =some b;unfold Rn.flat;rw[AV,uE,uE,uE];exact h
def Rn.NR{L:Rn}{s:Slot}{b:ae}(h:L.at s=some b):match s with
 | .tb i=>i<L.tb.length
 | .v i=>i<L.va.length
 | .m i=>i<L.ma.length
 | .a i=>i<L.aa.length
 |_=>True:=by
 cases s with
 |run=>trivial
 |ss=>trivial
 |fa=>trivial
 |tb i=>exact(dz.mp h).1
 |v i=>exact(dz.mp h).1
 |m i=>exact(dz.mp h).1
 |a i=>exact(dz.mp h).1
def Rn.inj{L:Rn}(nd:L.flat.Nodup)(s t:Slot)(b:ae)(hs:L.at s=some b)(ht:L.at t=some b):s=t:=by
 have e:L.pos s=L.pos t:=Tg nd (Rn.Hi hs) (Rn.Hi ht);have ls:=Rn.NR hs;have lt:=Rn.NR ht;cases s<;>cases t<;>simp only[Rn.pos] at e ls lt<;>first|rfl|(exfalso;lia)|(congr 1;lia)
def Rn.NT{L:Rn}{b:ae}(h:L.mut b):b∈L.flat:=let ⟨_,h⟩:=h;d7 (Rn.Hi h)
def acz(w:Nat)(ar:List (List Int)):dk (fresh w ar)=cB w:=by
 unfold dk;refine List.filter_eq_self.mpr λl hl=>?_;show(((cZ w none)[l]?).getD none:Option Fault).isNone=true;rw[BU]
 split<;>rfl
theorem NU{α β:Type}{p:α->β->Prop}{a:α}{b:β}(h:p a b):∀n,Paired p (cZ n a) (cZ n b)
 |0=>.nil
 |n+1=>.cons h (NU h n)
section
variable{R:Cl}{H0 H H':Hp}{G:Rg}{w n:Nat}{p dx a0 ar fa un:ae}{jS aa:List ae}{arr:List (List Int)}
abbrev iI(R:Cl)(G:Rg)(p dx ar fa:ae)(aa:List ae):Rn:=⟨p,dx,G.reg,G.uA,G.vs,G.ss,G.ms,ar,fa,G.va,G.ma,aa,R.cf⟩
def acA(hr:xn R H0 H w a0 jS arr)(hp:H p=some (.ins R.run dx []))(pk:H0 p=none)(M:Made p H H' ([G.reg]++G.all++(ar::aa)++[fa]++[un]))
 (hp':H' p=some (.ins R.run dx (gS (iI R G p dx ar fa aa) n un))) (g:n8 R H' G (fresh w arr)) (ha:uD H' ar aa arr) (hfa:H' fa=some (.lst (cZ w .aM))) (uF:H' un=some (.lst (nats (cB w)))):
 bH R H0 (iI R G p dx ar fa aa) (fresh w arr) n H'/\ar≠G.vs/\ar≠G.ms:=by
 have pm:([G.reg]++G.all++(ar::aa)++[fa]++[un]).Perm (G.reg::G.vs::G.ms::ar::un::(G.ss::fa::(G.va++(G.ma++aa)))):=by
  refine List.perm_iff_count.mpr λa=>?_;unfold Rg.all;simp only[List.count_append,List.count_cons,List.count_nil,B0]
  lia
 have nd:=pm.nodup_iff.mp M.nd;have fr:∀a∈(G.reg::G.vs::G.ms::ar::un::(G.ss::fa::(G.va++(G.ma++aa)))),H a=none:=λa h=>M.fr a (pm.mem_iff.mpr h);have ht:∀t∈R.cf,∃a,H t=some (.dN a):=λt h=>by
  obtain⟨i,hi⟩:=lA h;obtain⟨q,_,h1|⟨c,h1,_⟩⟩:=hr.tb i t hi
  ·exact⟨_,h1⟩
  ·exact⟨_,h1⟩
 have pt:p∉R.cf:=λh=>by obtain⟨a,h⟩:=ht p h;rw[hp] at h;cases h
 have inner:=(fI.mp (fI.mp (fI.mp (fI.mp (fI.mp nd).2).2).2).2).2;have AW:∀a∈(G.ss::fa::(G.va++(G.ma++aa))),H a=none:=λa h=>fr a (by simp only[cC] at h⊢;right;right;right;right;right;exact h)
 have pI:p∉(G.ss::fa::(G.va++(G.ma++aa))):=λh=>by have:=AW p h;rw[hp] at this;exact sn this
 have tI:∀t∈R.cf,t∉(G.ss::fa::(G.va++(G.ma++aa))):=λt h h2=>by obtain⟨a,h⟩:=ht t h;rw[AW t h2] at h;exact ns h
 have mm:∀b,(iI R G p dx ar fa aa).mut b->b=p\/b∈R.cf\/b∈(G.ss::fa::(G.va++(G.ma++aa))):=λb h=>by
  have h:=Rn.NT h;simp only[Rn.flat,cC,gO] at h⊢;rcases h with h|h|h|h|h
  ·exact .inl h
  ·exact .inr (.inr (.inl h))
  ·exact .inr (.inr (.inr (.inl h)))
  ·exact .inr (.inl h)
  ·exact .inr (.inr (.inr (.inr h)))
 have nm:∀b,H b=none->b∉(G.ss::fa::(G.va++(G.ma++aa)))-> ¬(iI R G p dx ar fa aa).mut b:=λb h1 h2 h3=>by
  rcases mm b h3 with z|z|z
  ·rw[z,hp] at h1;exact sn h1
  ·obtain⟨a,h⟩:=ht b z;rw[h] at h1;exact sn h1
  ·exact h2 z
 have flat:(iI R G p dx ar fa aa).flat.Nodup:=by
  have e:(iI R G p dx ar fa aa).flat.Perm (p::(R.cf++(G.ss::fa::(G.va++(G.ma++aa))))):=by
   refine List.perm_iff_count.mpr λa=>?_;unfold Rn.flat;simp only[List.count_append,List.count_cons,List.count_nil]
   lia
  refine e.nodup_iff.mpr (fI.mpr ⟨λh=>?_,vc.mpr ⟨hr.tn,inner,λa h1 b h2 z=>?_⟩⟩)
  ·rcases gO.mp h with h|h
   ·exact pt h
   ·exact pI h
  ·subst z;exact tI a h1 h2
 have nr: ¬(iI R G p dx ar fa aa).mut G.reg:=nm _ (fr _ (by simp)) λh=>(fI.mp nd).1 (by simp only[cC] at h⊢;right;right;right;right;exact h)
 have xp:=(fI.mp nd).2;have nv: ¬(iI R G p dx ar fa aa).mut G.vs:=nm _ (fr _ (by simp)) λh=>(fI.mp xp).1 (by simp only[cC] at h⊢;right;right;right;exact h)
 have Hj:=(fI.mp xp).2;have nms: ¬(iI R G p dx ar fa aa).mut G.ms:=nm _ (fr _ (by simp)) λh=>(fI.mp Hj).1 (by simp only[cC] at h⊢;right;right;exact h)
 have NV:=(fI.mp Hj).2;have nar: ¬(iI R G p dx ar fa aa).mut ar:=nm _ (fr _ (by simp)) λh=>(fI.mp NV).1 (by simp only[cC] at h⊢;right;exact h)
 have nd5:=(fI.mp NV).2;have nun: ¬(iI R G p dx ar fa aa).mut un:=nm _ (fr _ (by simp)) (fI.mp nd5).1
 refine⟨⟨WF.fresh hr.w1 hr.w2 arr,Nums.fresh w hr.nums,Rn.inj flat,g.va,g.ma,ha.n,rfl,λs b hs=>?_,⟨nr,g.reg⟩,⟨nv,g.vs⟩,⟨nms,g.ms⟩,⟨nar,ha.l⟩,λb o e=>M.kp b o (hr.old b o e) (λz=>by rw[z,pk] at e;exact ns e),λb hb=>?_⟩,λz=>?_,λz=>?_⟩
 ·cases s with
  |run=>cases hs;exact⟨_,hp',un,nun,rfl,by rw[acz];exact uF⟩
  |ss=>cases hs;exact⟨_,g.ss,rfl⟩
  |fa=>cases hs;exact⟨_,hfa,_,rfl,NU (p:=r6 (iI R G p dx ar fa aa) H') (a:=V.aM) (b:=none) (show V.aM=V.aM from rfl) w⟩
  |tb i=>
   have hs:R.cf[i]? =some b:=hs;have np:b≠p:=λz=>pt (by rw[<-z];exact d7 hs)
   obtain⟨q,e1,h1|⟨c,h1,h2⟩⟩:=hr.tb i b hs
   ·exact⟨_,M.kp _ _ h1 np,q,e1,.inl rfl⟩
   ·have cp:c≠p:=cE h2 hp (by unfold iE;intro z;cases z)
    refine⟨_,M.kp _ _ h1 np,q,e1,.inr ⟨c,λhm=>?_,rfl,M.kp _ _ h2 cp⟩⟩;rcases mm c hm with z|z|z
    ·exact cp z
    ·obtain⟨a,h⟩:=ht c z;rw[h2] at h;unfold iE at h;cases h
    ·rw[AW c z] at h2;exact ns h2
  |v k=>exact⟨_,g.v k b hs,rfl⟩
  |m k=>exact⟨_,g.m k b hs,rfl⟩
  |a k=>exact⟨_,ha.at_ k b hs,rfl⟩
 ·rcases mm b hb with z|z|z
  ·rw[z];exact pk
  ·exact hr.ot b z
  ·cases q:H0 b with
   |none=>rfl
   |some o=>have:=AW b z;rw[hr.old b o q] at this;exact sn this
 ·exact(fI.mp xp).1 (by rw[<-z];simp)
 ·exact(fI.mp Hj).1 (by rw[<-z];simp)
end
open Vaarrj (Text Toks digit letter inner blank here valueOf oneWay)
open MX (S)
structure Cg where
 my:ae
 tok:ae
 dw:ae
 code:ae
 cq:ae
def dS(t:aJ):List V:=t.map λ(c:Nat)=>V.int (c:Int)
def qw{t:aJ}{i c:Nat}(h:t[i]? =some c):kb (dS t) (i:Int)=some (.int (c:Int)):=cX (by unfold dS;exact ia h)
def ik(t:aJ):(dS t).length=t.length:=by unfold dS;rw[bq]
def pq(C:Cg)(E:XK)(H0:Hp)(p:Nat):Prop:=∀H' d,(∀b o,H0 b=some o->H' b=some o)->H' d=some (fK d [("position",.int (p:Nat))])->E (.ref C.my) (some d) H'
section
variable{R:Cl}{C:Cg}
inductive xq(C:ae)(vs:List V)(H:Hp)(Q:VK)(_:XK):Prop
 |mk (x p:_) (_:vs=[.ref x,.int p]) (_:H x=some (km C x)) (_:∀d,H d=none->d≠x->Q .aM (upd (upd H d (fK d [("position",.int p)])) x (gE C x d)))
structure NW(K:aI)(C N:ae)(fi:ae)(fh:dP):Prop where
 cls:jc K C N fi
 pos:me K N "position"
 fn:aD K "__init__" "FormError.__init__" FH fi fh
def Hk{C N:ae}(S:NW K C N f fd):aB P w K mg base au 1 f fd ["self","position"] (xq C):=by
 refine S.fn.oK Zw λ_ _ _ _ H vs Q E hr h=>?_;obtain⟨x,p,rfl,hx,q⟩:=h;refine⟨_,aw (Mt S.cls S.pos (pv 0) (pv 1) rfl),?_⟩;exact⟨_,rfl,_,rfl,x,rfl,hx,λd hd hn=>q d hd hn⟩
structure n9(K:aI)(mg:Str->Option ai)(C:Cg):Prop where
 ex:∃N fi fh,NW K C.my N fi fh/\mg "FormError"=some (.ref C.my)
def Hl{E:XK}{H0 H:Hp}{p:Nat}{x:ae}(h:pq C E H0 p)(k:∀b o,H0 b=some o->H b=some o)(hx:H x=none):
 xq C.my [.ref x,.int (p:Nat)] (upd H x (km C.my x)) (λv H2=>v=.aM/\ ∃x' d,V.ref x=.ref x'/\H2 x'=some (gE C.my x' d)/\E (.ref C.my) (some d) (del H2 x')) E0:=by
 refine⟨x,_,rfl,aA,λd hd hn=>⟨rfl,x,d,rfl,aA,h _ d (λb o e=>?_) ?_⟩⟩
 ·have e:=k _ _ e;have b1:b≠x:=λz=>by rw[z,hx] at e;exact ns e
  have b2:b≠d:=λz=>by rw[z] at e;rw[ak hn] at hd;rw[hd] at e;exact ns e
  rw[js b1,ak b1,ak b2,ak b1];exact e
 ·rw[js hn,ak hn,aA]
def xr(x:aJ)(p e:Nat):List (Str×V):=[("text",.str (S x)),("start",.int (p:Nat)),("end",.int (e:Nat))]
structure AX(K:aI)(C:Cg):Prop where
 cls:iz K C.tok
 text:dD K C.tok "text"
 start:dD K C.tok "start"
 end_:dD K C.tok "end"
inductive uG(C:Cg)(vs:List V)(H:Hp)(Q:VK)(_:XK):Prop
 |mk (a dx x p e:_) (_:vs=[.ref a,.str (S x),.int ((p:Nat):Int),.int ((e:Nat):Int)]) (_:H a=some (.ins C.tok dx [])) (_:∀H',H' a=some (.ins C.tok dx (xr x p e))->(∀b o,H b=some o->b≠a->H' b=some o)->Q .aM H')
def Hm(F:aD K "__init__" "Token.__init__" zN f fd)(T:AX K C):aB P w K mg base au 1 f fd ["self","text","start","end"] (uG C):=by
 refine F.oK Zy λ_ _ _ _ H vs Q E hr h=>?_;obtain⟨a,dx,x,p,e,rfl,ha,q⟩:=h;refine⟨_,ay (cT (pv 0) (pv 1) rfl) (ay (cT (pv 0) (pv 2) rfl) (aw (cT (pv 0) (pv 3) rfl))),?_⟩;refine⟨_,rfl,_,rfl,_,_,_,_,rfl,ha,T.cls,T.text,(by show 0<1000;decide),?_⟩
 refine⟨_,rfl,_,rfl,_,_,_,_,rfl,aA,T.cls,T.start,(by show 1<1000;decide),?_⟩
 refine⟨_,rfl,_,rfl,_,_,_,_,rfl,aA,T.cls,T.end_,(by show 2<1000;decide),?_⟩
 exact q _ (by rw[aA];rfl) λb o e hb=>by rw[ak hb,ak hb,ak hb];exact e
inductive n_(vs:List V)(H:Hp)(Q:VK)(_:XK):Prop
 |mk (c:Nat) (_:vs=[.int (c:Int)]) (_:Q (.bl (digit c)) H)
def acB(F:aD K "is_digit" "is_digit" zO f fd)(g:GI mg):aB P w K mg base au 1 f fd ["byte"] n_:=by
 refine F.oK ZA λ_ _ _ _ H vs Q E hr h=>?_;obtain⟨c,rfl,q⟩:=h;refine⟨_,aw (bh (yH iQ gz (b_ g.GH) (pv 0) (cy i9 (b_ g.GH) (eV vz (by rfl) g.fX gj (ah (uy g.Nr) aj))))),?_⟩
 refine⟨_,rfl,_,_,rfl,rfl,_,rfl,bX (λz=>?_) λz=>?_⟩
 ·refine⟨_,rfl,(by rw[aP];decide),_,_,rfl,rfl,_,_,rfl,rfl,?_⟩
  have e:decide ((c:Int)<48+(((("0123456789":Str).length:Nat)):Int))=digit c:=by
   unfold digit;have:((("0123456789":Str).length:Nat):Int)=10:=by decide+kernel
   rw[this];exact decide_eq_decide.mpr ⟨λy=>⟨by lia,by lia⟩,λy=>by lia⟩
  exact Eq.mp (congrArg (λb=>Q (V.bl b) H) e.symm) q
 ·have e:digit c=false:=decide_eq_false λy=>z (by lia)
  rw[e] at q;exact q
inductive uH(vs:List V)(H:Hp)(Q:VK)(_:XK):Prop
 |mk (c:Nat) (_:vs=[.int (c:Int)]) (_:Q (.bl (letter c)) H)
def acC(F:aD K "is_letter" "is_letter" zQ f fd)(g:GI mg):aB P w K mg base au 1 f fd ["byte"] uH:=by
 refine F.oK ZD λ_ _ _ _ H vs Q E hr h=>?_;obtain⟨c,rfl,q⟩:=h;refine⟨_,aw (bh (yH iQ gz (b_ g.GJ) (pv 0) (cy i9 (b_ g.GJ) (eV vz (by rfl) g.fX gj (ah (uy g.Nq) aj))))),?_⟩
 refine⟨_,rfl,_,_,rfl,rfl,_,rfl,bX (λz=>?_) λz=>?_⟩
 ·refine⟨_,rfl,(by rw[aP];decide),_,_,rfl,rfl,_,_,rfl,rfl,?_⟩
  have e:decide ((c:Int)<97+(((("abcdefghijklmnopqrstuvwxyz":Str).length:Nat)):Int))=letter c:=by
   unfold letter;have:((("abcdefghijklmnopqrstuvwxyz":Str).length:Nat):Int)=26:=by decide+kernel
   rw[this];exact decide_eq_decide.mpr ⟨λy=>⟨by lia,by lia⟩,λy=>by lia⟩
  exact Eq.mp (congrArg (λb=>Q (V.bl b) H) e.symm) q
 ·have e:letter c=false:=decide_eq_false λy=>z (by lia)
  rw[e] at q;exact q
def acD(F:Df K mg "is_digit" zO f fd)(g:GI mg):aK P w K mg base au 1 "is_digit" ["byte"] n_:=
 ⟨f,fd,acB F.1 g,F.2,F.1.kp,F.1.b1 "byte"⟩
def acE(F:Df K mg "is_letter" zQ f fd)(g:GI mg):aK P w K mg base au 1 "is_letter" ["byte"] uH:=
 ⟨f,fd,acC F.1 g,F.2,F.1.kp,F.1.b1 "byte"⟩
inductive AY(vs:List V)(H:Hp)(Q:VK)(_:XK):Prop
 |mk (c:Nat) (_:vs=[.int (c:Int)]) (_:inner c=true) (_:Q (.str (S [c])) H)
def acF:∀c:Nat,digit c=true->("0123456789":Str).cps.toList[c-48]? =some c:=by
 intro c h;have:=MP.kS h;have e:∀d:Fin 58,48<=d.val->("0123456789":Str).cps.toList[d.val-48]? =some d.val:=by decide+kernel
 exact e ⟨c,by lia⟩ this.1
def acG:∀c:Nat,letter c=true->("abcdefghijklmnopqrstuvwxyz":Str).cps.toList[c-97]? =some c:=by
 intro c h;have:=MP.ql h;have e:∀d:Fin 123,97<=d.val->("abcdefghijklmnopqrstuvwxyz":Str).cps.toList[d.val-97]? =some d.val:=by decide+kernel
 exact e ⟨c,by lia⟩ this.1
def acH(F:aD K "character" "character" zR f fd)(g:GI mg)(GD:aK P w K mg base au 1 "is_digit" ["byte"] n_):aB P w K mg base au 2 f fd ["byte"] AY:=by
 refine F.oK ZF λ_ _ _ _ H vs Q E hr h=>?_;obtain⟨c,rfl,hc,q⟩:=h;refine⟨_,ay (bZ (gZ (aV GD hr aW (ah (pv 0) aj))) (aw (bh (cj CV (uy g.Nr) (cy p_ (pv 0) (b_ g.GH)) (λ_ _=>rfl)))) cJ)
  (aw (bh (cj CV (uy g.Nq) (cy p_ (pv 0) (b_ g.GJ)) (λ_ _=>rfl)))),?_⟩
 refine⟨_,rfl,c,rfl,_,rfl,j7 (λz=>?_) λz=>?_⟩
 ·have:=MP.kS z;refine⟨_,rfl,_,_,rfl,rfl,_,_,_,rfl,rfl,(by rw[aP];decide),?_,q⟩
  rw[show((c:Int)-48)=((c-48:Nat):Int) by lia]
  exact cX (acF c z)
 ·have lc:letter c=true:=by
   unfold inner at hc;rw[z,sU] at hc;exact hc
  have:=MP.ql lc;refine⟨_,rfl,_,_,rfl,rfl,_,_,_,rfl,rfl,(by rw[aP];decide),?_,q⟩
  rw[show((c:Int)-97)=((c-97:Nat):Int) by lia]
  exact cX (acG c lc)
def acI(F:Df K mg "character" zR f fd)(g:GI mg)(GD:aK P w K mg base au 1 "is_digit" ["byte"] n_):aK P w K mg base au 2 "character" ["byte"] AY:=
 ⟨f,fd,acH F.1 g GD,F.2,F.1.kp,F.1.b1 "byte"⟩
inductive sj(K:aI)(vs:List V)(H:Hp)(Q:VK)(_:XK):Prop
 |mk (a t p e:_) (_:vs=[.ref a,.int ((p:Nat):Int),.int ((e:Nat):Int)]) (_:aF K H a (dS t)) (_:p<=e) (_:e<=t.length) (_:t.length<=20000) (_:(∀c∈(t.drop p).take (e-p),inner c=true)) (_:∀H',(∀b o,H b=some o->H' b=some o)->Q (.str (S ((t.drop p).take (e-p)))) H')
def acJ{t:aJ}{p e:Nat}(h1:p<=e)(h2:e<=t.length):qd (dS t) (some (p:Int)) (some (e:Int))=dS ((t.drop p).take (e-p)):=by
 unfold qd HT.cK;rw[ik];simp only[show¬((p:Int)<0) by lia,show¬((e:Int)<0) by lia,if_false,gW]
 rw[Jv (by lia),Jv (by lia)]
 unfold dS;rw[<-List.map_drop,<-List.map_take]
def join_ones(l:aJ):xY (S []) (l.map λc=>S [c])=S l:=by
 refine TL.rz ?_;rw[TL.join_eq,TL.yR,MX.kU,MX.kU,iO]
 induction l with
 |nil=>rfl
 |cons c r ih=>
  cases r with
  |nil=>rfl
  |cons d r=>exact congrArg (c:: ·) ih
def acK(F:aD K "characters" "characters" wH f fd)(GC:aK P w K mg base au 2 "character" ["byte"] AY):aB P w K mg base au 3 f fd ["text","start","end"] (sj K):=by
 refine F.oK FI λ_ _ _ _ H vs Q E hr h=>?_;obtain⟨a,t,p,e,rfl,ha,h1,h2,h3,h4,q⟩:=h;refine⟨_,aw (bh (yS bY (nO (own:=[("byte",3)]) rfl FI.nd (g8 (vx CW (pv 0) (qc (pv 1)) (qc (pv 2)))) (show jo M9 (aG wH) _ _ from⟨rfl,by decide+kernel,by decide+kernel,by decide+kernel,by decide+kernel⟩) (λ_ _ _ _ _=>fD 3 FI.nd)
  (λ_ _ _ _ _=>oS) (λ_ _ _ _ _=>aV GC hr aW (ah (pv 3) aj))))),?_⟩
 generalize ew:(t.drop p).take (e-p)=u at h4 q;have lu:u.length<=20000:=by
  rw[<-ew,jY,kF];lia
 refine⟨⟨_,rfl⟩,_,rfl,_,rfl,_,rfl,_,rfl,_,rfl,a,_,rfl,ha,λr si=>?_⟩;rw[acJ h1 h2,ew];refine⟨_,rfl,⟨_,aF.of aA⟩,λD hD=>?_⟩;have rD:r≠D:=λz=>by rw[<-z,aA] at hD;exact sn hD
 refine qg (K:=K) (a:=r) (xs:=dS u) (λi H'=>(∀b o,upd H r (.lst (dS u)) b=some o->H' b=some o)/\H' D=some (.lst (((u.take i).map λc=>V.str (S [c]))))) ⟨λb o e=>?_,by rw[aA];rfl⟩ (λi H' _ k=>aF.of (k.1 _ _ aA)) (λi v H' hi k=>?_) λH' k=>?_
 ·rw[ak (bw e hD)];exact e
 ·unfold dS at hi;rw[dI] at hi;cases y:u[i]? with
  |none=>rw[y] at hi;cases hi
  |some c=>
   rw[y] at hi;obtain rfl:V.int (c:Int)=v:=by injection hi
   refine⟨rfl,_,rfl,c,rfl,h4 c (d7 y),_,k.2,?_,λb o e=>?_,?_⟩
   ·rw[bq,jY,aP];lia
   ·rw[ak (bw e hD)];exact k.1 _ _ e
   ·rw[aA,MR.take_snoc y,iw];rfl
 ·have e1:(dS u).length=u.length:=ik u;rw[e1,oG] at k;refine⟨S [],D,u.map λc=>S [c],rfl,rfl,.inl (aF.of (by rw[k.2,iO];rfl)),?_,?_⟩
  ·have:∀l:aJ,((l.map λc=>S [c]).map (·.length)).sum=l.length:=λl=>by
    induction l with
    |nil=>rfl
    |cons c r ih=>rw[i4,i4,vb,ih,cI,MX.cM];simp;lia
   rw[this,MX.cM];simp;lia
  ·rw[join_ones];exact q H' λb o e=>k.1 b o (by rw[ak (bw e si)];exact e)
end
open Vaarrj (dec)
open MP (ej)
open TL
section
variable{R:Cl}{C:Cg}
def acL:Option Nat->V
 |some k=>.int (k:Int)
 |none=>.aM
inductive qx(vs:List V)(H:Hp)(Q:VK)(_:XK):Prop
 |mk (ds most:_) (_:vs=[.str (S ds),.int most]) (_:(∀c∈ds,c<128)) (_:ds.length<=20000) (_: -1<=most) (_:most<=1000000000000000000) (_:Q (acL (ej ds most)) H)
def NX{n:Nat}(h:n<2^64):n.log2<1920:=by
 by_cases z:n=0
 ·subst z;decide
 ·exact eC ((Nat.log2_lt z).mpr h) (by decide)
def boot_int:mX "int"=some (.type "int"):=by decide+kernel
def boot_str:mX "str"=some (.type "str"):=by decide+kernel
def acM{c:Nat}(h:c<128):Jw c=digit c:=by
 have:∀d:Fin 128,Jw d.val=digit d.val:=by decide+kernel
 exact this ⟨c,h⟩
def acN{ds:aJ}(h:∀c∈ds,c<128):Je (S ds)=(!ds.isEmpty&&ds.all digit):=by
 unfold Je;rw[MX.cM];have e1:(S ds).cps.all Jw=ds.all digit:=by
  show ds.toArray.all Jw=_;rw[List.all_toArray]
  induction ds with
  |nil=>rfl
  |cons c r ih=>rw[k_,k_,ih λc hc=>h c (by simp[hc]),acM (h c (by simp))]
 rw[e1];cases ds with
 |nil=>rfl
 |cons c r=>rfl
def NY{ds:aJ}(h:ds.all digit=true)(h0:ds≠[])(hl:ds.length<=640):intText? (S ds)=some ((valueOf ds:Nat):Int):=by
 have e:=intText_digits (x:=S ds) (λc hc=>by have:=MP.kS (kH.mp h c hc);exact this) h0 (by rw[MX.cM];lia)
 rw[e,MX.Wn];rfl
def acO(F:aD K "decimal" "decimal" zT f fd)(g:GI mg):aB P w K mg base au 1 f fd ["digits","most"] qx:=by
 refine F.oK M_ λ_ _ _ s H vs Q E hr h=>?_;obtain⟨ds,most,rfl,asc,ln,lo,hi,q⟩:=h;refine⟨_,ay (bZ (kM (lD (gZ (S7 PySem.F.slot_str_isdigit PySem.F.type_str_isdigit S4 (pv 0)))) (nH (bV lJ (eV vz (by rfl) g.fX gj (ah (pv 0) aj)) (eV vz (by rfl) g.fX gj (ah (oP yI (by rfl) g.Az boot_str (ah (pv 1) aj)) aj)) (bO _)))).pt (aw (bh jC)) cJ)
  (ay (bZ (pX (bV fT (cj CV (pv 0) aO (λ_ _=>rfl)) bY (bO _)) (pW (bV lJ (eV vz (by rfl) g.fX gj (ah (pv 0) aj)) aO (bO _)))).pt (aw (bh jC)) cJ)
  (ay (bE 2 M_.nd (oP S5 (by rfl) g.aa2 boot_int (ah (pv 0) aj)))
  (aw (bh (jj (bV iQ (pv 2) (pv 1) (bO _)) (pv 2) jC))))),?_⟩
 have hz:(S ds).length<=sizeLine:=by rw[MX.cM,aP];lia
 refine⟨_,rfl,⟨_,rfl⟩,_,rfl,rfl,trivial,_,rfl,?_⟩;rw[acN asc];by_cases Ho:ds≠[]/\ds.all digit=true
 ·obtain⟨nn,all⟩:=Ho;have e1:(!ds.isEmpty&&ds.all digit)=true:=by
   rw[all];cases ds with
   |nil=>exact absurd rfl nn
   |cons c r=>rfl
  rw[e1];obtain⟨ml,Hq,jJ⟩:∃ml:Nat,((bU (toString most)).length=ml/\ml<=40)/\ (ml<ds.length->ej ds most=none):=by
   by_cases neg:most<0
   ·have:most= -1:=by lia
    subst this;exact⟨2,⟨by decide+kernel,by decide⟩,λ_=>MP.Ve (by decide)⟩
   ·obtain⟨m,rfl⟩:∃m:Nat,most=(m:Int):=⟨most.toNat,by lia⟩
    have hm:m<10^40:=by lia
    exact⟨(dec m).length,⟨by rw[MX.gq hm,MX.cM],MP.iV m⟩,λh=>MP.LM hm h⟩
  have lg:most.natAbs.log2<1920:=NX (by lia)
  refine⟨_,rfl,_,rfl,hz,_,rfl,_,rfl,lg,_,rfl,(by rw[Hq.1,aP];lia),_,_,rfl,rfl,_,rfl,bX (λz=>?_) λz=>?_⟩
  ·rw[Hq.1,MX.cM] at z;rw[jJ (by lia)] at q
   exact q
  ·obtain⟨c,r,rfl⟩:∃c r,ds=c::r:=by
    cases ds with
    |nil=>exact absurd rfl nn
    |cons c r=>exact⟨c,r,rfl⟩
   rw[Hq.1,MX.cM] at z;have uI:(c::r).length<=40:=by lia
   refine⟨_,rfl,_,_,_,rfl,rfl,hz,cX (k:=0) rfl,rfl,_,rfl,bX (λy=>?_) λy=>?_⟩
   ·have c48:c=48:=by
     have y:(⟨#[c]⟩:Str)=("0":Str):=by injection y
     have:=congrArg (λs:Str=>s.cps.toList) y;have e0:("0":Str).cps.toList=[48]:=by decide+kernel
     rw[e0] at this;exact(oE this).1
    refine⟨_,rfl,_,rfl,hz,_,_,rfl,rfl,_,rfl,bX (λx=>?_) λx=>?_⟩
    ·rw[MX.cM,cI] at x;rw[MP.Vf c48 (λz=>by rw[z] at x;exact absurd x (by decide))] at q
     exact q
    ·have ow:oneWay (c::r)=true:=MP.LN λz=>by
      rw[MX.cM,cI] at x;cases r with
      |nil=>exact z.2 rfl
      |cons d r=>rw[cI] at x;lia
     refine⟨_,rfl,_,_,rfl,NY all nn (by lia),(by rw[MX.cM];lia),_,rfl,_,rfl,_,_,rfl,rfl,_,rfl,bX (λv=>?_) λv=>?_⟩
     ·rw[MP.D6 all ow v] at q;exact⟨_,rfl,q⟩
     ·rw[MP.D7 v] at q;exact q
   ·have ow:oneWay (c::r)=true:=MP.LN λz=>y (by rw[z.1];exact congrArg V.str (by decide+kernel))
    refine⟨_,rfl,_,_,rfl,NY all nn (by lia),(by rw[MX.cM];lia),_,rfl,_,rfl,_,_,rfl,rfl,_,rfl,bX (λv=>?_) λv=>?_⟩
    ·rw[MP.D6 all ow v] at q;exact⟨_,rfl,q⟩
    ·rw[MP.D7 v] at q;exact q
 ·have e1:(!ds.isEmpty&&ds.all digit)=false:=by
   cases h:(!ds.isEmpty&&ds.all digit) with
   |false=>rfl
   |true=>
    rw[eS] at h;exact absurd ⟨λz=>by rw[z] at h;exact absurd h.1 (by decide),h.2⟩ Ho
  rw[e1];rw[MP.y' Ho] at q;exact du q
def NZ(F:Df K mg "decimal" zT f fd)(g:GI mg):aK P w K mg base au 1 "decimal" ["digits","most"] qx:=
 ⟨f,fd,acO F.1 g,F.2,F.1.kp,F.1.b2 "digits" "most"⟩
def acP(F:Df K mg "characters" wH f fd)(GC:aK P w K mg base au 2 "character" ["byte"] AY):aK P w K mg base au 3 "characters" ["text","start","end"] (sj K):=
 ⟨f,fd,acK F.1 GC,F.2,F.1.kp,F.1.b3 "text" "start" "end"⟩
end
open MP (Tk bad)
open MT (T)
section
variable{R:Cl}{C:Cg}
inductive AZ(K:aI)(vs:List V)(H:Hp)(Q:VK)(_:XK):Prop
 |mk (a t p:_) (_:vs=[.ref a,.int ((p:Nat):Int)]) (_:aF K H a (dS t)) (_:p<=t.length) (_:t.length<=20000) (_:∀e:Nat,p<=e->e<=t.length->(∀i c,p<=i->i<e->t[i]? =some c->c≠10)->(∀c,t[e]? =some c->c=10)->Q (.int (e:Int)) H)
def acQ(F:aD K "remark_end" "remark_end" zU f fd)(g:GI mg):aB P w K mg base au 1 f fd ["text","at"] (AZ K):=by
 refine F.oK FJ λ_ _ _ _ H vs Q E hr h=>?_;obtain⟨a,t,p,rfl,ha,hp,ht,q⟩:=h;refine⟨_,ay (bE 2 FJ.nd (pv 1))
  (ay (yC j6 (pX (bV gz (pv 2) (eV iA (by rfl) g.fX gj (ah (pv 0) aj)) (bO _)) (pW (bV jk (cj cH (pv 0) (pv 2) (λ_ _=>rfl)) (b_ g.aaW) (bO _)))).pt
    (aw (bE 2 FJ.nd (cy i9 (pv 2) aO))))
  (aw (bh (pv 2)))),?_⟩
 refine⟨_,rfl,?_⟩;refine⟨λm σ H'=>∃e:Nat,m=t.length-e/\σ=[some (.ref a),some (.int (p:Int)),some (.int (e:Int))]/\H'=H/\p<=e/\e<=t.length/\ (∀i c,p<=i->i<e->t[i]? =some c->c≠10),⟨_,p,rfl,rfl,rfl,bz _,hp,λi c h1 h2=>by lia⟩,?_⟩
 rintro m σ H' ⟨e,rfl,rfl,rfl,h1,h2,h3⟩;refine⟨_,rfl,_,rfl,_,_,rfl,.inl ha,_,_,rfl,rfl,_,rfl,bX (λz=>?_) λz=>?_⟩
 ·rw[ik] at z;have le:e<t.length:=by lia
  obtain⟨c,hc⟩:∃c,t[e]? =some c:=⟨_,eK le⟩;refine⟨_,rfl,_,rfl,_,_,_,_,rfl,rfl,ha,qw hc,rfl,_,rfl,nV (λy=>?_) λy=>?_⟩
  ·have nc:c≠10:=λx=>y (by rw[x];rfl)
   refine⟨_,λσ' H' x=>x,_,rfl,_,_,rfl,rfl,t.length-(e+1),by lia,e+1,rfl,rfl,rfl,by lia,by lia,λi c' a1 a2 a3=>?_⟩
   by_cases ie:i=e
   ·subst ie;rw[hc] at a3;obtain rfl:=aZ a3;exact nc
   ·exact h3 i c' a1 (by lia) a3
  ·have nc:c=10:=by injection y;lia
   exact⟨_,rfl,q e h1 h2 h3 λc' d8=>by rw[hc] at d8;obtain rfl:=aZ d8;exact nc⟩
 ·rw[ik] at z;have ee:e=t.length:=by lia
  refine dY ⟨_,rfl,q e h1 h2 h3 λc' d8=>?_⟩;rw[ee,pJ (bz _)] at d8;exact ns d8
def acR(F:Df K mg "remark_end" zU f fd)(g:GI mg):aK P w K mg base au 1 "remark_end" ["text","at"] (AZ K):=
 ⟨f,fd,acQ F.1 g,F.2,F.1.kp,F.1.b2 "text" "at"⟩
inductive A0(K:aI)(mg:Str->Option ai):Prop
 |mk (a:_) (_:mg "BLANKS"=some (.ref a)) (_:∀H,fR K H a [.int 32,.int 9,.int 10,.int 13])
inductive A3(K:aI)(vs:List V)(H:Hp)(Q:VK)(_:XK):Prop
 |mk (a t p:_) (_:vs=[.ref a,.int ((p:Nat):Int)]) (_:aF K H a (dS t)) (_:p<=t.length) (_:t.length<=20000) (_:∀e:Nat,e<=t.length->T t p=T t e->(∀c,t[e]? =some c->blank c=false/\c≠35)->Q (.int (e:Int)) H)
def acS(c:Nat):jI (.int (c:Int)) [.int 32,.int 9,.int 10,.int 13]=blank c:=by
 unfold jI blank;simp only[qN,B_,nN,sU];have e:∀k:Nat,decide (((k:Nat):Int)=(c:Int))=(c==k):=λk=>by
  by_cases h:c=k
  ·subst h;simp
  ·rw[show(c==k)=false by simpa using h]
   exact decide_eq_false λz=>h (by lia)
 have a:=e 32;have b:=e 9;have d:=e 10;have f:=e 13;rw[<-a,<-b,<-d,<-f];rfl
def acT(F:aD K "token_start" "token_start" zV f fd)(g:GI mg)(B:A0 K mg)(GR:aK P w K mg base au 1 "remark_end" ["text","at"] (AZ K)):aB P w K mg base au 2 f fd ["text","at"] (A3 K):=by
 refine F.oK zW λ_ _ _ _ H vs Q E hr h=>?_;obtain⟨a,t,p,rfl,ha,hp,ht,q⟩:=h;obtain⟨ba,mB,hB⟩:=B;refine⟨_,ay (bE 2 zW.nd (pv 1))
  (ay (yC j6 (bV gz (pv 2) (eV iA (by rfl) g.fX gj (ah (pv 0) aj)) (bO _))
    (aw (bZ (bV yN (cj cH (pv 0) (pv 2) (λ_ _=>rfl)) (iH mB) rfl) (aw (bE 2 zW.nd (cy i9 (pv 2) aO)))
      (aw (bZ (bV fT (cj cH (pv 0) (pv 2) (λ_ _=>rfl)) (b_ g.aaV) (bO _)) (aw (bE 2 zW.nd (aV GR hr aW (ah (pv 0) (ah (pv 2) aj)))))
        (aw (bh (pv 2))))))))
  (aw (bh (pv 2)))),?_⟩
 refine⟨_,rfl,?_⟩;refine⟨λm σ H'=>∃e:Nat,m=t.length-e/\σ=[some (.ref a),some (.int (p:Int)),some (.int (e:Int))]/\H'=H/\e<=t.length/\T t p=T t e,⟨_,p,rfl,rfl,rfl,hp,rfl⟩,?_⟩;rintro m σ H' ⟨e,rfl,rfl,rfl,h2,h3⟩;refine⟨_,rfl,_,rfl,_,_,rfl,.inl ha,_,_,rfl,rfl,_,rfl,bX (λz=>?_) λz=>?_⟩
 ·rw[ik] at z;have le:e<t.length:=by lia
  obtain⟨c,hc⟩:∃c,t[e]? =some c:=⟨_,eK le⟩;refine⟨_,λσ' H' x=>x,_,rfl,_,rfl,_,_,_,_,rfl,rfl,ha,qw hc,_,_,rfl,.inr (hB _),rfl,rfl,_,rfl,?_⟩;rw[if_neg cW,acS];refine j7 (λy=>?_) λy=>?_
  ·exact⟨_,rfl,_,_,rfl,rfl,t.length-(e+1),by lia,e+1,rfl,rfl,rfl,by lia,by rw[h3];exact MT.Tv hc y⟩
  ·refine⟨_,rfl,_,rfl,_,_,_,_,rfl,rfl,ha,qw hc,rfl,_,rfl,bX (λx=>?_) λx=>?_⟩
   ·have nc:c=35:=by injection x;lia
    subst nc;refine⟨_,rfl,_,rfl,a,t,e,rfl,ha,by lia,ht,λe2 a1 a2 a3 a4=>?_⟩
    have lt:e<e2:=by
     rcases B1 e e2 with l|l
     ·exact l
     ·have:e2=e:=by lia
      subst this;have:=a4 _ hc;cases this
    exact⟨t.length-e2,by lia,e2,rfl,rfl,rfl,a2,by rw[h3];exact MT.Tw hc lt a2 a3 a4⟩
   ·exact⟨_,rfl,q e (by lia) h3 λc' d8=>by rw[hc] at d8;obtain rfl:=aZ d8;exact⟨y,λz=>x (by rw[z];rfl)⟩⟩
 ·rw[ik] at z;have ee:e=t.length:=by lia
  refine⟨_,rfl,q e h2 h3 λc' d8=>?_⟩;rw[ee,pJ (bz _)] at d8;exact ns d8
def acU(F:Df K mg "token_start" zV f fd)(g:GI mg)(B:A0 K mg)(GR:aK P w K mg base au 1 "remark_end" ["text","at"] (AZ K)):aK P w K mg base au 2 "token_start" ["text","at"] (A3 K):=
 ⟨f,fd,acT F.1 g B GR,F.2,F.1.kp,F.1.b2 "text" "at"⟩
end
section
variable{R:Cl}{C:Cg}
structure qy(K:aI)(mg:Str->Option ai)(C:Cg):Prop where
 k:AX K C
 ex:∃f fd,Mk K C.tok f/\aD K "__init__" "Token.__init__" zN f fd/\mg "Token"=some (.ref C.tok)
def pw(C:Cg)(t:aJ)(ts:aL)(a:ae)(H:Hp):Prop:=∃dx x e,H a=some (.ins C.tok dx (xr x (here ts) e))/\Tk t.length ts x/\x.length<=20000/\e<=t.length/\ (Vaarrj.next ts≠ .none->ts.drop 1=T t e)
def pw.mono{t:aJ}{ts:aL}{a:ae}{H H':Hp}(h:pw C t ts a H)(k:∀b o,H b=some o->H' b=some o):pw C t ts a H':=by
 obtain⟨dx,x,e,h1,h2,h3,h4,h5⟩:=h;exact⟨dx,x,e,k _ _ h1,h2,h3,h4,h5⟩
def A4{H H1:Hp}{Q:VK}{x:aJ}{p e:Nat}(k1:∀b o,H b=some o->H1 b=some o)(q:∀H' k dx,(∀b o,H b=some o->H' b=some o)->H k=none->H' k=some (.ins C.tok dx (xr x p e))->Q (.ref k) H'):
 ∀y dx,H1 y=none->H1 dx=none->dx≠y->uG C (.ref y::([.str (S x),.int ((p:Nat):Int),.int ((e:Nat):Int)]++[])) (upd (upd H1 dx (.own y)) y (.ins C.tok dx [])) (λv H2=>v=.aM/\Q (.ref y) H2) E0:=λy dx hy hd hn=>by
 refine⟨y,dx,x,p,e,rfl,aA,λH' h1 h2=>⟨rfl,q H' y dx (λb o eb=>?_) ?_ h1⟩⟩
 ·have eb:=k1 _ _ eb;refine h2 b o ?_ (bw eb hy);rw[ak (bw eb hy),ak (bw eb hd)];exact eb
 ·cases z:H y with
  |none=>rfl
  |some o=>rw[k1 _ _ z] at hy;exact sn hy
inductive A5(K:aI)(C:Cg)(vs:List V)(H:Hp)(Q:VK)(_:XK):Prop
 |mk (a t p c:_) (_:vs=[.ref a,.int ((p:Nat):Int)]) (_:aF K H a (dS t)) (_:t.length<=20000) (_:t[p]? =some c) (_:letter c=true) (_:∀H' k,(∀b o,H b=some o->H' b=some o)->H k=none->pw C t (T t p) k H'->Q (.ref k) H')
def uJ{t:aJ}{p e:Nat}{f:Nat->Bool}(h:∀i c,p<=i->i<e->t[i]? =some c->f c=true):∀c∈(t.drop p).take (e-p),f c=true:=λc hc=>by
 obtain⟨i,hi⟩:=lA hc;have hl:=(dz.mp hi).1;rw[jY] at hl;rw[af4 (by lia),List.getElem?_drop] at hi
 exact h (p+i) c (by lia) (by lia) hi
def piece_cons{t:aJ}{p e c:Nat}(h:t[p]? =some c)(he:p<e):(t.drop p).take (e-p)=c::(t.drop (p+1)).take (e-(p+1)):=by
 obtain⟨hl,e1⟩:=dz.mp h;rw[qP hl,e1,show e-p=(e-(p+1))+1 by lia,x5]
def N0(t:aJ)(p e:Nat):((t.drop p).take (e-p)).length<=t.length:=by rw[jY,kF];lia
def acV(F:aD K "word_at" "word_at" zX f fd)(g:GI mg)(TC:qy K mg C)(GL:aK P w K mg base au 1 "is_letter" ["byte"] uH)(GD:aK P w K mg base au 1 "is_digit" ["byte"] n_)(GC:aK P w K mg base au 3 "characters" ["text","start","end"] (sj K)):
 aB P w K mg base au 4 f fd ["text","start"] (A5 K C):=by
 obtain⟨fi,fh,M,Fi,mT⟩:=TC.ex;have GI:aB P w K mg base au 1 fi fh ["self","text","start","end"] (uG C):=Hm Fi TC.k;have bI:=Fi.b4 "self" "text" "start" "end";refine F.oK FN λ_ _ _ _ H vs Q E hr h=>?_;obtain⟨a,t,p,c,rfl,ha,ht,hc,lc,q⟩:=h;have cN:=hr.mono (show 1<=3 by decide)
 have iY:=hr.mono (show 2<=3 by decide)
 refine⟨_,ay (bE 2 FN.nd (pv 1))
  (ay (yC j6 (pX (bV gz (pv 2) (eV iA (by rfl) g.fX gj (ah (pv 0) aj)) (bO _)) (pW (kM (gZ (aV GL cN aW (ah (cj cH (pv 0) (pv 2) (λ_ _=>rfl)) aj))) (nH (gZ (aV GD cN aW (ah (cj cH (pv 0) (pv 2) (λ_ _=>rfl)) aj))))).pt)).pt
    (aw (bE 2 FN.nd (cy i9 (pv 2) aO))))
  (aw (bh (j' M GI iY rfl mT bI .nil aW (ah (aV GC hr aW (ah (pv 0) (ah (pv 1) (ah (pv 2) aj)))) (ah (pv 1) (ah (pv 2) aj))))))),?_⟩
 have hp:p<t.length:=(dz.mp hc).1;refine⟨_,rfl,?_⟩;have fin:∀e:Nat,p<=e->e<=t.length->(∀i c,p<=i->i<e->t[i]? =some c->inner c=true)->(∀c,t[e]? =some c->inner c=false)->p<e->
  JO (CM C.tok (uG C) [] E0 (qa (CL (sj K) [] E0 (qa (nF 0) (qa (nF 1) (qa (nF 2) tR)))) (qa (nF 1) (qa (nF 2) tR)))) {nx:=λ_ H'=>Q .aM H',rt:=Q} [some (.ref a),some (.int (p:Int)),some (.int (e:Int))] H:=λe h1 h2 h3 h4 h5=>by
  refine⟨_,rfl,_,rfl,_,rfl,a,t,p,e,rfl,ha,h1,h2,ht,uJ h3,λH1 k1=>?_⟩;refine⟨_,rfl,_,rfl,A4 k1 λH' k dx k2 hk mw=>q H' k k2 hk ?_⟩;have TW:=MT.Tx hc lc h5 h2 h3 h4;refine⟨dx,_,e,by rw[TW];exact mw,?_,dy (N0 t p e) ht,h2,λ_=>by rw[TW];rfl⟩
  rw[TW];refine⟨rfl,c,_,piece_cons hc h5,lc,kH.mpr λc' d8=>uJ h3 c' (by rw[piece_cons hc h5];exact fG _ d8)⟩
 refine⟨λm σ H'=>∃e:Nat,m=t.length-e/\σ=[some (.ref a),some (.int (p:Int)),some (.int (e:Int))]/\H'=H/\p<=e/\e<=t.length/\ (∀i c,p<=i->i<e->t[i]? =some c->inner c=true),⟨_,p,rfl,rfl,rfl,bz _,by lia,λi c h1 h2=>by lia⟩,?_⟩
 rintro m σ H' ⟨e,rfl,rfl,rfl,h1,h2,h3⟩;have pe:(∀c,t[e]? =some c->inner c=false)->p<e:=λh4=>by
  rcases B1 p e with l|l
  ·exact l
  ·have:e=p:=by lia
   subst this;have:=h4 c hc;unfold inner at this;rw[lc] at this;cases this
 refine⟨_,rfl,_,rfl,_,_,rfl,.inl ha,_,_,rfl,rfl,_,rfl,bX (λz=>?_) λz=>?_⟩
 ·rw[ik] at z;have le:e<t.length:=by lia
  obtain⟨d,hd⟩:∃d,t[e]? =some d:=⟨_,eK le⟩;have go:inner d=true->∃N:L2.St->Hp->Prop,(∀σ' H2,N σ' H2->∃m',m'<t.length-e/\ ∃e:Nat,m'=t.length-e/\σ'=[some (.ref a),some (.int (p:Int)),some (.int (e:Int))]/\H2=H'/\p<=e/\e<=t.length/\ (∀i c,p<=i->i<e->t[i]? =some c->inner c=true))/\N [some (.ref a),some (.int (p:Int)),some (.int ((e:Int)+1))] H':=λhi=>
   ⟨_,λσ' H' x=>x,t.length-(e+1),by lia,e+1,rfl,rfl,rfl,by lia,by lia,λi c' a1 a2 a3=>by
     by_cases ie:i=e
     ·subst ie;rw[hd] at a3;obtain rfl:=aZ a3;exact hi
     ·exact h3 i c' a1 (by lia) a3⟩
  refine⟨_,rfl,_,rfl,_,_,_,_,rfl,rfl,ha,qw hd,d,rfl,_,rfl,j7 (λy=>?_) λy=>?_⟩
  ·obtain⟨N,n1,n2⟩:=go (by unfold inner;rw[y];rfl)
   exact du ⟨N,n1,_,rfl,_,_,rfl,rfl,n2⟩
  ·refine⟨_,rfl,_,rfl,_,_,_,_,rfl,rfl,ha,qw hd,d,rfl,_,rfl,j7 (λx=>?_) λx=>?_⟩
   ·obtain⟨N,n1,n2⟩:=go (by unfold inner;rw[y,x];rfl)
    exact⟨N,n1,_,rfl,_,_,rfl,rfl,n2⟩
   ·have h4:∀c,t[e]? =some c->inner c=false:=λc' d8=>by rw[hd] at d8;obtain rfl:=aZ d8;unfold inner;rw[y,x];rfl
    exact fin e h1 h2 h3 h4 (pe h4)
 ·rw[ik] at z;have ee:e=t.length:=by lia
  have h4:∀c,t[e]? =some c->inner c=false:=λc' d8=>by rw[ee,pJ (bz _)] at d8;exact ns d8
  exact dY (fin e h1 h2 h3 h4 (pe h4))
def acW(F:Df K mg "word_at" zX f fd)(g:GI mg)(TC:qy K mg C)(GL:aK P w K mg base au 1 "is_letter" ["byte"] uH)(GD:aK P w K mg base au 1 "is_digit" ["byte"] n_)(GC:aK P w K mg base au 3 "characters" ["text","start","end"] (sj K)):
 aK P w K mg base au 4 "word_at" ["text","start"] (A5 K C):=
 ⟨f,fd,acV F.1 g TC GL GD GC,F.2,F.1.kp,F.1.b2 "text" "start"⟩
end
def acX(K:aI):List V->Hp->VK->Prop:=λxs H Q=>∃p ys,xs=[.ref p]/\ (aF K H p ys\/fR K H p ys)/\Q (.int ys.length) H
section
variable{R:Cl}{C:Cg}
inductive xt(K:aI)(C:Cg)(vs:List V)(H:Hp)(Q:VK)(E:XK):Prop
 |mk (H0 a t p:_) (_:vs=[.ref a,.int ((p:Nat):Int)]) (_:aF K H a (dS t)) (_:p<=t.length) (_:t.length<=20000) (_:(∀b o,H0 b=some o->H b=some o)) (_:(bad t.length (T t p)->pq C E H0 (here (T t p)))) (_:(¬bad t.length (T t p)->∀H' k,(∀b o,H b=some o->H' b=some o)->H k=none->pw C t (T t p) k H'->Q (.ref k) H'))
inductive A6(K:aI)(C:Cg)(vs:List V)(H:Hp)(Q:VK)(E:XK):Prop
 |mk (H0 a t p c:_) (_:vs=[.ref a,.int ((p:Nat):Int)]) (_:aF K H a (dS t)) (_:t.length<=20000) (_:t[p]? =some c) (_:digit c=true) (_:(∀b o,H0 b=some o->H b=some o)) (_:(bad t.length (T t p)->pq C E H0 (here (T t p)))) (_:(¬bad t.length (T t p)->∀H' k,(∀b o,H b=some o->H' b=some o)->H k=none->pw C t (T t p) k H'->Q (.ref k) H'))
def acY(F:aD K "number_at" "number_at" zY f fd)(g:GI mg)(TC:qy K mg C)(FC:n9 K mg C)(GD:aK P w K mg base au 1 "is_digit" ["byte"] n_)(GC:aK P w K mg base au 3 "characters" ["text","start","end"] (sj K))(GN:aK P w K mg base au 1 "decimal" ["digits","most"] qx):
 aB P w K mg base (bf P w) 4 f fd ["text","start"] (A6 K C):=by
 obtain⟨fi,fh,M,Fi,mT⟩:=TC.ex;have GI:aB P w K mg base au 1 fi fh ["self","text","start","end"] (uG C):=Hm Fi TC.k;have bI:=Fi.b4 "self" "text" "start" "end";obtain⟨NF,ff,sk,FK,mF⟩:=FC.ex;have GF:aB P w K mg base au 1 ff sk ["self","position"] (xq C.my):=Hk FK;have bF:=FK.fn.b2 "self" "position";refine F.oX zZ λ_ _ _ _ H vs Q E hr h=>?_;obtain⟨H0,a,t,p,c,rfl,ha,ht,hc,dc,old,qb,q⟩:=h;have cN:=hr.mono (show 1<=3 by decide)
 have iY:=hr.mono (show 2<=3 by decide)
 refine⟨_,ay (bE 2 zZ.nd (pv 1))
  (ay (zv qp ⟨rfl,rfl⟩ (λ_ _=>(pX (bV gz (pv 2) (eV (r:=acX K) iA (by rfl) g.fX gj (ah (pv 0) aj)) (bO _)) (pW (gZ (aV GD cN aW (ah (cj (r:=CT K) cH (pv 0) (pv 2) (λ_ _=>rfl)) aj))))).pt)
    (λ_ _ _ _=>aw (bE 2 zZ.nd (cy i9 (pv 2) aO))))
  (ay (bE 3 zZ.nd (aV GC hr aW (ah (pv 0) (ah (pv 1) (ah (pv 2) aj)))))
  (ay (bZ (ji (oI (aV GN cN aW (ah (pv 3) (ah (b_ g.qr) aj))))) (aw (rT FK.cls GF iY bF rfl rfl rS rfl mF (ah (pv 1) aj))) cJ)
  (aw (bh (j' M GI iY rfl mT bI .nil aW (ah (pv 3) (ah (pv 1) (ah (pv 2) aj))))))))),?_⟩
 have hp:p<t.length:=(dz.mp hc).1;refine⟨_,rfl,?_⟩;refine⟨λm σ H'=>∃e:Nat,m=t.length-e/\σ=[some (.ref a),some (.int (p:Int)),some (.int (e:Int)),none]/\H'=H/\p<=e/\e<=t.length/\ (∀i c,p<=i->i<e->t[i]? =some c->digit c=true),⟨_,p,rfl,rfl,rfl,bz _,by lia,λi c h1 h2=>by lia⟩,?_⟩
 rintro m σ H' ⟨e,rfl,rfl,rfl,h1,h2,h3⟩;have pe:(∀c,t[e]? =some c->digit c=false)->p<e:=λh4=>by
  rcases B1 p e with l|l
  ·exact l
  ·have:e=p:=by lia
   subst this;have:=h4 c hc;rw[dc] at this;exact tf this
 by_cases key:∃d,t[e]? =some d/\digit d=true
 ·obtain⟨d,hd,y⟩:=key;have le:e<t.length:=(dz.mp hd).1;refine⟨_,rfl,_,rfl,_,_,rfl,.inl ha,_,_,rfl,rfl,_,rfl,bX (λz=>?_) λz=>absurd (by rw[ik];lia) z⟩
  refine⟨_,rfl,_,rfl,_,_,_,_,rfl,rfl,ha,qw hd,d,rfl,_,rfl,?_⟩;rw[y];refine du ⟨_,λσ' H' x=>x,_,rfl,_,_,rfl,rfl,t.length-(e+1),by lia,e+1,rfl,rfl,rfl,by lia,by lia,λi c' a1 a2 a3=>?_⟩
  by_cases ie:i=e
  ·subst ie;rw[hd] at a3;obtain rfl:=aZ a3;exact y
  ·exact h3 i c' a1 (by lia) a3
 ·have h4:∀c,t[e]? =some c->digit c=false:=λc' d8=>by
   cases y:digit c' with
   |false=>rfl
   |true=>exact absurd ⟨c',d8,y⟩ key
  have h5:=pe h4;refine⟨_,rfl,_,rfl,_,_,rfl,.inl ha,_,_,rfl,rfl,_,rfl,bX (λz=>?g1) λz=>?g2⟩
  case' g1=>
   rw[ik] at z;obtain⟨d,hd⟩:∃d,t[e]? =some d:=⟨_,eK (by lia)⟩
   refine⟨_,rfl,_,rfl,_,_,_,_,rfl,rfl,ha,qw hd,d,rfl,_,rfl,?_⟩;rw[h4 d hd]
  all_goals
   refine dY ?_;have TN:=MT.Tz hc dc h5 h2 h3 h4;have all:((t.drop p).take (e-p)).all digit=true:=kH.mpr (uJ h3);have asc:∀c∈(t.drop p).take (e-p),c<128:=λc' d8=>by have:=MP.kS (uJ h3 c' d8);lia
   have dg:=MP.Vg (ds:=(t.drop p).take (e-p));have pl:=N0 t p e;refine⟨_,rfl,_,rfl,_,rfl,a,t,p,e,rfl,ha,h1,h2,ht,(λc' d8=>?_),λH1 k1=>?_⟩
   ·have:=MP.kS (uJ h3 c' d8);unfold inner;rw[uJ h3 c' d8,Bool.or_true]
   generalize (t.drop p).take (e-p)=x at TN all asc dg pl;refine⟨_,rfl,x,_,rfl,asc,by lia,by decide,by decide,?_⟩
   have eg:qT=1000000000000000000:=rfl;by_cases ok:oneWay x=true/\x.length<=19/\ ((valueOf x:Nat):Int)<=qT
   ·rw[if_pos ok] at TN;rw[if_pos ⟨all,ok⟩,eg] at dg;rw[dg];refine⟨_,rfl,dY ?_⟩;refine⟨_,rfl,_,rfl,_,rfl,A4 k1 λH' k dx k2 hk mw=>q (by rw[TN];exactλb=>nomatch b.1) H' k k2 hk ?_⟩
    refine⟨dx,x,e,by rw[TN];exact mw,?_,by lia,h2,λ_=>by rw[TN];rfl⟩
    rw[TN];exact⟨all,ok.1,rfl,ok.2.2⟩
   ·rw[if_neg ok] at TN;rw[if_neg λz=>ok z.2,eg] at dg;rw[dg];refine⟨_,rfl,du ?_⟩;have qb:=qb (by rw[TN];exact⟨rfl,by show p≠t.length;lia⟩)
    rw[TN] at qb;exact⟨_,rfl,(by show 1<=sizeLine;rw[aP];decide),λy hy=>Hl qb (λb o e=>k1 _ _ (old b o e)) hy⟩
def acZ(F:Df K mg "number_at" zY f fd)(g:GI mg)(TC:qy K mg C)(FC:n9 K mg C)(GD:aK P w K mg base au 1 "is_digit" ["byte"] n_)(GC:aK P w K mg base au 3 "characters" ["text","start","end"] (sj K))(GN:aK P w K mg base au 1 "decimal" ["digits","most"] qx):
 aK P w K mg base (bf P w) 4 "number_at" ["text","start"] (A6 K C):=
 ⟨f,fd,acY F.1 g TC FC GD GC GN,F.2,F.1.kp,F.1.b2 "text" "start"⟩
def A7:List (Key×V):=[(.inl 59,.str (S [59])),(.inl 123,.str (S [123])),(.inl 125,.str (S [125])),(.inl 64,.str (S [64])),(.inl 63,.str (S [63])),(.inl 95,.str (S [95]))]
def Hr(c:Nat):dX A7 (.inl (c:Int))=if MT.isSign c=true then some (.str (S [c])) else none:=by
 unfold A7;by_cases h:MT.isSign c=true
 ·rw[if_pos h];simp only[MT.isSign,pM,beq_iff_eq] at h;rcases h with((((h|h)|h)|h)|h)|h<;>subst h<;>rfl
 ·rw[if_neg h];simp only[MT.isSign,pM,beq_iff_eq,not_or] at h;have ne:∀k:Nat,c≠k-> ¬((sL ((k:Nat):Int):Key)=.inl (c:Int)):=λk hk z=>hk (by injection z;lia)
  rw[nP (ne 59 h.1.1.1.1.1),nP (ne 123 h.1.1.1.1.2),nP (ne 125 h.1.1.1.2),nP (ne 64 h.1.1.2),nP (ne 63 h.1.2),nP (ne 95 h.2)];rfl
inductive A8(K:aI)(w:bB)(mg:Str->Option ai):Prop
 |mk (a:_) (_:mg "SIGNS"=some (.ref a)) (_:Tab K w a A7)
def ac0(F:aD K "token_at" "token_at" z7 f fd)(g:GI mg)(TC:qy K mg C)(FC:n9 K mg C)(SG:A8 K w mg)(GS:aK P w K mg base au 2 "token_start" ["text","at"] (A3 K))(GL:aK P w K mg base au 1 "is_letter" ["byte"] uH)(GD:aK P w K mg base au 1 "is_digit" ["byte"] n_)
 (GW:aK P w K mg base au 4 "word_at" ["text","start"] (A5 K C)) (GN:aK P w K mg base (bf P w) 4 "number_at" ["text","start"] (A6 K C)):aB P w K mg base (bf P w) 5 f fd ["text","at"] (xt K C):=by
 obtain⟨fi,fh,M,Fi,mT⟩:=TC.ex;have GI:aB P w K mg base au 1 fi fh ["self","text","start","end"] (uG C):=Hm Fi TC.k;have bI:=Fi.b4 "self" "text" "start" "end";obtain⟨NF,ff,sk,FK,mF⟩:=FC.ex;have GF:aB P w K mg base au 1 ff sk ["self","position"] (xq C.my):=Hk FK;have bF:=FK.fn.b2 "self" "position";obtain⟨sa,mS,tab⟩:=SG;refine F.oX FO λ_ _ _ _ H vs Q E hr h=>?_;obtain⟨H0,a,t,p,rfl,ha,hp,ht,old,qb,q⟩:=h;have cN:=hr.mono (show 1<=4 by decide)
 have iY:=hr.mono (show 2<=4 by decide)
 refine⟨_,ay (bE 2 FO.nd (aV GS iY aW (ah (pv 0) (ah (pv 1) aj))))
  (ay (bZ (bV fT (pv 2) (eV iA (by rfl) g.fX gj (ah (pv 0) aj)) (bO _)) (aw (bh (j' M GI iY rfl mT bI .nil aW (ah bY (ah (pv 2) (ah (pv 2) aj)))))) cJ)
  (ay (bE 3 FO.nd (cj cH (pv 0) (pv 2) (λ_ _=>rfl)))
  (ay (bZ (ji (uo (pv 3) (iH mS))) (aw (bh (j' M GI iY rfl mT bI .nil aW (ah (rV (iH mS) (pv 3) (λ_ _=>rfl)) (ah (pv 2) (ah (cy i9 (pv 2) aO) aj)))))) cJ)
  (ay (bZ (gZ (aV GL cN aW (ah (pv 3) aj))) (aw (bh (aV GW hr aW (ah (pv 0) (ah (pv 2) aj))))) cJ)
  (ay (bZ (gZ (aV GD cN aW (ah (pv 3) aj))) (aw (bh (aV GN hr cS (ah (pv 0) (ah (pv 2) aj))))) cJ)
  (aw (rT FK.cls GF iY bF rfl rfl rS rfl mF (ah (pv 2) aj)))))))),?_⟩
 refine⟨_,rfl,_,rfl,a,t,p,rfl,ha,hp,ht,λe le eT nb=>?_⟩;rw[eT] at qb q;refine⟨_,rfl,_,rfl,_,_,rfl,.inl ha,rfl,_,rfl,bX (λz=>?_) λz=>?_⟩
 ·have ee:e=t.length:=by injection z with z;rw[ik] at z;lia
  subst ee;have TE:=MT.Tu t;refine⟨_,rfl,_,rfl,A4 (x:=[]) (λ_ _ e=>e) λH' k dx k2 hk mw=>q (by rw[TE];exactλb=>b.2 rfl) H' k k2 hk ?_⟩
  refine⟨dx,[],_,by rw[TE];exact mw,by rw[TE];exact⟨rfl,rfl⟩,eX _,le,λz=>by rw[TE] at z;exact absurd rfl z⟩
 ·have N1:e<t.length:=by
   rcases B1 e t.length with l|l
   ·exact l
   ·exact absurd (by rw[ik];congr 1;lia) z
  obtain⟨c,hc⟩:∃c,t[e]? =some c:=⟨_,eK N1⟩;obtain⟨b1,b2⟩:=nb c hc;refine⟨_,rfl,_,rfl,_,_,_,_,rfl,rfl,ha,qw hc,?_⟩;refine⟨_,rfl,_,_,.inl (c:Int),rfl,rfl,tab,_,rfl,j7 (λy=>?_) λy=>?_⟩
  ·rw[Hr] at y;have sg:MT.isSign c=true:=by
    by_cases h:MT.isSign c=true
    ·exact h
    ·rw[if_neg h] at y;cases y
   have sv:=Hr c;rw[if_pos sg] at sv;have TS:=MT.TF hc sg;refine⟨_,rfl,_,_,.inl (c:Int),_,rfl,rfl,tab,sv,_,rfl,_,rfl,_,_,rfl,rfl,?_⟩;refine A4 (x:=[c]) (p:=e) (e:=e+1) (λ_ _ e=>e) λH' k dx k2 hk mw=>q (by rw[TS];exactλb=>nomatch b.1) H' k k2 hk ?_
   refine⟨dx,[c],e+1,by rw[TS];exact mw,?_,by show 1<=20000;decide,by lia,λ_=>by rw[TS];rfl⟩
   rw[TS];simp only[MT.isSign,pM,beq_iff_eq] at sg;exact⟨rfl,by lia⟩
  ·rw[Hr] at y;have sg:MT.isSign c=false:=by
    cases h:MT.isSign c with
    |false=>rfl
    |true=>rw[h,if_pos rfl] at y;cases y
   refine⟨_,rfl,c,rfl,_,rfl,j7 (λy2=>?_) λy2=>?_⟩
   ·exact⟨_,rfl,_,rfl,a,t,e,c,rfl,ha,ht,hc,y2,λH' k k2 hk tk=>q (by
     obtain⟨dx,x,e2,_,h3,_⟩:=tk;intro b;have:=h3.none.mpr b.1;unfold MP.Tk at h3;rw[b.1] at h3;exact b.2 h3.2) H' k k2 hk tk⟩
   ·refine⟨_,rfl,c,rfl,_,rfl,j7 (λy3=>?_) λy3=>?_⟩
    ·exact⟨_,rfl,_,rfl,H0,a,t,e,c,rfl,ha,ht,hc,y3,old,qb,q⟩
    ·have TB:=MT.TH hc b1 b2 y2 y3 sg;have qb:=qb (by rw[TB];exact⟨rfl,by show e≠t.length;lia⟩)
     rw[TB] at qb;exact⟨_,rfl,(by show 1<=sizeLine;rw[aP];decide),λy hy=>Hl qb old hy⟩
def ac1(F:Df K mg "token_at" z7 f fd)(g:GI mg)(TC:qy K mg C)(FC:n9 K mg C)(SG:A8 K w mg)(GS:aK P w K mg base au 2 "token_start" ["text","at"] (A3 K))(GL:aK P w K mg base au 1 "is_letter" ["byte"] uH)(GD:aK P w K mg base au 1 "is_digit" ["byte"] n_)
 (GW:aK P w K mg base au 4 "word_at" ["text","start"] (A5 K C)) (GN:aK P w K mg base (bf P w) 4 "number_at" ["text","start"] (A6 K C)):aK P w K mg base (bf P w) 5 "token_at" ["text","at"] (xt K C):=
 ⟨f,fd,ac0 F.1 g TC FC SG GS GL GD GW GN,F.2,F.1.kp,F.1.b2 "text" "at"⟩
end
structure so(K:aI)(mg:Str->Option ai)(R:Cl):Prop where
 reg:∃f fd,Mk K R.reg f/\aD K "__init__" "Registers.__init__" uv f fd/\mg "Registers"=some (.ref R.reg)
 run:∃f fd,Mk K R.run f/\aD K "__init__" "Run.__init__" wu f fd/\mg "Run"=some (.ref R.run)
def ac2(R:Cl)(H0 H:Hp)(p dx:ae)(w n:Nat)(arr:List (List Int))(L:Rn)(H':Hp):Prop:=bH R H0 L (tq w arr) n H'/\L.run=p/\L.iF=dx/\ (∀b o,H b=some o->b≠p->H' b=some o)/\ (∀b∈(L.reg::L.vs::L.ms::L.ar::L.ss::L.fa::(L.va++(L.ma++L.aa))),H b=none)/\L.ar≠L.vs/\L.ar≠L.ms
inductive N2(R:Cl)(vs:List V)(H:Hp)(Q:VK)(_:XK):Prop
 |mk (H0 p dx w a0 jS arr n:_) (_:vs=[.ref p,.int ((w:Nat):Int),.ref a0,.int ((n:Nat):Int)]) (_:H p=some (.ins R.run dx [])) (_:H0 p=none) (_:xn R H0 H w a0 jS arr) (_:∀H' L,ac2 R H0 H p dx w n arr L H'->Q .aM H')
def Made.nest{p x dg C:ae}{H H1:Hp}{as:List ae}{o:HO}(hp:H p=some o)(nx:H x=none)(nd:H dg=none)(m:Made x (upd (upd H dg (.own x)) x (.ins C dg [])) H1 as):Made p H H1 (x::as)/\ ∀b u,H b=some u->H1 b=some u:=by
 have up:∀b u,H b=some u->upd (upd H dg (.own x)) x (.ins C dg []) b=some u:=λb u e=>by rw[ak (bw e nx),ak (bw e nd)];exact e
 have k:∀b u,H b=some u->H1 b=some u:=λb u e=>m.kp b u (up b u e) (bw e nx);have fr:∀a∈as,H a=none:=λa ha=>by
  cases q:H a with
  |none=>rfl
  |some u=>have:=m.fr a ha;rw[up a u q] at this;exact sn this
 refine⟨⟨λb u e _=>k b u e,fI.mpr ⟨λz=>?_,m.nd⟩,λa ha=>?_,λa ha=>?_,⟨_,hp⟩,⟨_,k _ _ hp⟩⟩,k⟩
 ·have:=m.fr x z;rw[aA] at this;exact sn this
 ·rcases cC.mp ha with z|z
  ·rw[z];exact nx
  ·exact fr a z
 ·rcases cC.mp ha with z|z
  ·rw[z];exact m.p1
  ·exact m.tr a z
section
variable{R:Cl}
def boot_list:mX "list"=some (.type "list"):=by decide+kernel
def ac3(F:aD K "__init__" "Run.__init__" wu f fd)(g:GI mg)(e:EK K R)(RC:so K mg R):aB P w K mg base au 3 f fd ["self","width","arrays","budget"] (N2 R):=by
 obtain⟨fr,ip,Mr,Fr,mR⟩:=RC.reg;have GR:aB P w K mg base au 1 fr ip ["self","width"] (xk R):=AS Fr g e;have bR:=Fr.b2 "self" "width";refine F.oK E5 λ_ _ _ _ H vs Q E hr h=>?_;obtain⟨H0,p,dx,w,a0,jS,arr,n,rfl,hp,pk,rd,q⟩:=h;refine⟨_,ay (cT (pv 0) (j' Mr GR hr rfl mR bR .nil aW (ah (pv 1) aj)) rfl)
  (ay (cT (pv 0) (nO (own:=[("array",4)]) rfl E5.nd (g8 (pv 2)) (show jo MY (aG wu) _ _ from⟨rfl,by decide+kernel,by decide+kernel,by decide+kernel,by decide+kernel⟩) (λ_ _ _ _ _=>fD 4 E5.nd)
    (λ_ _ _ _ _=>oS) (λ_ _ _ _ _=>oP (r:=λxs H Q=>∃p ys,xs=[.ref p]/\ (aF K H p ys\/fR K H p ys)/\ ∀l,H l=none->Q (.ref l) (upd H l (.lst ys))) Ky (by rfl) g.Ay boot_list (ah (pv 4) aj))) rfl)
  (ay (cT (pv 0) (pv 3) rfl)
  (ay (cT (pv 0) (cy vB (cR (ah jC aj)) (pv 1)) rfl)
  (aw (cT (pv 0) (oP (XI rfl) (by rfl) g.Ay boot_list (ah (XH rfl g.ux (ah (pv 1) aj)) aj)) rfl))))),?_⟩
 have m0:Made p H H []:=Made.refl ⟨_,hp⟩;have w1:=rd.w1;have w2:=rd.w2;refine⟨_,rfl,λx dg nx nd ne=>⟨x,dg,w,rfl,aA,w1,w2,λH1 G eg ed rg sq=>⟨rfl,?_⟩⟩⟩;subst eg ed;obtain⟨m1,k1⟩:=Made.nest hp nx nd sq;have np:∀a,H a=none->a≠p:=λa h z=>by rw[z,hp] at h;exact sn h
 refine⟨_,rfl,_,_,_,_,rfl,k1 _ _ hp,e.eW,e.mj,(by show 0<1000;decide),?_⟩
 have m2:=m1.write (o:=.ins R.run dx (az "registers" (.ref G.reg) []));have k2:∀b o,H1 b=some o->b≠p->upd H1 p (.ins R.run dx (az "registers" (.ref G.reg) [])) b=some o:=λb o eb n=>by rw[ak n];exact eb
 generalize eH2:upd H1 p (.ins R.run dx (az "registers" (.ref G.reg) []))=H2 at m2 k2⊢;have p2:H2 p=some (.ins R.run dx (az "registers" (.ref G.reg) [])):=by rw[<-eH2,aA]
 have a0p:a0≠p:=cE rd.arr.l hp (by intro z;cases z)
 have A2:uD H2 a0 jS arr:=⟨k2 _ _ (k1 _ _ rd.arr.l) a0p,rd.arr.n,λk b hb=>k2 _ _ (k1 _ _ (rd.arr.at_ k b hb)) (cE (rd.arr.at_ k b hb) hp (by intro z;cases z))⟩
 refine⟨_,rfl,_,rfl,⟨_,aF.of A2.l⟩,λD hD=>qg (K:=K) (a:=a0) (xs:=jS.map V.ref) (iX H2 D λk=>.lst (((arr[k]?).getD []).map V.int)) (iX.start hD) (λi H' _ rI=>?_) (λi v H' hi rI=>?_) λH3 rI=>?_⟩
 ·obtain⟨_,_,_,kp,_⟩:=rI;exact aF.of (kp _ _ A2.l)
 ·rw[dI] at hi;cases y:jS[i]? with
  |none=>rw[y] at hi;cases hi
  |some b=>
   rw[y] at hi;obtain rfl:V.ref b=v:=by injection hi
   have il:i<arr.length:=by rw[<-A2.n];exact(dz.mp y).1
   have al:=rd.al;have kp:=rI;obtain⟨_,_,_,kp,_⟩:=kp;refine⟨rfl,_,rfl,b,_,rfl,.inl (aF.of (kp _ _ (A2.at_ i b y))),λl hl=>?_⟩;exact rI.next hD hl (λc o ec=>by rw[ak (bw ec hl)];exact ec) aA (by lia)
 obtain⟨aa,xu,Hu,Hv,m3⟩:=rI.made m2 hD;rw[bq] at xu;have k3:∀b o,H2 b=some o->H3 b=some o:=by obtain⟨_,_,_,kp,_⟩:=rI;exact kp
 refine⟨_,rfl,_,_,_,_,rfl,k3 _ _ p2,e.eW,e.AE,(by show 1<1000;decide),?_⟩
 have m4:=m3.write (o:=.ins R.run dx (az "arrays" (.ref D) (az "registers" (.ref G.reg) [])));have k4:∀b o,H3 b=some o->b≠p->upd H3 p (.ins R.run dx (az "arrays" (.ref D) (az "registers" (.ref G.reg) []))) b=some o:=λb o eb n=>by rw[ak n];exact eb
 generalize Hg:upd H3 p (.ins R.run dx (az "arrays" (.ref D) (az "registers" (.ref G.reg) [])))=H4 at m4 k4⊢;have p4:H4 p=some (.ins R.run dx (az "arrays" (.ref D) (az "registers" (.ref G.reg) []))):=by rw[<-Hg,aA]
 refine⟨_,rfl,_,rfl,_,_,_,_,rfl,p4,e.eW,e.wV,(by show 2<1000;decide),?_⟩
 have m5:=m4.write (o:=.ins R.run dx (az "left" (.int (n:Nat)) (az "arrays" (.ref D) (az "registers" (.ref G.reg) []))));have k5:∀b o,H4 b=some o->b≠p->upd H4 p (.ins R.run dx (az "left" (.int (n:Nat)) (az "arrays" (.ref D) (az "registers" (.ref G.reg) [])))) b=some o:=λb o eb n=>by rw[ak n];exact eb
 generalize AU:upd H4 p (.ins R.run dx (az "left" (.int (n:Nat)) (az "arrays" (.ref D) (az "registers" (.ref G.reg) []))))=H5 at m5 k5⊢;have p5:H5 p=some (.ins R.run dx (az "left" (.int (n:Nat)) (az "arrays" (.ref D) (az "registers" (.ref G.reg) [])))):=by rw[<-AU,aA]
 refine⟨(by show 1<=sizeLine;rw[aP];decide),λl hl=>⟨_,rfl,l,_,_,rfl,rfl,aA,by lia,by lia,(by show 1*_<=sizeLine;rw[aP,gW];lia),λS hS=>?_⟩⟩
 have lS:S≠l:=λz=>by rw[z,aA] at hS;exact sn hS
 have xm:H5 S=none:=by rw[ak lS] at hS;exact hS
 rw[gW,Hf];have k6:∀b o,H5 b=some o->upd (upd H5 l (.lst [.aM])) S (.lst (cZ w V.aM)) b=some o:=λb o eb=>by rw[ak (bw eb xm),ak (bw eb hl)];exact eb
 have m6:=m5.one (o:=.lst (cZ w V.aM)) xm k6 aA;have s6:upd (upd H5 l (.lst [.aM])) S (.lst (cZ w V.aM)) S=some (.lst (cZ w V.aM)):=aA;generalize eH6:upd (upd H5 l (.lst [.aM])) S (.lst (cZ w V.aM))=H6 at m6 k6 s6⊢;refine⟨_,rfl,_,_,_,_,rfl,k6 _ _ p5,e.eW,e.G0,(by show 3<1000;decide),?_⟩
 have m7:=m6.write (o:=.ins R.run dx (az "faults" (.ref S) (az "left" (.int (n:Nat)) (az "arrays" (.ref D) (az "registers" (.ref G.reg) [])))));have k7:∀b o,H6 b=some o->b≠p->upd H6 p (.ins R.run dx (az "faults" (.ref S) (az "left" (.int (n:Nat)) (az "arrays" (.ref D) (az "registers" (.ref G.reg) []))))) b=some o:=λb o eb n=>by rw[ak n];exact eb
 generalize eH7:upd H6 p (.ins R.run dx (az "faults" (.ref S) (az "left" (.int (n:Nat)) (az "arrays" (.ref D) (az "registers" (.ref G.reg) [])))))=H7 at m7 k7⊢;have p7:H7 p=some (.ins R.run dx (az "faults" (.ref S) (az "left" (.int (n:Nat)) (az "arrays" (.ref D) (az "registers" (.ref G.reg) []))))):=by rw[<-eH7,aA]
 refine⟨_,rfl,_,rfl,by lia,by lia,λr iY=>⟨r,_,rfl,aA,by lia,by lia,λun uF=>?_⟩⟩
 have ur:un≠r:=λz=>by rw[z,aA] at uF;exact sn uF
 have N3:H7 un=none:=by rw[ak ur] at uF;exact uF
 rw[gW];have k8:∀b o,H7 b=some o->upd (upd H7 r (.kL 0 (w:Int))) un (.lst (nats (cB w))) b=some o:=λb o eb=>by rw[ak (bw eb N3),ak (bw eb iY)];exact eb
 have m8:=m7.one (o:=.lst (nats (cB w))) N3 k8 aA;have u8:upd (upd H7 r (.kL 0 (w:Int))) un (.lst (nats (cB w))) un=some (.lst (nats (cB w))):=aA;generalize N4:upd (upd H7 r (.kL 0 (w:Int))) un (.lst (nats (cB w)))=H8 at m8 k8 u8;refine⟨_,rfl,p,R.run,dx,_,rfl,(by show upd (upd H7 r (.kL 0 (w:Int))) un (.lst (nats (cB w))) p=_;rw[N4];exact k8 _ _ p7),e.eW,e.wW,(by show 4<1000;decide),?_⟩
 show Q .aM (upd (upd (upd H7 r (.kL 0 (w:Int))) un (.lst (nats (cB w)))) p _);rw[N4];have m9:=m8.write (o:=.ins R.run dx (gS (iI R G p dx D S aa) n un));have k9:∀b o,H8 b=some o->b≠p->upd H8 p (.ins R.run dx (gS (iI R G p dx D S aa) n un)) b=some o:=λb o eb n=>by rw[ak n];exact eb
 have Hw:∀b o,H3 b=some o->b≠p->upd H8 p (.ins R.run dx (gS (iI R G p dx D S aa) n un)) b=some o:=λb o eb n=>k9 _ _ (k8 _ _ (k7 _ _ (k6 _ _ (k5 _ _ (k4 _ _ eb n) n)) n)) n;have nG:∀a∈(G.reg::G.all),a≠p:=λa h=>np a (m1.fr a h);have rg9:n8 R (upd H8 p (.ins R.run dx (gS (iI R G p dx D S aa) n un))) G (tq w arr):=(rg arr).mono λb o eb hb=>by
  have n:b≠p:=nG b (by rcases hb with z|z;· rw[z];simp
                       ·simp[z])
  exact Hw _ _ (k3 _ _ (k2 _ _ eb n)) n
 have nD:D≠p:=np D (m3.fr D (by simp))
 have ar9:uD (upd H8 p (.ins R.run dx (gS (iI R G p dx D S aa) n un))) D aa arr:=⟨Hw _ _ Hv nD,by rw[xu];exact A2.n,λk b hb=>Hw _ _ (Hu k b hb) (np b (m3.fr b (by simp[d7 hb])))⟩
 have nS:S≠p:=np S (m6.fr S (by simp))
 have nu:un≠p:=np un (m8.fr un (by simp))
 have eM:(G.reg::G.all)++(D::aa)++[S]++[un]=[G.reg]++G.all++(D::aa)++[S]++[un]:=rfl;obtain⟨rA,a1,a2⟩:=acA (n:=n) (un:=un) rd hp pk (by rw[<-eM];exact m9) aA rg9 ar9 (k9 _ _ (k8 _ _ (k7 _ _ s6 nS)) nS) (k9 _ _ u8 nu)
 refine q _ (iI R G p dx D S aa) ⟨rA,rfl,rfl,m9.kp,λb hb=>m9.fr b ?_,a1,a2⟩;simp only[cC,gO] at hb;simp only[cC,gO,Rg.all];rcases hb with z|z|z|z|z|z|z|z|z<;>simp[z]
end
open MP (lQ)
inductive Dd(K:aI)(mg:Str->Option ai)(x:Str)(st:cD):Prop
 |mk (f fd:_) (_:Df K mg x st f fd)
structure A9(K:aI)(mg:Str->Option ai):Prop where
 vector:Dd K mg "vector" zA
 ac4:Dd K mg "mask_lanes" zB
 scalar:Dd K mg "scalar" zC
 hold:Dd K mg "hold" zD
 ac5:Dd K mg "active_lanes" wz
 fail:Dd K mg "fail" wx
 ac6:Dd K mg "fill_lanes" zE
 ac7:Dd K mg "take_from_array" zG
 ac8:Dd K mg "take_step" zx
 ac9:Dd K mg "told_lane" zL
 N5:Dd K mg "raise_first_fault" zM
 ada:Dd K mg "refusal_kind" wq
 adb:Dd K mg "combine_masks" zK
 ade:Dd K mg "do_all" FE
def Ac(K:aI)(D:List (Key×V))(a:String)(x:Str)(st:cD):Prop:=∃f fd,dX D (.inr (MX.S (aC a)))=some (.ref f)/\aD K x x st f fd
def A_(K:aI)(R:Cl)(D:List (Key×V))(a:String)(x:Str)(st:cD)(j:Nat)(q:Str):Prop:=∃f fd cd Pl,dX D (.inr (MX.S (aC a)))=some (.ref f)/\aD K x x st f fd/\ ∀base:aR,K.In base->xj base fd R j (qv st) q cd Pl
structure Hx(K:aI)(R:Cl)(D:List (Key×V)):Prop where
 lanes:Ac K D "lanes" "do_lanes" E7
 const:Ac K D "const" "do_const" E_
 fill:Ac K D "fill" "do_fill" Fb
 copy:Ac K D "copy" "do_copy" Fd
 one:Ac K D "one" "do_one" Fe
 two:Ac K D "two" "do_two" Ff
 read:Ac K D "read" "do_read" Fg
 pick:Ac K D "pick" "do_pick" Fh
 write:Ac K D "write" "do_write" Fj
 test:Ac K D "test" "do_test" Fl
 tail:Ac K D "tail" "do_tail" Fn
 both:A_ K R D "both" "do_both" wD 0 "do_both.<locals>.<lambda>"
 less:A_ K R D "less" "do_less" wF 1 "do_less.<locals>.<lambda>"
 either:A_ K R D "either" "do_either" wG 2 "do_either.<locals>.<lambda>"
 count:Ac K D "count" "do_count" Fp
 num:Ac K D "num" "do_num" Fq
 width:Ac K D "width" "do_width" Fs
 «calc»:Ac K D "calc" "do_calc" Ft
 get:Ac K D "get" "do_get" Fv
 put:Ac K D "put" "do_put" Fw
 for_:Ac K D "for" "do_for" Fy
 when:Ac K D "when" "do_when" Fz
 raise:Ac K D "raise" "do_raise" FD
section
variable{R:Cl}{D:List (Key×V)}
def N6(d:A9 K mg)(e:EK K R):fj P w K mg base R:=by
 obtain⟨_,_,F1⟩:=d.vector;obtain⟨_,_,F2⟩:=d.ac4;obtain⟨_,_,F3⟩:=d.scalar;obtain⟨_,_,F4⟩:=d.hold;obtain⟨_,_,F5⟩:=d.ac5;obtain⟨_,_,F6⟩:=d.fail;exact⟨e,abz F1 e,abA F2 e,abB F3 e,abC F4 e,abD F5 e,abE F6 e⟩
def Ba{S:cw->Prop}{i:cw}{h:Nat}{vs:List V}{H:Hp}{Q:VK}{E:XK}(hp:∀n,eh n i h->lQ n i)(hs:S i)(q:pj R h i vs H Q E):fL R S vs H Q E:=by
 obtain⟨H0,L,x,n,t,e,r,hI,ok,q⟩:=q;obtain⟨b,c,T⟩:=hI.told;exact⟨H0,L,x,n,t,i,b,c,e,hs,r,T,hp _ ok,q⟩
def adf{S:cw->Prop}{i:cw}{h:Nat}{vs:List V}{H:Hp}{Q:VK}{E:XK}(hp:∀n,eh n i h->lQ n i)(hk:∀x n,∃y,cx i x n=.ok y)(hs:S i)(q:pj R h i vs H Q E):fL R S vs H Q E0:=by
 obtain⟨H0,L,x,n,t,e,r,hI,ok,q⟩:=q;obtain⟨b,c,T⟩:=hI.told;refine⟨H0,L,x,n,t,i,b,c,e,hs,r,T,hp _ ok,?_⟩;obtain⟨y,ey⟩:=hk x n;rw[ey] at q⊢;exact q
structure Bb(P:bQ)(w:bB)(K:aI)(mg:Str->Option ai)(base:aR)(R:Cl)(D:List (Key×V)):Prop where
 d:A9 K mg
 g:GI mg
 e:EK K R
 o:xb P w K mg base
 s:nZ K mg R
 n:Hx K R D
 bm:BM mg base
 dB:K.In base
def jT{i:cw}{h k:Nat}{a:String}{x:Str}{st:cD}{S:cw->Prop}(A:Ac K D a x st)(ok:∀{f:ae} {fd:dP},aD K x x st f fd->aB P w K mg base au k f fd ["run","told"] (fL R S))(hs:S i)(ea:(MP.toldOf i).act=aC a:=by rfl)(hk:k<=4:=by decide)
 (hp:∀n,eh n i h->lQ n i:=by intro _ z;simpa only[eh] using z) (hd:∀x n,∃y,cx i x n=.ok y:=by intro _ _;exact⟨_,by rw[cx]⟩) (b:∀{f:ae} {fd:dP},aD K x x st f fd->Binds K fd ["run","told"] []:=by exactλF=>F.b2 "run" "told"):∃f,dX D (.inr (MX.S (MP.toldOf i).act))=some (.ref f)/\n6 P w K mg base 4 f (pj R h i):=by
 obtain⟨f,fd,e,F⟩:=A;exact⟨f,by rw[ea];exact e,F.kp,fd,["run","told"],b F,.inl ⟨_,(ok F).mono hk,λvs H Q X q=>adf hp hd hs q⟩⟩
def Bc{i:cw}{h k:Nat}{a:String}{x:Str}{st:cD}{S:cw->Prop}(A:Ac K D a x st)(ok:∀{f:ae} {fd:dP},aD K x x st f fd->aB P w K mg base (bf P w) k f fd ["run","told"] (fL R S))(hs:S i)(ea:(MP.toldOf i).act=aC a:=by rfl)(hk:k<=4:=by decide)
 (hp:∀n,eh n i h->lQ n i:=by intro _ z;simpa only[eh] using z) (b:∀{f:ae} {fd:dP},aD K x x st f fd->Binds K fd ["run","told"] []:=by exactλF=>F.b2 "run" "told"):∃f,dX D (.inr (MX.S (MP.toldOf i).act))=some (.ref f)/\n6 P w K mg base 4 f (pj R h i):=by
 obtain⟨f,fd,e,F⟩:=A;exact⟨f,by rw[ea];exact e,F.kp,fd,["run","told"],b F,.inr ⟨_,(ok F).mono hk,λvs H Q X q=>Ba hp hs q⟩⟩
def N7{i:cw}{n h:Nat}(E:Bb P w K mg base R D)(hi:lQ n i):∃f,dX D (.inr (MX.S (MP.toldOf i).act))=some (.ref f)/\n6 P w K mg base 4 f (pj R h i):=by
 have G:fj P w K mg base R:=N6 E.d E.e;obtain⟨_,_,F1⟩:=E.d.ac6;have GF:=abH (P:=P) (w:=w) (base:=base) F1 G;obtain⟨_,_,F2⟩:=E.d.ac7;have GT:=abR (P:=P) (w:=w) (base:=base) F2 G E.g;obtain⟨_,_,F3⟩:=E.d.ac9;have GL:=ab2 (P:=P) (w:=w) (base:=base) F3 E.e E.g E.s;obtain⟨_,_,F4⟩:=E.d.N5;have GR:=NJ (P:=P) (w:=w) (base:=base) F4 E.e E.s;obtain⟨_,_,F5⟩:=E.d.adb;have GC:=acs (P:=P) (w:=w) (base:=base) F5 G E.g;cases i with
 |lanes d m=>
  exact jT E.n.lanes (λF=>abF F G) ⟨d,m,rfl⟩
 |const d k m=>
  exact jT E.n.const (λF=>abI F G GF) ⟨d,k,m,rfl⟩
 |fill d s m=>
  exact jT E.n.fill (λF=>abJ F G GF) ⟨d,s,m,rfl⟩
 |copy d a m=>
  exact jT E.n.copy (λF=>abK F G) ⟨d,a,m,rfl⟩
 |one o d a p m=>
  exact jT E.n.one (λF=>abN F G E.o) ⟨o,d,a,p,m,rfl⟩
 |two o d a b p m=>
  exact jT E.n.two (λF=>abO F G E.o) ⟨o,d,a,b,p,m,rfl⟩
 |read d r a m=>
  exact jT E.n.read (λF=>abS F E.g GT) ⟨d,r,a,m,rfl⟩
 |pick d r a p m=>
  exact jT E.n.pick (λF=>abT F G E.g GT) ⟨d,r,a,p,m,rfl⟩
 |write r a b m=>
  exact jT E.n.write (λF=>abU F G E.g) ⟨r,a,b,m,rfl⟩
 |test d a m=>
  exact jT E.n.test (λF=>abV F G) ⟨d,a,m,rfl⟩
 |tail d s=>
  exact jT E.n.tail (λF=>abW F G E.g) ⟨d,s,rfl⟩
 |both d a b=>
  obtain⟨f,fd,cd,Pl,e,F,DL⟩:=E.n.both;exact⟨f,e,F.kp,fd,["run","told"],F.b2 "run" "told",.inr ⟨_,(acu F E.bm (DL base E.dB) GC).mono (by decide),λvs H Q X q=>Ba (λ_ z=>by simpa only[eh] using z) ⟨d,a,b,rfl⟩ q⟩⟩
 |less d a b=>
  obtain⟨f,fd,cd,Pl,e,F,DL⟩:=E.n.less;exact⟨f,e,F.kp,fd,["run","told"],F.b2 "run" "told",.inr ⟨_,(acv F E.bm (DL base E.dB) GC).mono (by decide),λvs H Q X q=>Ba (λ_ z=>by simpa only[eh] using z) ⟨d,a,b,rfl⟩ q⟩⟩
 |either d a b=>
  obtain⟨f,fd,cd,Pl,e,F,DL⟩:=E.n.either;exact⟨f,e,F.kp,fd,["run","told"],F.b2 "run" "told",.inr ⟨_,(acw F E.bm (DL base E.dB) GC).mono (by decide),λvs H Q X q=>Ba (λ_ z=>by simpa only[eh] using z) ⟨d,a,b,rfl⟩ q⟩⟩
 |count d a=>
  exact jT E.n.count (λF=>abX F G E.g) ⟨d,a,rfl⟩
 |num d k=>
  exact jT E.n.num (λF=>abY F G) ⟨d,k,rfl⟩
 |width d=>
  exact jT E.n.width (λF=>abZ F G) ⟨d,rfl⟩
 |«calc» o d a b p=>
  exact Bc E.n.«calc» (λF=>ab0 F G E.o E.s) ⟨o,d,a,b,p,rfl⟩
 |get d v s=>
  exact Bc E.n.get (λF=>ab3 F G GL) ⟨d,v,s,rfl⟩
 |put v s t=>
  exact Bc E.n.put (λF=>ab4 F G GL) ⟨v,s,t,rfl⟩
 |for_ _ _ _=>exact gw hi
 |when _ _ _=>exact gw hi
 |raise=>
  exact Bc E.n.raise (λF=>aci F GR) rfl
end
open MP (aH dq)
structure Ra where
 rd:ae
 iF:ae
 tx:ae
 cd:ae
 gU:ae
 ll:ae
 bl:ae
def Bd(A:Ra)(tk:ae):List (Str×V):=[("text",.ref A.tx),("token",.ref tk),("code",.ref A.cd)]
def og(A:Ra)(k:Nat):List (Str×V):=[("lengths",.ref A.ll),("body",.ref A.bl),("size",.int (k:Nat))]
def iq(l:List Nat):List V:=l.map λ(k:Nat)=>V.int (k:Int)
structure cF(K:aI)(C:Cg)(H0 HS:Hp)(A:Ra)(t:aJ)(ls:List Nat)(ts:aL)(left:Nat)(H:Hp):Prop where
 rd:∃tk,H A.rd=some (.ins C.dw A.iF (Bd A tk))/\pw C t ts tk H
 cd:H A.cd=some (.ins C.code A.gU (og A (512-left)))
 ll:H A.ll=some (.lst (iq ls))
 tx:aF K H0 A.tx (dS t)
 tl:t.length<=20000
 good: ¬bad t.length ts
 le:left<=512
 ln:ls.length<=32
 old:∀b o,H0 b=some o->H b=some o
 set:∀b o,HS b=some o->H b=some o
 n0:H0 A.rd=none/\H0 A.cd=none/\H0 A.ll=none/\H0 A.bl=none
 nS:HS A.rd=none/\HS A.cd=none/\HS A.ll=none/\HS A.bl=none
 sn:∀b o,HS b=some o->H0 b=none
 bt:∃xs,H A.bl=some (.lst xs)
def Kr(A:Ra)(H H':Hp):Prop:=∀b o,H b=some o->b≠A.rd->b≠A.cd->H' b=some o
def Kr.refl{A:Ra}{H:Hp}:Kr A H H:=λ_ _ e _ _=>e
def Rr{A:Type}(C:Cg)(E:XK)(H0:Hp)(r:Except Nat A)(k:A->Prop):Prop:=match r with
 | .ok x=>k x
 | .error p=>pq C E H0 p
section
variable{C:Cg}{E:XK}{H0:Hp}{A B:Type}
theorem Rr.bind{r:Except Nat A}{f:A->Except Nat B}{k:B->Prop}(h:Rr C E H0 (r.bind f) k):Rr C E H0 r λx=>Rr C E H0 (f x) k:=by
 cases r with
 |ok x=>exact h
 |error p=>exact h
def Rr.mono{r:Except Nat A}{k k':A->Prop}(h:Rr C E H0 r k)(i:∀x,k x->k' x):Rr C E H0 r k':=by
 cases r with
 |ok x=>exact i x h
 |error p=>exact h
theorem Rr.also{r:Except Nat (A×aL)}{f:A->B}{k:B×aL->Prop}(h:Rr C E H0 (j3 f r) k):Rr C E H0 r λx=>k (f x.1,x.2):=by
 cases r with
 |ok x=>exact h
 |error p=>exact h
end
section
variable{C:Cg}{H0 HS H H':Hp}{A:Ra}{t:aJ}{ls:List Nat}{ts us:aL}{left:Nat}
def cF.more(r:cF K C H0 HS A t ls ts left H)(k:∀b o,H b=some o->H' b=some o):cF K C H0 HS A t ls ts left H':=
 ⟨let ⟨tk,h1,h2⟩:=r.rd;⟨tk,k _ _ h1,h2.mono k⟩,k _ _ r.cd,k _ _ r.ll,r.tx,r.tl,r.good,r.le,r.ln,λb o e=>k _ _ (r.old b o e),λb o e=>k _ _ (r.set b o e),r.n0,r.nS,r.sn,let ⟨o,h⟩:=r.bt;⟨o,k _ _ h⟩⟩
def N8(r:cF K C H0 HS A t ls ts left H):A.cd≠A.rd:=by
 obtain⟨tk,h1,h2⟩:=r.rd;exact cE r.cd h1 (by intro z;injection z with _ _ z;injection z with z _;injection z with z _;revert z;decide)
def cF.token(r:cF K C H0 HS A t ls ts left H){tk:ae}(g: ¬bad t.length us)(k:∀b o,H b=some o->H' b=some o)(hn:H tk=none)(h:pw C t us tk H'):
 cF K C H0 HS A t ls us left (upd H' A.rd (.ins C.dw A.iF (Bd A tk)))/\Kr A H (upd H' A.rd (.ins C.dw A.iF (Bd A tk))):=by
 obtain⟨tk0,h1,h2⟩:=r.rd;have tr:tk≠A.rd:=λz=>by rw[z,h1] at hn;cases hn
 have lr:A.ll≠A.rd:=cE r.ll h1 (by intro z;cases z)
 have kk:∀b o,H b=some o->b≠A.rd->upd H' A.rd (.ins C.dw A.iF (Bd A tk)) b=some o:=λb o e n=>by rw[ak n];exact k b o e
 refine⟨⟨⟨tk,aA,?_⟩,kk _ _ r.cd (N8 r),kk _ _ r.ll lr,r.tx,r.tl,g,r.le,r.ln,λb o e=>kk _ _ (r.old b o e) (λz=>by rw[z,r.n0.1] at e;exact ns e),λb o e=>kk _ _ (r.set b o e) (λz=>by rw[z,r.nS.1] at e;exact ns e),r.n0,r.nS,r.sn,let ⟨o,h⟩:=r.bt;⟨o,kk _ _ h (cE h h1 (by intro z;cases z))⟩⟩,λb o e n _=>kk b o e n⟩
 obtain⟨dx,x,e,a1,a2⟩:=h;exact⟨dx,x,e,by rw[ak tr];exact a1,a2⟩
end
structure jU(K:aI)(C:Cg):Prop where
 cls:iz K C.dw
 text:dD K C.dw "text"
 token:dD K C.dw "token"
 code:dD K C.dw "code"
 je:iz K C.code
 lengths:dD K C.code "lengths"
 body:dD K C.code "body"
 size:dD K C.code "size"
 tok:AX K C
section
variable{R:Cl}{C:Cg}
inductive N9(K:aI)(C:Cg)(vs:List V)(H:Hp)(Q:VK)(E:XK):Prop
 |mk (H0 HS A t ls ts left:_) (_:vs=[.ref A.rd]) (_:cF K C H0 HS A t ls ts left H) (_:Vaarrj.next ts≠ .none) (_:Rr C E H0 (dq t.length ts) λu=>∀H',cF K C H0 HS A t ls u.2 left H'->Kr A H H'->Q .aM H')
def adg(F:aD K "advance" "Reader.advance" wI f fd)(k:jU K C)(GT:aK P w K mg base (bf P w) 5 "token_at" ["text","at"] (xt K C)):aB P w K mg base (bf P w) 6 f fd ["self"] (N9 K C):=by
 refine F.oX ZT λ_ A _ _ H vs Q E hr h=>?_;obtain⟨H0,HS,A,t,ls,ts,left,rfl,r,hn,q⟩:=h;refine⟨_,aw (cT (pv 0) (aV GT hr cS (ah (aN (pv 0) rfl) (ah (aN (aN (pv 0) rfl) rfl) aj))) rfl),?_⟩;obtain⟨tk,h1,dx,x,e,h2,h3,h4,h5,h6⟩:=r.rd;refine⟨_,rfl,_,_,_,_,_,rfl,h1,k.cls,k.text,rfl,_,rfl,_,_,_,_,_,rfl,h1,k.cls,k.token,rfl,_,_,_,_,_,rfl,h2,k.tok.cls,k.tok.end_,rfl,?_⟩;refine⟨H0,_,t,e,rfl,t9.seq r.old r.tx,h5,r.tl,r.old,λb=>?_,λb H' k2 hs hk px=>?_⟩
 ·rw[<-h6 hn] at b⊢;rw[MP.DS b] at q;exact q
 ·rw[<-h6 hn] at b px;rw[MP.DT b] at q;refine⟨_,rfl,_,_,_,_,rfl,hs _ _ h1,k.cls,k.token,(by show 3<1000;decide),?_⟩
  obtain⟨r2,k3⟩:=r.token b hs hk px;exact q _ r2 k3
end
open Vaarrj (runCode)
section
variable{R:Cl}{D:List (Key×V)}{C:Cg}
theorem n6.mono{j k:Nat}{f:ae}{sp:Sp}(A:n6 P w K mg base j f sp)(h:j<=k):n6 P w K mg base k f sp:=by
 obtain⟨kp,fd,ps,b,⟨iW,F,im⟩|⟨iW,F,im⟩⟩:=A
 ·exact⟨kp,fd,ps,b,.inl ⟨iW,F.mono h,im⟩⟩
 ·exact⟨kp,fd,ps,b,.inr ⟨iW,F.mono h,im⟩⟩
def Hy(K:aI)(w:bB)(mg:Str->Option ai)(D:List (Key×V)):Prop:=∃a,mg "ACTIONS"=some (.ref a)/\Tab K w a D
def N_(i:cw):(∃d c b,i=.for_ d c b)\/(∃s b c,i=.when s b c)\/∀n h,eh n i h->lQ n i:=by
 cases i with
 |for_ d c b=>exact .inl ⟨d,c,b,rfl⟩
 |when s b c=>exact .inr (.inl ⟨s,b,c,rfl⟩)
 |_=>exact .inr (.inr λn h z=>by simpa only[eh] using z)
def adh(E:Bb P w K mg base R D)(T:Hy K w mg D):∀h,aK P w K mg base (bf P w) (2*h+5) "do_all" ["run","body"] (AO R h):=by
 obtain⟨_,_,F1⟩:=E.d.ac8;have GS:=acb (P:=P) (w:=w) (base:=base) F1 E.g E.e E.s;have G:fj P w K mg base R:=N6 E.d E.e;obtain⟨f,fd,F⟩:=E.d.ade;obtain⟨ta,mT,tab⟩:=T;have b:=F.1.b2 "run" "body";intro h
 induction h with
 |zero=>
  have A:ActT P w K mg base R (1+3) 0:=⟨ta,D,mT,tab,λi n ok=>by
   rcases N_ i with⟨d,c,bb,rfl⟩|⟨s,bb,c,rfl⟩|pl
   ·simp only[eh] at ok;obtain⟨_,_,k,hk,_⟩:=ok;cases hk
   ·simp only[eh] at ok;obtain⟨_,k,hk,_⟩:=ok;cases hk
   ·exact N7 E (pl n 0 ok)⟩
  exact⟨f,fd,NI F.1 E.e GS A,F.2,F.1.kp,b⟩
 |succ h ih=>
  have A:ActT P w K mg base R ((2*h+3)+3) (h+1):=⟨ta,D,mT,tab,λi n ok=>by
   rcases N_ i with⟨d,c,bb,rfl⟩|⟨s,bb,c,rfl⟩|pl
   ·obtain⟨f1,Hz,e1,F1⟩:=E.n.for_;exact⟨f1,e1,F1.kp,Hz,["run","told"],F1.b2 "run" "told",.inr ⟨_,aco (k:=2*h+1) (h:=h) F1 G E.g GS ih,λvs H Q X q=>⟨d,c,bb,q⟩⟩⟩
   ·obtain⟨f1,Hz,e1,F1⟩:=E.n.when;exact⟨f1,e1,F1.kp,Hz,["run","told"],F1.b2 "run" "told",.inr ⟨_,acp (k:=2*h+1) (h:=h) F1 G ih,λvs H Q X q=>⟨s,bb,c,q⟩⟩⟩
   ·obtain⟨f1,e1,A1⟩:=N7 (h:=h+1) E (pl n (h+1) ok);exact⟨f1,e1,A1.mono (by lia)⟩⟩
  exact⟨f,fd,NI F.1 E.e GS A,F.2,F.1.kp,b⟩
def adi(R:Cl)(H0 H:Hp)(r:yi)(Q:VK)(E:XK):Prop:=match r with
 | .ok y=>∀H' L,bH R H0 L y.1 y.2 H'->(∀b o,H b=some o->b∉R.cf->H' b=some o)->(∀b∈(L.reg::L.vs::L.ms::L.ar::L.ss::L.fa::(L.va++(L.ma++L.aa))),H b=none)->L.ar≠L.vs->L.ar≠L.ms->Q (.ref L.run) H'
 | .error e=>∀H' d,(∀b o,H b=some o->b∉R.cf->H' b=some o)->jd R H'->H' d=some (fK d [("kind",.int (e.1:Nat)),("place",.int (e.2:Nat))])->E (.ref R.stop) (some d) H'
inductive HA(R:Cl)(C:Cg)(vs:List V)(H:Hp)(Q:VK)(E:XK):Prop
 |mk (H0 cd gU fs bl ts ls b w a0 jS arr n:_) (_:vs=[.ref cd,.int ((w:Nat):Int),.ref a0,.int ((n:Nat):Int)]) (_:H cd=some (.ins C.code gU fs)) (_:fs.lookup ("body":Str)=some (.ref bl)) (_:xn R H0 H w a0 jS arr) (_:H0 bl=some (.lst (ts.map V.ref))) (_:b8 R H0 b ts) (_:fJ arr.length b 8) (_:adi R H0 H (runCode ⟨ls,b⟩ w arr n) Q E)
def adj{f:ae}{fd:dP}(F:aD K "finished_run" "finished_run" FG f fd)(E:Bb P w K mg base R D)(T:Hy K w mg D)(RC:so K mg R)(k:jU K C):aB P w K mg base (bf P w) 22 f fd ["code","width","arrays","budget"] (HA R C):=by
 obtain⟨fr,ip,Mr,Fr,mR⟩:=RC.run;have GR:aB P w K mg base au 3 fr ip ["self","width","arrays","budget"] (N2 R):=ac3 Fr E.g E.e RC;have bR:=Fr.b4 "self" "width" "arrays" "budget";have GA:=adh E T 8;obtain⟨_,_,F4⟩:=E.d.N5;have GF:=NJ (P:=P) (w:=w) (base:=base) F4 E.e E.s;refine F.Mx M8 (λvs H Q E h=>?_) (λb9 A outer s H vs Q E1 hr h=>?_)
 ·obtain⟨_,_,_,_,_,_,_,_,_,_,_,_,_,rfl,_⟩:=h;rfl
 obtain⟨H0,cd,gU,fs,bl,ts,ls,b,w,a0,jS,arr,n,rfl,fz,eQ,rd,h0b,hB,ok,q⟩:=h;refine⟨_,ay (bE 4 M8.nd (j' Mr GR (hr.mono (by decide)) rfl mR bR .nil aW (ah (pv 1) (ah (pv 2) (ah (pv 3) aj)))))
  (ay (bK (aV GA hr cS (ah (pv 4) (ah (aN (pv 0) rfl) aj))))
  (ay (bK (aV GF (hr.mono (by decide)) cS (ah (pv 4) aj)))
  (aw (bh (pv 4))))),?_⟩
 refine⟨_,rfl,_,rfl,_,rfl,λx dx nx nd ne=>?_⟩;have up:∀c u,H c=some u->upd (upd H dx (.own x)) x (.ins R.run dx []) c=some u:=λc u e=>by rw[ak (bw e nx),ak (bw e nd)];exact e
 have rd2:xn R H0 (upd (upd H dx (.own x)) x (.ins R.run dx [])) w a0 jS arr:=⟨rd.w1,rd.w2,⟨up _ _ rd.arr.l,rd.arr.n,λk b hb=>up _ _ (rd.arr.at_ k b hb)⟩,rd.al,rd.nums,rd.tb.mono up,rd.tl,rd.tn,λc u e=>up _ _ (rd.old c u e),rd.ot⟩;have h0x:H0 x=none:=by
  cases z:H0 x with
  |none=>rfl
  |some u=>rw[rd.old _ _ z] at nx;exact sn nx
 refine⟨H0,x,dx,w,a0,jS,arr,n,rfl,aA,h0x,rd2,λH1 L bg=>⟨rfl,?_⟩⟩;obtain⟨rA,eL,eLx,kp1,frL,a1,a2⟩:=bg;subst eL;have k1:∀c u,H c=some u->H1 c=some u:=λc u e=>kp1 c u (up c u e) (bw e nx);have Be:∀c∈(L.reg::L.vs::L.ms::L.ar::L.ss::L.fa::(L.va++(L.ma++L.aa))),H c=none:=λc hc=>by
  cases z:H c with
  |none=>rfl
  |some u=>have:=frL c hc;rw[up c u z] at this;exact sn this
 have nm:∀c u,H c=some u->c∉R.cf-> ¬L.mut c:=λc u e ht hm=>by
  have h:=Rn.NT hm;rw[Rn.flat,rA.tb] at h;simp only[cC,gO] at h;rcases h with z|z|z|z|z
  ·rw[z,nx] at e;exact ns e
  ·rw[Be c (by simp[z])] at e;exact ns e
  ·rw[Be c (by simp[z])] at e;exact ns e
  ·exact ht z
  ·rw[Be c (by simp only[cC,gO];right;right;right;right;right;right;exact z)] at e;exact ns e
 have keep:∀{H2:Hp},Kp L H1 H2->∀c u,H c=some u->c∉R.cf->H2 c=some u:=λkp c u e ht=>kp c u (k1 c u e) (nm c u e ht);refine⟨_,rfl,_,rfl,_,_,_,_,_,rfl,k1 _ _ fz,k.je,k.body,eQ,?_⟩;refine⟨H0,L,_,n,bl,ts,b,rfl,rA,h0b,hB,ok,?_⟩;unfold runCode at q;cases ed:eY b (tq w arr) n with
 |error er=>
  simp only[ed] at q;exactλH2 d kp tb hd=>q H2 d (keep kp) tb hd
 |ok y=>
  simp only[ed] at q;refineλH2 r2 qu=>⟨_,rfl,H0,L,y.1,y.2,rfl,r2,?_⟩;unfold raised at q;cases ff:yk y.1 with
  |some er=>
   simp only[ff] at q;exactλH3 d kp tb hd=>q H3 d (keep (qu.trans kp)) tb hd
  |none=>
   simp only[ff] at q;exact⟨_,rfl,q H2 L r2 (keep qu) Be a1 a2⟩
end
section
variable{R:Cl}{C:Cg}
inductive N'(K:aI)(C:Cg)(vs:List V)(H:Hp)(Q:VK)(E:XK):Prop
 |mk (H0 HS A t ls ts left b:_) (_:vs=[.ref A.rd,.bl b]) (_:cF K C H0 HS A t ls ts left H) (_:(b=true->Q .aM H)) (_:(b=false->pq C E H0 (here ts)))
def adk(F:aD K "refuse_unless" "Reader.refuse_unless" wJ f fd)(k:jU K C)(FC:n9 K mg C):aB P w K mg base (bf P w) 3 f fd ["self","fits"] (N' K C):=by
 obtain⟨NF,ff,sk,FK,mF⟩:=FC.ex;have GF:aB P w K mg base au 1 ff sk ["self","position"] (xq C.my):=Hk FK;have bF:=FK.fn.b2 "self" "position";refine F.oX ZV λ_ A _ _ H vs Q E hr h=>?_;obtain⟨H0,HS,A,t,ls,ts,left,b,rfl,r,q1,q2⟩:=h;refine⟨_,aw (bZ (lD (gZ (pv 1))) (aw (rT FK.cls GF hr bF rfl rfl rS rfl mF (ah (aN (aN (pv 0) rfl) rfl) aj))) cJ),?_⟩;obtain⟨tk,h1,dx,x,e,h2,h3,h4,h5,h6⟩:=r.rd;refine⟨_,rfl,_,rfl,?_⟩;cases b with
 |true=>exact dY (q1 rfl)
 |false=>
  refine du ⟨_,rfl,_,_,_,_,_,rfl,h1,k.cls,k.token,rfl,_,_,_,_,_,rfl,h2,k.tok.cls,k.tok.start,rfl,(by show 1<=sizeLine;rw[aP];decide),λy hy=>Hl (q2 rfl) r.old hy⟩
structure qz(P:bQ)(w:bB)(K:aI)(mg:Str->Option ai)(base:aR)(C:Cg):Prop where
 k:jU K C
 dq:∃f fd,Meth K C.dw "advance" f/\aB P w K mg base (bf P w) 6 f fd ["self"] (N9 K C)/\Binds K fd ["self"] []
 ref:∃f fd,Meth K C.dw "refuse_unless" f/\aB P w K mg base (bf P w) 3 f fd ["self","fits"] (N' K C)/\Binds K fd ["self","fits"] []
inductive Oa(K:aI)(C:Cg)(vs:List V)(H:Hp)(Q:VK)(E:XK):Prop
 |mk (H0 HS A t ls ts left c:_) (_:vs=[.ref A.rd,.str (S [c])]) (_:(c=59\/c=123\/c=125\/c=64\/c=63\/c=95)) (_:cF K C H0 HS A t ls ts left H) (_:Rr C E H0 (aH t.length (Jx c ts)) λu=>∀H',cF K C H0 HS A t ls u.2 left H'->Kr A H H'->Q .aM H')
def adl{x y:aJ}:S x=S y↔x=y:=⟨MX.lX,λh=>by rw[h]⟩
def adm(F:aD K "pass_by" "Reader.pass_by" wK f fd)(M:qz P w K mg base C):aB P w K mg base (bf P w) 7 f fd ["self","text"] (Oa K C):=by
 obtain⟨fa,kY,ma,Ga,ba⟩:=M.dq;obtain⟨fr,ip,mr,Gr,br⟩:=M.ref;refine F.oX ZX λ_ A _ _ H vs Q E hr h=>?_;obtain⟨H0,HS,A,t,ls,ts,left,c,rfl,hc,r,q⟩:=h;have fk:=hr.mono (show 3<=6 by decide)
 refine⟨_,ay (bK (jm (pv 0) M.k.cls mr Gr fk br .nil cS (ah (oO fT (aN (aN (pv 0) rfl) rfl) (pv 1) (bO _)) aj)))
  (aw (bK (nL (pv 0) M.k.cls ma Ga hr ba .nil cS))),?_⟩
 obtain⟨tk,h1,dx,x,e,h2,h3,h4,h5,h6⟩:=r.rd;rw[MP.Vl] at q;refine⟨_,rfl,_,_,_,rfl,h1,rfl,_,rfl,_,_,_,_,_,rfl,h1,M.k.cls,M.k.token,rfl,_,_,_,_,_,rfl,h2,M.k.tok.cls,M.k.tok.text,rfl,_,rfl,rfl,?_⟩;refine⟨H0,HS,A,t,ls,ts,left,_,rfl,r,λz=>?_,λz=>?_⟩
 ·have z:=of_decide_eq_true z;have z:S x=S [c]:=by injection z
  have z:=(h3.sign hc).mp (adl.mp z);rw[if_pos z] at q;refine⟨_,rfl,_,_,_,rfl,h1,rfl,H0,HS,A,t,ls,ts,left,rfl,r,(by rw[z];exactλy=>nomatch y),q⟩
 ·have z:=of_decide_eq_false z;rw[if_neg λy=>z (by rw[(h3.sign hc).mpr y])] at q
  exact q
inductive Ob(K:aI)(C:Cg)(vs:List V)(H:Hp)(Q:VK)(E:XK):Prop
 |mk (H0 HS A t ls ts left m:_) (_:vs=[.ref A.rd,.int ((m:Nat):Int)]) (_:((m:Nat):Int)<=qT) (_:cF K C H0 HS A t ls ts left H) (_:Rr C E H0 (aH t.length (MP.fU m ts)) λu=>∀H',cF K C H0 HS A t ls u.2 left H'->Kr A H H'->Q (.int ((u.1:Nat):Int)) H')
def adn{x:aJ}{m:Int}(h:ej x m≠none):Vaarrj.oneWay x=true:=by
 unfold MP.ej at h
 split at h
 ·rename_i z;exact z.2.1
 ·exact absurd rfl h
def ado(F:aD K "number_up_to" "Reader.number_up_to" wL f fd)(M:qz P w K mg base C)(GN:aK P w K mg base au 1 "decimal" ["digits","most"] qx):aB P w K mg base (bf P w) 7 f fd ["self","most"] (Ob K C):=by
 obtain⟨fa,kY,ma,Ga,ba⟩:=M.dq;obtain⟨fr,ip,mr,Gr,br⟩:=M.ref;refine F.oX M' λ_ A _ _ H vs Q E hr h=>?_;obtain⟨H0,HS,A,t,ls,ts,left,m,rfl,hm,r,q⟩:=h;have cN:=hr.mono (show 1<=6 by decide)
 have fk:=hr.mono (show 3<=6 by decide)
 refine⟨_,ay (bE 2 M'.nd (aV GN cN aW (ah (aN (aN (pv 0) rfl) rfl) (ah (pv 1) aj))))
  (ay (bK (jm (pv 0) M.k.cls mr Gr fk br .nil cS (ah (yz (yy (pv 2))) aj)))
  (ay (bK (nL (pv 0) M.k.cls ma Ga hr ba .nil cS))
  (aw (bh (pv 2))))),?_⟩
 obtain⟨tk,h1,dx,x,e,h2,h3,h4,h5,h6⟩:=r.rd;have eg:qT=1000000000000000000:=rfl;rw[eg] at hm;rw[MP.Vm h3 (by rw[eg];exact hm)] at q
 refine⟨_,rfl,_,_,_,_,_,rfl,h1,M.k.cls,M.k.token,rfl,_,_,_,_,_,rfl,h2,M.k.tok.cls,M.k.tok.text,rfl,_,rfl,x,(m:Int),rfl,h3.ascii,h4,by lia,by lia,?_⟩
 cases ed:ej x (m:Nat) with
 |none=>
  rw[ed] at q;refine⟨_,rfl,_,_,_,rfl,h1,rfl,_,rfl,H0,HS,A,t,ls,ts,left,_,rfl,r,(λz=>nomatch z),λ_=>q⟩
 |some k=>
  rw[ed] at q;have q:=q.also;refine⟨_,rfl,_,_,_,rfl,h1,rfl,_,rfl,H0,HS,A,t,ls,ts,left,_,rfl,r,λ_=>?_,λz=>nomatch z⟩;have nn:Vaarrj.next ts≠ .none:=λz=>by
   have:x=[]:=h3.none.mpr z;have:=adn (x:=x) (m:=(m:Int)) (by rw[ed];exactλy=>nomatch y)
   rw[‹x=[]›] at this;cases this
  exact⟨_,rfl,_,_,_,rfl,h1,rfl,H0,HS,A,t,ls,ts,left,rfl,r,nn,q.mono λu hu H' r' k'=>⟨_,rfl,hu H' r' k'⟩⟩
end
structure Ta where
 td:ae
 fZ:ae
 pl:ae
 ol:ae
 bb:ae
 cc:ae
def dO(D:Ta)(τ:MP.Told):List (Str×V):=[("action",.str (S τ.act)),("operator",.str (S τ.op)),("parts",.ref D.pl),("operands",.ref D.ol),("place",.int ((τ.place:Nat):Int)),("mask",mV τ.mask),("body",.ref D.bb),("otherwise",.ref D.cc)]
structure fq(R:Cl)(H0 HS:Hp)(A:Ra)(D:Ta)(τ:MP.Told)(H:Hp):Prop where
 td:H D.td=some (.ins R.ins D.fZ (dO D τ))
 pl:H D.pl=some (.lst (τ.parts.map λx=>V.str (S x)))
 ol:H D.ol=some (.lst (τ.args.map V.int))
 ne:D.td≠A.rd/\D.td≠A.cd/\D.pl≠D.ol/\D.pl≠A.ll/\D.ol≠A.ll
 n0:H0 D.td=none/\H0 D.pl=none/\H0 D.ol=none
 nS:HS D.td=none/\HS D.pl=none/\HS D.ol=none
 lp:τ.parts.length<=100
 la:τ.args.length<=100
def Kd(A:Ra)(D:Ta)(H H':Hp):Prop:=∀b o,H b=some o->b≠A.rd->b≠A.cd->b≠D.td->b≠D.pl->b≠D.ol->H' b=some o
def Kd.of{A:Ra}{D:Ta}{H H':Hp}(k:Kr A H H'):Kd A D H H':=λb o e n1 n2 _ _ _=>k b o e n1 n2
def Kd.trans{A:Ra}{D:Ta}{H H1 H2:Hp}(a:Kd A D H H1)(b:Kd A D H1 H2):Kd A D H H2:=λc o e n1 n2 n3 n4 n5=>b c o (a c o e n1 n2 n3 n4 n5) n1 n2 n3 n4 n5
section
variable{R:Cl}{C:Cg}{H0 HS H H':Hp}{A:Ra}{D:Ta}{t:aJ}{ls:List Nat}{ts us:aL}{left:Nat}{τ τ':MP.Told}
def cF.uK(r:cF K C H0 HS A t ls ts left H){x:ae}{o:HO}(h1:x≠A.rd)(h2:x≠A.cd)(h3:x≠A.ll)(h4:∀dx y p e,H x≠some (.ins C.tok dx (xr y p e)))(h5:H0 x=none)(h6:HS x=none)(h7:x=A.bl->∃xs,o=.lst xs):cF K C H0 HS A t ls ts left (upd H x o):=by
 obtain⟨tk,a1,dx,y,e,a2,a3⟩:=r.rd;refine⟨⟨tk,by rw[ak (Ne.symm h1)];exact a1,dx,y,e,?_,a3⟩,by rw[ak (Ne.symm h2)];exact r.cd,by rw[ak (Ne.symm h3)];exact r.ll,r.tx,r.tl,r.good,r.le,r.ln,λb u q=>?_,λb u q=>?_,r.n0,r.nS,r.sn,?_⟩
 ·rw[ak λz=>h4 _ _ _ _ (by rw[<-z];exact a2)];exact a2
 ·rw[ak λz=>by rw[z,h5] at q;exact ns q];exact r.old b u q
 ·rw[ak λz=>by rw[z,h6] at q;exact ns q];exact r.set b u q
 ·obtain⟨xs,hb⟩:=r.bt;by_cases z:A.bl=x
  ·obtain⟨ys,ey⟩:=h7 z.symm;exact⟨ys,by rw[z,aA,ey]⟩
  ·exact⟨xs,by rw[ak z];exact hb⟩
def Oc{dx:ae}{y:aJ}{p e:Nat}{C' dx':ae}:HO.ins C' dx' (dO D τ)≠ .ins C.tok dx (xr y p e):=by
 intro z;injection z with _ _ z;injection z with z _;injection z with z _;revert z;decide
def fq.kr(d:fq R H0 HS A D τ H)(r:cF K C H0 HS A t ls ts left H)(k:Kr A H H'):fq R H0 HS A D τ H':=by
 obtain⟨tk,a1,_⟩:=r.rd;exact⟨k _ _ d.td d.ne.1 d.ne.2.1,k _ _ d.pl (cE d.pl a1 (by intro z;cases z)) (cE d.pl r.cd (by intro z;cases z)),k _ _ d.ol (cE d.ol a1 (by intro z;cases z)) (cE d.ol r.cd (by intro z;cases z)),d.ne,d.n0,d.nS,d.lp,d.la⟩
def fq.fld(d:fq R H0 HS A D τ H)(r:cF K C H0 HS A t ls ts left H)(h1:τ'.parts=τ.parts)(h2:τ'.args=τ.args):cF K C H0 HS A t ls ts left (upd H D.td (.ins R.ins D.fZ (dO D τ')))/\fq R H0 HS A D τ' (upd H D.td (.ins R.ins D.fZ (dO D τ')))/\Kd A D H (upd H D.td (.ins R.ins D.fZ (dO D τ'))):=by
 have e1:D.pl≠D.td:=cE d.pl d.td (by intro z;cases z)
 have e2:D.ol≠D.td:=cE d.ol d.td (by intro z;cases z)
 refine⟨r.uK d.ne.1 d.ne.2.1 (cE d.td r.ll (by intro z;cases z)) (λ_ _ _ _ z=>by rw[d.td] at z;exact Oc (aZ z)) d.n0.1 d.nS.1 (λz=>by obtain⟨xs,hb⟩:=r.bt;rw[<-z,d.td] at hb;cases hb),⟨aA,by rw[ak e1,h1];exact d.pl,by rw[ak e2,h2];exact d.ol,d.ne,d.n0,d.nS,by rw[h1];exact d.lp,by rw[h2];exact d.la⟩,λb o e _ _ n _ _=>by rw[ak n];exact e⟩
def fq.part(d:fq R H0 HS A D τ H)(r:cF K C H0 HS A t ls ts left H)(x:aJ)(hl:τ.parts.length<100):cF K C H0 HS A t ls ts left (upd H D.pl (.lst ((τ.parts.map λx=>V.str (S x))++[.str (S x)])))/\fq R H0 HS A D {τ with parts:=τ.parts++[x]} (upd H D.pl (.lst ((τ.parts.map λx=>V.str (S x))++[.str (S x)])))/\Kd A D H (upd H D.pl (.lst ((τ.parts.map λx=>V.str (S x))++[.str (S x)]))):=by
 obtain⟨tk,a1,_⟩:=r.rd;have e1:D.td≠D.pl:=cE d.td d.pl (by intro z;cases z)
 refine⟨r.uK (cE d.pl a1 (by intro z;cases z)) (cE d.pl r.cd (by intro z;cases z)) d.ne.2.2.2.1 (λ_ _ _ _ z=>by rw[d.pl] at z;cases z) d.n0.2.1 d.nS.2.1 (λ_=>⟨_,rfl⟩),⟨by rw[ak e1];exact d.td,by rw[aA,iw];rfl,by rw[ak (Ne.symm d.ne.2.2.1)];exact d.ol,d.ne,d.n0,d.nS,by simp;lia,d.la⟩,λb o e _ _ _ n _=>by rw[ak n];exact e⟩
def fq.arg(d:fq R H0 HS A D τ H)(r:cF K C H0 HS A t ls ts left H)(x:Int)(hl:τ.args.length<100):cF K C H0 HS A t ls ts left (upd H D.ol (.lst ((τ.args.map V.int)++[.int x])))/\fq R H0 HS A D {τ with args:=τ.args++[x]} (upd H D.ol (.lst ((τ.args.map V.int)++[.int x])))/\Kd A D H (upd H D.ol (.lst ((τ.args.map V.int)++[.int x]))):=by
 obtain⟨tk,a1,_⟩:=r.rd;have e1:D.td≠D.ol:=cE d.td d.ol (by intro z;cases z)
 refine⟨r.uK (cE d.ol a1 (by intro z;cases z)) (cE d.ol r.cd (by intro z;cases z)) d.ne.2.2.2.2 (λ_ _ _ _ z=>by rw[d.ol] at z;cases z) d.n0.2.2 d.nS.2.2 (λ_=>⟨_,rfl⟩),⟨by rw[ak e1];exact d.td,by rw[ak d.ne.2.2.1];exact d.pl,by rw[aA,iw];rfl,d.ne,d.n0,d.nS,d.lp,by simp;lia⟩,λb o e _ _ _ _ n=>by rw[ak n];exact e⟩
end
structure sr(K:aI)(w:bB)(mg:Str->Option ai):Prop where
 two:∃a D,mg "OF_TWO"=some (.ref a)/\Tab K w a D/\D.map (λp:Key×V=>p.1)=eZ.map λx=>kC (S x)
 one:∃a D,mg "OF_ONE"=some (.ref a)/\Tab K w a D/\D.map (λp:Key×V=>p.1)=tj.map λx=>kC (S x)
theorem HB{k:Key}:∀{D:List (Key×V)},(dX D k).isSome=true↔k∈D.map (λp:Key×V=>p.1)
 |[]=>⟨(λh=>by cases h),(λh=>by cases h)⟩
 |p::D=>by
  by_cases z:p.1=k
  ·rw[Dk z];simp[z]
  ·rw[nP z,HB (D:=D),i4,cC];exact⟨.inr,λh=>h.elim (λy=>absurd y.symm z) id⟩
def uL{l:List aJ}{D:List (Key×V)}{x:aJ}(h:D.map (λp:Key×V=>p.1)=l.map λx=>kC (S x)):(dX D (.inr (S x))).isSome=(ym l x).isSome:=by
 cases e:ym l x with
 |some o=>exact HB.mpr (by rw[h];exact mZ.mpr ⟨x,MP.vS e,rfl⟩)
 |none=>
  cases q:(dX D (.inr (S x))).isSome with
  |false=>rfl
  |true=>
   have y:=HB.mp q;rw[h] at y;obtain⟨z,hz,ez⟩:=mZ.mp y;have:z=x:=MX.lX (by injection ez)
   subst this;unfold ym at e;have:=List.findIdx?_eq_none_iff.mp e z hz;simp at this
section
variable{R:Cl}{C:Cg}
inductive Bf(K:aI)(C:Cg)(vs:List V)(H:Hp)(Q:VK)(_:XK):Prop
 |mk (H0 HS A t ls ts left c:_) (_:vs=[.ref A.rd,.str (S [c])]) (_:(c=118\/c=115\/c=109\/c=97)) (_:cF K C H0 HS A t ls ts left H) (_:Q (.int ((MP.countOf ls.length c:Nat):Int)) H)
def adp(F:aD K "how_many" "how_many" Aa f fd)(k:jU K C)(g:GI mg):aB P w K mg base au 1 f fd ["reader","letter"] (Bf K C):=by
 refine F.oK Z0 λ_ A _ s H vs Q E hr h=>?_;obtain⟨H0,HS,A,t,ls,ts,left,c,rfl,hc,r,q⟩:=h;refine⟨_,ay (bZ (bV fT (pv 1) bY (bO _)) (aw (bh (b_ g.Nj))) cJ)
  (ay (bZ (bV fT (pv 1) bY (bO _)) (aw (bh (b_ g.Nk))) cJ)
  (ay (bZ (bV fT (pv 1) bY (bO _)) (aw (bh (b_ g.Nl))) cJ)
  (aw (bh (eV iA (by rfl) g.fX gj (ah (aN (aN (pv 0) rfl) rfl) aj)))))),?_⟩
 obtain⟨tk,h1,dx,x,e,h2,h3,h4,h5,h6⟩:=r.rd;have e1:∀k:Nat,decide ((V.str (S [c]))=V.str (S [k]))=decide (c=k):=λk=>decide_eq_decide.mpr ⟨λz=>by injection z with z;exact(oE (MX.lX z)).1,λz=>by rw[z]⟩
 have ev:(bU "v")=S [118]:=by decide+kernel
 have es:(bU "s")=S [115]:=by decide+kernel
 have em:(bU "m")=S [109]:=by decide+kernel
 refine⟨_,rfl,rfl,_,rfl,?_⟩;rw[ev,e1];refine bX (λz=>?_) λz1=>?_
 ·subst z;exact q
 refine⟨_,rfl,rfl,_,rfl,?_⟩;rw[es,e1];refine bX (λz=>?_) λz2=>?_
 ·subst z;exact q
 refine⟨_,rfl,rfl,_,rfl,?_⟩;rw[em,e1];refine bX (λz=>?_) λz3=>?_
 ·subst z;exact q
 have hc:c=97:=by lia
 subst hc;refine⟨_,rfl,_,_,_,_,_,rfl,h1,k.cls,k.code,rfl,_,_,_,_,_,rfl,r.cd,k.je,k.lengths,rfl,_,_,rfl,.inl (aF.of r.ll),?_⟩;have el:(iq ls).length=ls.length:=by unfold iq;rw[bq]
 rw[el];exact q
def adq(F:Df K mg "how_many" Aa f fd)(k:jU K C)(g:GI mg):aK P w K mg base au 1 "how_many" ["reader","letter"] (Bf K C):=
 ⟨f,fd,adp F.1 k g,F.2,F.1.kp,F.1.b2 "reader" "letter"⟩
inductive xw(K:aI)(C:Cg)(vs:List V)(H:Hp)(Q:VK)(E:XK):Prop
 |mk (H0 HS A t ls ts left c:_) (_:vs=[.ref A.rd,.str (S [c])]) (_:(c=118\/c=115\/c=109\/c=97)) (_:cF K C H0 HS A t ls ts left H) (_:Rr C E H0 (aH t.length (qQ c (MP.countOf ls.length c) ts)) λu=>∀H',cF K C H0 HS A t ls u.2 left H'->Kr A H H'->Q (.int ((u.1:Nat):Int)) H')
def ads(x:aJ):rC (S x) (some 1) none=S (x.drop 1):=by
 unfold rC HT.cK;rw[MX.cM];show(⟨((x.drop (min 1 x.length)).take (x.length-min 1 x.length)).toArray⟩:Str)=S (x.drop 1);cases x with
 |nil=>rfl
 |cons c r=>
  have e:min 1 (c::r).length=1:=by rw[cI];lia
  rw[e,IY (by rw[kF];exact bz _)]
  rfl
def adt(x:aJ):rC (S x) none (some 1)=S (x.take 1):=by
 unfold rC HT.cK;rw[MX.cM];show(⟨((x.drop 0).take (min 1 x.length-0)).toArray⟩:Str)=S (x.take 1);cases x with
 |nil=>rfl
 |cons c r=>
  have e:min 1 (c::r).length=1:=by rw[cI];lia
  rw[e];rfl
def adu(F:aD K "read_named" "read_named" Ab f fd)(M:qz P w K mg base C)(GN:aK P w K mg base au 1 "decimal" ["digits","most"] qx)(GM:aK P w K mg base au 1 "how_many" ["reader","letter"] (Bf K C)):aB P w K mg base (bf P w) 7 f fd ["reader","letter"] (xw K C):=by
 obtain⟨fa,kY,ma,Ga,ba⟩:=M.dq;obtain⟨fr,ip,mr,Gr,br⟩:=M.ref;refine F.oX FP λ_ A _ _ H vs Q E hr h=>?_;obtain⟨H0,HS,A,t,ls,ts,left,c,rfl,hc,r,q⟩:=h;have cN:=hr.mono (show 1<=6 by decide)
 have fk:=hr.mono (show 3<=6 by decide)
 refine⟨_,ay (bE 2 FP.nd (aN (aN (pv 0) rfl) rfl))
  (ay (bE 3 FP.nd (aV GN cN aW (ah (vx K_ (pv 2) (qc aO) Ku) (ah (cy p_ (aV GM cN aW (ah (pv 0) (ah (pv 1) aj))) aO) aj))))
  (ay (bK (jm (pv 0) M.k.cls mr Gr fk br .nil cS (ah (JM (oO fT (vx K_ (pv 2) Ku (qc aO)) (pv 1) (bO _)) (Cn (yz (yy (pv 3))))) aj)))
  (ay (bK (nL (pv 0) M.k.cls ma Ga hr ba .nil cS))
  (aw (bh (pv 3)))))),?_⟩
 obtain⟨tk,h1,dx,x,e,h2,h3,h4,h5,h6⟩:=r.rd;have lc:letter c=true:=by rcases hc with rfl|rfl|rfl|rfl<;>rfl
 have co:MP.countOf ls.length c<=32:=by
  have:=r.ln;unfold MP.countOf
  repeat (first|split|lia)
 rw[MP.Vn h3 lc] at q;have hz:(S x).length<=sizeLine:=by rw[MX.cM,aP];lia
 have asc:∀d∈x.drop 1,d<128:=λd hd=>h3.ascii d (List.mem_of_mem_drop hd);have dl:(x.drop 1).length<=20000:=by rw[kF];lia
 refine⟨_,rfl,_,_,_,_,_,rfl,h1,M.k.cls,M.k.token,rfl,_,_,_,_,_,rfl,h2,M.k.tok.cls,M.k.tok.text,rfl,?_⟩;refine⟨_,rfl,_,rfl,_,rfl,hz,_,rfl,_,rfl,H0,HS,A,t,ls,ts,left,c,rfl,hc,r,_,_,rfl,rfl,?_⟩;rw[ads];refine⟨_,_,rfl,asc,dl,by lia,by lia,?_⟩
 refine⟨_,rfl,_,_,_,rfl,h1,rfl,_,rfl,_,rfl,_,rfl,hz,_,rfl,rfl,_,rfl,?_⟩;rw[adt];have e1:decide ((V.str (S (x.take 1)))=V.str (S [c]))=decide (x.take 1=[c]):=decide_eq_decide.mpr ⟨λz=>by injection z with z;exact MX.lX z,λz=>by rw[z]⟩
 rw[e1];refine bX (λz=>?_) λz=>?_
 ·cases ed:ej (x.drop 1) (((MP.countOf ls.length c:Nat):Int)-1) with
  |none=>
   rw[ed] at q;exact⟨_,rfl,H0,HS,A,t,ls,ts,left,_,rfl,r,(λz=>nomatch z),λ_=>q⟩
  |some k=>
   rw[ed] at q;simp only[z,if_true] at q;have q:=q.also;refine⟨_,rfl,H0,HS,A,t,ls,ts,left,_,rfl,r,λ_=>?_,λz=>nomatch z⟩;have nn:Vaarrj.next ts≠ .none:=λy=>by
    have:x=[]:=h3.none.mpr y;rw[this] at z;cases z
   exact⟨_,rfl,_,_,_,rfl,h1,rfl,H0,HS,A,t,ls,ts,left,rfl,r,nn,q.mono λu hu H' r' k'=>⟨_,rfl,hu H' r' k'⟩⟩
 ·refine⟨H0,HS,A,t,ls,ts,left,_,rfl,r,(λz=>nomatch z),λ_=>?_⟩;cases ed:ej (x.drop 1) (((MP.countOf ls.length c:Nat):Int)-1) with
  |none=>rw[ed] at q;exact q
  |some k=>rw[ed] at q;simp only[z,if_false] at q;exact q
def adw(F:Df K mg "read_named" Ab f fd)(M:qz P w K mg base C)(GN:aK P w K mg base au 1 "decimal" ["digits","most"] qx)(GM:aK P w K mg base au 1 "how_many" ["reader","letter"] (Bf K C)):aK P w K mg base (bf P w) 7 "read_named" ["reader","letter"] (xw K C):=
 ⟨f,fd,adu F.1 M GN GM,F.2,F.1.kp,F.1.b2 "reader" "letter"⟩
end
open MP (d_)
section
variable{R:Cl}{C:Cg}
def Bg(K:aI)(R:Cl)(C:Cg)(H0 HS:Hp)(A:Ra)(D:Ta)(t:aJ)(ls:List Nat)(left:Nat)(H:Hp)(r:Except Nat (MP.Told×aL))(Q:VK)(E:XK):Prop:=
 Rr C E H0 r λu=>∀H',cF K C H0 HS A t ls u.2 left H'->fq R H0 HS A D u.1 H'->Kd A D H H'->Q .aM H'
inductive jV(K:aI)(R:Cl)(C:Cg)(c:Nat)(vs:List V)(H:Hp)(Q:VK)(E:XK):Prop
 |mk (H0 HS A D t ls ts left τ:_) (_:vs=[.ref A.rd,.ref D.td]) (_:cF K C H0 HS A t ls ts left H) (_:fq R H0 HS A D τ H) (_:τ.parts.length<100) (_:τ.args.length<100) (_:(c=63->τ.mask=none)) (_:Bg K R C H0 HS A D t ls left H (aH t.length (d_ ls.length c τ ts)) Q E)
def uM{x:aJ}{c:Nat}:(V.str (S x)=V.str (S [c]))↔x=[c]:=⟨λz=>by injection z with z;exact MX.lX z,λz=>by rw[z]⟩
def adx(F:aD K "read_operator" "read_operator" FQ f fd)(M:qz P w K mg base C)(e:EK K R)(ON:sr K w mg):aB P w K mg base (bf P w) 7 f fd ["reader","told"] (jV K R C 111):=by
 obtain⟨fa,kY,ma,Ga,ba⟩:=M.dq;obtain⟨fr,ip,mr,Gr,br⟩:=M.ref;obtain⟨oa,OD,mO,tab,keys⟩:=ON.two;refine F.oX Z3 λ_ A _ _ H vs Q E hr h=>?_;obtain⟨H0,HS,A,D,t,ls,ts,left,τ,rfl,r,d,lp,la,pz,q⟩:=h;have fk:=hr.mono (show 3<=6 by decide)
 refine⟨_,ay (cT (pv 1) (aN (aN (pv 0) rfl) rfl) rfl)
  (ay (bK (jm (pv 0) M.k.cls mr Gr fk br .nil cS (ah (yz (uo (aN (pv 1) rfl) (iH mO))) aj)))
  (ay (bK (iS i6 lB lC kd (aN (pv 1) rfl) (ah (aN (pv 1) rfl) aj)))
  (aw (bK (nL (pv 0) M.k.cls ma Ga hr ba .nil cS))))),?_⟩
 obtain⟨tk,h1,dx,x,en,h2,h3,h4,h5,h6⟩:=r.rd;have q:Rr C E H0 (aH t.length (j3 (λo=>τ.vJ (fQ eZ o)) (Vaarrj.operator2 ts))) _:=q;rw[MP.gA,MP.Vo h3] at q;refine⟨_,rfl,_,_,_,_,_,rfl,h1,M.k.cls,M.k.token,rfl,_,_,_,_,_,rfl,h2,M.k.tok.cls,M.k.tok.text,rfl,_,rfl,_,_,_,_,rfl,d.td,e.bW,e.nW,(by show 8<1000;decide),?_⟩
 obtain⟨r1,d1,k1⟩:=d.fld (τ':={τ with op:=x}) r rfl rfl
 have ee:az "operator" (.str (S x)) (dO D τ)=dO D {τ with op:=x}:=rfl
 show JN _ _ _ _ (upd H D.td (.ins R.ins D.fZ (az "operator" (.str (S x)) (dO D τ))));rw[ee];generalize upd H D.td (.ins R.ins D.fZ (dO D {τ with op:=x}))=H1 at r1 d1 k1
 obtain⟨uN,g1,g2⟩:=r1.rd;refine⟨_,rfl,_,_,_,rfl,g1,rfl,_,rfl,_,_,_,_,_,rfl,d1.td,e.bW,e.nW,rfl,_,_,.inr (S x),rfl,rfl,tab,H0,HS,A,t,ls,ts,left,_,rfl,r1,λz=>?_,λz=>?_⟩
 ·rw[uL keys] at z;obtain⟨o,ho⟩:=xV.mp z;rw[ho] at q;have q:=q.also.also;obtain⟨hl,hx⟩:=MP.rF ho;obtain⟨r2,d2,k2⟩:=d1.part r1 x lp;refine⟨_,rfl,_,_,_,_,_,rfl,d1.td,e.bW,e.pd,rfl,.inl ⟨rfl,_,aF.of d1.pl⟩,_,rfl,_,_,_,_,_,rfl,d1.td,e.bW,e.nW,rfl,_,_,_,rfl,rfl,d1.pl,(by rw[bq,aP];have:=d1.lp;lia),?_⟩
  obtain⟨px,g3,g4⟩:=r2.rd;obtain⟨c,rr,hc,lc⟩:=MP.D8 x (MP.vS ho);have nn:Vaarrj.next ts≠ .none:=by rw[h3.word hc lc];exactλy=>nomatch y
  refine⟨_,rfl,_,_,_,rfl,g3,rfl,H0,HS,A,t,ls,ts,left,rfl,r2,nn,q.mono λu hu H' r' k'=>?_⟩;rw[hx] at hu;exact hu H' r' (d2.kr r2 k') ((k1.trans k2).trans (Kd.of k'))
 ·rw[uL keys] at z;cases ho:ym eZ x with
  |some o=>rw[ho] at z;cases z
  |none=>rw[ho] at q;exact q
structure qA(P:bQ)(w:bB)(K:aI)(mg:Str->Option ai)(base:aR)(C:Cg):Prop where
 m:qz P w K mg base C
 pass:∃f fd,Meth K C.dw "pass_by" f/\aB P w K mg base (bf P w) 7 f fd ["self","text"] (Oa K C)/\Binds K fd ["self","text"] []
 up:∃f fd,Meth K C.dw "number_up_to" f/\aB P w K mg base (bf P w) 7 f fd ["self","most"] (Ob K C)/\Binds K fd ["self","most"] []
def oh{k:Int}(h:k.natAbs<2^64):k.natAbs.log2<1920:=NX h
def HD{m:Nat}{ts:aL}{u:Nat×aL}{N:Nat}(h:aH N (MP.fU m ts)=.ok u):u.1<=m:=by
 have:MP.fU m ts=.ok u:=by
  cases e:MP.fU m ts with
  |error p=>rw[e] at h;cases h
  |ok v=>
   rw[e] at h;by_cases b:bad N v.2
   ·rw[MP.jL b] at h;exact eo h
   ·rw[MP.i' b] at h;exact h
 unfold MP.fU at this
 split at this
 ·split at this
  ·exact eo this
  ·obtain rfl:=bG this;lia
 ·exact eo this
def ady(F:aD K "read_place" "read_place" FU f fd)(M:qA P w K mg base C)(e:EK K R)(g:GI mg):aB P w K mg base (bf P w) 8 f fd ["reader","told"] (jV K R C 64):=by
 obtain⟨fa,kY,ma,Ga,ba⟩:=M.pass;obtain⟨fr,ip,mr,Gr,br⟩:=M.up;refine F.oX Z6 λ_ A _ _ H vs Q E hr h=>?_;obtain⟨H0,HS,A,D,t,ls,ts,left,τ,rfl,r,d,lp,la,pz,q⟩:=h;refine⟨_,ay (bK (jm (pv 0) M.m.k.cls ma Ga hr ba .nil cS (ah bY aj)))
  (ay (cT (pv 1) (jm (pv 0) M.m.k.cls mr Gr hr br .nil cS (ah (b_ g.qr) aj)) rfl)
  (aw (bK (iS i6 lB lC kd (aN (pv 1) rfl) (ah (cy iR bY (oP yI (by rfl) g.Az boot_str (ah (aN (pv 1) rfl) aj))) aj))))),?_⟩
 obtain⟨tk,h1,dx,x,en,h2,h3,h4,h5,h6⟩:=r.rd;have q:Rr C E H0 (aH t.length (j3 τ.vK (Vaarrj.place ts))) _:=q;rw[MP.gA,MP.Vr] at q;have q:=q.also.bind;have HE:(bU "@")=S [64]:=by decide+kernel
 refine⟨_,rfl,_,_,_,rfl,h1,rfl,H0,HS,A,t,ls,ts,left,64,(by rw[<-HE];rfl),by decide,r,q.mono λu hu H1 r1 k1=>?_⟩
 obtain⟨uN,g1,Od,x1,Oe,g2,g3,g4⟩:=r1.rd;rw[g3.D9] at hu;have d1:=d.kr r k1;refine⟨_,rfl,_,_,_,rfl,g1,rfl,H0,HS,A,t,ls,u.2,left,1000000000000000000,rfl,by decide,r1,?_⟩
 cases ev:aH t.length (MP.fU 1000000000000000000 u.2) with
 |error p=>rw[ev] at hu;exact hu
 |ok v=>
  rw[ev] at hu;intro H2 r2 k2;have d2:=d1.kr r1 k2;have Of:=HD ev;refine⟨_,rfl,_,_,_,_,rfl,d2.td,e.bW,e.r9,(by show 8<1000;decide),?_⟩
  obtain⟨r3,d3,k3⟩:=d2.fld (τ':={τ with place:=v.1}) r2 rfl rfl
  have ee:az "place" (.int ((v.1:Nat):Int)) (dO D τ)=dO D {τ with place:=v.1}:=rfl
  rw[ee];generalize upd H2 D.td (.ins R.ins D.fZ (dO D {τ with place:=v.1}))=H3 at r3 d3 k3
  have iJ:v.1<10^40:=by lia
  have uI:=MP.iV v.1;obtain⟨r4,d4,k4⟩:=d3.part r3 (Vaarrj.at_ v.1) lp;refine⟨_,rfl,_,_,_,_,_,rfl,d3.td,e.bW,e.pd,rfl,.inl ⟨rfl,_,aF.of d3.pl⟩,_,rfl,_,_,_,_,_,rfl,d3.td,e.bW,e.r9,rfl,_,rfl,oh (show((v.1:Nat):Int).natAbs<2^64 by lia),_,_,rfl,rfl,?_,_,_,_,rfl,rfl,d3.pl,(by rw[bq,aP];have:=d3.lp;lia),?_⟩
  ·rw[MX.gq iJ,HE,MX.cM,MX.cM,aP];simp;lia
  ·rw[MX.gq iJ,HE,MX.dG];exact hu _ r4 d4 ((((Kd.of k1).trans (Kd.of k2)).trans k3).trans k4)
end
section
variable{R:Cl}{C:Cg}
def Og{c k:Nat}{ts:aL}{u:Nat×aL}{N:Nat}(h:aH N (qQ c k ts)=.ok u):u.1<k:=by
 have:qQ c k ts=.ok u:=by
  cases e:qQ c k ts with
  |error p=>rw[e] at h;cases h
  |ok v=>
   rw[e] at h;by_cases b:bad N v.2
   ·rw[MP.jL b] at h;exact eo h
   ·rw[MP.i' b] at h;exact h
 unfold qQ at this
 split at this
 ·split at this
  ·rename_i z;obtain rfl:=bG this;exact z.2.2.2
  ·exact eo this
 ·exact eo this
def adz(F:aD K "read_mask" "read_mask" FV f fd)(M:qz P w K mg base C)(e:EK K R)(g:GI mg)(GN:aK P w K mg base (bf P w) 7 "read_named" ["reader","letter"] (xw K C)):aB P w K mg base (bf P w) 8 f fd ["reader","told"] (jV K R C 63):=by
 obtain⟨fa,kY,ma,Ga,ba⟩:=M.dq;refine F.oX Z8 λ_ A _ _ H vs Q E hr h=>?_;obtain⟨H0,HS,A,D,t,ls,ts,left,τ,rfl,r,d,lp,la,pz,q⟩:=h;have mz:=hr.mono (show 6<=7 by decide)
 refine⟨_,ay (bZ (bV jk (aN (aN (pv 0) rfl) rfl) bY (bO _)) (aw JP) cJ)
  (ay (bK (nL (pv 0) M.k.cls ma Ga mz ba .nil cS))
  (ay (cT (pv 1) (aV GN hr cS (ah (pv 0) (ah bY aj))) rfl)
  (aw (bK (iS i6 lB lC kd (aN (pv 1) rfl) (ah (cy iR bY (oP yI (by rfl) g.Az boot_str (ah (aN (pv 1) rfl) aj))) aj)))))),?_⟩
 obtain⟨tk,h1,dx,x,en,h2,h3,h4,h5,h6⟩:=r.rd;have q:Rr C E H0 (aH t.length (j3 τ.jM (MP.jb ts))) _:=q;rw[MP.gA] at q;have eq:(bU "?")=S [63]:=by decide+kernel
 have em:(bU "m")=S [109]:=by decide+kernel
 have Oh:(bU "?m")=S [63,109]:=by decide+kernel
 refine⟨_,rfl,_,_,_,_,_,rfl,h1,M.k.cls,M.k.token,rfl,_,_,_,_,_,rfl,h2,M.k.tok.cls,M.k.tok.text,rfl,rfl,_,rfl,?_⟩;rw[eq];have hs:=h3.sign (c:=63) (by decide)
 refine nV (λz=>?_) λz=>?_
 ·have z: ¬Vaarrj.next ts=.sign 63:=λy=>z (uM.mpr (hs.mpr y));rw[MP.Vt r.good z] at q;have q:∀H',cF K C H0 HS A t ls ts left H'->fq R H0 HS A D (τ.jM none) H'->Kd A D H H'->Q .aM H':=q;have et:τ.jM none=τ:=by
   obtain⟨a1,a2,a3,a4,a5,a6⟩:=τ;have:a6=none:=pz rfl;subst this;show MP.Told.mk a1 a2 (a3++[]) a4 a5 none=_;rw[dA]
  rw[et] at q;exact q H r d (Kd.of Kr.refl)
 ·have z:Vaarrj.next ts=.sign 63:=hs.mp (uM.mp z);rw[MP.Vs z] at q;have q:=q.also.bind;refine⟨_,rfl,_,_,_,rfl,h1,rfl,H0,HS,A,t,ls,ts,left,rfl,r,(by rw[z];exactλy=>nomatch y),q.mono λu hu H1 r1 k1=>?_⟩
  have d1:=d.kr r k1;have hu:=hu.also;have hm:MP.countOf ls.length 109=8:=rfl;refine⟨_,rfl,H0,HS,A,t,ls,u.2,left,109,(by rw[<-em];rfl),by decide,r1,?_⟩
  rw[hm];cases ev:aH t.length (qQ 109 8 u.2) with
  |error p=>
   have ev:aH t.length (Vaarrj.mas u.2)=.error p:=ev;rw[ev] at hu;exact hu
  |ok v=>
   have v8:=Og ev;have ev:aH t.length (Vaarrj.mas u.2)=.ok v:=ev;rw[ev] at hu;intro H2 r2 k2;have d2:=d1.kr r1 k2;refine⟨_,rfl,_,_,_,_,rfl,d2.td,e.bW,e.wX,(by show 8<1000;decide),?_⟩
   obtain⟨r3,d3,k3⟩:=d2.fld (τ':={τ with mask:=some v.1}) r2 rfl rfl
   have ee:az "mask" (.int ((v.1:Nat):Int)) (dO D τ)=dO D {τ with mask:=some v.1}:=rfl
   rw[ee];generalize upd H2 D.td (.ins R.ins D.fZ (dO D {τ with mask:=some v.1}))=H3 at r3 d3 k3
   have iJ:v.1<10^40:=by lia
   have uI:=MP.iV v.1;obtain⟨r4,d4,k4⟩:=d3.part r3 (63::Vaarrj.m v.1) lp;refine⟨_,rfl,_,_,_,_,_,rfl,d3.td,e.bW,e.pd,rfl,.inl ⟨rfl,_,aF.of d3.pl⟩,_,rfl,_,_,_,_,_,rfl,d3.td,e.bW,e.wX,rfl,_,rfl,oh (show((v.1:Nat):Int).natAbs<2^64 by lia),_,_,rfl,rfl,?_,_,_,_,rfl,rfl,d3.pl,(by rw[bq,aP];have:=d3.lp;lia),?_⟩
   ·rw[MX.gq iJ,Oh,MX.cM,MX.cM,aP];simp;lia
   ·rw[MX.gq iJ,Oh,MX.dG];exact hu _ r4 d4 ((((Kd.of k1).trans (Kd.of k2)).trans k3).trans k4)
def adA(F:aD K "read_signed" "read_signed" FR f fd)(M:qA P w K mg base C)(e:EK K R)(g:GI mg):aB P w K mg base (bf P w) 8 f fd ["reader","told"] (jV K R C 110):=by
 obtain⟨fa,kY,ma,Ga,ba⟩:=M.m.dq;obtain⟨fr,ip,mr,Gr,br⟩:=M.up;refine F.oX Ad λ_ A _ _ H vs Q E hr h=>?_;obtain⟨H0,HS,A,D,t,ls,ts,left,τ,rfl,r,d,lp,la,pz,q⟩:=h;have mz:=hr.mono (show 6<=7 by decide)
 refine⟨_,ay (bE 2 Ad.nd (oO fT (aN (aN (pv 0) rfl) rfl) bY (bO _)))
  (ay (bZ (gZ (pv 2)) (aw (bK (nL (pv 0) M.m.k.cls ma Ga mz ba .nil cS))) cJ)
  (ay (bE 3 Ad.nd (jm (pv 0) M.m.k.cls mr Gr hr br .nil cS (ah (b_ g.qr) aj)))
  (ay (bE 4 Ad.nd (jj (gZ (pv 2)) (Cw CA (pv 3)) (pv 3)))
  (ay (bK (iS i6 lB lC kd (aN (pv 1) rfl) (ah (jj (bV gz (pv 4) aO (bO _)) (wm (jt bY (jt (rW (pv 3)) wk))) (XD (rW (pv 3)))) aj)))
  (aw (bK (iS i6 lB lC kd (aN (pv 1) rfl) (ah (pv 4) aj)))))))),?_⟩
 obtain⟨tk,h1,dx,x,en,h2,h3,h4,h5,h6⟩:=r.rd;have q:Rr C E H0 (aH t.length (j3 (λk=>τ.arg (oH k) k) (Vaarrj.signed ts))) _:=q;rw[MP.gA] at q;have q:=q.also;have oj:(bU "_")=S [95]:=by decide+kernel
 have e0:sQ=S []:=by decide+kernel
 have hs:=h3.sign (c:=95) (by decide)
 refine⟨_,rfl,_,_,_,_,_,rfl,h1,M.m.k.cls,M.m.k.token,rfl,_,_,_,_,_,rfl,h2,M.m.k.tok.cls,M.m.k.tok.text,rfl,rfl,?_⟩;by_cases z:Vaarrj.next ts=.sign 95
 ·have eb:decide (V.str (S x)=V.str (bU "_"))=true:=decide_eq_true (by rw[oj];exact uM.mpr (hs.mpr z))
  rw[eb];rw[MP.Vp z] at q;have q:=q.bind;refine⟨_,rfl,_,rfl,du ⟨_,rfl,_,_,_,rfl,h1,rfl,H0,HS,A,t,ls,ts,left,rfl,r,(by rw[z];exactλy=>nomatch y),q.mono λu hu H1 r1 k1=>?_⟩⟩
  have d1:=d.kr r k1;have hu:=hu.also;have k1:Kd A D H H1:=Kd.of k1;generalize u.2=us at r1 hu;obtain⟨uN,g1,Od,x1,Oe,g2,g3,g4⟩:=r1.rd;rw[g3.D9] at hu;refine⟨_,rfl,_,_,_,rfl,g1,rfl,H0,HS,A,t,ls,us,left,1000000000000000000,rfl,by decide,r1,?_⟩
  cases ev:aH t.length (MP.fU 1000000000000000000 us) with
  |error p=>rw[ev] at hu;exact hu
  |ok v=>
   rw[ev] at hu;intro H2 r2 k2;have d2:=d1.kr r1 k2;have Of:=HD ev;have iJ:v.1<10^40:=by lia
   have uI:=MP.iV v.1;refine⟨_,rfl,_,rfl,du ⟨_,rfl,_,rfl,?_⟩⟩;obtain⟨r3,d3,k3⟩:=d2.part r2 (oH (-((v.1:Nat):Int))) lp;obtain⟨r4,d4,k4⟩:=d3.arg r3 (-((v.1:Nat):Int)) la;have kk:Kd A D H _:=((k1.trans (Kd.of k2)).trans k3).trans k4;have fin:=hu _ r4 d4 kk;refine⟨_,rfl,_,_,_,_,_,rfl,d2.td,e.bW,e.pd,rfl,.inl ⟨rfl,_,aF.of d2.pl⟩,_,rfl,_,_,rfl,rfl,_,rfl,bX (λy=>?_) λy=>?_⟩
   ·have et:oH (-((v.1:Nat):Int))=[95]++dec v.1:=by
     unfold oH;rw[if_pos y];rw[Int.natAbs_neg];rfl
    rw[et] at d3 r3 fin;refine⟨_,rfl,(by rw[oj,e0,MX.dG,MX.cM,aP];decide),_,rfl,_,.inl ⟨_,rfl,oh (show((v.1:Nat):Int).natAbs<2^64 by lia),rfl⟩,_,rfl,?_,?_,?_⟩
    ·rw[oj,e0,MX.gq iJ,MX.dG,MX.dG,MX.cM,aP];simp;lia
    ·rw[oj,e0,MX.gq iJ,MX.dG,MX.dG,MX.cM,aP];simp;lia
    ·rw[oj,e0,MX.gq iJ,MX.dG,MX.dG];refine⟨_,_,_,rfl,rfl,d2.pl,(by rw[bq,aP];have:=d2.lp;lia),?_⟩
     exact⟨_,rfl,_,_,_,_,_,rfl,d3.td,e.bW,e.jP,rfl,.inl ⟨rfl,_,aF.of d3.ol⟩,_,rfl,_,_,_,rfl,rfl,d3.ol,(by rw[bq,aP];have:=d3.la;lia),fin⟩
   ·have et:oH (-((v.1:Nat):Int))=dec v.1:=by
     unfold oH;rw[if_neg y];exact congrArg dec (by lia)
    rw[et] at d3 r3 fin;refine⟨_,rfl,_,.inl ⟨_,rfl,oh (show((v.1:Nat):Int).natAbs<2^64 by lia),rfl⟩,?_⟩
    rw[MX.gq iJ];refine⟨_,_,_,rfl,rfl,d2.pl,(by rw[bq,aP];have:=d2.lp;lia),?_⟩
    exact⟨_,rfl,_,_,_,_,_,rfl,d3.td,e.bW,e.jP,rfl,.inl ⟨rfl,_,aF.of d3.ol⟩,_,rfl,_,_,_,rfl,rfl,d3.ol,(by rw[bq,aP];have:=d3.la;lia),fin⟩
 ·have eb:decide (V.str (S x)=V.str (bU "_"))=false:=decide_eq_false (by rw[oj];exactλy=>z (hs.mp (uM.mp y)))
  rw[eb];rw[MP.Vq z] at q;have hu:=q.also;refine⟨_,rfl,_,rfl,dY ?_⟩;have r1:=r;have d1:=d;have k1:Kd A D H H:=Kd.of Kr.refl;generalize eus:ts=us at r1 hu;obtain⟨uN,g1,Od,x1,Oe,g2,g3,g4⟩:=r1.rd;rw[g3.D9] at hu;refine⟨_,rfl,_,_,_,rfl,g1,rfl,H0,HS,A,t,ls,us,left,1000000000000000000,rfl,by decide,r1,?_⟩
  cases ev:aH t.length (MP.fU 1000000000000000000 us) with
  |error p=>rw[ev] at hu;exact hu
  |ok v=>
   rw[ev] at hu;intro H2 r2 k2;have d2:=d1.kr r1 k2;have Of:=HD ev;have iJ:v.1<10^40:=by lia
   have uI:=MP.iV v.1;refine⟨_,rfl,_,rfl,dY ⟨_,rfl,?_⟩⟩;obtain⟨r3,d3,k3⟩:=d2.part r2 (oH (((v.1:Nat):Int))) lp;obtain⟨r4,d4,k4⟩:=d3.arg r3 (((v.1:Nat):Int)) la;have kk:Kd A D H _:=((k1.trans (Kd.of k2)).trans k3).trans k4;have fin:=hu _ r4 d4 kk;refine⟨_,rfl,_,_,_,_,_,rfl,d2.td,e.bW,e.pd,rfl,.inl ⟨rfl,_,aF.of d2.pl⟩,_,rfl,_,_,rfl,rfl,_,rfl,bX (λy=>?_) λy=>?_⟩
   ·have et:oH (((v.1:Nat):Int))=[95]++dec v.1:=by
     unfold oH;rw[if_pos y];exact absurd y (by lia)
    rw[et] at d3 r3 fin;refine⟨_,rfl,(by rw[oj,e0,MX.dG,MX.cM,aP];decide),_,rfl,_,.inl ⟨_,rfl,oh (show((v.1:Nat):Int).natAbs<2^64 by lia),rfl⟩,_,rfl,?_,?_,?_⟩
    ·rw[oj,e0,MX.gq iJ,MX.dG,MX.dG,MX.cM,aP];simp;lia
    ·rw[oj,e0,MX.gq iJ,MX.dG,MX.dG,MX.cM,aP];simp;lia
    ·rw[oj,e0,MX.gq iJ,MX.dG,MX.dG];refine⟨_,_,_,rfl,rfl,d2.pl,(by rw[bq,aP];have:=d2.lp;lia),?_⟩
     exact⟨_,rfl,_,_,_,_,_,rfl,d3.td,e.bW,e.jP,rfl,.inl ⟨rfl,_,aF.of d3.ol⟩,_,rfl,_,_,_,rfl,rfl,d3.ol,(by rw[bq,aP];have:=d3.la;lia),fin⟩
   ·have et:oH (((v.1:Nat):Int))=dec v.1:=by
     unfold oH;rw[if_neg y];exact congrArg dec (by lia)
    rw[et] at d3 r3 fin;refine⟨_,rfl,_,.inl ⟨_,rfl,oh (show((v.1:Nat):Int).natAbs<2^64 by lia),rfl⟩,?_⟩
    rw[MX.gq iJ];refine⟨_,_,_,rfl,rfl,d2.pl,(by rw[bq,aP];have:=d2.lp;lia),?_⟩
    exact⟨_,rfl,_,_,_,_,_,rfl,d3.td,e.bW,e.jP,rfl,.inl ⟨rfl,_,aF.of d3.ol⟩,_,rfl,_,_,_,rfl,rfl,d3.ol,(by rw[bq,aP];have:=d3.la;lia),fin⟩
def Bh{x:Str}{st:cD}{c k:Nat}(F:Df K mg x st f fd)(b:Binds K fd ["reader","told"] [])(G:aB P w K mg base (bf P w) k f fd ["reader","told"] (jV K R C c)):aK P w K mg base (bf P w) k x ["reader","told"] (jV K R C c):=⟨f,fd,G,F.2,F.1.kp,b⟩
end
section
variable{R:Cl}{C:Cg}
def Oi(c:Nat):Prop:=c=111\/c=110\/c=64\/c=63\/c=118\/c=115\/c=109\/c=97
inductive Bi(K:aI)(R:Cl)(C:Cg)(vs:List V)(H:Hp)(Q:VK)(E:XK):Prop
 |mk (H0 HS A D t ls ts left τ c:_) (_:vs=[.ref A.rd,.str (S [c]),.ref D.td]) (_:Oi c) (_:cF K C H0 HS A t ls ts left H) (_:fq R H0 HS A D τ H) (_:τ.parts.length<100) (_:τ.args.length<100) (_:(c=63->τ.mask=none)) (_:Bg K R C H0 HS A D t ls left H (aH t.length (d_ ls.length c τ ts)) Q E)
def adB(F:aD K "read_part" "read_part" Ae f fd)(e:EK K R)(g:GI mg)(Go:aK P w K mg base (bf P w) 7 "read_operator" ["reader","told"] (jV K R C 111))(Gn:aK P w K mg base (bf P w) 8 "read_signed" ["reader","told"] (jV K R C 110))(Gp:aK P w K mg base (bf P w) 8 "read_place" ["reader","told"] (jV K R C 64))(Gq:aK P w K mg base (bf P w) 8 "read_mask" ["reader","told"] (jV K R C 63))
 (GN:aK P w K mg base (bf P w) 7 "read_named" ["reader","letter"] (xw K C)):aB P w K mg base (bf P w) 9 f fd ["reader","part","told"] (Bi K R C):=by
 refine F.oX Na λ_ A _ _ H vs Q E hr h=>?_;obtain⟨H0,HS,A,D,t,ls,ts,left,τ,c,rfl,hc,r,d,lp,la,pz,q⟩:=h;have qB:=hr.mono (show 7<=8 by decide)
 refine⟨_,aw (bZ (bV fT (pv 1) bY (bO _)) (aw (bK (aV Go qB cS (ah (pv 0) (ah (pv 2) aj)))))
  (aw (bZ (bV fT (pv 1) bY (bO _)) (aw (bK (aV Gn hr cS (ah (pv 0) (ah (pv 2) aj)))))
  (aw (bZ (bV fT (pv 1) bY (bO _)) (aw (bK (aV Gp hr cS (ah (pv 0) (ah (pv 2) aj)))))
  (aw (bZ (bV fT (pv 1) bY (bO _)) (aw (bK (aV Gq hr cS (ah (pv 0) (ah (pv 2) aj)))))
  (ay (bE 3 Na.nd (aV GN qB cS (ah (pv 0) (ah (pv 1) aj))))
  (ay (bK (iS i6 lB lC kd (aN (pv 2) rfl) (ah (cy iR (pv 1) (oP yI (by rfl) g.Az boot_str (ah (pv 3) aj))) aj)))
  (aw (bK (iS i6 lB lC kd (aN (pv 2) rfl) (ah (pv 3) aj))))))))))))),?_⟩
 have e1:∀k:Nat,decide ((V.str (S [c]))=V.str (S [k]))=decide (c=k):=λk=>decide_eq_decide.mpr ⟨λz=>by injection z with z;exact(oE (MX.lX z)).1,λz=>by rw[z]⟩
 have eo:(bU "o")=S [111]:=by decide+kernel
 have en:(bU "n")=S [110]:=by decide+kernel
 have ep:(bU "@")=S [64]:=by decide+kernel
 have eq:(bU "?")=S [63]:=by decide+kernel
 refine⟨_,rfl,rfl,_,rfl,?_⟩;rw[eo,e1];refine bX (λz=>?_) λz1=>?_
 ·subst z;exact⟨_,rfl,_,rfl,H0,HS,A,D,t,ls,ts,left,τ,rfl,r,d,lp,la,pz,q⟩
 refine⟨_,rfl,rfl,_,rfl,?_⟩;rw[en,e1];refine bX (λz=>?_) λz2=>?_
 ·subst z;exact⟨_,rfl,_,rfl,H0,HS,A,D,t,ls,ts,left,τ,rfl,r,d,lp,la,pz,q⟩
 refine⟨_,rfl,rfl,_,rfl,?_⟩;rw[ep,e1];refine bX (λz=>?_) λz3=>?_
 ·subst z;exact⟨_,rfl,_,rfl,H0,HS,A,D,t,ls,ts,left,τ,rfl,r,d,lp,la,pz,q⟩
 refine⟨_,rfl,rfl,_,rfl,?_⟩;rw[eq,e1];refine bX (λz=>?_) λz4=>?_
 ·subst z;exact⟨_,rfl,_,rfl,H0,HS,A,D,t,ls,ts,left,τ,rfl,r,d,lp,la,pz,q⟩
 have hc4:c=118\/c=115\/c=109\/c=97:=by unfold Oi at hc;lia
 have er:d_ ls.length c τ ts=j3 (λk=>τ.arg (c::dec k) ((k:Nat):Int)) (qQ c (MP.countOf ls.length c) ts):=by
  unfold MP.d_;rw[if_neg z1,if_neg z2,if_neg z3,if_neg z4]
 unfold Bg at q;rw[er,MP.gA] at q;have q:=q.also;refine⟨_,rfl,_,rfl,H0,HS,A,t,ls,ts,left,c,rfl,hc4,r,?_⟩;cases ev:aH t.length (qQ c (MP.countOf ls.length c) ts) with
 |error p=>rw[ev] at q;exact q
 |ok v=>
  rw[ev] at q;have v32:=Og ev;have co:MP.countOf ls.length c<=32:=by
   have:=r.ln;unfold MP.countOf
   repeat (first|split|lia)
  intro H1 r1 k1;have d1:=d.kr r k1;have iJ:v.1<10^40:=by lia
  have uI:=MP.iV v.1;obtain⟨r3,d3,k3⟩:=d1.part r1 (c::dec v.1) lp;obtain⟨r4,d4,k4⟩:=d3.arg r3 ((v.1:Nat):Int) la;refine⟨_,rfl,_,_,_,_,_,rfl,d1.td,e.bW,e.pd,rfl,.inl ⟨rfl,_,aF.of d1.pl⟩,_,rfl,_,rfl,_,rfl,oh (show((v.1:Nat):Int).natAbs<2^64 by lia),_,_,rfl,rfl,?_,_,_,_,rfl,rfl,d1.pl,(by rw[bq,aP];have:=d1.lp;lia),?_⟩
  ·rw[MX.gq iJ,MX.cM,MX.cM,aP];simp;lia
  ·rw[MX.gq iJ,MX.dG];exact⟨_,rfl,_,_,_,_,_,rfl,d3.td,e.bW,e.jP,rfl,.inl ⟨rfl,_,aF.of d3.ol⟩,_,rfl,_,_,_,rfl,rfl,d3.ol,(by rw[bq,aP];have:=d3.la;lia),q _ r4 d4 (((Kd.of k1).trans k3).trans k4)⟩
def adC(F:Df K mg "read_part" Ae f fd)(e:EK K R)(g:GI mg)(Go:aK P w K mg base (bf P w) 7 "read_operator" ["reader","told"] (jV K R C 111))(Gn:aK P w K mg base (bf P w) 8 "read_signed" ["reader","told"] (jV K R C 110))(Gp:aK P w K mg base (bf P w) 8 "read_place" ["reader","told"] (jV K R C 64))(Gq:aK P w K mg base (bf P w) 8 "read_mask" ["reader","told"] (jV K R C 63))
 (GN:aK P w K mg base (bf P w) 7 "read_named" ["reader","letter"] (xw K C)):aK P w K mg base (bf P w) 9 "read_part" ["reader","part","told"] (Bi K R C):=
 ⟨f,fd,adB F.1 e g Go Gn Gp Gq GN,F.2,F.1.kp,F.1.b3 "reader" "part" "told"⟩
def Bj:List (Key×V):=[(.inr (S (aC "lanes")),.str (S (aC "v?"))),(.inr (S (aC "const")),.str (S (aC "vn?"))),(.inr (S (aC "fill")),.str (S (aC "vs?"))),(.inr (S (aC "copy")),.str (S (aC "vv?"))),(.inr (S (aC "read")),.str (S (aC "vav?"))),(.inr (S (aC "pick")),.str (S (aC "vav@?"))),(.inr (S (aC "write")),.str (S (aC "avv?"))),(.inr (S (aC "test")),.str (S (aC "mv?"))),(.inr (S (aC "tail")),.str (S (aC "ms"))),(.inr (S (aC "both")),.str (S (aC "mmm"))),(.inr (S (aC "less")),.str (S (aC "mmm"))),(.inr (S (aC "either")),.str (S (aC "mmm"))),(.inr (S (aC "count")),.str (S (aC "sm"))),(.inr (S (aC "num")),.str (S (aC "sn"))),(.inr (S (aC "width")),.str (S (aC "s"))),(.inr (S (aC "calc")),.str (S (aC "osss@"))),(.inr (S (aC "get")),.str (S (aC "svs"))),(.inr (S (aC "put")),.str (S (aC "vss"))),(.inr (S (aC "for")),.str (S (aC "ss"))),(.inr (S (aC "when")),.str (S (aC "s"))),(.inr (S (aC "raise")),.str (S (aC "")))]
def xx:Option aJ->V
 |some sh=>.str (S sh)
 |none=>.aM
inductive Shapes(K:aI)(w:bB)(mg:Str->Option ai):Prop
 |mk (a:_) (_:mg "SHAPES"=some (.ref a)) (_:Tab K w a Bj)
def key_ne{x y:aJ}(h: ¬x=y): ¬((kC (S y):Key)=.inr (S x)):=λz=>h (by injection z with z;exact(MX.lX z).symm)
def sv{x y:aJ}{v:V}{D:List (Key×V)}{a b:Option aJ}(e:xx a=v)(hb: ¬x=y->(dX D (.inr (S x))).getD .aM=xx b):(dX ((.inr (S y),v)::D) (.inr (S x))).getD .aM=xx (if x=y then a else b):=by
 by_cases z:x=y
 ·rw[if_pos z,Dk (by rw[z])];exact e.symm
 ·rw[if_neg z,nP (key_ne z)];exact hb z
def adD{x:aJ}(h1: ¬(ym tj x).isSome=true)(h2: ¬(ym eZ x).isSome=true):(dX Bj (.inr (S x))).getD .aM=xx (MP.shapeOf x):=by
 unfold MP.shapeOf Bj;rw[if_neg h1,if_neg h2]
 iterate 18 refine sv (by decide+kernel) λ_=>?_
 by_cases q1:x=aC "raise"
 ·subst q1;decide+kernel
 rw[if_neg q1]
 iterate 2 refine sv (by decide+kernel) λ_=>?_
 rw[nP (key_ne q1)];rfl
inductive HF(vs:List V)(H:Hp)(Q:VK)(_:XK):Prop
 |mk (x:_) (_:vs=[.str (S x)]) (_:Q (xx (MP.shapeOf x)) H)
def adE(F:aD K "shape_of" "shape_of" Af f fd)(g:GI mg)(ON:sr K w mg)(SH:Shapes K w mg):aB P w K mg base au 1 f fd ["word"] HF:=by
 obtain⟨o2,D2,m2,t2,k2⟩:=ON.two;obtain⟨o1,D1,m1,t1,k1⟩:=ON.one;obtain⟨sa,mS,tS⟩:=SH;refine F.oK Z' λ_ _ _ s H vs Q E hr h=>?_;obtain⟨x,rfl,q⟩:=h;refine⟨_,ay (bZ (ji (uo (pv 0) (iH m1))) (aw (bh (uy g.aaX))) cJ)
  (ay (bZ (ji (uo (pv 0) (iH m2))) (aw (bh (uy g.aaY))) cJ)
  (aw (bh (Xw (iH mS) (pv 0) ⟨rfl,rfl,rfl,rfl⟩)))),?_⟩
 refine⟨_,rfl,_,_,.inr (S x),rfl,rfl,t1,_,rfl,?_⟩;rw[uL k1];refine j7 (λz=>?_) λz1=>?_
 ·have e:MP.shapeOf x=some [118,118,64,63]:=by unfold MP.shapeOf;rw[if_pos z]
  rw[e] at q;exact Eq.mp (congrArg (λs=>Q (V.str s) H) (show S [118,118,64,63]=bU "vv@?" by decide+kernel)) q
 refine⟨_,rfl,_,_,.inr (S x),rfl,rfl,t2,_,rfl,?_⟩;rw[uL k2];refine j7 (λz=>?_) λz2=>?_
 ·have e:MP.shapeOf x=some [118,118,118,64,63]:=by unfold MP.shapeOf;rw[if_neg (by rw[z1];exact cW),if_pos z]
  rw[e] at q;exact Eq.mp (congrArg (λs=>Q (V.str s) H) (show S [118,118,118,64,63]=bU "vvv@?" by decide+kernel)) q
 refine⟨_,_,rfl,tS,_,rfl,.inr (S x),rfl,?_⟩;rw[adD (by rw[z1];exact cW) (by rw[z2];exact cW)]
 exact q
def adF(F:Df K mg "shape_of" Af f fd)(g:GI mg)(ON:sr K w mg)(SH:Shapes K w mg):aK P w K mg base au 1 "shape_of" ["word"] HF:=
 ⟨f,fd,adE F.1 g ON SH,F.2,F.1.kp,F.1.b1 "word"⟩
end
section
variable{R:Cl}{C:Cg}
def adG(ac op:Str)(pl ol bb cc:ae):List (Str×V):=[("action",.str ac),("operator",.str op),("parts",.ref pl),("operands",.ref ol),("place",.int 0),("mask",.aM),("body",.ref bb),("otherwise",.ref cc)]
inductive HG(R:Cl)(vs:List V)(H:Hp)(Q:VK)(_:XK):Prop
 |mk (a dx ac op pl:_) (_:vs=[.ref a,.str ac,.str op,.ref pl]) (_:H a=some (.ins R.ins dx [])) (_:∀H' ol bb cc,Made a H H' [ol,bb,cc]->H' a=some (.ins R.ins dx (adG ac op pl ol bb cc))->H' ol=some (.lst [])->H' bb=some (.lst [])->H' cc=some (.lst [])->Q .aM H')
def fw{p:ae}{H W:Hp}{as:List ae}{o:HO}(m:Made p H W as):∃W',W'=upd W p o/\Made p H W' as/\ (∀b u,W b=some u->b≠p->W' b=some u)/\W' p=some o:=⟨_,rfl,m.write,λb u e n=>by rw[ak n];exact e,aA⟩
def fo{p l:ae}{H W:Hp}{as:List ae}{o:HO}(m:Made p H W as)(h:W l=none):∃W',W'=upd W l o/\Made p H W' (as++[l])/\ (∀b u,W b=some u->W' b=some u)/\W' l=some o:=
 have k:∀b u,W b=some u->upd W l o b=some u:=λb u e=>by rw[ak (bw e h)];exact e
 ⟨_,rfl,m.one h k aA,k,aA⟩
def adH(F:aD K "__init__" "Instruction.__init__" z8 f fd)(e:EK K R):aB P w K mg base au 1 f fd ["self","action","operator","parts"] (HG R):=by
 refine F.oK ZN λ_ _ _ _ H vs Q E hr h=>?_;obtain⟨a,dx,ac,op,pl,rfl,ha,q⟩:=h;refine⟨_,ay (cT (pv 0) (pv 1) rfl) (ay (cT (pv 0) (pv 2) rfl) (ay (cT (pv 0) (pv 3) rfl) (ay (cT (pv 0) (cR aj) rfl) (ay (cT (pv 0) (aO) rfl) (ay (cT (pv 0) (jC) rfl) (ay (cT (pv 0) (cR aj) rfl) (aw (cT (pv 0) (cR aj) rfl)))))))),?_⟩;have m0:Made a H H []:=Made.refl ⟨_,ha⟩;refine⟨_,rfl,_,rfl,_,_,_,_,rfl,ha,e.bW,e.mn,(by show 0<1000;decide),?_⟩
 obtain⟨W0,eW0,mb0,kw0,p1⟩:=fw (o:=.ins R.ins dx (az "action" (.str ac) [])) m0;rw[<-eW0];refine⟨_,rfl,_,rfl,_,_,_,_,rfl,p1,e.bW,e.nW,(by show 1<1000;decide),?_⟩
 obtain⟨W1,eW1,mb1,kw1,p2⟩:=fw (o:=.ins R.ins dx (az "operator" (.str op) (az "action" (.str ac) []))) mb0;rw[<-eW1];refine⟨_,rfl,_,rfl,_,_,_,_,rfl,p2,e.bW,e.pd,(by show 2<1000;decide),?_⟩
 obtain⟨W2,eW2,mb2,kw2,p3⟩:=fw (o:=.ins R.ins dx (az "parts" (.ref pl) (az "operator" (.str op) (az "action" (.str ac) [])))) mb1;rw[<-eW2];refine⟨eX _,λol HH=>?_⟩;have xy:ol≠a:=λz=>by rw[z,p3] at HH;exact sn HH
 obtain⟨L3,eL3,ma3,kol,vol⟩:=fo (o:=.lst []) mb2 HH;rw[<-eL3];have p3L:=kol _ _ p3;refine⟨_,rfl,_,_,_,_,rfl,p3L,e.bW,e.jP,(by show 3<1000;decide),?_⟩
 obtain⟨W3,eW3,mb3,kw3,p4⟩:=fw (o:=.ins R.ins dx (az "operands" (.ref ol) (az "parts" (.ref pl) (az "operator" (.str op) (az "action" (.str ac) []))))) ma3;rw[<-eW3];refine⟨_,rfl,_,_,_,_,rfl,p4,e.bW,e.r9,(by show 4<1000;decide),?_⟩
 obtain⟨W4,eW4,mb4,kw4,p5⟩:=fw (o:=.ins R.ins dx (az "place" (.int 0) (az "operands" (.ref ol) (az "parts" (.ref pl) (az "operator" (.str op) (az "action" (.str ac) [])))))) mb3;rw[<-eW4];refine⟨_,rfl,_,_,_,_,rfl,p5,e.bW,e.wX,(by show 5<1000;decide),?_⟩
 obtain⟨W5,eW5,mb5,kw5,p6⟩:=fw (o:=.ins R.ins dx (az "mask" .aM (az "place" (.int 0) (az "operands" (.ref ol) (az "parts" (.ref pl) (az "operator" (.str op) (az "action" (.str ac) []))))))) mb4;rw[<-eW5];refine⟨eX _,λbb mq=>?_⟩;have Oj:bb≠a:=λz=>by rw[z,p6] at mq;exact sn mq
 obtain⟨L6,eL6,ma6,Ol,vbb⟩:=fo (o:=.lst []) mb5 mq;rw[<-eL6];have p6L:=Ol _ _ p6;refine⟨_,rfl,_,_,_,_,rfl,p6L,e.bW,e.uB,(by show 6<1000;decide),?_⟩
 obtain⟨W6,eW6,mb6,Om,p7⟩:=fw (o:=.ins R.ins dx (az "body" (.ref bb) (az "mask" .aM (az "place" (.int 0) (az "operands" (.ref ol) (az "parts" (.ref pl) (az "operator" (.str op) (az "action" (.str ac) [])))))))) ma6;rw[<-eW6];refine⟨eX _,λcc nE=>?_⟩;have ncc:cc≠a:=λz=>by rw[z,p7] at nE;exact sn nE
 obtain⟨L7,eL7,ma7,HI,vcc⟩:=fo (o:=.lst []) mb6 nE;rw[<-eL7];have p7L:=HI _ _ p7;refine⟨_,rfl,_,_,_,_,rfl,p7L,e.bW,e.wY,(by show 7<1000;decide),?_⟩
 obtain⟨W7,eW7,mb7,HJ,p8⟩:=fw (o:=.ins R.ins dx (az "otherwise" (.ref cc) (az "body" (.ref bb) (az "mask" .aM (az "place" (.int 0) (az "operands" (.ref ol) (az "parts" (.ref pl) (az "operator" (.str op) (az "action" (.str ac) []))))))))) ma7;rw[<-eW7];exact q _ ol bb cc mb7 p8 (HJ _ _ (HI _ _ (Om _ _ (Ol _ _ (kw5 _ _ (kw4 _ _ (kw3 _ _ vol xy) xy) xy)) xy)) xy) (HJ _ _ (HI _ _ (Om _ _ vbb Oj)) Oj) (HJ _ _ vcc ncc)
inductive Bk(K:aI)(mg:Str->Option ai)(R:Cl):Prop
 |mk (f fd:_) (_:Mk K R.ins f) (_:aD K "__init__" "Instruction.__init__" z8 f fd) (_:mg "Instruction"=some (.ref R.ins))
def Oo(R:Cl)(H:Hp)(D:Ta)(τ:MP.Told)(H':Hp):Prop:=(∀b o,H b=some o->H' b=some o)/\ [D.td,D.pl,D.ol,D.bb,D.cc].Nodup/\ (∀b∈[D.td,D.pl,D.ol,D.bb,D.cc],H b=none)/\
 H' D.td=some (.ins R.ins D.fZ (dO D τ))/\H' D.pl=some (.lst (τ.parts.map λx=>V.str (S x)))/\H' D.ol=some (.lst [])/\H' D.bb=some (.lst [])/\H' D.cc=some (.lst [])/\τ.args=[]/\τ.mask=none/\τ.parts.length=1
def HK{H:Hp}{Q:VK}{x ac op:aJ}{pl:ae}(dF:H pl=none)(q:∀H' D,Oo R H D ⟨ac,op,[x],[],0,none⟩ H'->Q (.ref D.td) H'):
 ∀y dx,upd H pl (.lst [.str (S x)]) y=none->upd H pl (.lst [.str (S x)]) dx=none->dx≠y->HG R (.ref y::([.str (S ac),.str (S op),.ref pl]++[])) (upd (upd (upd H pl (.lst [.str (S x)])) dx (.own y)) y (.ins R.ins dx [])) (λv H2=>v=.aM/\Q (.ref y) H2) E0:=λy dx hy hd hn=>by
 refine⟨y,dx,S ac,S op,pl,rfl,aA,λH' ol bb cc m h1 h2 h3 h4=>⟨rfl,?_⟩⟩;have np:y≠pl:=λz=>by rw[z,aA] at hy;exact sn hy
 have nd:dx≠pl:=λz=>by rw[z,aA] at hd;exact sn hd
 have HL:H y=none:=by rw[ak np] at hy;exact hy
 have Em:H dx=none:=by rw[ak nd] at hd;exact hd
 have up:∀b o,H b=some o->upd (upd (upd H pl (.lst [.str (S x)])) dx (.own y)) y (.ins R.ins dx []) b=some o:=λb o e=>by rw[ak (bw e HL),ak (bw e Em),ak (bw e dF)];exact e
 have fr:∀b∈[ol,bb,cc],H b=none/\b≠y/\b≠pl:=λb hb=>by
  have n:=m.fr b hb;refine⟨?_,(λz=>by rw[z,aA] at n;exact sn n),(λz=>by rw[z,ak (Ne.symm np),ak (Ne.symm nd),aA] at n;exact sn n)⟩
  cases w:H b with
  |none=>rfl
  |some o=>rw[up b o w] at n;exact sn n
 have pl':H' pl=some (.lst [.str (S x)]):=m.kp _ _ (by rw[ak (Ne.symm np),ak (Ne.symm nd),aA]) (Ne.symm np)
 refine q H' ⟨y,dx,pl,ol,bb,cc⟩ ⟨λb o e=>m.kp b o (up b o e) (bw e HL),?_,λb hb=>?_,h1,pl',h2,h3,h4,rfl,rfl,rfl⟩
 ·refine fI.mpr ⟨λhb=>?_,fI.mpr ⟨λhb=>?_,m.nd⟩⟩
  ·rcases cC.mp hb with z|z
   ·exact np z
   ·exact(fr y z).2.1 rfl
  ·exact(fr pl hb).2.2 rfl
 ·rcases cC.mp hb with z|z
  ·rw[z];exact HL
  ·rcases cC.mp z with z|z
   ·rw[z];exact dF
   ·exact(fr b z).1
inductive HN(R:Cl)(vs:List V)(H:Hp)(Q:VK)(_:XK):Prop
 |mk (x:_) (_:vs=[.str (S x)]) (_:∀H' D,Oo R H D (MP.dQ x) H'->Q (.ref D.td) H')
def adI(F:aD K "instruction_of" "instruction_of" Ag f fd)(e:EK K R)(ON:sr K w mg)(IC:Bk K mg R):aB P w K mg base au 3 f fd ["word"] (HN R):=by
 obtain⟨o2,D2,m2,t2,k2⟩:=ON.two;obtain⟨o1,D1,m1,t1,k1⟩:=ON.one;obtain⟨fi,fh,M,Fi,mI⟩:=IC;have GI:aB P w K mg base au 1 fi fh ["self","action","operator","parts"] (HG R):=adH Fi e;have bI:=Fi.b4 "self" "action" "operator" "parts";refine F.oK aab λ_ _ _ _ H vs Q E hr h=>?_;obtain⟨x,rfl,q⟩:=h;refine⟨_,ay (bZ (ji (uo (pv 0) (iH m1))) (aw (bh (j' M GI hr rfl mI bI .nil aW (ah bY (ah (pv 0) (ah (cR (ah (pv 0) aj)) aj)))))) cJ)
  (ay (bZ (ji (uo (pv 0) (iH m2))) (aw (bh (j' M GI hr rfl mI bI .nil aW (ah bY (ah (pv 0) (ah (cR (ah (pv 0) aj)) aj)))))) cJ)
  (aw (bh (j' M GI hr rfl mI bI .nil aW (ah (pv 0) (ah bY (ah (cR (ah (pv 0) aj)) aj))))))),?_⟩
 have l1:([V.str (S x)]:List V).length<=sizeLine:=by show 1<=sizeLine;rw[aP];decide
 have e1:bU "one"=S (aC "one"):=MX.lY "one";have e2:bU "two"=S (aC "two"):=MX.lY "two";have e3:bU ""=S []:=by decide+kernel
 refine⟨_,rfl,_,_,.inr (S x),rfl,rfl,t1,_,rfl,?_⟩;rw[uL k1];refine j7 (λz=>?_) λz1=>?_
 ·have e:MP.dQ x=⟨aC "one",x,[x],[],0,none⟩:=by unfold MP.dQ;rw[if_pos z];rfl
  rw[e] at q;refine⟨_,rfl,_,rfl,l1,λpl dF=>?_⟩;rw[e1];exact HK dF q
 refine⟨_,rfl,_,_,.inr (S x),rfl,rfl,t2,_,rfl,?_⟩;rw[uL k2];refine j7 (λz=>?_) λz2=>?_
 ·have e:MP.dQ x=⟨aC "two",x,[x],[],0,none⟩:=by unfold MP.dQ;rw[if_neg (by rw[z1];exact cW),if_pos z];rfl
  rw[e] at q;refine⟨_,rfl,_,rfl,l1,λpl dF=>?_⟩;rw[e2];exact HK dF q
 have e:MP.dQ x=⟨x,[],[x],[],0,none⟩:=by unfold MP.dQ;rw[if_neg (by rw[z1];exact cW),if_neg (by rw[z2];exact cW)];rfl
 rw[e] at q;refine⟨_,rfl,_,rfl,l1,λpl dF=>?_⟩;rw[e3];exact HK dF q
def adJ(F:Df K mg "instruction_of" Ag f fd)(e:EK K R)(ON:sr K w mg)(IC:Bk K mg R):aK P w K mg base au 3 "instruction_of" ["word"] (HN R):=
 ⟨f,fd,adI F.1 e ON IC,F.2,F.1.kp,F.1.b1 "word"⟩
end
open Vaarrj (braces)
open MP (c7 bt pre)
def Oq{X:Cx}{K:aI}(hK:X.K=K){o e:bj}{es:List bj}{to:TE}{t:TA}{name:Str}{apos dW:Pos}{T id:String}{r:V->List V->Hp->VK->Prop}(pa:PlainAttrs T)(slot:PySem.Slot T name id)(qf:typeOf (.builtin id)=pure (.type "method_descriptor"))(hm:rn X id r)(ho:PE X o to)(ha:PA X (e::es) t)
 (jn:oB o name X.env (eval o X.env)=eval o X.env:=by rfl)
 (C1:((f_ dW (cG (e::es) X.env)).all (λx=> !x.1)&&(sR dW (sS [] X.env)).all (λx=>x.1.isSome)
   &&decide ((e::es).length+([]:List Keyword).length+(if([]:List Keyword).isEmpty then 0 else 1)<30))=true:=by rfl)
 (oR:(apos.endLine==dW.line)=true:=by rfl) (hs:cG (e::es) X.env=(false,eval e X.env)::cG es X.env:=by rfl) (C3:(f_ dW (cG es X.env)).any (·.1)=false:=by rfl):
 PE X (.Call (.Attribute o name apos) (e::es) [] dW) (Kz K T r to t):=by subst hK;exact iS pa slot qf hm ho ha jn C1 oR hs C3
def gN(HS cO H:Hp):Prop:=(∀b o,HS b=some o->cO b=some o)/\ (∀b o,cO b=some o->HS b=some o\/H b=none)
def gN.refl{HS H:Hp}:gN HS HS H:=⟨λ_ _ e=>e,λ_ _ e=>.inl e⟩
def gN.trans{HS qC Ot H H1:Hp}(a:gN HS qC H)(b:gN qC Ot H1)(k:∀c,H1 c=none->H c=none):gN HS Ot H:=
 ⟨λc o e=>b.1 c o (a.1 c o e),λc o e=>(b.2 c o e).elim (λz=>a.2 c o z) λz=>.inr (k c z)⟩
section
variable{R:Cl}{H H':Hp}
mutual
theorem fY.mono(k:∀b o,H b=some o->H' b=some o):∀{i:cw} {t:ae},fY R H i t->fY R H' i t:=λ{i t} h=>by
 cases i with
 |for_ d c b=>
  simp only[fY] at h⊢;obtain⟨ba,ca,ts,h1,h2,h3,h4⟩:=h;exact⟨ba,ca,ts,h1.mono k,k _ _ h2,b8.mono k h3,k _ _ h4⟩
 |when s b c=>
  simp only[fY] at h⊢;obtain⟨ba,ca,ts,us,h1,h2,h3,h4,h5⟩:=h;exact⟨ba,ca,ts,us,h1.mono k,k _ _ h2,b8.mono k h3,k _ _ h4,b8.mono k h5⟩
 |_=>
  simp only[fY] at h⊢;obtain⟨ba,ca,h1⟩:=h;exact⟨ba,ca,h1.mono k⟩
theorem b8.mono(k:∀b o,H b=some o->H' b=some o):∀{b:c6} {ts:List ae},b8 R H b ts->b8 R H' b ts:=λ{b ts} h=>by
 cases b with
 |nil=>simp only[b8] at h⊢;exact h
 |cons i r=>
  simp only[b8] at h⊢;obtain⟨t,us,e,h1,h2⟩:=h;exact⟨t,us,e,fY.mono k h1,b8.mono k h2⟩
end
theorem HP{i:cw}{ti:ae}(hi:fY R H i ti):∀{is:List cw} {ts:List ae},b8 R H (pre is .nil) ts->b8 R H (pre (is++[i]) .nil) (ts++[ti])
 |[],ts,h=>by
  have h:b8 R H .nil ts:=h;simp only[b8] at h;subst h;show b8 R H (.cons i .nil) [ti];simp only[b8];exact⟨ti,[],rfl,hi,rfl⟩
 |j::is,ts,h=>by
  have h:b8 R H (.cons j (pre is .nil)) ts:=h;simp only[b8] at h;obtain⟨t,us,rfl,h1,h2⟩:=h;show b8 R H (.cons j (pre (is++[i]) .nil)) (t::us++[ti]);simp only[b8];exact⟨t,us++[ti],rfl,h1,HP hi h2⟩
end
section
variable{R:Cl}{C:Cg}
inductive Bl(K:aI)(R:Cl)(C:Cg)(h:Nat)(vs:List V)(H:Hp)(Q:VK)(E:XK):Prop
 |mk (H0 HS A t ls ts left ar:_) (_:vs=[.ref A.rd,.int ((ar:Nat):Int)]) (_:ar+h=8) (_:cF K C H0 HS A t ls ts left H) (_:Rr C E H0 (aH t.length (c7 ls.length (braces ls.length h) left ts)) λu=>∀H' cO ti,cF K C H0 cO A t ls u.2 u.1.2 H'->gN HS cO H->fY R cO u.1.1 ti->Kr A H H'->Q (.ref ti) H')
inductive xA(K:aI)(R:Cl)(C:Cg)(h:Nat)(vs:List V)(H:Hp)(Q:VK)(E:XK):Prop
 |mk (H0 HS A t ls ts left ar:_) (_:vs=[.ref A.rd,.int ((ar:Nat):Int)]) (_:ar+h=8) (_:cF K C H0 HS A t ls ts left H) (_:Rr C E H0 (aH t.length (braces ls.length h left ts)) λu=>∀H' cO bl de,cF K C H0 cO A t ls u.2 u.1.2 H'->gN HS cO H->cO bl=some (.lst (de.map V.ref))->b8 R cO u.1.1 de->Kr A H H'->Q (.ref bl) H')
def adK(F:aD K "read_block" "read_block" Ah f fd)(N:qA P w K mg base C)(g:GI mg){k:Nat}:aB P w K mg base (bf P w) (k+4) f fd ["reader","around"] (xA K R C 0):=by
 obtain⟨fr,ip,mr,Gr,br⟩:=N.m.ref;refine F.oX FW λ_ A _ _ H vs Q E hr h=>?_;obtain⟨H0,HS,A,t,ls,ts,left,ar,rfl,ha,r,q⟩:=h;have fk:=hr.mono (show 3<=k+3 by lia)
 refine⟨_,ay (bK (jm (pv 0) N.m.k.cls mr Gr fk br .nil cS (ah (oO iQ (pv 1) (b_ g.Np) (bO _)) aj))) JQ,?_⟩;obtain⟨tk,h1,_⟩:=r.rd;refine⟨_,rfl,_,_,_,rfl,h1,rfl,_,rfl,_,_,rfl,rfl,H0,HS,A,t,ls,ts,left,_,rfl,r,λz=>?_,λ_=>q⟩;have:=of_decide_eq_true z
 lia
def adL{h k:Nat}(F:aD K "read_block" "read_block" Ah f fd)(N:qA P w K mg base C)(g:GI mg)(GI:aK P w K mg base (bf P w) (k+8) "read_instruction" ["reader","around"] (Bl K R C h)):aB P w K mg base (bf P w) (k+9) f fd ["reader","around"] (xA K R C (h+1)):=by
 obtain⟨fr,ip,mr,Gr,br⟩:=N.m.ref;obtain⟨fa,kY,ma,Ga,ba⟩:=N.m.dq;obtain⟨fp,Ou,mp,Gp,bp⟩:=N.pass;refine F.oX FW λ_ A _ _ H vs Q E hr h=>?_;obtain⟨H0,HS,A,t,ls,ts,left,ar,rfl,ha,r,q⟩:=h;have fk:=hr.mono (show 3<=k+8 by lia)
 have mz:=hr.mono (show 6<=k+8 by lia)
 have qB:=hr.mono (show 7<=k+8 by lia)
 refine⟨_,ay (bK (jm (pv 0) N.m.k.cls mr Gr fk br .nil cS (ah (oO iQ (pv 1) (b_ g.Np) (bO _)) aj)))
  (ay (bK (jm (pv 0) N.m.k.cls mp Gp qB bp .nil cS (ah bY aj)))
  (ay (bE 2 FW.nd (cR aj))
  (ay (zv qp ⟨rfl,rfl⟩ (λ_ _=>bV jk (jR (K:=K) rfl (jR (K:=K) rfl (pv 0) rfl) rfl) bY (bO _))
    (λpn xe E ht=>aw (bK (Oq (K:=K) rfl i6 lB lC kd (pv 2) (ah (aV GI hr ht.passes (ah (pv 0) (ah (cy i9 (pv 1) aO) aj))) aj)))))
  (ay (bK (nL (pv 0) N.m.k.cls ma Ga mz ba .nil cS))
  (aw (bh (pv 2))))))),?_⟩
 obtain⟨tk,h1,_⟩:=r.rd;have eb:(bU "{")=S [123]:=by decide+kernel
 have ec:(bU "}")=S [125]:=by decide+kernel
 rw[MP.UI] at q;have q:=q.bind;refine⟨_,rfl,_,_,_,rfl,h1,rfl,_,rfl,_,_,rfl,rfl,H0,HS,A,t,ls,ts,left,_,rfl,r,λ_=>?_,λz=>absurd (show(ar:Int)<=7 by lia) (of_decide_eq_false z)⟩
 refine⟨_,rfl,_,_,_,rfl,h1,rfl,H0,HS,A,t,ls,ts,left,123,(by rw[<-eb];rfl),by decide,r,q.mono λu hu H1 r1 k1=>?_⟩
 refine⟨eX _,λbl eQ=>?_⟩;have sh:∀l,MP.cz (braces ls.length h l):=λl=>MP.DP _ _ l;have Ov:H0 bl=none:=by
  cases z:H0 bl with
  |none=>rfl
  |some o=>rw[r1.old _ _ z] at eQ;exact sn eQ
 have Ow:H bl=none:=by
  cases z:H bl with
  |none=>rfl
  |some o=>
   exfalso;by_cases z1:bl=A.rd
   ·obtain⟨uN,g1,_⟩:=r1.rd;rw[z1,g1] at eQ;exact sn eQ
   ·by_cases z2:bl=A.cd
    ·rw[z2,r1.cd] at eQ;exact sn eQ
    ·rw[k1 _ _ z z1 z2] at eQ;exact sn eQ
 have adM:HS bl=none:=by
  cases z:HS bl with
  |none=>rfl
  |some o=>rw[r1.set _ _ z] at eQ;exact sn eQ
 have Ox:bl≠A.ll:=λz=>by rw[z,r1.ll] at eQ;exact sn eQ
 have nbl:bl≠A.bl:=λz=>by obtain⟨xs,hx⟩:=r1.bt;rw[z,hx] at eQ;exact sn eQ
 refine⟨λm σ H'=>∃us eO cO is de,m=us.length/\σ=[some (.ref A.rd),some (.int (ar:Int)),some (.ref bl)]/\cF K C H0 cO A t ls us eO H'/\H' bl=some (.lst (de.map V.ref))/\cO bl=none/\gN HS cO H/\b8 R cO (pre is .nil) de/\Kr A H H'/\de.length+eO<=left/\
  aH t.length (bt ls.length (braces ls.length h) left u.2)=j3 (λx=>(pre is x.1,x.2)) (aH t.length (bt ls.length (braces ls.length h) eO us)),⟨u.2.length,u.2,left,HS,[],[],rfl,rfl,?_,aA,adM,gN.refl,(by show b8 R HS .nil [];simp only[b8]),λb o e n1 n2=>?_,by simp,?_⟩,?_⟩
 ·exact r1.more λb o e=>by rw[ak (bw e eQ)];exact e
 ·have e:=k1 b o e n1 n2;rw[ak (bw e eQ)];exact e
 ·cases aH t.length (bt ls.length (braces ls.length h) left u.2)<;>rfl
 rintro m σ H' ⟨us,eO,cO,is,de,rfl,rfl,r2,ck,Oy,gr,hB,k2,ln,eq⟩;obtain⟨px,g1,dx,x,en,g2,g3,g4,g5,g6⟩:=r2.rd;have hs:=g3.sign (c:=125) (by decide)
 have Bm:bl≠A.rd:=cE ck g1 (by intro z;cases z)
 have Bn:bl≠A.cd:=cE ck r2.cd (by intro z;cases z)
 rw[eq] at hu;refine⟨_,rfl,_,_,_,_,_,rfl,g1,N.m.k.cls,N.m.k.token,rfl,_,_,_,_,_,rfl,g2,N.m.k.tok.cls,N.m.k.tok.text,rfl,rfl,_,rfl,?_⟩;rw[ec];have le:=r.le;refine nV (λz=>?_) λz=>?_
 ·have z: ¬Vaarrj.next us=.sign 125:=λy=>z (uM.mpr (hs.mpr y));have hu:=hu.also;rw[MP.Lv sh z] at hu;have hu:=hu.bind;refine⟨_,λσ' H' x=>x,_,rfl,.inl ⟨rfl,_,aF.of ck⟩,_,rfl,_,rfl,_,_,rfl,rfl,H0,cO,A,t,ls,us,eO,ar+1,rfl,by lia,r2,?_⟩
  cases ei:aH t.length (c7 ls.length (braces ls.length h) eO us) with
  |error p=>rw[ei] at hu;exact hu
  |ok i=>
   rw[ei] at hu;have dn:=MP.D_ (MP.Ea ls.length h) (MP.nU ei).1;have lt:=MP.ub sh (MP.nU ei).1;intro H3 HQ ti r3 HR hI k3;have eB:H3 bl=some (.lst (de.map V.ref)):=k3 _ _ ck Bm Bn;have Oz:HQ bl=none:=by
    cases z:HQ bl with
    |none=>rfl
    |some o=>
     rcases HR.2 _ _ z with y|y
     ·rw[Oy] at y;exact ns y
     ·rw[ck] at y;exact sn y
   refine⟨_,_,_,rfl,rfl,eB,(by rw[bq,aP];lia),i.2.length,lt,i.2,i.1.2,HQ,is++[i.1.1],de++[ti],rfl,rfl,r3.uK Bm Bn Ox (λ_ _ _ _ z=>by rw[eB] at z;cases z) Ov Oz (λ_=>⟨_,rfl⟩),by rw[aA,iw];rfl,Oz,gr.trans HR (λc hc=>?_),HP hI (b8.mono HR.1 hB),λb o e n1 n2=>?_,(by rw[bS];simp;lia),?_⟩
   ·cases z:H c with
    |none=>rfl
    |some o=>
     exfalso;by_cases z1:c=A.rd
     ·rw[z1,g1] at hc;exact sn hc
     ·by_cases z2:c=A.cd
      ·rw[z2,r2.cd] at hc;exact sn hc
      ·rw[k2 _ _ z z1 z2] at hc;exact sn hc
   ·rw[ak λz=>by rw[z,Ow] at e;exact ns e]
    exact k3 _ _ (k2 _ _ e n1 n2) n1 n2
   ·rw[eq,MP.Lv sh z,ei];rw[MP.fA,MP.DC]
    congr 1
    funext x
    rw[MP.LR]
 ·have z:Vaarrj.next us=.sign 125:=hs.mp (uM.mp z);have hu:=hu.also;rw[MP.UE z,MP.vQ] at hu;have hu:=hu.also;refine⟨_,rfl,_,_,_,rfl,g1,rfl,H0,cO,A,t,ls,us,eO,rfl,r2,(by rw[z];exactλy=>nomatch y),hu.mono λv hv H3 r3 k3=>?_⟩
  have eB:H3 bl=some (.lst (de.map V.ref)):=k3 _ _ ck Bm Bn;have up:∀b o,cO b=some o->upd cO bl (.lst (de.map V.ref)) b=some o:=λb o e=>by rw[ak (bw e Oy)];exact e
  refine⟨_,rfl,hv H3 (upd cO bl (.lst (de.map V.ref))) bl de ⟨r3.rd,r3.cd,r3.ll,r3.tx,r3.tl,r3.good,r3.le,r3.ln,r3.old,λb o e=>?_,r3.n0,?_,λb o e=>?_,r3.bt⟩ ⟨λb o e=>up _ _ (gr.1 b o e),λb o e=>?_⟩ aA (b8.mono up hB) λb o e n1 n2=>k3 _ _ (k2 _ _ e n1 n2) n1 n2⟩
  ·by_cases y:b=bl
   ·rw[y,aA] at e;obtain rfl:=aZ e;rw[y];exact eB
   ·rw[ak y] at e;exact r3.set b o e
  ·exact⟨by rw[ak (Ne.symm Bm)];exact r3.nS.1,by rw[ak (Ne.symm Bn)];exact r3.nS.2.1,by rw[ak (Ne.symm Ox)];exact r3.nS.2.2.1,by rw[ak (Ne.symm nbl)];exact r3.nS.2.2.2⟩
  ·by_cases y:b=bl
   ·rw[y];exact Ov
   ·rw[ak y] at e;exact r3.sn b o e
  ·by_cases y:b=bl
   ·rw[y];exact .inr Ow
   ·rw[ak y] at e;exact gr.2 b o e
end
open MP (oZ)
section
variable{R:Cl}{C:Cg}{H0 HS cO H H':Hp}{A:Ra}{D:Ta}{t:aJ}{ls:List Nat}{ts us:aL}{left:Nat}{τ τ':MP.Told}
theorem gN.none{x:ae}{o:HO}(g:gN HS cO H)(h:HS x=none)(hx:H x=some o):cO x=none:=by
 cases z:cO x with
 |none=>rfl
 |some u=>
  rcases g.2 _ _ z with y|y
  ·rw[h] at y;exact ns y
  ·rw[hx] at y;exact sn y
def fq.grow(d:fq R H0 HS A D τ H')(dh:fq R H0 HS A D τ H)(g:gN HS cO H):fq R H0 cO A D τ H':=
 ⟨d.td,d.pl,d.ol,d.ne,d.n0,⟨g.none d.nS.1 dh.td,g.none d.nS.2.1 dh.pl,g.none d.nS.2.2 dh.ol⟩,d.lp,d.la⟩
def fq.sub(d:fq R H0 HS A D τ H)(r:cF K C H0 HS A t ls ts left H)(bb cc:ae):cF K C H0 HS A t ls ts left (upd H D.td (.ins R.ins D.fZ (dO {D with bb:=bb,cc:=cc} τ)))/\fq R H0 HS A {D with bb:=bb,cc:=cc} τ (upd H D.td (.ins R.ins D.fZ (dO {D with bb:=bb,cc:=cc} τ))):=by
 have e1:D.pl≠D.td:=cE d.pl d.td (by intro z;cases z)
 have e2:D.ol≠D.td:=cE d.ol d.td (by intro z;cases z)
 refine⟨r.uK d.ne.1 d.ne.2.1 (cE d.td r.ll (by intro z;cases z)) (λ_ _ _ _ z=>by rw[d.td] at z;exact Oc (aZ z)) d.n0.1 d.nS.1 (λz=>by obtain⟨xs,hb⟩:=r.bt;rw[<-z,d.td] at hb;cases hb),⟨aA,by rw[ak e1];exact d.pl,by rw[ak e2];exact d.ol,d.ne,d.n0,d.nS,d.lp,d.la⟩⟩
def Kt(A:Ra)(D:Ta)(H H':Hp):Prop:=∀b o,H b=some o->b≠A.rd->b≠A.cd->b≠D.td->H' b=some o
def Kt.of(k:Kr A H H'):Kt A D H H':=λb o e n1 n2 _=>k b o e n1 n2
def adN(R:Cl)(HS:Hp)(D D':Ta):MP.End->Prop
 | .plain=>D'=D
 | .one b=>∃bb de,D'={D with bb:=bb}/\HS bb=some (.lst (de.map V.ref))/\b8 R HS b de
 | .two b c=>∃bb de,HS bb=some (.lst (de.map V.ref))/\b8 R HS b de/\ ((c=.nil/\D'={D with bb:=bb})\/∃cc su,D'={D with bb:=bb,cc:=cc}/\HS cc=some (.lst (su.map V.ref))/\b8 R HS c su)
end
section
variable{R:Cl}{C:Cg}
inductive HU(K:aI)(R:Cl)(C:Cg)(h:Nat)(vs:List V)(H:Hp)(Q:VK)(E:XK):Prop
 |mk (H0 HS A D t ls ts left τ ar:_) (_:vs=[.ref A.rd,.ref D.td,.int ((ar:Nat):Int)]) (_:ar+h=8) (_:cF K C H0 HS A t ls ts left H) (_:fq R H0 HS A D τ H) (_:Rr C E H0 (oZ t.length (braces ls.length h) τ.act left ts) λu=>∀H' cO D',cF K C H0 cO A t ls u.2 u.1.2 H'->gN HS cO H->fq R H0 cO A D' τ H'->adN R cO D D' u.1.1->Kt A D H H'->Q .aM H')
def mE{x:aJ}{s:String}:decide (V.str (S x)=V.str (bU s))=decide (x=aC s):=by
 rw[MX.lY];exact decide_eq_decide.mpr ⟨λz=>by injection z with z;exact MX.lX z,λz=>by rw[z]⟩
def adO{h k:Nat}(F:aD K "read_ending" "read_ending" FX f fd)(N:qA P w K mg base C)(e:EK K R)(g:GI mg)(GB:aK P w K mg base (bf P w) (k+7) "read_block" ["reader","around"] (xA K R C h)):aB P w K mg base (bf P w) (k+8) f fd ["reader","told","around"] (HU K R C h):=by
 obtain⟨fa,kY,ma,Ga,ba⟩:=N.m.dq;obtain⟨fp,Ou,mp,Gp,bp⟩:=N.pass;refine F.oX aae λ_ A _ _ H vs Q E hr h=>?_;obtain⟨H0,HS,A,D,t,ls,ts,left,τ,ar,rfl,ha,r,d,q⟩:=h;have mz:=hr.mono (show 6<=k+7 by lia)
 have qB:=hr.mono (show 7<=k+7 by lia)
 refine⟨_,ay (bZ (pX (bV jk (aN (pv 1) rfl) bY (bO _)) (pW (bV jk (aN (pv 1) rfl) bY (bO _)))).pt
  (ay (bK (jm (pv 0) N.m.k.cls mp Gp qB bp .nil cS (ah bY aj))) (aw JP)) cJ)
  (ay (cT (pv 1) (aV GB hr cS (ah (pv 0) (ah (pv 2) aj))) rfl)
  (aw (bZ (pX (bV fT (aN (pv 1) rfl) bY (bO _)) (pW (bV fT (aN (aN (pv 0) rfl) rfl) bY (bO _)))).pt
    (ay (bK (nL (pv 0) N.m.k.cls ma Ga mz ba .nil cS)) (aw (cT (pv 1) (aV GB hr cS (ah (pv 0) (ah (pv 2) aj))) rfl))) cJ))),?_⟩
 obtain⟨tk,h1,_⟩:=r.rd;have es:(bU ";")=S [59]:=by decide+kernel
 refine⟨_,rfl,_,_,_,_,_,rfl,d.td,e.bW,e.mn,rfl,rfl,_,rfl,?_⟩;rw[mE];refine nV (λz1=>?_) λz1=>?_
 ·refine⟨_,rfl,_,_,_,_,_,rfl,d.td,e.bW,e.mn,rfl,rfl,_,rfl,?_⟩;rw[mE];refine nV (λz2=>?_) λz2=>?_
  ·
   unfold MP.oZ at q;rw[if_neg z1,if_neg z2] at q;have q:=q.bind;exact⟨_,rfl,_,_,_,rfl,h1,rfl,H0,HS,A,t,ls,ts,left,59,(by rw[<-es];rfl),by decide,r,q.mono λu hu H' r' k'=>hu H' HS D r' gN.refl (d.kr r k') rfl (Kt.of k')⟩
  ·
   unfold MP.oZ at q;rw[if_neg z1,if_pos z2] at q;have q:=q.bind;refine⟨_,rfl,_,rfl,H0,HS,A,t,ls,ts,left,ar,rfl,ha,r,q.mono λb hb H1 qC bl de r1 g1 eQ hB k1=>?_⟩;have d1:=(d.kr r k1).grow d g1;refine⟨_,rfl,_,_,_,_,rfl,d1.td,e.bW,e.uB,(by show 8<1000;decide),?_⟩
   obtain⟨r2,d2⟩:=d1.sub r1 bl D.cc;have ee:az "body" (.ref bl) (dO D τ)=dO {D with bb:=bl,cc:=D.cc} τ:=rfl
   rw[ee];have k2:Kt A D H (upd H1 D.td (.ins R.ins D.fZ (dO {D with bb:=bl,cc:=D.cc} τ))):=λc o eb n1 n2 n3=>by rw[ak n3];exact k1 c o eb n1 n2
   generalize upd H1 D.td (.ins R.ins D.fZ (dO {D with bb:=bl,cc:=D.cc} τ))=H2 at r2 d2 k2
   obtain⟨px,t1,dx,x,en,t2,t3,t4,t5,t6⟩:=r2.rd;refine⟨_,rfl,_,_,_,_,_,rfl,d2.td,e.bW,e.mn,rfl,rfl,_,rfl,?_⟩;rw[mE,decide_eq_true z2];refine du ⟨_,rfl,_,_,_,_,_,rfl,t1,N.m.k.cls,N.m.k.token,rfl,_,_,_,_,_,rfl,t2,N.m.k.tok.cls,N.m.k.tok.text,rfl,rfl,_,rfl,?_⟩;rw[mE];have he:=t3.LO (w:=aC "else") (c:=101) (r:=[108,115,101]) (by decide+kernel) (by decide)
   refine bX (λz3=>?_) λz3=>?_
   ·have z3:=he.mp z3;simp only[z3,if_true] at hb;have hb:=hb.bind;refine⟨_,rfl,_,_,_,rfl,t1,rfl,H0,qC,A,t,ls,b.2,b.1.2,rfl,r2,(by rw[z3];exactλy=>nomatch y),hb.mono λu hu H3 r3 k3=>?_⟩
    have d3:=d2.kr r2 k3;have hu:=hu.bind;refine⟨_,rfl,_,rfl,H0,qC,A,t,ls,u.2,b.1.2,ar,rfl,ha,r3,hu.mono λc hc H4 HV cl su r4 g4 kO hC k4=>?_⟩;have d4:=(d3.kr r3 k4).grow d3 g4;refine⟨_,rfl,_,_,_,_,rfl,d4.td,e.bW,e.wY,(by show 8<1000;decide),?_⟩
    obtain⟨r5,d5⟩:=d4.sub r4 bl cl;have ee:az "otherwise" (.ref cl) (dO {D with bb:=bl,cc:=D.cc} τ)=dO {D with bb:=bl,cc:=cl} τ:=rfl
    rw[ee];refine hc _ HV {D with bb:=bl,cc:=cl} r5 (g1.trans g4 λc0 mx=>?_) d5 ⟨bl,de,g4.1 _ _ eQ,b8.mono g4.1 hB,.inr ⟨cl,su,rfl,kO,hC⟩⟩ λc0 o eb n1 n2 n3=>?_
    ·cases y:H c0 with
     |none=>rfl
     |some o=>
      exfalso;by_cases y1:c0=A.rd
      ·obtain⟨_,y2,_⟩:=r3.rd;rw[y1,y2] at mx;exact sn mx
      ·by_cases y2:c0=A.cd
       ·rw[y2,r3.cd] at mx;exact sn mx
       ·by_cases y3:c0=D.td
        ·rw[y3,d3.td] at mx;exact sn mx
        ·rw[k3 _ _ (k2 _ _ y y1 y2 y3) y1 y2] at mx;exact sn mx
    ·show upd H4 D.td _ c0=some o;rw[ak n3];exact k4 _ _ (k3 _ _ (k2 _ _ eb n1 n2 n3) n1 n2) n1 n2
   ·have z3: ¬Vaarrj.next b.2=.word (aC "else"):=λy=>z3 (he.mpr y);simp only[z3,if_false] at hb;exact hb H2 qC {D with bb:=bl,cc:=D.cc} r2 g1 d2 ⟨bl,de,eQ,hB,.inl ⟨rfl,rfl⟩⟩ k2
 ·
  unfold MP.oZ at q;rw[if_pos z1] at q;have q:=q.bind;refine dY ⟨_,rfl,_,rfl,H0,HS,A,t,ls,ts,left,ar,rfl,ha,r,q.mono λb hb H1 qC bl de r1 g1 eQ hB k1=>?_⟩;have d1:=(d.kr r k1).grow d g1;refine⟨_,rfl,_,_,_,_,rfl,d1.td,e.bW,e.uB,(by show 8<1000;decide),?_⟩
  obtain⟨r2,d2⟩:=d1.sub r1 bl D.cc;have ee:az "body" (.ref bl) (dO D τ)=dO {D with bb:=bl,cc:=D.cc} τ:=rfl
  rw[ee];have k2:Kt A D H (upd H1 D.td (.ins R.ins D.fZ (dO {D with bb:=bl,cc:=D.cc} τ))):=λc o eb n1 n2 n3=>by rw[ak n3];exact k1 c o eb n1 n2
  generalize upd H1 D.td (.ins R.ins D.fZ (dO {D with bb:=bl,cc:=D.cc} τ))=H2 at r2 d2 k2
  refine⟨_,rfl,_,_,_,_,_,rfl,d2.td,e.bW,e.mn,rfl,rfl,_,rfl,?_⟩;have nw: ¬τ.act=aC "when":=by rw[z1];decide+kernel
  rw[mE,decide_eq_false nw];exact dY (hb H2 qC {D with bb:=bl,cc:=D.cc} r2 g1 d2 ⟨bl,de,rfl,eQ,hB⟩ k2)
end
open MP (gk)
def adP{x:Str}{g:TG}{tb:TS}{D:Ends}{σ:L2.St}{H:Hp}(Pv:Nat->L2.St->Hp->Prop)(h0:Pv 0 σ H)
 (hs:∀i c σ H,x.cps[i]? =some c->Pv i σ H->g (.str ⟨#[c]⟩) σ H λσ2 H2=>tb {D with nx:=Pv (i+1),ct:=Pv (i+1),bk:=D.nx} σ2 H2) (hd:∀σ H,Pv x.cps.size σ H->D.nx σ H):
 ∃W:Nat->Nat->L2.St->Hp->Prop,(∃m,W 0 m σ H)/\ ∀i m σ H,W i m σ H->
  ((qh x).stop i H/\D.nx σ H)\/((qh x).go i H/\ ∃N:L2.St->Hp->Prop,(∀σ' H',N σ' H'->∃m',m'<m/\W (i+1) m' σ' H')/\ ∀x' H',(qh x).oM i H x' H'->g x' σ H' λσ2 H2=>tb {D with nx:=N,ct:=N,bk:=D.nx} σ2 H2):=by
 refine⟨λi m σ H=>m=x.cps.size-i/\i<=x.cps.size/\Pv i σ H,⟨x.cps.size,by simp,eX _,h0⟩,?_⟩
 rintro i m σ H ⟨rfl,hi,p⟩;by_cases dU:i<x.cps.size
 ·refine .inr ⟨dU,Pv (i+1),λσ' H' p'=>⟨x.cps.size-(i+1),by lia,rfl,dU,p'⟩,λv H' y=>?_⟩
  obtain⟨e,c,hc,y⟩:=y;subst e y;exact hs i c σ _ hc p
 ·have e:i=x.cps.size:=by lia
  subst e;exact .inl ⟨bz _,hd σ H p⟩
section
variable{R:Cl}{C:Cg}{H0 HS cO H H':Hp}{A:Ra}{D:Ta}{t:aJ}{ls:List Nat}{ts us:aL}{left:Nat}{τ τ':MP.Told}
def cF.size(r:cF K C H0 HS A t ls ts left H)(h0:left≠0):cF K C H0 HS A t ls ts (left-1) (upd H A.cd (.ins C.code A.gU (og A (512-(left-1)))))/\Kr A H (upd H A.cd (.ins C.code A.gU (og A (512-(left-1))))):=by
 obtain⟨tk,a1,dx,y,e,a2,a3⟩:=r.rd;have c1:A.rd≠A.cd:=Ne.symm (N8 r);have c2:tk≠A.cd:=cE a2 r.cd (by intro z;injection z with _ _ z;injection z with z _;injection z with z _;revert z;decide)
 have c3:A.ll≠A.cd:=cE r.ll r.cd (by intro z;cases z)
 have kk:∀b o,H b=some o->b≠A.cd->upd H A.cd (.ins C.code A.gU (og A (512-(left-1)))) b=some o:=λb o e n=>by rw[ak n];exact e
 refine⟨⟨⟨tk,kk _ _ a1 c1,dx,y,e,kk _ _ a2 c2,a3⟩,aA,kk _ _ r.ll c3,r.tx,r.tl,r.good,by have:=r.le;lia,r.ln,λb o q=>kk _ _ (r.old b o q) (λz=>by rw[z,r.n0.2.1] at q;exact ns q),λb o q=>kk _ _ (r.set b o q) (λz=>by rw[z,r.nS.2.1] at q;exact ns q),r.n0,r.nS,r.sn,?_⟩,λb o e _ n=>kk b o e n⟩
 obtain⟨xs,hb⟩:=r.bt;exact⟨xs,kk _ _ hb (cE hb r.cd (by intro z;cases z))⟩
def cF.settle(r:cF K C H0 HS A t ls ts left H){x:ae}{o:HO}(hx:H x=some o)(h0:H0 x=none)(n1:x≠A.rd)(n2:x≠A.cd)(n3:x≠A.ll)(n4:x≠A.bl):cF K C H0 (upd HS x o) A t ls ts left H:=by
 refine⟨r.rd,r.cd,r.ll,r.tx,r.tl,r.good,r.le,r.ln,r.old,λb u e=>?_,r.n0,⟨by rw[ak (Ne.symm n1)];exact r.nS.1,by rw[ak (Ne.symm n2)];exact r.nS.2.1,by rw[ak (Ne.symm n3)];exact r.nS.2.2.1,by rw[ak (Ne.symm n4)];exact r.nS.2.2.2⟩,λb u e=>?_,r.bt⟩
 ·by_cases z:b=x
  ·rw[z,aA] at e;obtain rfl:=aZ e;rw[z];exact hx
  ·rw[ak z] at e;exact r.set b u e
 ·by_cases z:b=x
  ·rw[z];exact h0
  ·rw[ak z] at e;exact r.sn b u e
def gN.one{x:ae}{o:HO}{H1:Hp}(g:gN HS cO H)(hS:∀b u,HS b=some u->H b=some u)(hx:H x=Option.none):gN HS (upd cO x o) H:=by
 refine⟨λb u e=>?_,λb u e=>?_⟩
 ·rw[ak λz=>by rw[z] at e;rw[hS _ _ e] at hx;exact sn hx];exact g.1 b u e
 ·by_cases z:b=x
  ·rw[z];exact .inr hx
  ·rw[ak z] at e;exact g.2 b u e
def adQ{HS:Hp}{i:cw}{D:Ta}{τ:MP.Told}(hi:MP.toldOf i=τ)(h1:HS D.td=some (.ins R.ins D.fZ (dO D τ)))(h2:HS D.pl=some (.lst (τ.parts.map λx=>V.str (S x))))(h3:HS D.ol=some (.lst (τ.args.map V.int))):Told R HS D.td (se i D.bb D.cc):=by
 subst hi;refine⟨D.fZ,_,D.ol,h1,rfl,rfl,rfl,h3,rfl,rfl,rfl,rfl,D.pl,rfl,?_⟩;show HS D.pl=some (.lst (((MP.toldOf i).parts.map MX.S).map V.str));rw[iO];exact h2
end
section
variable{R:Cl}{C:Cg}
def adR{h k:Nat}(F:aD K "read_instruction" "read_instruction" FY f fd)(N:qA P w K mg base C)(e:EK K R)(g:GI mg)(GS:aK P w K mg base au 1 "shape_of" ["word"] HF)(GI:aK P w K mg base au 3 "instruction_of" ["word"] (HN R))(GP:aK P w K mg base (bf P w) 9 "read_part" ["reader","part","told"] (Bi K R C))
 (GE:aK P w K mg base (bf P w) (k+9) "read_ending" ["reader","told","around"] (HU K R C h)):aB P w K mg base (bf P w) (k+10) f fd ["reader","around"] (Bl K R C h):=by
 obtain⟨fa,kY,ma,Ga,ba⟩:=N.m.dq;obtain⟨fr,ip,mr,Gr,br⟩:=N.m.ref;refine F.oX wM λ_ A _ s H vs Q E hr h=>?_;obtain⟨H0,HS,A,t,ls,ts,left,ar,rfl,ha,r,q⟩:=h;have cN:=hr.mono (show 1<=k+9 by lia)
 have fk:=hr.mono (show 3<=k+9 by lia)
 have mz:=hr.mono (show 6<=k+9 by lia)
 have hr9:=hr.mono (show 9<=k+9 by lia)
 refine⟨_,ay (bE 2 wM.nd (aN (aN (pv 0) rfl) rfl))
  (ay (bE 3 wM.nd (aV GS cN aW (ah (pv 2) aj)))
  (ay (bK (jm (pv 0) N.m.k.cls mr Gr fk br .nil cS (ah (JM (yz (yy (pv 3))) (Cn (oO gz (aN (aN (pv 0) rfl) rfl) (b_ g.aaL) (bO _)))) aj)))
  (ay (cT (aN (pv 0) rfl) (cy i9 (aN (aN (pv 0) rfl) rfl) aO) rfl)
  (ay (bE 4 wM.nd (aV GI fk aW (ah (pv 2) aj)))
  (ay (bK (nL (pv 0) N.m.k.cls ma Ga mz ba .nil cS))
  (ay (zw qp ⟨rfl,rfl⟩ rfl (K5 (pv 3)) (λ_ _=>fD 5 wM.nd)
    (λpn xe E ht=>aw (bK (aV GP hr9 ht.passes (ah (pv 0) (ah (pv 5) (ah (pv 4) aj)))))))
  (ay (bK (aV GE hr cS (ah (pv 0) (ah (pv 4) (ah (pv 1) aj)))))
  (aw (bh (pv 4)))))))))),?_⟩
 obtain⟨tk,h1,dx,x,en,h2,h3,h4,h5,h6⟩:=r.rd;have le:=r.le;refine⟨_,rfl,_,_,_,_,_,rfl,h1,N.m.k.cls,N.m.k.token,rfl,_,_,_,_,_,rfl,h2,N.m.k.tok.cls,N.m.k.tok.text,rfl,?_⟩;refine⟨_,rfl,x,rfl,?_⟩;have OA:(MP.shapeOf x=none\/left=0)->pq C E H0 (here ts):=λhb=>by
  have ee:c7 ls.length (braces ls.length h) left ts=.error (here ts):=by
   rcases hb with z|z
   ·by_cases y:∃w,Vaarrj.next ts=.word w
    ·obtain⟨w,hw⟩:=y;have:x=w:=by have:=h3;unfold MP.Tk at this;rw[hw] at this;exact this.1
     subst this;exact MP.UN hw z
    ·exact MP.DN λw hw=>y ⟨w,hw⟩
   ·subst z;exact MP.UM
  rw[ee] at q;exact q
 refine⟨_,rfl,_,_,_,rfl,h1,rfl,_,rfl,_,rfl,?_⟩;cases sh:MP.shapeOf x with
 |none=>
  exact⟨H0,HS,A,t,ls,ts,left,false,rfl,r,(λz=>nomatch z),λ_=>OA (.inl sh)⟩
 |some sp=>
  refine⟨_,rfl,_,_,_,_,_,rfl,h1,N.m.k.cls,N.m.k.code,rfl,_,_,_,_,_,rfl,r.cd,N.m.k.je,N.m.k.size,rfl,_,_,rfl,rfl,H0,HS,A,t,ls,ts,left,_,rfl,r,λz=>?_,λz=>OA (.inr ?_)⟩
  ·have l0:left≠0:=λy=>by have:=of_decide_eq_true z;rw[y] at this;exact absurd this (by decide)
   have hw:Vaarrj.next ts=.word x:=h3.shape sh;have OB:=MP.VB sh;have wy:=MP.Vy (N:=t.length) (n:=ls.length) (sub:=braces ls.length h) (λl=>MP.UJ h l) hw l0 sh;have q2:Rr C E H0 (MP.way t.length ls.length (braces ls.length h) x sp left ts) λy=>∃i,MP.LP y.1 y.2.1.1 i/\ ∀H' cO ti,cF K C H0 cO A t ls y.2.2 y.2.1.2 H'->gN HS cO H->fY R cO i ti->Kr A H H'->Q (.ref ti) H':=by
    cases ew:MP.way t.length ls.length (braces ls.length h) x sp left ts with
    |error p=>rw[ew] at wy;rw[wy] at q;exact q
    |ok y=>
     rw[ew] at wy;obtain⟨i,e1,e2⟩:=wy;rw[e1] at q;exact⟨i,e2,q⟩
   have q3:=Rr.bind q2;refine⟨_,rfl,_,_,_,_,_,rfl,h1,N.m.k.cls,N.m.k.code,rfl,_,_,_,_,_,rfl,r.cd,N.m.k.je,N.m.k.size,rfl,_,_,rfl,rfl,_,rfl,_,_,_,_,_,rfl,h1,N.m.k.cls,N.m.k.code,rfl,_,_,_,_,rfl,r.cd,N.m.k.je,N.m.k.size,(by show 3<1000;decide),?_⟩
   obtain⟨r1,k1⟩:=r.size l0;have ee:az "size" (.int (((512-left:Nat):Int)+1)) (og A (512-left))=og A (512-(left-1)):=by
    rw[show(((512-left:Nat):Int)+1)=((512-(left-1):Nat):Int) by lia];rfl
   rw[ee];generalize upd H A.cd (.ins C.code A.gU (og A (512-(left-1))))=H1 at r1 k1;refine⟨_,rfl,x,rfl,λH2 D tn=>?_⟩;obtain⟨up,nd,fr,t1,t2,t3,t4,t5,t6,t7,t8⟩:=tn;have r2:=r1.more up;obtain⟨uN,g1,_⟩:=r1.rd;obtain⟨xs,gb⟩:=r1.bt;have f1:H1 D.td=none:=fr _ (by simp)
   have f2:H1 D.pl=none:=fr _ (by simp)
   have f3:H1 D.ol=none:=fr _ (by simp)
   have f5:H1 D.cc=none:=fr _ (by simp)
   have om:∀{y z:ae} {o:HO},H1 y=none->H1 z=some o->y≠z:=λa b c=>by rw[c,b] at a;exact sn a
   have z0:∀{y:ae},H1 y=none->H0 y=none:=λ{y} hy=>by
    cases z:H0 y with
    |none=>rfl
    |some o=>rw[r1.old _ _ z] at hy;exact sn hy
   have zS:∀{y:ae},H1 y=none->HS y=none:=λ{y} hy=>by
    cases z:HS y with
    |none=>rfl
    |some o=>rw[r1.set _ _ z] at hy;exact sn hy
   have zH:∀{y:ae},H1 y=none->H y=none:=λ{y} hy=>by
    cases z:H y with
    |none=>rfl
    |some o=>
     exfalso;by_cases y1:y=A.rd
     ·rw[y1,g1] at hy;exact sn hy
     ·by_cases y2:y=A.cd
      ·rw[y2,r1.cd] at hy;exact sn hy
      ·rw[k1 _ _ z y1 y2] at hy;exact sn hy
   have d2:fq R H0 HS A D (MP.dQ x) H2:=⟨t1,t2,by rw[t3,t6];rfl,⟨om f1 g1,om f1 r1.cd,λz=>by simp[z] at nd,om f2 r1.ll,om f3 r1.ll⟩,⟨z0 f1,z0 f2,z0 f3⟩,⟨zS f1,zS f2,zS f3⟩,by rw[t8];decide,by rw[t6];decide⟩
   obtain⟨px,g2,_⟩:=r2.rd;refine⟨_,rfl,_,_,_,rfl,g2,rfl,H0,HS,A,t,ls,ts,left-1,rfl,r2,(by rw[hw];exactλy=>nomatch y),q3.mono λa ha3 H3 r3 k3=>?_⟩
   have d3:=d2.kr r2 k3;have q4:=Rr.bind ha3;refine⟨_,rfl,S sp,rfl,adP (x:=S sp) (λi σ H'=>∃τ' us v5,σ=[some (.ref A.rd),some (.int (ar:Int)),some (.str (S x)),some (.str (S sp)),some (.ref D.td),v5]/\cF K C H0 HS A t ls us (left-1) H'/\fq R H0 HS A D τ' H'/\τ'.parts.length<=1+i/\τ'.args.length<=i/\ (τ'.mask=none\/i=sp.length)/\τ'.act=(MP.dQ x).act/\Kd A D H3 H'/\
    aH t.length (gk ls.length sp (MP.dQ x) a.2)=aH t.length (gk ls.length (sp.drop i) τ' us)) ⟨MP.dQ x,a.2,none,rfl,r3,d3,by rw[t8];decide,by rw[t6];decide,.inl t7,rfl,Kd.of Kr.refl,rfl⟩ (λi c σ H' hi p=>?_) λσ H' p=>?_⟩
   ·obtain⟨τ',us,v5,rfl,r4,d4,l1,l2,mk,ac,k4,eq⟩:=p;have hi:sp[i]? =some c:=by
     have:(S sp).cps[i]? =sp[i]? :=by show sp.toArray[i]? =_;simp
     rw[<-this];exact hi
    obtain⟨pc,lst⟩:=MP.VD OB hi;have il:=(dz.mp hi).1;have l5:=MP.VC OB;have dr:sp.drop i=c::sp.drop (i+1):=by
     obtain⟨hl,e1⟩:=dz.mp hi;rw[<-e1];exact qP hl
    rw[eq,dr,MP.Ln] at q4;have q5:=Rr.bind q4;refine⟨_,rfl,_,rfl,_,rfl,H0,HS,A,D,t,ls,us,left-1,τ',c,rfl,pc,r4,d4,by lia,by lia,λz=>mk.elim id λy=>by lia,?_⟩
    unfold Bg;cases ep:aH t.length (d_ ls.length c τ' us) with
    |error p=>rw[ep] at q5;exact q5
    |ok y=>
     have pa:=MP.Vu (MP.nU ep).1;intro H5 r5 d5 k5;refine⟨y.1,y.2,_,rfl,r5,d5,by lia,by lia,?_,by rw[pa.1];exact ac,k4.trans k5,?_⟩
     ·by_cases OC:c=63
      ·exact .inr (lst OC)
      ·rcases mk with z|z
       ·exact .inl (by rw[MP.Vv OC (MP.nU ep).1];exact z)
       ·lia
     ·rw[eq,dr,MP.Ln,ep];rfl
   ·obtain⟨τ',us,v5,rfl,r4,d4,l1,l2,mk,ac,k4,eq⟩:=p;have sz:(S sp).cps.size=sp.length:=by show sp.toArray.size=_;simp
    rw[sz,BZ] at eq;have eq:aH t.length (gk ls.length sp (MP.dQ x) a.2)=.ok (τ',us):=by
     rw[eq];exact MP.i' (x:=(τ',us)) r4.good
    rw[eq] at q4;have q5:=Rr.bind q4;rw[<-ac] at q5;refine⟨_,rfl,_,rfl,_,rfl,H0,HS,A,D,t,ls,us,left-1,τ',ar,rfl,ha,r4,d4,q5.mono λu hu H5 qD D5 r5 g5 d5 oq k5=>?_⟩;obtain⟨i,⟨ti,hi⟩,hk⟩:=hu;have c1:D.cc≠A.rd:=om f5 g1;have c2:D.cc≠A.cd:=om f5 r1.cd;have c3:D.cc≠D.td:=λz=>by simp[z] at nd
    have c4:D.cc≠D.pl:=λz=>by simp[z] at nd
    have c5:D.cc≠D.ol:=λz=>by simp[z] at nd
    have OE:H' D.cc=some (.lst []):=k4 _ _ (k3 _ _ t5 c1 c2) c1 c2 c3 c4 c5;have cc5:H5 D.cc=some (.lst []):=k5 _ _ OE c1 c2 c3;have ccS:qD D.cc=none:=g5.none (zS f5) OE;have eD:D5.td=D.td/\D5.fZ=D.fZ/\D5.pl=D.pl/\D5.ol=D.ol:=by
     cases eu:u.1.1 with
     |plain=>rw[eu] at oq;have:D5=D:=oq;rw[this];exact⟨rfl,rfl,rfl,rfl⟩
     |one b=>rw[eu] at oq;obtain⟨bb,de,z,_⟩:=oq;rw[z];exact⟨rfl,rfl,rfl,rfl⟩
     |two b c=>
      rw[eu] at oq;obtain⟨bb,de,_,_,⟨_,z⟩|⟨cc,su,z,_⟩⟩:=oq
      ·rw[z];exact⟨rfl,rfl,rfl,rfl⟩
      ·rw[z];exact⟨rfl,rfl,rfl,rfl⟩
    have nT:∀{y:ae},H1 y=none->y≠A.ll/\y≠A.bl/\y≠A.rd/\y≠A.cd:=λhy=>⟨om hy r1.ll,om hy gb,om hy g1,om hy r1.cd⟩;obtain⟨dt,dp,pA,pB⟩:=eD;have s1:=(((r5.settle cc5 (z0 f5) c1 c2 (nT f5).1 (nT f5).2.1).settle (x:=D5.ol) d5.ol (by rw[pB];exact z0 f3) (by rw[pB];exact(nT f3).2.2.1) (by rw[pB];exact(nT f3).2.2.2) (by rw[pB];exact(nT f3).1) (by rw[pB];exact(nT f3).2.1)).settle (x:=D5.pl) d5.pl (by rw[pA];exact z0 f2) (by rw[pA];exact(nT f2).2.2.1) (by rw[pA];exact(nT f2).2.2.2) (by rw[pA];exact(nT f2).1) (by rw[pA];exact(nT f2).2.1)).settle (x:=D5.td) d5.td (by rw[dt];exact z0 f1) (by rw[dt];exact(nT f1).2.2.1) (by rw[dt];exact(nT f1).2.2.2) (by rw[dt];exact(nT f1).1) (by rw[dt];exact(nT f1).2.1)
    have pC:∀b o,qD b=some o->upd (upd (upd (upd qD D.cc (.lst [])) D5.ol (.lst (τ'.args.map V.int))) D5.pl (.lst (τ'.parts.map λx=>V.str (S x)))) D5.td (.ins R.ins D5.fZ (dO D5 τ')) b=some o:=λb o eb=>by
     rw[ak (bw eb d5.nS.1),ak (bw eb d5.nS.2.1),ak (bw eb d5.nS.2.2),ak (bw eb ccS)];exact eb
    have g6:gN HS qD H:=⟨g5.1,λb o eb=>(g5.2 b o eb).imp id λy=>?_⟩
    ·have g7:gN HS (upd (upd (upd (upd qD D.cc (.lst [])) D5.ol (.lst (τ'.args.map V.int))) D5.pl (.lst (τ'.parts.map λx=>V.str (S x)))) D5.td (.ins R.ins D5.fZ (dO D5 τ'))) H:=
      (((g6.one (H1:=H) r.set (zH f5)).one (H1:=H) r.set (by rw[pB];exact zH f3)).one (H1:=H) r.set (by rw[pA];exact zH f2)).one (H1:=H) r.set (by rw[dt];exact zH f1)
     have pt:D5.pl≠D5.td:=by rw[pA,dt];exactλz=>by simp[z] at nd
     have ot:D5.ol≠D5.td:=by rw[pB,dt];exactλz=>by simp[z] at nd
     have op:D5.ol≠D5.pl:=by rw[pB,pA];exactλz=>by simp[z] at nd
     have xB:=adQ (R:=R) (HS:=upd (upd (upd (upd qD D.cc (.lst [])) D5.ol (.lst (τ'.args.map V.int))) D5.pl (.lst (τ'.parts.map λx=>V.str (S x)))) D5.td (.ins R.ins D5.fZ (dO D5 τ'))) ti aA (by rw[ak pt,aA]) (by rw[ak ot,ak op,aA])
     have HW:upd (upd (upd (upd qD D.cc (.lst [])) D5.ol (.lst (τ'.args.map V.int))) D5.pl (.lst (τ'.parts.map λx=>V.str (S x)))) D5.td (.ins R.ins D5.fZ (dO D5 τ')) D.cc=some (.lst []):=by rw[ak (by rw[dt];exact c3),ak (by rw[pA];exact c4),ak (by rw[pB];exact c5),aA]
     have kf:Kr A H H5:=λb o eb n1 n2=>by
      have nb:∀{y:ae},H1 y=none->b≠y:=λhy z=>by rw[z,zH hy] at eb;exact ns eb
      exact k5 _ _ (k4 _ _ (k3 _ _ (up _ _ (k1 _ _ eb n1 n2)) n1 n2) n1 n2 (nb f1) (nb f2) (nb f3)) n1 n2 (nb f1)
     generalize upd (upd (upd (upd qD D.cc (.lst [])) D5.ol (.lst (τ'.args.map V.int))) D5.pl (.lst (τ'.parts.map λx=>V.str (S x)))) D5.td (.ins R.ins D5.fZ (dO D5 τ'))=HS6 at s1 pC g7 xB HW;refine⟨_,rfl,?_⟩;rw[<-dt];refine hk H5 HS6 D5.td s1 g7 ?_ kf;cases eu:u.1.1 with
     |plain=>
      rw[eu] at hi;obtain⟨n1,n2⟩:=hi;cases i with
      |for_ d c b=>exact absurd rfl (n1 d c b)
      |when s b c=>exact absurd rfl (n2 s b c)
      |_=>simp only[fY];exact⟨_,_,xB⟩
     |one b=>
      rw[eu] at hi oq;obtain⟨d,c,rfl⟩:=hi;obtain⟨bb,de,z,hb,hB⟩:=oq;simp only[fY];exact⟨_,_,de,xB,by rw[z];exact pC _ _ hb,b8.mono pC hB,by rw[z];exact HW⟩
     |two b c=>
      rw[eu] at hi oq;obtain⟨s,rfl⟩:=hi;obtain⟨bb,de,hb,hB,⟨rfl,z⟩|⟨cc,su,z,hc,hC⟩⟩:=oq
      ·simp only[fY];exact⟨_,_,de,[],xB,by rw[z];exact pC _ _ hb,b8.mono pC hB,by rw[z];exact HW,by simp only[b8]⟩
      ·simp only[fY];exact⟨_,_,de,su,xB,by rw[z];exact pC _ _ hb,b8.mono pC hB,by rw[z];exact pC _ _ hc,b8.mono pC hC⟩
    ·
     cases z:H b with
     |none=>rfl
     |some o2=>
      exfalso;by_cases y1:b=A.rd
      ·obtain⟨_,y2,_⟩:=r4.rd;rw[y1,y2] at y;exact sn y
      ·by_cases y2:b=A.cd
       ·rw[y2,r4.cd] at y;exact sn y
       ·have nb:∀{v:ae},H1 v=none->b≠v:=λhv w=>by rw[w,zH hv] at z;exact ns z
        rw[k4 _ _ (k3 _ _ (up _ _ (k1 _ _ z y1 y2)) y1 y2) y1 y2 (nb f1) (nb f2) (nb f3)] at y;exact sn y
  ·have:=of_decide_eq_false z
   lia
end
section
variable{R:Cl}{C:Cg}
inductive OF(C:Cg)(vs:List V)(H:Hp)(Q:VK)(_:XK):Prop
 |mk (p dx:_) (_:vs=[.ref p]) (_:H p=some (.ins C.code dx [])) (_:∀H' ll bl,Made p H H' [ll,bl]->H' p=some (.ins C.code dx [("lengths",.ref ll),("body",.ref bl),("size",.int 0)])->H' ll=some (.lst [])->H' bl=some (.lst [])->Q .aM H')
def adS(F:aD K "__init__" "Code.__init__" z9 f fd)(k:jU K C):aB P w K mg base au 1 f fd ["self"] (OF C):=by
 refine F.oK ZP λ_ _ _ _ H vs Q E hr h=>?_;obtain⟨a,dx,rfl,ha,q⟩:=h;refine⟨_,ay (cT (pv 0) (cR aj) rfl) (ay (cT (pv 0) (cR aj) rfl) (aw (cT (pv 0) aO rfl))),?_⟩;have m0:Made a H H []:=Made.refl ⟨_,ha⟩;refine⟨eX _,λll Bo=>?_⟩;have nl:ll≠a:=λz=>by rw[z,ha] at Bo;exact sn Bo
 have m1:=m0.one (o:=.lst []) Bo (λb u eb=>by rw[ak (bw eb Bo)];exact eb) aA
 have v1:upd H ll (.lst []) ll=some (.lst []):=aA;have a1:upd H ll (.lst []) a=some (.ins C.code dx []):=by rw[ak (Ne.symm nl)];exact ha
 generalize upd H ll (.lst [])=H1 at m1 v1 a1;refine⟨_,rfl,_,_,_,_,rfl,a1,k.je,k.lengths,(by show 0<1000;decide),?_⟩
 have m2:=m1.write (o:=.ins C.code dx (az "lengths" (.ref ll) []));have v2:upd H1 a (.ins C.code dx (az "lengths" (.ref ll) [])) ll=some (.lst []):=by rw[ak nl];exact v1
 have a2:upd H1 a (.ins C.code dx (az "lengths" (.ref ll) [])) a=some (.ins C.code dx (az "lengths" (.ref ll) [])):=aA;generalize upd H1 a (.ins C.code dx (az "lengths" (.ref ll) []))=H2 at m2 v2 a2;refine⟨eX _,λbl eQ=>?_⟩;have nb:bl≠a:=λz=>by rw[z,a2] at eQ;exact sn eQ
 have lb:ll≠bl:=bw v2 eQ;have m3:=m2.one (o:=.lst []) eQ (λb u eb=>by rw[ak (bw eb eQ)];exact eb) aA
 have v3:upd H2 bl (.lst []) ll=some (.lst []):=by rw[ak lb];exact v2
 have w3:upd H2 bl (.lst []) bl=some (.lst []):=aA;have a3:upd H2 bl (.lst []) a=some (.ins C.code dx (az "lengths" (.ref ll) [])):=by rw[ak (Ne.symm nb)];exact a2
 generalize upd H2 bl (.lst [])=H3 at m3 v3 w3 a3;refine⟨_,rfl,_,_,_,_,rfl,a3,k.je,k.body,(by show 1<1000;decide),?_⟩
 refine⟨_,rfl,_,_,_,_,rfl,aA,k.je,k.size,(by show 2<1000;decide),?_⟩
 exact q _ ll bl (m3.write.write) (by rw[aA];rfl) (by rw[ak nl,ak nl];exact v3) (by rw[ak nb,ak nb];exact w3)
structure HX(K:aI)(mg:Str->Option ai)(C:Cg):Prop where
 code:∃f fd,Mk K C.code f/\aD K "__init__" "Code.__init__" z9 f fd/\mg "Code"=some (.ref C.code)
 dw:∃f fd,Mk K C.dw f/\aD K "__init__" "Reader.__init__" z_ f fd/\mg "Reader"=some (.ref C.dw)
def mG:Hp:=λ_=>none
inductive OG(K:aI)(C:Cg)(vs:List V)(H:Hp)(Q:VK)(E:XK):Prop
 |mk (H0 p dx tx t:_) (_:vs=[.ref p,.ref tx]) (_:H p=some (.ins C.dw dx [])) (_:H0 p=none) (_:(∀b o,H0 b=some o->H b=some o)) (_:aF K H0 tx (dS t)) (_:t.length<=20000) (_:(bad t.length (T t 0)->pq C E H0 (here (T t 0)))) (_:(¬bad t.length (T t 0)->∀H' A,A.rd=p->cF K C H0 mG A t [] (T t 0) 512 H'->H' A.bl=some (.lst [])->A.ll≠A.bl->Q .aM H'))
def adT(F:aD K "__init__" "Reader.__init__" z_ f fd)(k:jU K C)(RC:HX K mg C)(GT:aK P w K mg base (bf P w) 5 "token_at" ["text","at"] (xt K C)):aB P w K mg base (bf P w) 6 f fd ["self","text"] (OG K C):=by
 obtain⟨fc,fdc,Mc,Fc,mC⟩:=RC.code;have GC:aB P w K mg base au 1 fc fdc ["self"] (OF C):=adS Fc k;have bC:=Fc.b1 "self";refine F.oX ZR λ_ _ _ _ H vs Q E hr h=>?_;obtain⟨H0,p,dx,tx,t,rfl,hp,pk,old,Bp,tl,qb,q⟩:=h;have iY:=hr.mono (show 2<=5 by decide)
 refine⟨_,ay (cT (pv 0) (pv 1) rfl) (ay (cT (pv 0) (aV GT hr cS (ah (pv 1) (ah aO aj))) rfl) (aw (cT (pv 0) (Kh Mc GC iY rfl mC bC .nil aW) rfl))),?_⟩;refine⟨_,rfl,_,rfl,_,_,_,_,rfl,hp,k.cls,k.text,(by show 0<1000;decide),?_⟩
 have Bq:∀b o,H0 b=some o->upd H p (.ins C.dw dx (az "text" (.ref tx) [])) b=some o:=λb o e=>by rw[ak λz=>by rw[z,pk] at e;exact ns e];exact old b o e
 have p1:upd H p (.ins C.dw dx (az "text" (.ref tx) [])) p=some (.ins C.dw dx (az "text" (.ref tx) [])):=aA;generalize upd H p (.ins C.dw dx (az "text" (.ref tx) []))=H1 at Bq p1;refine⟨_,rfl,H0,tx,t,0,rfl,t9.seq Bq Bp,eX _,tl,Bq,qb,λnb H2 tk k2 hk tkA=>?_⟩;refine⟨_,rfl,_,_,_,_,rfl,k2 _ _ p1,k.cls,k.token,(by show 1<1000;decide),?_⟩
 have tp:tk≠p:=λz=>by rw[z,p1] at hk;exact sn hk
 have HY:∀b o,H0 b=some o->upd H2 p (.ins C.dw dx (az "token" (.ref tk) (az "text" (.ref tx) []))) b=some o:=λb o e=>by rw[ak λz=>by rw[z,pk] at e;exact ns e];exact k2 _ _ (Bq b o e)
 have p3:upd H2 p (.ins C.dw dx (az "token" (.ref tk) (az "text" (.ref tx) []))) p=some (.ins C.dw dx (az "token" (.ref tk) (az "text" (.ref tx) []))):=aA;have t3:pw C t (T t 0) tk (upd H2 p (.ins C.dw dx (az "token" (.ref tk) (az "text" (.ref tx) [])))):=by
  obtain⟨d1,x,e,a1,a2⟩:=tkA;exact⟨d1,x,e,by rw[ak tp];exact a1,a2⟩
 generalize upd H2 p (.ins C.dw dx (az "token" (.ref tk) (az "text" (.ref tx) [])))=H3 at HY p3 t3;refineλc dc nc nd ne=>⟨c,dc,rfl,aA,λH4 ll bl m h1 h2 h3=>⟨rfl,?_⟩⟩;obtain⟨m4,k4⟩:=Made.nest p3 nc nd m;refine⟨_,rfl,_,_,_,_,rfl,k4 _ _ p3,k.cls,k.code,(by show 2<1000;decide),?_⟩
 have np:∀a∈[c,ll,bl],a≠p:=λa ha z=>by have:=m4.fr a ha;rw[z,p3] at this;exact sn this
 have f0:∀a∈[c,ll,bl],H0 a=none:=λa ha=>by
  cases z:H0 a with
  |none=>rfl
  |some o=>have:=m4.fr a ha;rw[HY _ _ z] at this;exact sn this
 have kk:∀b o,H4 b=some o->b≠p->upd H4 p (.ins C.dw dx (az "code" (.ref c) (az "token" (.ref tk) (az "text" (.ref tx) [])))) b=some o:=λb o e n=>by rw[ak n];exact e
 have lb:ll≠bl:=λz=>by have:=m.nd;simp[z] at this
 refine q nb _ ⟨p,dx,tx,c,dc,ll,bl⟩ rfl ⟨⟨tk,aA,?_⟩,kk _ _ h1 (np c (by simp)),kk _ _ h2 (np ll (by simp)),Bp,tl,nb,bz _,by simp,λb o e=>kk _ _ (k4 _ _ (HY b o e)) (λz=>by rw[z,pk] at e;exact ns e),(λb o e=>nomatch e),⟨pk,f0 c (by simp),f0 ll (by simp),f0 bl (by simp)⟩,⟨rfl,rfl,rfl,rfl⟩,(λb o e=>nomatch e),[],kk _ _ h3 (np bl (by simp))⟩ (kk _ _ h3 (np bl (by simp))) lb
 obtain⟨d1,x,e,a1,a2⟩:=t3;exact⟨d1,x,e,kk _ _ (k4 _ _ a1) tp,a2⟩
end
structure HZ(K:aI)(mg:Str->Option ai):Prop where
 adU:Dd K mg "is_digit" zO
 adV:Dd K mg "is_letter" zQ
 character:Dd K mg "character" zR
 adW:Dd K mg "characters" wH
 decimal:Dd K mg "decimal" zT
 adX:Dd K mg "remark_end" zU
 adY:Dd K mg "token_start" zV
 adZ:Dd K mg "word_at" zX
 ad0:Dd K mg "number_at" zY
 ad1:Dd K mg "token_at" z7
 ad2:Dd K mg "how_many" Aa
 ad3:Dd K mg "read_named" Ab
 ad4:Dd K mg "read_operator" FQ
 ad5:Dd K mg "read_signed" FR
 ad6:Dd K mg "read_place" FU
 ad7:Dd K mg "read_mask" FV
 ad8:Dd K mg "read_part" Ae
 ad9:Dd K mg "shape_of" Af
 aea:Dd K mg "instruction_of" Ag
 aeb:Dd K mg "read_block" Ah
 aec:Dd K mg "read_ending" FX
 aed:Dd K mg "read_instruction" FY
 aee:Dd K mg "read_array" FZ
inductive Md(K:aI)(C:ae)(x q:Str)(st:cD):Prop
 |mk (f fd:_) (_:Meth K C x f) (_:aD K x q st f fd)
structure Gr(K:aI)(w:bB)(mg:Str->Option ai)(R:Cl)(C:Cg):Prop where
 d:HZ K mg
 g:GI mg
 e:EK K R
 k:jU K C
 fc:n9 K mg C
 tc:qy K mg C
 bl:A0 K mg
 sg:A8 K w mg
 on:sr K w mg
 sh:Shapes K w mg
 ic:Bk K mg R
 rc:HX K mg C
 dq:Md K C.dw "advance" "Reader.advance" wI
 ref:Md K C.dw "refuse_unless" "Reader.refuse_unless" wJ
 pass:Md K C.dw "pass_by" "Reader.pass_by" wK
 up:Md K C.dw "number_up_to" "Reader.number_up_to" wL
section
variable{R:Cl}{C:Cg}
def OH(G:Gr K w mg R C):aK P w K mg base (bf P w) 5 "token_at" ["text","at"] (xt K C):=by
 obtain⟨_,_,F1⟩:=G.d.adU;obtain⟨_,_,F2⟩:=G.d.adV;obtain⟨_,_,F3⟩:=G.d.character;obtain⟨_,_,F4⟩:=G.d.adW;obtain⟨_,_,F5⟩:=G.d.decimal;obtain⟨_,_,F6⟩:=G.d.adX;obtain⟨_,_,F7⟩:=G.d.adY;obtain⟨_,_,F8⟩:=G.d.adZ;obtain⟨_,_,F9⟩:=G.d.ad0;obtain⟨_,_,F10⟩:=G.d.ad1;have GD:=acD (P:=P) (w:=w) (base:=base) F1 G.g;have GL:=acE (P:=P) (w:=w) (base:=base) F2 G.g;have GC:=acP F4 (acI (P:=P) (w:=w) (base:=base) F3 G.g GD);have GN:=NZ (P:=P) (w:=w) (base:=base) F5 G.g;exact ac1 F10 G.g G.tc G.fc G.sg (acU F7 G.g G.bl (acR F6 G.g)) GL GD (acW F8 G.g G.tc GL GD GC) (acZ F9 G.g G.tc G.fc GD GC GN)
def OI(G:Gr K w mg R C):aK P w K mg base au 1 "decimal" ["digits","most"] qx:=by
 obtain⟨_,_,F5⟩:=G.d.decimal;exact NZ F5 G.g
def uO(G:Gr K w mg R C):qz P w K mg base C:=by
 obtain⟨_,_,m1,F1⟩:=G.dq;obtain⟨_,_,m2,F2⟩:=G.ref;exact⟨G.k,⟨_,_,m1,adg F1 G.k (OH G),F1.b1 "self"⟩,⟨_,_,m2,adk F2 G.k G.fc,F2.b2 "self" "fits"⟩⟩
def sx(G:Gr K w mg R C):qA P w K mg base C:=by
 obtain⟨_,_,m1,F1⟩:=G.pass;obtain⟨_,_,m2,F2⟩:=G.up;exact⟨uO G,⟨_,_,m1,adm F1 (uO G),F1.b2 "self" "text"⟩,⟨_,_,m2,ado F2 (uO G) (OI G),F2.b2 "self" "most"⟩⟩
def aef(G:Gr K w mg R C):aK P w K mg base (bf P w) 9 "read_part" ["reader","part","told"] (Bi K R C):=by
 obtain⟨_,_,F1⟩:=G.d.ad2;obtain⟨_,_,F2⟩:=G.d.ad3;obtain⟨_,_,F3⟩:=G.d.ad4;obtain⟨_,_,F4⟩:=G.d.ad5;obtain⟨_,_,F5⟩:=G.d.ad6;obtain⟨_,_,F6⟩:=G.d.ad7;obtain⟨_,_,F7⟩:=G.d.ad8;have GN:=adw (P:=P) (w:=w) (base:=base) F2 (uO G) (OI G) (adq F1 G.k G.g);have b:∀{x:Str} {st:cD} {f:ae} {fd:dP},(∀us:List ai,us.length=2->True)->True:=λ_=>trivial;exact adC F7 G.e G.g
  (Bh F3 (F3.1.b2 "reader" "told") (adx F3.1 (uO G) G.e G.on))
  (Bh F4 (F4.1.b2 "reader" "told") (adA F4.1 (sx G) G.e G.g))
  (Bh F5 (F5.1.b2 "reader" "told") (ady F5.1 (sx G) G.e G.g))
  (Bh F6 (F6.1.b2 "reader" "told") (adz F6.1 (uO G) G.e G.g GN)) GN
def OJ{h k:Nat}(G:Gr K w mg R C)(GB:aK P w K mg base (bf P w) (k+7) "read_block" ["reader","around"] (xA K R C h)):aK P w K mg base (bf P w) (k+10) "read_instruction" ["reader","around"] (Bl K R C h):=by
 obtain⟨_,_,F1⟩:=G.d.ad9;obtain⟨_,_,F2⟩:=G.d.aea;obtain⟨_,_,F3⟩:=G.d.aec;obtain⟨_,_,F4⟩:=G.d.aed;have GE:aK P w K mg base (bf P w) (k+9) "read_ending" ["reader","told","around"] (HU K R C h):=
  ⟨_,_,(adO F3.1 (sx G) G.e G.g GB).mono (by lia),F3.2,F3.1.kp,F3.1.b3 "reader" "told" "around"⟩
 exact⟨_,_,adR F4.1 (sx G) G.e G.g (adF F1 G.g G.on G.sh) (adJ F2 G.e G.on G.ic) (aef G) GE,F4.2,F4.1.kp,F4.1.b2 "reader" "around"⟩
def aeg(G:Gr K w mg R C):∀h,aK P w K mg base (bf P w) (4*h+7) "read_block" ["reader","around"] (xA K R C h):=by
 obtain⟨f,fd,F⟩:=G.d.aeb;have b:=F.1.b2 "reader" "around";intro h
 induction h with
 |zero=>exact⟨f,fd,adK (k:=3) F.1 (sx G) G.g,F.2,F.1.kp,b⟩
 |succ h ih=>
  have GI:=OJ (k:=4*h) G ih;exact⟨f,fd,adL (k:=4*h+2) F.1 (sx G) G.g GI,F.2,F.1.kp,b⟩
def aeh(G:Gr K w mg R C):aK P w K mg base (bf P w) 42 "read_instruction" ["reader","around"] (Bl K R C 8):=OJ (k:=32) G (aeg G 8)
inductive OK(K:aI)(C:Cg)(vs:List V)(H:Hp)(Q:VK)(E:XK):Prop
 |mk (H0 A t ls ts:_) (_:vs=[.ref A.rd]) (_:cF K C H0 mG A t ls ts 512 H) (_:A.ll≠A.bl) (_:Vaarrj.next ts=.word (aC "array")) (_:(32<=ls.length->pq C E H0 (here ts))) (_:(ls.length<32->Rr C E H0 (aH t.length (MP.lO ts)) λu=>∀H',cF K C H0 mG A t (ls++[u.1]) u.2 512 H'->H' A.bl=H A.bl->Q .aM H'))
def aei{f:ae}{fd:dP}(F:aD K "read_array" "read_array" FZ f fd)(N:qA P w K mg base C)(g:GI mg):aB P w K mg base (bf P w) 8 f fd ["reader"] (OK K C):=by
 obtain⟨fr,ip,mr,Gr,br⟩:=N.m.ref;obtain⟨fa,kY,ma,Ga,ba⟩:=N.m.dq;obtain⟨fp,Ou,mp,Gp,bp⟩:=N.pass;obtain⟨fu,fdu,mu,Gu,bu⟩:=N.up;refine F.oX aah λ_ A _ _ H vs Q E hr h=>?_;obtain⟨H0,A,t,ls,ts,rfl,r,uP,hw,q1,q2⟩:=h;have fk:=hr.mono (show 3<=7 by decide)
 have mz:=hr.mono (show 6<=7 by decide)
 refine⟨_,ay (bK (jm (pv 0) N.m.k.cls mr Gr fk br .nil cS (ah (oO gz (eV iA (by rfl) g.fX gj (ah (aN (aN (pv 0) rfl) rfl) aj)) (b_ g.aaK) (bO _)) aj)))
  (ay (bK (nL (pv 0) N.m.k.cls ma Ga mz ba .nil cS))
  (ay (bK (iS i6 lB lC kd (aN (aN (pv 0) rfl) rfl) (ah (jm (pv 0) N.m.k.cls mu Gu hr bu .nil cS (ah (b_ g.Nn) aj)) aj)))
  (aw (bK (jm (pv 0) N.m.k.cls mp Gp hr bp .nil cS (ah bY aj)))))),?_⟩
 obtain⟨tk,h1,dx,x,en,h2,h3,h4,h5,h6⟩:=r.rd;have es:(bU ";")=S [59]:=by decide+kernel
 have el:(iq ls).length=ls.length:=by unfold iq;rw[bq]
 refine⟨_,rfl,_,_,_,rfl,h1,rfl,_,rfl,_,_,_,_,_,rfl,h1,N.m.k.cls,N.m.k.code,rfl,_,_,_,_,_,rfl,r.cd,N.m.k.je,N.m.k.lengths,rfl,_,_,rfl,.inl (aF.of r.ll),_,_,rfl,rfl,H0,mG,A,t,ls,ts,512,_,rfl,r,λz=>?_,λz=>q1 ?_⟩
 ·have z:=of_decide_eq_true z;rw[el] at z;have H_:ls.length<32:=by lia
  have q:=q2 H_;rw[MP.UY] at q;have q:=Rr.bind q;refine⟨_,rfl,_,_,_,rfl,h1,rfl,H0,mG,A,t,ls,ts,512,rfl,r,(by rw[hw];exactλy=>nomatch y),q.mono λa ha H1 r1 k1=>?_⟩
  obtain⟨uN,g1,g2⟩:=r1.rd;have ha:=Rr.bind ha;have c1:A.ll≠A.rd:=cE r.ll h1 (by intro z;cases z)
  have c2:A.ll≠A.cd:=cE r.ll r.cd (by intro z;cases z)
  obtain⟨xs,rO⟩:=r.bt;have b1:A.bl≠A.rd:=cE rO h1 (by intro z;cases z)
  have b2:A.bl≠A.cd:=cE rO r.cd (by intro z;cases z)
  refine⟨_,rfl,_,_,_,_,_,rfl,g1,N.m.k.cls,N.m.k.code,rfl,_,_,_,_,_,rfl,r1.cd,N.m.k.je,N.m.k.lengths,rfl,.inl ⟨rfl,_,aF.of r1.ll⟩,?_⟩;refine⟨_,rfl,_,_,_,rfl,g1,rfl,H0,mG,A,t,ls,a.2,512,1024,rfl,by decide,r1,ha.mono λv hv H2 r2 k2=>?_⟩
  refine⟨_,_,_,rfl,rfl,r2.ll,(by rw[el,aP];lia),?_⟩
  obtain⟨px,m1,AL,x2,e2,m2,m3⟩:=r2.rd;have kk:∀b o,H2 b=some o->b≠A.ll->upd H2 A.ll (.lst (iq ls++[.int ((v.1:Nat):Int)])) b=some o:=λb o e n=>by rw[ak n];exact e
  have r3:cF K C H0 mG A t (ls++[v.1]) v.2 512 (upd H2 A.ll (.lst (iq ls++[.int ((v.1:Nat):Int)]))):=
   ⟨⟨px,kk _ _ m1 (Ne.symm c1),AL,x2,e2,kk _ _ m2 (cE m2 r2.ll (by intro z;cases z)),m3⟩,kk _ _ r2.cd (Ne.symm c2),(by rw[aA];unfold iq;rw[iw];rfl),r2.tx,r2.tl,r2.good,r2.le,(by rw[bS];simp;lia),λb o e=>kk _ _ (r2.old b o e) (λz=>by rw[z,r2.n0.2.2.1] at e;exact ns e),(λb o e=>nomatch e),r2.n0,r2.nS,r2.sn,xs,kk _ _ (k2 _ _ (k1 _ _ rO b1 b2) b1 b2) (Ne.symm uP)⟩
  have ev:aH t.length ((Jx 59 v.2).bind λu=>.ok (v.1,u.2))=j3 (λ_=>v.1) (aH t.length (Jx 59 v.2)):=by rw[<-MP.gA,MP.gL]
  rw[ev] at hv;have hv:=hv.also;obtain⟨tk3,n1,_⟩:=r3.rd;refine⟨_,rfl,_,_,_,rfl,n1,rfl,H0,mG,A,t,ls++[v.1],v.2,512,59,(by rw[<-es];rfl),by decide,r3,hv.mono λu hu H4 r4 k4=>hu H4 r4 ?_⟩
  rw[k4 _ _ (kk _ _ (k2 _ _ (k1 _ _ rO b1 b2) b1 b2) (Ne.symm uP)) b1 b2,rO]
 ·have:=of_decide_eq_false z;rw[el] at this
  lia
end
open Vaarrj (readCode lengths)
open MP (tt)
inductive Ia(R:Cl)(C:Cg)(HC:Hp)(cd:ae)(c:Ca):Prop
 |mk (gU ll bl ts:_) (_:HC cd=some (.ins C.code gU [("lengths",.ref ll),("body",.ref bl),("size",.int ((c.body.size:Nat):Int))])) (_:HC ll=some (.lst (iq c.lengths))) (_:HC bl=some (.lst (ts.map V.ref))) (_:b8 R HC c.body ts)
def Ib(R:Cl)(C:Cg)(H:Hp)(r:Except Nat Ca)(Q:VK)(E:XK):Prop:=match r with
 | .error p=>pq C E H p
 | .ok c=>MP.Good c->∀H' HC cd,(∀b o,H b=some o->H' b=some o)->(∀b o,HC b=some o->H' b=some o/\H b=none)->Ia R C HC cd c->Q (.ref cd) H'
inductive xC(K:aI)(R:Cl)(C:Cg)(vs:List V)(H:Hp)(Q:VK)(E:XK):Prop
 |mk (tx t:_) (_:vs=[.ref tx]) (_:aF K H tx (dS t)) (_:t.length<=20000) (_:Ib R C H (readCode t) Q E)
section
variable{R:Cl}{C:Cg}
def aej{ts:aL}{N:Nat}{x:Nat×aL}(h:aH N (MP.lO ts)=.ok x)(hw:Vaarrj.next ts=.word (aC "array")):x.2.length<ts.length:=by
 have h:=(MP.nU h).1;unfold MP.lO at h;cases e:MP.fU 1024 (ts.drop 1) with
 |error p=>rw[e] at h;cases h
 |ok y=>
  rw[e] at h;simp only[i5] at h;have l1:y.2.length<=(ts.drop 1).length:=by
   unfold MP.fU at e
   split at e
   ·split at e
    ·exact eo e
    ·obtain rfl:=bG e;exact MP.qj _
   ·exact eo e
  cases e2:Jx 59 y.2 with
  |error p=>rw[e2] at h;exact eo h
  |ok z=>
   rw[e2] at h;obtain rfl:=bG h;have l2:=MP.vN 59 _ _ e2;have l3:=MP.Lr (ts:=ts) (by rw[hw];exactλy=>nomatch y)
   show z.2.length<_
   lia
def aek(F:aD K "read_code" "read_code" Ai f fd)(G:Gr K w mg R C):aB P w K mg base (bf P w) 43 f fd ["text"] (xC K R C):=by
 obtain⟨fi,fh,Mi,Fi,mI⟩:=G.rc.dw;have GR:aB P w K mg base (bf P w) 6 fi fh ["self","text"] (OG K C):=adT Fi G.k G.rc (OH G);have bR:=Fi.b2 "self" "text";obtain⟨_,_,F1⟩:=G.d.aee;have GA:aK P w K mg base (bf P w) 8 "read_array" ["reader"] (OK K C):=⟨_,_,aei F1.1 (sx G) G.g,F1.2,F1.1.kp,F1.1.b1 "reader"⟩;have GI:=aeh (P:=P) (base:=base) G;refine F.oX Nb λ_ A _ _ H vs Q E hr h=>?_;obtain⟨tx,t,rfl,Bp,tl,q⟩:=h;have qB:=hr.mono (show 7<=42 by decide)
 have hr8:=hr.mono (show 8<=42 by decide)
 refine⟨_,ay (bE 1 Nb.nd (j' Mi GR qB rfl mI bR .nil cS (ah (pv 0) aj)))
  (ay (zv qp ⟨rfl,rfl⟩ (λ_ _=>bV fT (jR (K:=K) rfl (jR (K:=K) rfl (pv 1) rfl) rfl) bY (bO _)) (λpn xe E ht=>aw (bK (aV GA hr8 ht.passes (ah (pv 1) aj)))))
  (ay (zv qp ⟨rfl,rfl⟩ (λ_ _=>bV jk (jR (K:=K) rfl (jR (K:=K) rfl (pv 1) rfl) rfl) bY (bO _))
    (λpn xe E ht=>aw (bK (Oq (K:=K) rfl i6 lB lC kd (jR (K:=K) rfl (jR (K:=K) rfl (pv 1) rfl) rfl) (ah (aV GI hr ht.passes (ah (pv 1) (ah aO aj))) aj)))))
  (aw (bh (aN (pv 1) rfl))))),?_⟩
 rw[MP.UZ,<-MT.Ll] at q;refine⟨_,rfl,λp dx np nd ne=>?_⟩;have up:∀b o,H b=some o->upd (upd H dx (.own p)) p (.ins C.dw dx []) b=some o:=λb o e=>by rw[ak (bw e np),ak (bw e nd)];exact e
 refine⟨H,p,dx,tx,t,rfl,aA,np,up,Bp,tl,λb=>?_,λgd H1 A eA r1 AQ uP=>⟨rfl,?_⟩⟩
 ·rw[MP.LD 32 _ b] at q;exact q
 subst eA;have E1:Rr C E H (aH t.length (lengths 32 (T t 0))) λl=>Ib R C H ((aH t.length (tt t.length l.1.length (braces l.1.length 8) 512 l.2)).bind λb=>.ok ⟨l.1,b.1.1⟩) Q E:=by
  cases e:aH t.length (lengths 32 (T t 0)) with
  |error p=>rw[e] at q;exact q
  |ok l=>rw[e] at q;exact q
 refine⟨λm σ H'=>∃ls us,m=us.length/\σ=[some (.ref tx),some (.ref A.rd)]/\cF K C H mG A t ls us 512 H'/\H' A.bl=some (.lst [])/\aH t.length (lengths 32 (T t 0))=j3 (λl=>ls++l) (aH t.length (lengths (32-ls.length) us)),⟨_,[],T t 0,rfl,rfl,r1,AQ,?_⟩,?_⟩
 ·show _=j3 (λl=>l) (aH t.length (lengths 32 (T t 0)));cases aH t.length (lengths 32 (T t 0))<;>rfl
 rintro m σ H' ⟨ls,us,rfl,rfl,r2,ck,eq⟩;obtain⟨px,g1,AL,x,en,g2,g3,g4,g5,g6⟩:=r2.rd;have hs:=g3.LO (w:=aC "array") (c:=97) (r:=[114,114,97,121]) (by decide+kernel) (by decide)
 have ln:=r2.ln;refine⟨_,rfl,_,_,_,_,_,rfl,g1,G.k.cls,G.k.token,rfl,_,_,_,_,_,rfl,g2,G.k.tok.cls,G.k.tok.text,rfl,rfl,_,rfl,?_⟩;rw[mE];refine bX (λz=>?_) λz=>?_
 ·
  have z:=hs.mp z;rw[eq] at E1;have E2:=E1.also;refine⟨_,λσ' H' x=>x,_,rfl,H,A,t,ls,us,rfl,r2,uP,z,λH_=>?_,λH_=>?_⟩
  ·rw[show 32-ls.length=0 by lia,MP.LB z] at E2
   exact E2
  ·rw[show 32-ls.length=(32-(ls.length+1))+1 by lia,MP.LF z] at E2
   have E3:=Rr.bind E2;cases ea:aH t.length (MP.lO us) with
   |error p=>rw[ea] at E3;exact E3
   |ok v=>
    intro H3 r3 eB;have lt:=aej ea z;refine⟨v.2.length,lt,ls++[v.1],v.2,rfl,rfl,r3,by rw[eB];exact ck,?_⟩
    rw[eq,show 32-ls.length=(32-(ls.length+1))+1 by lia,MP.LF z,ea,MP.fA,MP.DC,bS]
    show j3 (λx=>ls++v.1::x) _=j3 (λl=>(ls++[v.1])++l) _
    congr 1
    funext l
    rw[lh];rfl
 ·
  have z: ¬Vaarrj.next us=.word (aC "array"):=λy=>z (hs.mpr y);rw[MP.y9 z,MP.i' (x:=(([]:List Nat),us)) r2.good] at eq;have eq:aH t.length (lengths 32 (T t 0))=.ok (ls,us):=by rw[eq];show uT (ls++[],us)=_;rw[dA]
  rw[eq] at E1;have E1:Ib R C H ((aH t.length (tt t.length ls.length (braces ls.length 8) 512 us)).bind λb=>.ok ⟨ls,b.1.1⟩) Q E:=E1;have sh:∀l,MP.cz (braces ls.length 8 l):=λl=>MP.DP _ _ l;refine⟨λm σ H'=>∃vs eO cO is de,m=vs.length/\σ=[some (.ref tx),some (.ref A.rd)]/\cF K C H cO A t ls vs eO H'/\H' A.bl=some (.lst (de.map V.ref))/\b8 R cO (pre is .nil) de/\de.length+eO<=512/\
   aH t.length (tt t.length ls.length (braces ls.length 8) 512 us)=j3 (λx=>(pre is x.1,x.2)) (aH t.length (tt t.length ls.length (braces ls.length 8) eO vs)),⟨_,us,512,mG,[],[],rfl,rfl,r2,ck,(by show b8 R mG .nil [];simp only[b8]),by simp,?_⟩,?_⟩
  ·cases aH t.length (tt t.length ls.length (braces ls.length 8) 512 us)<;>rfl
  rintro m σ H3 ⟨vs,eO,cO,is,de,rfl,rfl,r3,eB,hB,lnn,eq2⟩;obtain⟨tk3,m1,dx3,x3,en3,m2,m3,m4,m5,m6⟩:=r3.rd;have e0:(bU "")=S []:=by decide+kernel
  refine⟨_,rfl,_,_,_,_,_,rfl,m1,G.k.cls,G.k.token,rfl,_,_,_,_,_,rfl,m2,G.k.tok.cls,G.k.tok.text,rfl,rfl,_,rfl,?_⟩;rw[e0];have hx:(V.str (S x3)=V.str (S []))↔Vaarrj.next vs=.none:=⟨λy=>m3.none.mp (by injection y with y;exact MX.lX y),λy=>by rw[m3.none.mpr y]⟩
  refine nV (λy=>?_) λy=>?_
  ·have y:Vaarrj.next vs≠ .none:=λn=>y (hx.mpr n);have E2:Rr C E H (aH t.length (c7 ls.length (braces ls.length 8) eO vs)) λ_=>True:=by
    cases ei:aH t.length (c7 ls.length (braces ls.length 8) eO vs) with
    |ok i=>trivial
    |error p=>
     rw[eq2,MP.Ly sh y,ei] at E1;exact E1
   refine⟨_,λσ' H' x=>x,_,rfl,_,_,_,_,_,rfl,m1,G.k.cls,G.k.code,rfl,_,_,_,_,_,rfl,r3.cd,G.k.je,G.k.body,rfl,.inl ⟨rfl,_,aF.of eB⟩,_,rfl,H,cO,A,t,ls,vs,eO,0,rfl,rfl,r3,?_⟩;cases ei:aH t.length (c7 ls.length (braces ls.length 8) eO vs) with
   |error p=>rw[ei] at E2;exact E2
   |ok i=>
    have dn:=MP.D_ (MP.Ea ls.length 8) (MP.nU ei).1;have lt:=MP.ub sh (MP.nU ei).1;intro H4 HV ti r4 g4 hI k4;have b1:A.bl≠A.rd:=cE eB m1 (by intro z;cases z)
    have b2:A.bl≠A.cd:=cE eB r3.cd (by intro z;cases z)
    have mv:H4 A.bl=some (.lst (de.map V.ref)):=k4 _ _ eB b1 b2;refine⟨_,_,_,rfl,rfl,mv,(by rw[bq,aP];lia),i.2.length,lt,i.2,i.1.2,HV,is++[i.1.1],de++[ti],rfl,rfl,r4.uK b1 b2 (Ne.symm uP) (λ_ _ _ _ z=>by rw[mv] at z;cases z) r4.n0.2.2.2 r4.nS.2.2.2 (λ_=>⟨_,rfl⟩),by rw[aA,iw];rfl,HP hI (b8.mono g4.1 hB),(by rw[bS];simp;lia),?_⟩
    rw[eq2,MP.Ly sh y,ei,MP.fA,MP.DC]
    congr 1
    funext x
    rw[MP.LR]
  ·have y:=hx.mp y;have hN:here vs=t.length:=by have:=m3;unfold MP.Tk at this;rw[y] at this;exact this.2
   rw[MP.UK y hN,MP.i' (x:=((c6.nil,eO),vs)) r3.good] at eq2;have eq2:aH t.length (tt t.length ls.length (braces ls.length 8) 512 us)=.ok ((pre is .nil,eO),vs):=eq2;rw[eq2] at E1;have E1:MP.Good ⟨ls,pre is .nil⟩->_:=E1;obtain⟨gd,sz⟩:=MP.VH (t:=t) (l:=(ls,us)) (b:=((pre is .nil,eO),vs)) (by rw[<-MT.Ll];exact eq) eq2
   have sz:(pre is .nil).size+eO=512:=sz;refine⟨_,rfl,_,_,_,_,_,rfl,m1,G.k.cls,G.k.code,rfl,?_⟩;have lc:A.ll≠A.cd:=cE r3.ll r3.cd (by intro z;cases z)
   have bc:A.bl≠A.cd:=cE eB r3.cd (by intro z;cases z)
   have up5:∀b o,cO b=some o->upd (upd (upd cO A.bl (.lst (de.map V.ref))) A.ll (.lst (iq ls))) A.cd (.ins C.code A.gU (og A (512-eO))) b=some o:=λb o e=>by
    rw[ak (bw e r3.nS.2.1),ak (bw e r3.nS.2.2.1),ak (bw e r3.nS.2.2.2)];exact e
   refine E1 gd H3 (upd (upd (upd cO A.bl (.lst (de.map V.ref))) A.ll (.lst (iq ls))) A.cd (.ins C.code A.gU (og A (512-eO)))) A.cd r3.old (λb o e=>?_) ⟨A.gU,A.ll,A.bl,de,?_,by rw[ak lc,aA],by rw[ak bc,ak (Ne.symm uP),aA],b8.mono up5 hB⟩
   ·by_cases y1:b=A.cd
    ·rw[y1,aA] at e;obtain rfl:=aZ e;rw[y1];exact⟨r3.cd,r3.n0.2.1⟩
    ·rw[ak y1] at e;by_cases y2:b=A.ll
     ·rw[y2,aA] at e;obtain rfl:=aZ e;rw[y2];exact⟨r3.ll,r3.n0.2.2.1⟩
     ·rw[ak y2] at e;by_cases y3:b=A.bl
      ·rw[y3,aA] at e;obtain rfl:=aZ e;rw[y3];exact⟨eB,r3.n0.2.2.2⟩
      ·rw[ak y3] at e;exact⟨r3.set _ _ e,r3.sn _ _ e⟩
   ·rw[aA];show some (HO.ins C.code A.gU (og A (512-eO)))=_;rw[show 512-eO=(pre is .nil).size by lia];rfl
def ael(F:Df K mg "read_code" Ai f fd)(G:Gr K w mg R C):aK P w K mg base (bf P w) 43 "read_code" ["text"] (xC K R C):=
 ⟨_,_,aek F.1 G,F.2,F.1.kp,F.1.b1 "text"⟩
end
open Vaarrj (spaced)
open MP (bD dv)
def aem{x:Str}{g:TG}{tt:TT}{te:TE}{vs:List Nat}{σ:L2.St}{H1:Hp}{D:ae}{Qd:Hp->Prop}(Pv:Nat->Hp->Prop)(h0:Pv 0 (upd H1 D (.lst [])))
 (hs:∀i c H,x.cps[i]? =some c->Pv i H->g (.str ⟨#[c]⟩) (wipe σ vs) H λσ2 H2=>wipe σ2 vs=wipe σ vs/\tt σ2 H2 λb H3=>
   if b=true then te σ2 H3 λy H4=>∃acc,H4 D=some (.lst acc)/\acc.length<sizeLine/\Pv (i+1) (upd H4 D (.lst (acc++[y]))) else Pv (i+1) H3) (hd:∀H,Pv x.cps.size H->Qd H):
 ∃W:Nat->Nat->Hp->Prop,(∃m,W 0 m (upd H1 D (.lst [])))/\ ∀i m H,W i m H->
  ((qh x).stop i H/\Qd H)\/((qh x).go i H/\ ∃Nx:Hp->Prop,(∀H',Nx H'->∃m',m'<m/\W (i+1) m' H')/\ ∀v H',(qh x).oM i H v H'->g v (wipe σ vs) H' λσ2 H2=>wipe σ2 vs=wipe σ vs/\tt σ2 H2 λb H3=>
    if b=true then te σ2 H3 λy H4=>∃acc,H4 D=some (.lst acc)/\acc.length<sizeLine/\Nx (upd H4 D (.lst (acc++[y]))) else Nx H3):=by
 refine⟨λi m H=>m=x.cps.size-i/\i<=x.cps.size/\Pv i H,⟨x.cps.size,by simp,eX _,h0⟩,?_⟩
 rintro i m H ⟨rfl,hi,p⟩;by_cases dU:i<x.cps.size
 ·refine .inr ⟨dU,Pv (i+1),λH' p'=>⟨x.cps.size-(i+1),by lia,rfl,dU,p'⟩,λv H' y=>?_⟩
  obtain⟨e,c,hc,y⟩:=y;subst e y;exact hs i c _ hc p
 ·have e:i=x.cps.size:=by lia
  subst e;exact .inl ⟨bz _,hd H p⟩
section
variable{R:Cl}{C:Cg}
def boot_ord:mX "ord"=some (.builtin "ord"):=by decide+kernel
inductive Br(vs:List V)(H:Hp)(Q:VK)(_:XK):Prop
 |mk (t:_) (_:vs=[.str (S t)]) (_:t.length<=1000000) (_:∀H' l,(∀b o,H b=some o->H' b=some o)->H' l=some (.lst (dS t))->Q (.ref l) H')
def aen(F:aD K "to_bytes" "to_bytes" Aj f fd)(g:GI mg):aB P w K mg base au 1 f fd ["text"] Br:=by
 refine F.oK F_ λ_ _ _ _ H vs Q E hr h=>?_;obtain⟨t,rfl,tl,q⟩:=h;refine⟨_,aw (bh (nO (own:=[("sign",1)]) rfl F_.nd (K5 (pv 0)) (show jo Nc (aG Aj) _ _ from⟨rfl,by decide+kernel,by decide+kernel,by decide+kernel,by decide+kernel⟩) (λ_ _ _ _ _=>fD 1 F_.nd)
  (λ_ _ _ _ _=>oS) (λ_ _ _ _ _=>eV Rp (by rfl) g.aa3 boot_ord (ah (pv 1) aj)))),?_⟩
 refine⟨_,rfl,S t,rfl,λD hD=>aem (x:=S t) (λi H'=>(∀b o,H b=some o->H' b=some o)/\H' D=some (.lst (dS (t.take i)))) ⟨λb o e=>by rw[ak (bw e hD)];exact e,by rw[aA];rfl⟩ (λi c H' hi p=>?_) λH' p=>?_⟩
 ·have hi:t[i]? =some c:=by
   have:(S t).cps[i]? =t[i]? :=by show t.toArray[i]? =_;simp
   rw[<-this];exact hi
  refine⟨rfl,_,rfl,_,rfl,rfl,_,p.2,?_,λb o e=>?_,?_⟩
  ·rw[ik,jY,aP];lia
  ·rw[ak (bw e hD)];exact p.1 _ _ e
  ·rw[aA,MR.take_snoc hi];unfold dS;rw[iw];rfl
 ·have sz:(S t).cps.size=t.length:=by show t.toArray.size=_;simp
  rw[sz,oG] at p;exact q H' D p.1 p.2
def dH(l:List aJ):List V:=l.map λx=>V.str (S x)
def kz(l:List aJ):(dH l).length=l.length:=by unfold dH;rw[bq]
def sy(l r:List aJ):dH (l++r)=dH l++dH r:=by unfold dH;rw[iw]
def OL(l:List aJ):xY (S [32]) (l.map S)=S (spaced l):=by
 refine TL.rz ?_;rw[TL.join_eq,TL.yR,MX.kU,MX.kU,iO];have e:l.map (TL.tl∘S)=l:=by
  conv=>rhs;rw[<-Jp l]
  rfl
 rw[e];clear e
 induction l with
 |nil=>rfl
 |cons c r ih=>
  cases r with
  |nil=>rfl
  |cons d r=>exact congrArg (λz=>c++(32::z)) ih
inductive Bs(R:Cl)(h:Nat)(vs:List V)(H:Hp)(Q:VK)(_:XK):Prop
 |mk (HC a ts b n:_) (_:vs=[.ref a]) (_:(∀c o,HC c=some o->H c=some o)) (_:HC a=some (.lst (ts.map V.ref))) (_:b8 R HC b ts) (_:fJ n b h) (_:b.size<=512) (_:∀H' l,(∀c o,H c=some o->H' c=some o)->H l=none->H' l=some (.lst (dH (dv b)))->Q (.ref l) H')
inductive xD(R:Cl)(h:Nat)(vs:List V)(H:Hp)(Q:VK)(_:XK):Prop
 |mk (HC t i n:_) (_:vs=[.ref t]) (_:(∀c o,HC c=some o->H c=some o)) (_:fY R HC i t) (_:eh n i h) (_:i.size<=512) (_:∀H' l,(∀c o,H c=some o->H' c=some o)->H l=none->H' l=some (.lst (dH (bD i)))->Q (.ref l) H')
def OM{h k:Nat}(F:aD K "block_lines" "block_lines" F' f fd)(GI:aK P w K mg base au k "instruction_lines" ["told"] (xD R h)):aB P w K mg base au (k+1) f fd ["body"] (Bs R h):=by
 refine F.oK Gb λ_ _ _ _ H vs Q E hr h=>?_;obtain⟨HC,a,ts,b,n,rfl,hc,ha,hB,ok,sz,q⟩:=h;refine⟨_,ay (bE 1 Gb.nd (cR aj))
  (ay (lG j6 rfl (g8 (pv 0)) (fD 2 Gb.nd)
    (aw (bK (iS i6 Cb Cc vA (pv 1) (ah (aV GI hr aW (ah (pv 2) aj)) aj)))))
  (aw (bh (pv 1)))),?_⟩
 refine⟨eX _,λl hl=>?_⟩;have up:∀c o,H c=some o->upd H l (.lst []) c=some o:=λc o e=>by rw[ak (bw e hl)];exact e
 refine⟨_,rfl,a,rfl,⟨_,aF.of (up _ _ (hc _ _ ha))⟩,lI (xs:=ts.map V.ref) (λi σ H'=>(∃v,σ=[some (.ref a),some (.ref l),v])/\ ∃done rest,(∀c o,H c=some o->H' c=some o)/\H' l=some (.lst (dH done))/\b8 R HC rest (ts.drop i)/\fJ n rest h/\done.length+3*rest.size<=1536/\rest.size<=512/\dv b=done++dv rest)
  ⟨⟨_,rfl⟩,[],b,up,by rw[aA];rfl,hB,ok,by simp;lia,sz,rfl⟩ (λi σ H' _ p=>?_) (λi v σ H' hi p=>?_) λσ H' p=>?_⟩
 ·obtain⟨_,done,rest,k1,_⟩:=p;exact aF.of (k1 _ _ (hc _ _ ha))
 ·obtain⟨⟨v0,rfl⟩,done,rest,k1,hd,hR,Bt,ln,rs,eq⟩:=p;obtain⟨t,ht,rfl⟩:∃t,ts[i]? =some t/\v=.ref t:=by
   rw[dI] at hi;cases y:ts[i]? with
   |none=>rw[y] at hi;cases hi
   |some t=>rw[y] at hi;exact⟨t,rfl,by injection hi with hi;exact hi.symm⟩
  have dr:ts.drop i=t::ts.drop (i+1):=by
   obtain⟨hl,e1⟩:=dz.mp ht;rw[<-e1];exact qP hl
  cases rest with
  |nil=>
   have hB:ts.drop i=[]:=by simpa only[b8] using hR
   rw[dr] at hB;cases hB
  |cons j OO=>
   simp only[b8] at hR;obtain⟨t2,us,e2,hI,hR⟩:=hR;rw[dr] at e2;obtain⟨rfl,rfl⟩:=oE e2;simp only[fJ] at Bt;rw[lq] at rs ln;have li:=(MP.D4 j).1;refine⟨_,rfl,.inl ⟨rfl,_,aF.of hd⟩,_,rfl,HC,t,j,n,rfl,λc o e=>k1 _ _ (hc _ _ e),hI,Bt.1,by lia,λH3 l3 k3 hl3 h3=>?_⟩
   refine⟨_,_,_,_,rfl,rfl,k3 _ _ hd,h3,(by rw[kz,kz,aP];lia),⟨_,rfl⟩,done++bD j,OO,λc o e=>?_,?_,hR,Bt.2,by rw[bS];lia,by lia,?_⟩
   ·rw[ak (bw e hl)];exact k3 _ _ (k1 _ _ e)
   ·rw[aA,sy]
   ·rw[eq,dv,lh]
 ·obtain⟨⟨v0,rfl⟩,done,rest,k1,hd,hR,Bt,ln,rs,eq⟩:=p;rw[bq,BZ] at hR;cases rest with
  |nil=>
   rw[dv,dA] at eq;rw[<-eq] at hd;exact⟨_,rfl,q H' l k1 hl hd⟩
  |cons j OO=>
   simp only[b8] at hR;obtain⟨t2,us,e2,_⟩:=hR;cases e2
end
section
variable{R:Cl}{C:Cg}
def OP(l:List aJ):((l.map S).map (·.length)).sum+(l.map S).length*(S [32]).length=(l.map λx=>x.length+1).sum:=by
 induction l with
 |nil=>rfl
 |cons x r ih=>
  simp only[i4,vb,cI,MX.cM,eN] at ih⊢
  lia
def OQ{i:cw}(h1: ¬(MP.toldOf i).act=aC "for")(h2: ¬(MP.toldOf i).act=aC "when"):bD i=[spaced (MP.toldOf i).parts++aC ";"]:=by
 cases i with
 |for_ d c b=>exact absurd rfl h1
 |when s b c=>exact absurd rfl h2
 |_=>simp only[bD]
def OR{i:cw}(h:(MP.toldOf i).act=aC "for"):∃d c b,i=.for_ d c b:=by
 cases i with
 |for_ d c b=>exact⟨d,c,b,rfl⟩
 |_=>exact absurd h (by simp only[MP.toldOf];decide+kernel)
def OS{i:cw}(h:(MP.toldOf i).act=aC "when"):∃s b c,i=.when s b c:=by
 cases i with
 |when s b c=>exact⟨s,b,c,rfl⟩
 |_=>exact absurd h (by simp only[MP.toldOf];decide+kernel)
def Bu:(bU " ")=S [32]:=by decide+kernel
def sA:(bU ";")=S (aC ";"):=MX.lY ";"
def OT:(bU " {")=S (aC " {"):=MX.lY " {"
def aeo:(bU "} else {")=S (aC "} else {"):=MX.lY "} else {"
def aep:(bU "}")=S (aC "}"):=MX.lY "}"
def aeq(F:aD K "instruction_lines" "instruction_lines" Ak f fd)(e:EK K R):aB P w K mg base au 1 f fd ["told"] (xD R 0):=by
 refine F.oK wN λ_ _ _ s H vs Q E hr h=>?_;obtain⟨HC,t,i,n,rfl,hc,hI,ok,sz,q⟩:=h;refine⟨_,ay (bE 1 wN.nd (yS bY (aN (pv 0) rfl)))
  (ay (bZ (pX (bV jk (aN (pv 0) rfl) bY (bO _)) (pW (bV jk (aN (pv 0) rfl) bY (bO _)))).pt (aw (bh (cR (ah (cy iR (pv 1) bY) aj)))) cJ) JQ),?_⟩
 obtain⟨ba,ca,dx,fs,ol,T⟩:=hI.told;have T:=T.mono hc;obtain⟨pl,Ic,nX⟩:=T.pt;have nX:H pl=some (.lst (((MP.toldOf i).parts.map S).map V.str)):=nX;have aer:=MP.D3 i;have sl:=OP (MP.toldOf i).parts;refine⟨⟨_,rfl⟩,_,rfl,_,_,_,_,_,rfl,T.ob,e.bW,e.pd,Ic,_,_,(MP.toldOf i).parts.map S,rfl,rfl,.inl (aF.of nX),(by rw[Bu,sl];lia),?_⟩
 rw[Bu,OL];have hz:=MP.oW i;have nf: ¬(MP.toldOf i).act=aC "for":=λy=>by
  obtain⟨d,c,b,rfl⟩:=OR y;simp only[eh] at ok;obtain⟨_,_,k,hk,_⟩:=ok;cases hk
 have nw: ¬(MP.toldOf i).act=aC "when":=λy=>by
  obtain⟨s,b,c,rfl⟩:=OS y;simp only[eh] at ok;obtain⟨_,k,hk,_⟩:=ok;cases hk
 have ac:fs.lookup ("action":Str)=some (.str (S (MP.toldOf i).act)):=T.ac;refine⟨_,rfl,_,_,_,_,_,rfl,T.ob,e.bW,e.mn,ac,rfl,_,rfl,?_⟩;rw[mE,decide_eq_false nf];refine⟨_,rfl,_,_,_,_,_,rfl,T.ob,e.bW,e.mn,ac,rfl,_,rfl,?_⟩;rw[mE,decide_eq_false nw];have ls:(aC ";").length=1:=rfl;refine⟨_,rfl,_,_,rfl,rfl,(by rw[sA,MX.cM,MX.cM,ls,aP];lia),(by show 1<=sizeLine;rw[aP];decide),λl hl=>?_⟩
 rw[sA,MX.dG];refine q _ l (λc o e=>by rw[ak (bw e hl)];exact e) hl ?_
 rw[aA,OQ nf nw];rfl
def sC:c6->List aJ
 | .nil=>[]
 | .cons i r=>aC "} else {"::(bD i++dv r)
structure Two(R:Cl)(HC:Hp)(n h:Nat)(i:cw)(t:ae)(b c:c6)(ba ca:ae)(ts us:List ae)(dx:ae)(fs:List (Str×V))(ol:ae):Prop where
 T:wZ R HC t (se i ba ca) dx fs ol
 ba:HC ba=some (.lst (ts.map V.ref))
 bb:b8 R HC b ts
 ca:HC ca=some (.lst (us.map V.ref))
 cb:b8 R HC c us
 okb:fJ n b h
 xi:fJ n c h
 sz:b.size+c.size<=511
 ln:bD i=(spaced (MP.toldOf i).parts++aC " {")::(dv b++(sC c++[aC "}"]))
def aes{HC:Hp}{n h:Nat}{i:cw}{t:ae}(hI:fY R HC i t)(ok:eh n i (h+1))(sz:i.size<=512)(hp:(MP.toldOf i).act=aC "for"\/(MP.toldOf i).act=aC "when"):∃b c ba ca ts us dx fs ol,Two R HC n h i t b c ba ca ts us dx fs ol:=by
 rcases hp with y|y
 ·obtain⟨d,c,b,rfl⟩:=OR y;simp only[eh] at ok;obtain⟨_,_,k0,tX,jq⟩:=ok;obtain rfl:h=k0:=by lia
  simp only[fY] at hI;obtain⟨ba,ca,ts,⟨dx,fs,ol,T⟩,fM,hB,xg⟩:=hI;refine⟨b,.nil,ba,ca,ts,[],dx,fs,ol,T,fM,hB,xg,by simp only[b8],jq,by simp only[fJ],?_,?_⟩
  ·simp only[eE] at sz;simp only[lq];lia
  ·simp only[bD];rfl
 ·obtain⟨s,b,c,rfl⟩:=OS y;simp only[eh] at ok;obtain⟨_,k0,tX,jq,Hc⟩:=ok;obtain rfl:h=k0:=by lia
  simp only[fY] at hI;obtain⟨ba,ca,ts,us,⟨dx,fs,ol,T⟩,fM,hB,xg,hC⟩:=hI;refine⟨b,c,ba,ca,ts,us,dx,fs,ol,T,fM,hB,xg,hC,jq,Hc,?_,?_⟩
  ·simp only[eE] at sz;lia
  ·cases c with
   |nil=>simp only[bD];rfl
   |cons i r=>simp only[bD];rfl
def aet{h k:Nat}(F:aD K "instruction_lines" "instruction_lines" Ak f fd)(e:EK K R)(g:GI mg)(GB:aK P w K mg base au k "block_lines" ["body"] (Bs R h)):aB P w K mg base au (k+1) f fd ["told"] (xD R (h+1)):=by
 refine F.oK wN λ_ _ _ _ H vs Q E hr h=>?_;obtain⟨HC,t,i,n,rfl,hc,hI,ok,sz,q⟩:=h;refine⟨_,ay (bE 1 wN.nd (yS bY (aN (pv 0) rfl)))
  (ay (bZ (pX (bV jk (aN (pv 0) rfl) bY (bO _)) (pW (bV jk (aN (pv 0) rfl) bY (bO _)))).pt (aw (bh (cR (ah (cy iR (pv 1) bY) aj)))) cJ)
  (ay (bE 2 wN.nd (cR (ah (cy iR (pv 1) bY) aj)))
  (ay (bK (iS i6 Cb Cc vA (pv 2) (ah (aV GB hr aW (ah (aN (pv 0) rfl) aj)) aj)))
  (ay (bZ (bV lJ (eV iA (by rfl) g.fX gj (ah (aN (pv 0) rfl) aj)) aO (bO _))
    (ay (bK (iS i6 lB lC kd (pv 2) (ah bY aj)))
      (aw (bK (iS i6 Cb Cc vA (pv 2) (ah (aV GB hr aW (ah (aN (pv 0) rfl) aj)) aj))))) cJ)
  (ay (bK (iS i6 lB lC kd (pv 2) (ah bY aj)))
  (aw (bh (pv 2)))))))),?_⟩
 obtain⟨ba,ca,dx,fs,ol,T⟩:=hI.told;have T:=T.mono hc;obtain⟨pl,Ic,nX⟩:=T.pt;have nX:H pl=some (.lst (((MP.toldOf i).parts.map S).map V.str)):=nX;have aer:=MP.D3 i;have sl:=OP (MP.toldOf i).parts;refine⟨⟨_,rfl⟩,_,rfl,_,_,_,_,_,rfl,T.ob,e.bW,e.pd,Ic,_,_,(MP.toldOf i).parts.map S,rfl,rfl,.inl (aF.of nX),(by rw[Bu,sl];lia),?_⟩
 rw[Bu,OL];have hz:=MP.oW i;have ac:fs.lookup ("action":Str)=some (.str (S (MP.toldOf i).act)):=T.ac;have ls:(aC ";").length=1:=rfl;have lo:(aC " {").length=2:=rfl;refine⟨_,rfl,_,_,_,_,_,rfl,T.ob,e.bW,e.mn,ac,rfl,_,rfl,?_⟩;rw[mE];by_cases pl:(MP.toldOf i).act=aC "for"\/(MP.toldOf i).act=aC "when"
 ·obtain⟨b,c,ba,ca,ts,us,dx,fs,ol,W⟩:=aes hI ok sz pl;have lb:=(MP.oY b).1;have lc:=(MP.oY c).1;have ws:=W.sz;have T2:=W.T.mono hc;rcases pl with nf|nw
  case' inl=>rw[decide_eq_true nf]
  case' inr=>
   have nf: ¬(MP.toldOf i).act=aC "for":=by rw[nw];decide+kernel
   rw[decide_eq_false nf];refine⟨_,rfl,_,_,_,_,_,rfl,T.ob,e.bW,e.mn,ac,rfl,_,rfl,?_⟩;rw[mE,decide_eq_true nw]
  all_goals
   refine⟨_,rfl,_,_,rfl,rfl,(by rw[OT,MX.cM,MX.cM,lo,aP];lia),(by show 1<=sizeLine;rw[aP];decide),λl hl=>?_⟩
   rw[OT,MX.dG];have up:∀c o,H c=some o->upd H l (.lst [.str (S (spaced (MP.toldOf i).parts++aC " {"))]) c=some o:=λc o e=>by rw[ak (bw e hl)];exact e
   have l1:upd H l (.lst [.str (S (spaced (MP.toldOf i).parts++aC " {"))]) l=some (.lst (dH [spaced (MP.toldOf i).parts++aC " {"])):=aA;generalize upd H l (.lst [.str (S (spaced (MP.toldOf i).parts++aC " {"))])=H1 at up l1;refine⟨_,rfl,.inl ⟨rfl,_,aF.of l1⟩,_,rfl,_,_,_,_,_,rfl,up _ _ T2.ob,e.bW,e.uB,T2.b,HC,ba,ts,b,n,rfl,λx o ex=>up _ _ (hc _ _ ex),W.ba,W.bb,W.okb,by lia,λH3 l3 k3 hl3 h3=>?_⟩
   refine⟨_,_,_,_,rfl,rfl,k3 _ _ l1,h3,(by rw[kz,kz,aP];simp;lia),?_⟩
   have k4:∀x o,H x=some o->upd H3 l (.lst (dH [spaced (MP.toldOf i).parts++aC " {"]++dH (dv b))) x=some o:=λx o ex=>by rw[ak (bw ex hl)];exact k3 _ _ (up _ _ ex)
   have l4:upd H3 l (.lst (dH [spaced (MP.toldOf i).parts++aC " {"]++dH (dv b))) l=some (.lst (dH ([spaced (MP.toldOf i).parts++aC " {"]++dv b))):=by rw[aA,sy]
   generalize upd H3 l (.lst (dH [spaced (MP.toldOf i).parts++aC " {"]++dH (dv b)))=H4 at k4 l4;refine⟨_,rfl,_,_,_,_,_,rfl,k4 _ _ T2.ob,e.bW,e.wY,T2.c,_,_,rfl,.inl (aF.of (k4 _ _ (hc _ _ W.ca))),_,_,rfl,rfl,_,rfl,?_⟩;rw[bq];have fin:∀(H5:Hp),(∀x o,H x=some o->H5 x=some o)->H5 l=some (.lst (dH (([spaced (MP.toldOf i).parts++aC " {"]++dv b)++sC c)))->(sC c).length<=3*c.size+1->
    nF 2 [some (.ref t),some (.str (S (spaced (MP.toldOf i).parts))),some (.ref l)] H5 λv H6=>C0 K "list" v H6/\KH v [.str (bU "}")] H6 λ_ H7=>nF 2 [some (.ref t),some (.str (S (spaced (MP.toldOf i).parts))),some (.ref l)] H7 Q:=λH5 k5 l5 le=>by
    refine⟨_,rfl,.inl ⟨rfl,_,aF.of l5⟩,_,_,_,rfl,rfl,l5,(by rw[kz,bS,bS,aP];simp;lia),_,rfl,q _ l (λx o ex=>by rw[ak (bw ex hl)];exact k5 _ _ ex) hl ?_⟩
    rw[aA,W.ln,aep,lh];unfold dH;simp[iw]
   cases c with
   |nil=>
    have:us=[]:=by have:=W.cb;simpa only[b8] using this
    subst this;exact dY (fin H4 k4 (by rw[l4];simp[sC]) (by simp[sC]))
   |cons j r=>
    have hus:0<us.length:=by
     have:=W.cb;simp only[b8] at this;obtain⟨u0,us0,e0,_⟩:=this;rw[e0];simp
    rw[decide_eq_true (by lia)]
    have lel:(aC "} else {").length=8:=rfl;refine du ⟨_,rfl,.inl ⟨rfl,_,aF.of l4⟩,_,_,_,rfl,rfl,l4,(by rw[kz,bS,aP];simp;lia),?_⟩
    have k5:∀x o,H x=some o->upd H4 l (.lst (dH ([spaced (MP.toldOf i).parts++aC " {"]++dv b)++[.str (bU "} else {")])) x=some o:=λx o ex=>by rw[ak (bw ex hl)];exact k4 _ _ ex
    have l5:upd H4 l (.lst (dH ([spaced (MP.toldOf i).parts++aC " {"]++dv b)++[.str (bU "} else {")])) l=some (.lst (dH (([spaced (MP.toldOf i).parts++aC " {"]++dv b)++[aC "} else {"]))):=by rw[aA,aeo,sy (_++_)];rfl
    generalize upd H4 l (.lst (dH ([spaced (MP.toldOf i).parts++aC " {"]++dv b)++[.str (bU "} else {")]))=H5 at k5 l5;refine⟨_,rfl,.inl ⟨rfl,_,aF.of l5⟩,_,rfl,_,_,_,_,_,rfl,k5 _ _ T2.ob,e.bW,e.wY,T2.c,HC,ca,us,.cons j r,n,rfl,λx o ex=>k5 _ _ (hc _ _ ex),W.ca,W.cb,W.xi,by lia,λH6 l6 k6 hl6 h6=>?_⟩
    refine⟨_,_,_,_,rfl,rfl,k6 _ _ l5,h6,(by rw[kz,kz,bS,bS,aP];simp;lia),?_⟩
    refine fin _ (λx o ex=>by rw[ak (bw ex hl)];exact k6 _ _ (k5 _ _ ex)) ?_ (by rw[dv] at lc;simp[sC];simp at lc;lia)
    rw[aA,<-sy,dv];simp[sC]
 ·have nf: ¬(MP.toldOf i).act=aC "for":=λy=>pl (.inl y);have nw: ¬(MP.toldOf i).act=aC "when":=λy=>pl (.inr y);rw[decide_eq_false nf];refine⟨_,rfl,_,_,_,_,_,rfl,T.ob,e.bW,e.mn,ac,rfl,_,rfl,?_⟩;rw[mE,decide_eq_false nw];refine⟨_,rfl,_,_,rfl,rfl,(by rw[sA,MX.cM,MX.cM,ls,aP];lia),(by show 1<=sizeLine;rw[aP];decide),λl hl=>?_⟩
  rw[sA,MX.dG];refine q _ l (λc o e=>by rw[ak (bw e hl)];exact e) hl ?_
  rw[aA,OQ nf nw];rfl
end
section
variable{R:Cl}{C:Cg}
def aeu(l:List aJ):xY (S []) (l.map S)=S l.flatten:=by
 refine TL.rz ?_;rw[TL.join_eq,TL.yR,MX.kU,MX.kU,iO];have e:l.map (TL.tl∘S)=l:=by
  conv=>rhs;rw[<-Jp l]
  rfl
 rw[e];clear e
 induction l with
 |nil=>rfl
 |cons c r ih=>
  cases r with
  |nil=>show c=c++[];rw[dA]
  |cons d r=>exact congrArg (λz=>c++z) ih
inductive Ie(R:Cl)(C:Cg)(vs:List V)(H:Hp)(Q:VK)(_:XK):Prop
 |mk (HC cd c:_) (_:vs=[.ref cd]) (_:(∀b o,HC b=some o->H b=some o)) (_:Ia R C HC cd c) (_:MP.Good c) (_:∀H' l,(∀b o,H b=some o->H' b=some o)->H' l=some (.lst (dS (yn c)))->Q (.ref l) H')
def OU{c:Ca}(g:MP.Good c):(MP.iU c).length<=1568/\ ∀l∈MP.iU c,l.length<=302:=by
 have lb:=MP.oY c.body;have:=g.ln;have:=g.size;unfold MP.iU;refine⟨by rw[bS,bq];lia,λl hl=>?_⟩
 rcases gO.mp hl with z|z
 ·obtain⟨n,_,rfl⟩:=mZ.mp z;have:=MP.iV n;have a:(aC "array ").length=6:=rfl;have b:(aC ";").length=1:=rfl;rw[bS,bS];lia
 ·exact lb.2 l z
def aev(F:aD K "plain_text" "plain_text" wO f fd)(g:GI mg)(k:jU K C)(GB:aK P w K mg base au 18 "block_lines" ["body"] (Bs R 8))(GT:aK P w K mg base au 1 "to_bytes" ["text"] Br):aB P w K mg base au 19 f fd ["code"] (Ie R C):=by
 refine F.oK wQ λ_ _ _ _ H vs Q E hr h=>?_;obtain⟨HC,cd,c,rfl,hc,⟨gU,ll,bl,ts,h1,h2,h3,h4⟩,gd,q⟩:=h;have cN:=hr.mono (show 1<=18 by decide)
 refine⟨_,ay (SE (i:=1) (own:=[("length",2)]) rfl wQ.nd rfl rfl (SN rfl rfl rfl (by decide+kernel)) (g8 (aN (pv 0) rfl)) (show jo Gd (aG wO) _ _ from⟨rfl,by decide+kernel,by decide+kernel,by decide+kernel,by decide+kernel⟩) (λ_ _ _ _ _=>fD 2 wQ.nd)
  (λ_ _ _ _ _=>oS) (λ_ _ _ _ _=>wm (jt bY (jt (rW (pv 2)) (jt bY wk)))))
  (ay (bK (iS i6 Cb Cc vA (pv 1) (ah (aV GB hr aW (ah (aN (pv 0) rfl) aj)) aj)))
  (aw (bh (aV GT cN aW (ah (yS bY (nO (own:=[("line",3)]) rfl wQ.nd (g8 (pv 1)) (show jo Gd (aG wO) _ _ from⟨rfl,by decide+kernel,by decide+kernel,by decide+kernel,by decide+kernel⟩) (λ_ _ _ _ _=>fD 3 wQ.nd)
    (λ_ _ _ _ _=>oS) (λ_ _ _ _ _=>cy iR (pv 3) bY))) aj))))),?_⟩
 have gln:=gd.ln;have e0:sQ=S []:=by decide+kernel
 have ea:bU "array "=S (aC "array "):=MX.lY "array ";have en:bU "\n"=S [10]:=by decide+kernel
 have la:(aC "array ").length=6:=rfl;have lsm:(aC ";").length=1:=rfl;refine⟨_,rfl,_,_,_,_,_,rfl,hc _ _ h1,k.je,k.lengths,rfl,ll,rfl,⟨_,aF.of (hc _ _ h2)⟩,λD hD=>?_⟩;refine qg (K:=K) (a:=ll) (xs:=iq c.lengths) (λi H'=>(∀b o,H b=some o->H' b=some o)/\H' D=some (.lst (dH ((c.lengths.take i).map λn=>(aC "array "++dec n)++aC ";")))) ⟨λb o e=>by rw[ak (bw e hD)];exact e,by rw[aA];rfl⟩ (λi H' _ p=>aF.of (p.1 _ _ (hc _ _ h2))) (λi v H' hi p=>?_) λH1 p=>?_
 ·obtain⟨n,hn,rfl⟩:∃n,c.lengths[i]? =some n/\v=.int ((n:Nat):Int):=by
   unfold iq at hi;rw[dI] at hi;cases y:c.lengths[i]? with
   |none=>rw[y] at hi;cases hi
   |some n=>rw[y] at hi;exact⟨n,rfl,by injection hi with hi;exact hi.symm⟩
  have aew:=gd.le n (d7 hn);have sD:n<10^40:=by lia
  have uI:=MP.iV n;have il:=(dz.mp hn).1;refine⟨rfl,_,rfl,?_,_,rfl,_,.inl ⟨_,rfl,oh (show((n:Nat):Int).natAbs<2^64 by lia),rfl⟩,_,rfl,?_,_,rfl,?_,?_,_,p.2,?_,λb o e=>?_,?_⟩
  ·rw[e0,ea,MX.dG,MX.cM,aP];simp;lia
  ·rw[e0,ea,MX.gq sD,MX.dG,MX.dG,MX.cM,aP];simp;lia
  ·rw[e0,ea,MX.gq sD,sA,MX.dG,MX.dG,MX.dG,MX.cM,aP];simp;lia
  ·rw[e0,ea,MX.gq sD,sA,MX.dG,MX.dG,MX.dG,MX.cM,aP];simp;lia
  ·rw[kz,bq,jY,aP];lia
  ·rw[ak (bw e hD)];exact p.1 _ _ e
  ·rw[aA,e0,ea,MX.gq sD,sA,MX.dG,MX.dG,MX.dG,MR.take_snoc hn,iw,sy];rfl
 obtain⟨k1,d1⟩:=p;have el:(iq c.lengths).length=c.lengths.length:=by unfold iq;rw[bq]
 rw[el,oG] at d1;obtain⟨lc1,OV⟩:=OU gd;have lb:=(MP.oY c.body).1;have sz:=gd.size;refine⟨_,rfl,.inl ⟨rfl,_,aF.of d1⟩,_,rfl,_,_,_,_,_,rfl,k1 _ _ (hc _ _ h1),k.je,k.body,rfl,HC,bl,ts,c.body,_,rfl,λb o e=>k1 _ _ (hc _ _ e),h3,h4,gd.ok,sz,λH2 l2 k2 jJ h2'=>?_⟩;refine⟨_,_,_,_,rfl,rfl,k2 _ _ d1,h2',(by rw[kz,kz,bq,aP];lia),?_⟩
 have k3:∀b o,H b=some o->upd H2 D (.lst (dH (c.lengths.map λn=>(aC "array "++dec n)++aC ";")++dH (dv c.body))) b=some o:=λb o e=>by rw[ak (bw e hD)];exact k2 _ _ (k1 _ _ e)
 have d3:upd H2 D (.lst (dH (c.lengths.map λn=>(aC "array "++dec n)++aC ";")++dH (dv c.body))) D=some (.lst (dH (MP.iU c))):=by rw[aA,<-sy];rfl
 generalize upd H2 D (.lst (dH (c.lengths.map λn=>(aC "array "++dec n)++aC ";")++dH (dv c.body)))=H3 at k3 d3;refine⟨⟨_,rfl⟩,_,rfl,D,rfl,⟨_,aF.of d3⟩,λJ hJ=>?_⟩;refine qg (K:=K) (a:=D) (xs:=dH (MP.iU c)) (λi H'=>(∀b o,H3 b=some o->H' b=some o)/\H' J=some (.lst (dH (((MP.iU c).take i).map λx=>x++[10])))) ⟨λb o e=>by rw[ak (bw e hJ)];exact e,by rw[aA];rfl⟩ (λi H' _ p=>aF.of (p.1 _ _ d3)) (λi v H' hi p=>?_) λH4 p=>?_
 ·obtain⟨x,hx,rfl⟩:∃x,(MP.iU c)[i]? =some x/\v=.str (S x):=by
   unfold dH at hi;rw[dI] at hi;cases y:(MP.iU c)[i]? with
   |none=>rw[y] at hi;cases hi
   |some n=>rw[y] at hi;exact⟨n,rfl,by injection hi with hi;exact hi.symm⟩
  have xl:=OV x (d7 hx);have il:=(dz.mp hx).1;refine⟨rfl,_,rfl,_,_,rfl,rfl,?_,_,p.2,?_,λb o e=>?_,?_⟩
  ·rw[en,MX.cM,MX.cM,aP];simp;lia
  ·rw[kz,bq,jY,aP];lia
  ·rw[ak (bw e hJ)];exact p.1 _ _ e
  ·rw[aA,en,MX.dG,MR.take_snoc hx,iw,sy];rfl
 obtain⟨k4,j4⟩:=p;rw[kz,oG] at j4;have jl:=MP.y_ (k:=302) (MP.iU c) OV;have jl2:(MP.joined (MP.iU c)).length<=500000:=dy jl (by lia)
 have sm:∀l:List aJ,((l.map S).map (·.length)).sum=l.flatten.length:=λl=>by
  induction l with
  |nil=>rfl
  |cons x r ih=>rw[i4,i4,vb,ih,u5,bS,MX.cM]
 refine⟨_,J,((MP.iU c).map λx=>x++[10]).map S,rfl,rfl,.inl (aF.of (by rw[j4];unfold dH;rw[iO,iO,iO];rfl)),?_,?_⟩
 ·have ee:bU ""=S []:=by decide+kernel
  rw[sm,ee,MX.cM];have:((MP.iU c).map λx=>x++[10]).flatten.length<=500000:=jl2;simp only[eN,Nat.mul_zero,Nat.add_zero];lia
 ·have ee:bU ""=S []:=by decide+kernel
  rw[ee,aeu];refine⟨_,rfl,by show(MP.joined (MP.iU c)).length<=1000000;lia,λH5 l5 k5 h5=>q H5 l5 (λb o e=>k5 _ _ (k4 _ _ (k3 _ _ e))) ?_⟩
  rw[h5,MP.DZ];rfl
end
def map_eq(o n p:Nat):pO o n p=((((((((aC "array "++dec n)++aC ";")++((aC "array "++dec n)++aC ";"))++((aC "array "++dec n)++aC ";"))++(((aC "num s1 "++dec n)++aC ";")++aC "width s0;num s2 1;calc add s3 s1 s0 @0;calc sub s3 s3 s2 @0;calc quo s3 s3 s0 @0;"))++aC "for s4 s3 {")++(((aC "calc mul s5 s4 s0 @0;fill v0 s5;lanes v1;add v0 v0 v1 @0;calc sub s6 s1 s5 @0;tail m0 s6;"++aC "read v2 a0 v0 ?m0;read v3 a1 v0 ?m0;")++(((fQ eZ o++aC " v4 v2 v3 @")++dec p)++aC " ?m0;"))++aC "write a2 v0 v4 ?m0;raise;"))++aC "}"):=by
 unfold pO Vaarrj.at_;have e1:aC ";array "=aC ";"++aC "array ":=by decide+kernel
 have e2:aC ";num s1 "=aC ";"++aC "num s1 ":=by decide+kernel
 have e3:aC ";width s0;num s2 1;calc add s3 s1 s0 @0;calc sub s3 s3 s2 @0;calc quo s3 s3 s0 @0;for s4 s3 {calc mul s5 s4 s0 @0;fill v0 s5;lanes v1;add v0 v0 v1 @0;calc sub s6 s1 s5 @0;tail m0 s6;read v2 a0 v0 ?m0;read v3 a1 v0 ?m0;"=
  aC ";"++(aC "width s0;num s2 1;calc add s3 s1 s0 @0;calc sub s3 s3 s2 @0;calc quo s3 s3 s0 @0;"++(aC "for s4 s3 {"++(aC "calc mul s5 s4 s0 @0;fill v0 s5;lanes v1;add v0 v0 v1 @0;calc sub s6 s1 s5 @0;tail m0 s6;"++aC "read v2 a0 v0 ?m0;read v3 a1 v0 ?m0;"))):=by decide+kernel
 have e4:aC " ?m0;write a2 v0 v4 ?m0;raise;}"=aC " ?m0;"++(aC "write a2 v0 v4 ?m0;raise;"++aC "}"):=by decide+kernel
 have e5:aC " v4 v2 v3 @"=aC " v4 v2 v3 "++[64]:=by decide+kernel
 rw[e1,e2,e3,e4,e5];simp only[u5,List.flatten_nil,lh,dA,B0,sV]
section
variable{R:Cl}{C:Cg}
def gF(x y:Str):(x++y).length=x.length+y.length:=by
 rw[<-MX.Mg x,<-MX.Mg y,MX.dG,MX.cM,MX.cM,MX.cM,bS]
inductive Ig(vs:List V)(H:Hp)(Q:VK)(_:XK):Prop
 |mk (o n p:_) (_:vs=[.str (S (fQ eZ o)),.int ((n:Nat):Int),.int ((p:Nat):Int)]) (_:n<=1024) (_:p<=1000000000000000000) (_:∀H' l,(∀b o,H b=some o->H' b=some o)->H' l=some (.lst (dS (pO o n p)))->(pO o n p).length<=1000000->Q (.ref l) H')
def aex(F:aD K "map_text" "map_text" Ge f fd)(g:GI mg)(GT:aK P w K mg base au 1 "to_bytes" ["text"] Br):aB P w K mg base au 2 f fd ["operator","length","place"] Ig:=by
 refine F.oK Al λ_ _ _ s H vs Q E hr h=>?_;obtain⟨o,n,p,rfl,hn,hp,q⟩:=h;refine⟨_,ay (bE 3 Al.nd (wm (jt bY (jt (rW (pv 1)) (jt bY wk)))))
  (ay (bE 4 Al.nd (cy iR (wm (jt bY (jt (rW (pv 1)) (jt bY wk)))) bY))
  (ay (bE 5 Al.nd (cy iR (cy iR (cy iR bY bY) (wm (jt (rW (pv 0)) (jt bY (jt (rW (pv 2)) (jt bY wk)))))) bY))
  (aw (bh (aV GT hr aW (ah (cy iR (cy iR (cy iR (cy iR (cy iR (cy iR (pv 3) (pv 3)) (pv 3)) (pv 4)) bY) (pv 5)) bY) aj)))))),?_⟩
 have sD:n<10^40:=by lia
 have OW:p<10^40:=by lia
 have ln:=MP.iV n;have lp:=MP.iV p;have lo:=MP.D0 o;have e0:sQ=S []:=by decide+kernel
 have l0:(sQ).length=0:=by decide+kernel
 have a1:(bU "array ").length=6:=by decide+kernel
 have a2:(bU ";").length=1:=by decide+kernel
 have a3:(bU "num s1 ").length=7:=by decide+kernel
 have a4:(bU "width s0;num s2 1;calc add s3 s1 s0 @0;calc sub s3 s3 s2 @0;calc quo s3 s3 s0 @0;").length<=200:=by decide+kernel
 have a5:(bU "calc mul s5 s4 s0 @0;fill v0 s5;lanes v1;add v0 v0 v1 @0;calc sub s6 s1 s5 @0;tail m0 s6;").length<=200:=by decide+kernel
 have a6:(bU "read v2 a0 v0 ?m0;read v3 a1 v0 ?m0;").length<=200:=by decide+kernel
 have a7:(bU " v4 v2 v3 @").length<=200:=by decide+kernel
 have a8:(bU " ?m0;").length<=200:=by decide+kernel
 have a9:(bU "write a2 v0 v4 ?m0;raise;").length<=200:=by decide+kernel
 have a10:(bU "for s4 s3 {").length<=200:=by decide+kernel
 have a11:(bU "}").length<=200:=by decide+kernel
 have dn:(bU (toString ((n:Nat):Int))).length<=40:=by rw[MX.gq sD,MX.cM];exact ln
 have dp:(bU (toString ((p:Nat):Int))).length<=40:=by rw[MX.gq OW,MX.cM];exact lp
 have ol:(S (fQ eZ o)).length<=4:=by rw[MX.cM];exact lo
 have gn:=oh (show((n:Nat):Int).natAbs<2^64 by lia)
 have gp:=oh (show((p:Nat):Int).natAbs<2^64 by lia)
 refine⟨_,rfl,(by rw[aP];simp only[gF,l0];lia),_,rfl,_,.inl ⟨_,rfl,gn,rfl⟩,_,rfl,(by rw[aP];simp only[gF,l0];lia),_,rfl,(by rw[aP];simp only[gF,l0];lia),(by rw[aP];simp only[gF,l0];lia),?_⟩
 refine⟨_,rfl,(by rw[aP];simp only[gF,l0];lia),_,rfl,_,.inl ⟨_,rfl,gn,rfl⟩,_,rfl,(by rw[aP];simp only[gF,l0];lia),_,rfl,(by rw[aP];simp only[gF,l0];lia),(by rw[aP];simp only[gF,l0];lia),_,_,rfl,rfl,(by rw[aP];simp only[gF,l0];lia),?_⟩
 refine⟨_,_,rfl,rfl,(by rw[aP];lia),_,rfl,_,.inr ⟨rfl,(by rw[aP];lia)⟩,_,rfl,(by rw[aP];simp only[gF,l0];lia),_,rfl,(by rw[aP];simp only[gF,l0];lia),_,rfl,_,.inl ⟨_,rfl,gp,rfl⟩,_,rfl,(by rw[aP];simp only[gF,l0];lia),_,rfl,(by rw[aP];simp only[gF,l0];lia),(by rw[aP];simp only[gF,l0];lia),?_⟩
 refine⟨_,_,rfl,rfl,(by rw[aP];simp only[gF,l0];lia),_,_,rfl,rfl,(by rw[aP];simp only[gF,l0];lia),?_⟩
 refine⟨_,rfl,_,rfl,_,_,rfl,rfl,(by rw[aP];simp only[gF,l0];lia),_,rfl,_,_,rfl,rfl,(by rw[aP];simp only[gF,l0];lia),_,rfl,_,_,rfl,rfl,(by rw[aP];simp only[gF,l0];lia),_,_,rfl,rfl,(by rw[aP];simp only[gF,l0];lia),_,rfl,_,_,rfl,rfl,(by rw[aP];simp only[gF,l0];lia),_,_,rfl,rfl,(by rw[aP];simp only[gF,l0];lia),?_⟩
 have ml:(pO o n p).length<=1000000:=by
  have st:∀s:String,(aC s).length=(bU s).length:=λs=>by rw[MX.lY,MX.cM]
  rw[map_eq];simp only[bS,st]
  lia
 refine⟨pO o n p,?_,ml,λH' l k h=>q H' l k h ml⟩;rw[map_eq,MX.gq sD,MX.gq OW,e0];simp only[MX.lY,MX.dG,sV];rfl
end
open Vaarrj (State Call step)
def cV(cv:V)(ar rg:ae):List (Str×V):=[("code",cv),("arrays",.ref ar),("registers",.ref rg)]
structure pD(R:Cl)(C:Cg)(m:ae)(s:State)(HM:Hp)(cu:ae)(cv:V)(ar:ae)(as:List ae)(G:Rg)(HC:Hp):Prop where
 ob:HM m=some (.ins C.cq cu (cV cv ar G.reg))
 arr:uD HM ar as s.machine.arrays
 reg:n8 R HM G s.machine
 tb:jd R HM
 hc:∀b o,HC b=some o->HM b=some o
 hm:HC m=none
 hr:HC ar=none
 ht:∀t∈R.cf,HC t=none
 ao:ar∉as
 ag:ar∉G.all
 wf:MR.WF s.machine
 nums:MR.Nums s.machine
 cd:match s.code with
  |none=>cv=.aM/\s.machine.arrays=[]
  |some c=>∃cd,cv=.ref cd/\Ia R C HC cd c/\MP.Good c/\MR.lU s.machine=c.lengths
inductive mH(R:Cl)(C:Cg)(m:ae)(s:State)(HM:Hp):Prop
 |mk (cu cv ar as G HC:_) (_:pD R C m s HM cu cv ar as G HC)
def Out(F H:Hp):Hp:=λb=>if(F b).isSome=true then none else H b
def Sub(F H:Hp):Prop:=∀b o,F b=some o->H b=some o
section
variable{R:Cl}{C:Cg}{F H H' HM iZ:Hp}{m:ae}{s:State}
def bP{b:ae}{o:HO}(h:Out F H b=some o):H b=some o/\F b=none:=by
 unfold Out at h;by_cases z:(F b).isSome=true
 ·rw[if_pos z] at h;exact ns h
 ·rw[if_neg z] at h;exact⟨h,by cases q:F b with|none=>rfl|some _=>rw[q] at z;exact absurd rfl z⟩
def fE{b:ae}{o:HO}(h:H b=some o)(hf:F b=none):Out F H b=some o:=by
 unfold Out;rw[hf,if_neg (by simp)];exact h
def Ih(k:Sub H H'):Sub (Out F H) (Out F H'):=λb o e=>let ⟨a,c⟩:=bP e;fE (k b o a) c
def ir{l:ae}{o:HO}(hl:H l=none):Sub H (upd H l o):=λb u e=>by rw[ak (bw e hl)];exact e
def Sub.trans{H1 H2 H3:Hp}(a:Sub H1 H2)(b:Sub H2 H3):Sub H1 H3:=λc o e=>b c o (a c o e)
theorem Sub.none{b:ae}(a:Sub F H)(h:H b=none):F b=Option.none:=by
 cases z:F b with
 |none=>rfl
 |some o=>rw[a _ _ z] at h;exact sn h
theorem pD.mono{cu ar:ae}{cv:V}{as:List ae}{G:Rg}{HC:Hp}(h:pD R C m s HM cu cv ar as G HC)(k:Sub HM iZ):pD R C m s iZ cu cv ar as G HC:=
 ⟨k _ _ h.ob,⟨k _ _ h.arr.l,h.arr.n,λj b e=>k _ _ (h.arr.at_ j b e)⟩,h.reg.mono λb o e _=>k b o e,h.tb.mono k,λb o e=>k _ _ (h.hc b o e),h.hm,h.hr,h.ht,h.ao,h.ag,h.wf,h.nums,h.cd⟩
theorem mH.mono(h:mH R C m s HM)(k:Sub HM iZ):mH R C m s iZ:=by
 obtain⟨cu,cv,ar,as,G,HC,h⟩:=h;exact⟨cu,cv,ar,as,G,HC,h.mono k⟩
end
structure MK(K:aI)(R:Cl)(C:Cg):Prop where
 cls:iz K C.cq
 code:dD K C.cq "code"
 arrays:dD K C.cq "arrays"
 pF:dD K C.cq "registers"
 tl:R.cf.length=R.r0.length
 tn:R.cf.Nodup
def bx(l:List Int):List V:=l.map V.int
def Ii(R:Cl)(C:Cg)(F:Hp)(m:ae)(r:State×Cd)(Q:VK):Prop:=∀H' al,Sub F H'->mH R C m r.1 (Out F H')->H' al=some (.lst (bx (kJ r.2)))->F al=none->Q (.ref al) H'
inductive mJ(R:Cl)(C:Cg)(q:Nat)(vs:List V)(H:Hp)(Q:VK)(_:XK):Prop
 |mk (F m s nl rl nums row k:_) (_:vs=[.ref m,.ref nl,.ref rl]) (_:MC.Is q nums row k) (_:Sub F H) (_:mH R C m s (Out F H)) (_:F nl=some (.lst (bx nums))) (_:F rl=some (.lst (bx row))) (_:Ii R C F m (step s k) Q)
section
variable{R:Cl}{C:Cg}
def f7{F H H1:Hp}{m:ae}{s:State}{a:Cd}{Q:VK}{l:ae}{vs:List V}(q:Ii R C F m (s,a) Q)(hF:Sub F H)(hM:mH R C m s (Out F H))(k:Sub H H1)(hl:H1 l=none)(e:vs=bx (kJ a)):Q (.ref l) (upd H1 l (.lst vs)):=by
 subst e;have k2:=k.trans (ir (o:=.lst (bx (kJ a))) hl);exact q _ l (hF.trans k2) (hM.mono (Ih k2)) aA ((hF.trans k).none hl)
inductive xE(K:aI)(vs:List V)(H:Hp)(Q:VK)(_:XK):Prop
 |mk (a ys k:_) (_:vs=[.ref a,.int k]) (_:aF K H a ys) (_:Q (.bl (decide (0<=k/\k<(ys.length:Int)))) H)
def aey(F:aD K "is_there" "is_there" Gj f fd)(g:GI mg):aB P w K mg base au 1 f fd ["rows","wanted"] (xE K):=by
 refine F.oK aav λ_ _ _ _ H vs Q E hr h=>?_;obtain⟨a,ys,k,rfl,ha,q⟩:=h;refine⟨_,aw (bh (yH iQ gz aO (pv 1) (eV iA (by rfl) g.fX gj (ah (pv 0) aj)))),?_⟩
 refine⟨_,rfl,_,_,rfl,rfl,_,rfl,bX (λz=>?_) λz=>?_⟩
 ·refine⟨_,rfl,_,_,rfl,.inl ha,_,_,rfl,rfl,?_⟩;have e:decide (k<(ys.length:Int))=decide (0<=k/\k<(ys.length:Int)):=decide_eq_decide.mpr ⟨λy=>⟨z,y⟩,λy=>y.2⟩;show Q (.bl (decide (k<(ys.length:Int)))) H;rw[e];exact q
 ·rw[decide_eq_false λy=>z y.1] at q;exact q
inductive xF(vs:List V)(H:Hp)(Q:VK)(_:XK):Prop
 |mk (a:ae) (as:List ae) (k:Int) (rows:List (List V)) (_:vs=[.ref a,.int k]) (_:H a=some (.lst (as.map V.ref))) (_:as.length=rows.length) (_:(∀(j:Nat) (b:ae),as[j]? =some b->H b=some (.lst ((rows[j]?).getD [])))) (_:(∀r∈rows,r.length<=1000000)) (_:(¬(0<=k/\k<(as.length:Int))->∀l,H l=none->Q (.ref l) (upd H l (.lst [.int (-5)])))) (_:(0<=k/\k<(as.length:Int)->∀H1 l,Sub H H1->H1 l=none->Q (.ref l) (upd H1 l (.lst (.int 0::(rows[k.toNat]?).getD [])))))
def aez(F:aD K "row_held" "row_held" Gm f fd)(g:GI mg)(GT:aK P w K mg base au 1 "is_there" ["rows","wanted"] (xE K)):aB P w K mg base au 2 f fd ["rows","wanted"] xF:=by
 refine F.oK aay λ_ _ _ _ H vs Q E hr h=>?_;obtain⟨a,as,k,rows,rfl,ha,hl,iY,hz,q1,q2⟩:=h;refine⟨_,ay (bZ (lD (gZ (aV GT hr aW (ah (pv 0) (ah (pv 1) aj))))) (aw (bh (cR (ah (b_ g.GG) aj)))) cJ)
  (aw (bh (cy C5 (cR (ah aO aj)) (cj cH (pv 0) (pv 1) (λ_ _=>rfl))))),?_⟩
 refine⟨_,rfl,_,rfl,a,_,k,rfl,aF.of ha,_,rfl,?_⟩;rw[bq];by_cases z:0<=k/\k<(as.length:Int)
 ·rw[decide_eq_true z];obtain⟨j,rfl⟩:∃j:Nat,k=(j:Int):=⟨k.toNat,by lia⟩
  have jl:j<as.length:=by lia
  obtain⟨b,hb⟩:∃b,as[j]? =some b:=⟨_,eK jl⟩;have hB:=iY j b hb;have fk:rows[j]? =some rows[j]:=eK (by lia)
  have hzz:((rows[j]?).getD []).length<=1000000:=by rw[fk];exact hz _ (x_ _)
  refine⟨(by show 1<=sizeLine;rw[aP];decide),λl jJ=>?_⟩
  have s1:Sub H (upd H l (.lst [.int 0])):=ir jJ;refine⟨_,rfl,_,rfl,_,_,_,_,rfl,rfl,aF.of (s1 _ _ ha),cX (k:=j) (by rw[dI,hb];rfl),?_⟩
  refine⟨_,_,_,_,rfl,rfl,aA,s1 _ _ hB,(by rw[aP];simp;lia),λp hp=>?_⟩
  have q3:=q2 z _ p s1 hp;rw[gW] at q3;exact q3
 ·rw[decide_eq_false z];exact⟨(by show 1<=sizeLine;rw[aP];decide),λl jJ=>q1 z l jJ⟩
end
section
variable{R:Cl}{C:Cg}
def qE(n:Int):kb (bx [n]) 0=some (.int n):=cX (k:=0) rfl
def aeA(F:aD K "answer_vector" "answer_vector" Gv f fd)(M:MK K R C)(e:EK K R)(g:GI mg)(GR:aK P w K mg base au 2 "row_held" ["rows","wanted"] xF):aB P w K mg base au 3 f fd ["machine","numbers","row"] (mJ R C 7):=by
 refine F.oK aaC λ_ _ _ s H vs Q E hr h=>?_;obtain⟨F0,m,s,nl,rl,nums,row,k,rfl,is,hF,hM,hn,hw,q⟩:=h;cases is with
 |vector n hb=>
 refine⟨_,aw (bh (aV GR hr aW (ah (aN (aN (pv 0) rfl) rfl) (ah (cj cH (pv 1) aO (λ_ _=>rfl)) aj)))),?_⟩;have f9:=hM;obtain⟨cu,cv,ar,as,G,HC,I⟩:=hM;refine⟨_,rfl,_,_,_,_,_,rfl,(bP I.ob).1,M.cls,M.pF,rfl,_,_,_,_,_,rfl,(bP I.reg.reg).1,e.iG,e.G1,rfl,_,rfl,_,_,_,_,rfl,rfl,aF.of (hF _ _ hn),qE n,?_⟩;refine⟨G.vs,G.va,n,s.machine.vs.map λv=>v.map V.int,rfl,(bP I.reg.vs).1,by rw[I.reg.va,bq,I.wf.vs],λj b hb=>?_,λr hr=>?_,λz l hl=>?_,λz H1 l k1 hl=>?_⟩
 ·rw[(bP (I.reg.v j b hb)).1];unfold c9;rw[dI];cases s.machine.vs[j]? <;>rfl
 ·obtain⟨v,hv,rfl⟩:=mZ.mp hr;have:=I.wf.vl v hv;have:=I.wf.fB;rw[bq];lia
 ·have ea:step s (.vector n)=(s,i7 tu):=by
   show(s,_)=_;unfold nk;rw[if_neg (by rw[I.reg.va] at z;exact z)]
  rw[ea] at q;exact f7 q hF f9 (λ_ _ e=>e) hl rfl
 ·have ea:step s (.vector n)=(s,j8 (c9 s.machine n.toNat)):=by
   show(s,_)=_;unfold nk;rw[if_pos (by rw[I.reg.va] at z;exact z)]
  rw[ea] at q;refine f7 q hF f9 k1 hl ?_;show _=V.int 0::bx (c9 s.machine n.toNat);unfold c9;rw[dI];cases s.machine.vs[n.toNat]? <;>rfl
def aeB(F:aD K "answer_mask" "answer_mask" Gx f fd)(M:MK K R C)(e:EK K R)(g:GI mg)(GR:aK P w K mg base au 2 "row_held" ["rows","wanted"] xF):aB P w K mg base au 3 f fd ["machine","numbers","row"] (mJ R C 9):=by
 refine F.oK aaF λ_ _ _ s H vs Q E hr h=>?_;obtain⟨F0,m,s,nl,rl,nums,row,k,rfl,is,hF,hM,hn,hw,q⟩:=h;cases is with
 |mask n hb=>
 refine⟨_,aw (bh (aV GR hr aW (ah (aN (aN (pv 0) rfl) rfl) (ah (cj cH (pv 1) aO (λ_ _=>rfl)) aj)))),?_⟩;have f9:=hM;obtain⟨cu,cv,ar,as,G,HC,I⟩:=hM;refine⟨_,rfl,_,_,_,_,_,rfl,(bP I.ob).1,M.cls,M.pF,rfl,_,_,_,_,_,rfl,(bP I.reg.reg).1,e.iG,e.AG,rfl,_,rfl,_,_,_,_,rfl,rfl,aF.of (hF _ _ hn),qE n,?_⟩;refine⟨G.ms,G.ma,n,s.machine.ms.map λv=>v.map bit,rfl,(bP I.reg.ms).1,by rw[I.reg.ma,bq,I.wf.ms],λj b hb=>?_,λr hr=>?_,λz l hl=>?_,λz H1 l k1 hl=>?_⟩
 ·rw[(bP (I.reg.m j b hb)).1];unfold maskOf;rw[dI];cases s.machine.ms[j]? <;>rfl
 ·obtain⟨v,hv,rfl⟩:=mZ.mp hr;have:=I.wf.ml v hv;have:=I.wf.fB;rw[bq];lia
 ·have ea:step s (.mask n)=(s,i7 tu):=by
   show(s,_)=_;unfold nk;rw[if_neg (by rw[I.reg.ma] at z;exact z)]
  rw[ea] at q;exact f7 q hF f9 (λ_ _ e=>e) hl rfl
 ·have ea:step s (.mask n)=(s,j8 ((maskOf s.machine n.toNat).map λb=>if b=true then 1 else 0)):=by
   show(s,_)=_;unfold nk;rw[if_pos (by rw[I.reg.ma] at z;exact z)]
  rw[ea] at q;refine f7 q hF f9 k1 hl ?_;show _=V.int 0::bx ((maskOf s.machine n.toNat).map λb=>if b=true then 1 else 0)
  unfold maskOf bx;rw[dI,iO];cases s.machine.ms[n.toNat]? <;>rfl
def aeC(F:aD K "answer_scalar" "answer_scalar" Gw f fd)(M:MK K R C)(e:EK K R)(g:GI mg)(GT:aK P w K mg base au 1 "is_there" ["rows","wanted"] (xE K)):aB P w K mg base au 2 f fd ["machine","numbers","row"] (mJ R C 8):=by
 refine F.oK Ni λ_ _ _ s H vs Q E hr h=>?_;obtain⟨F0,m,s,nl,rl,nums,row,k,rfl,is,hF,hM,hn,hw,q⟩:=h;cases is with
 |scalar n hb=>
 refine⟨_,ay (bE 3 Ni.nd (aN (aN (pv 0) rfl) rfl))
  (ay (bZ (lD (gZ (aV GT hr aW (ah (pv 3) (ah (cj cH (pv 1) aO (λ_ _=>rfl)) aj))))) (aw (bh (cR (ah (b_ g.GG) aj)))) cJ)
  (aw (bh (cR (ah aO (ah (cj cH (pv 3) (cj cH (pv 1) aO (λ_ _=>rfl)) (λ_ _=>rfl)) aj)))))),?_⟩
 have f9:=hM;obtain⟨cu,cv,ar,as,G,HC,I⟩:=hM;refine⟨_,rfl,_,_,_,_,_,rfl,(bP I.ob).1,M.cls,M.pF,rfl,_,_,_,_,_,rfl,(bP I.reg.reg).1,e.iG,e.AF,rfl,?_⟩;have hs:=(bP I.reg.ss).1;have el:(s.machine.ss.map V.int).length=16:=by rw[bq,I.wf.ss]
 refine⟨_,rfl,_,rfl,_,_,_,_,rfl,rfl,aF.of (hF _ _ hn),qE n,_,_,_,rfl,aF.of hs,_,rfl,?_⟩;rw[el];by_cases z:0<=n/\n<((16:Nat):Int)
 ·rw[decide_eq_true z];have ea:step s (.scalar n)=(s,j8 [dJ s.machine n.toNat]):=by
   show(s,_)=_;unfold nk;rw[if_pos z]
  rw[ea] at q;obtain⟨j,rfl⟩:∃j:Nat,n=(j:Int):=⟨n.toNat,by lia⟩
  have jl:j<s.machine.ss.length:=by rw[I.wf.ss];lia
  refine⟨_,rfl,_,rfl,_,_,_,_,rfl,rfl,aF.of (hF _ _ hn),qE _,_,_,_,_,rfl,rfl,aF.of hs,cX (k:=j) (by rw[dI,eK jl];rfl),(by show 2<=sizeLine;rw[aP];decide),λl hl=>?_⟩
  refine f7 q hF f9 (λ_ _ e=>e) hl ?_;show[V.int 0,V.int _]=[V.int 0,V.int (dJ s.machine ((j:Nat):Int).toNat)];unfold dJ;rw[gW,eK jl];rfl
 ·rw[decide_eq_false z];have ea:step s (.scalar n)=(s,i7 tu):=by
   show(s,_)=_;unfold nk;rw[if_neg z]
  rw[ea] at q;exact⟨(by show 1<=sizeLine;rw[aP];decide),λl hl=>f7 q hF f9 (λ_ _ e=>e) hl rfl⟩
def Bv{s:State}{c:Ca}(g:MP.Good c)(h:MR.lU s.machine=c.lengths):s.machine.arrays.length<=32/\ ∀v∈s.machine.arrays,v.length<=1024:=by
 unfold MR.lU at h;refine⟨?_,λv hv=>?_⟩
 ·have:=congrArg jX h;rw[bq] at this;rw[this];exact g.ln
 ·exact g.le _ (by rw[<-h];exact mZ.mpr ⟨v,hv,rfl⟩)
def aeD(F:aD K "answer_array" "answer_array" Gs f fd)(M:MK K R C)(e:EK K R)(g:GI mg)(GR:aK P w K mg base au 2 "row_held" ["rows","wanted"] xF):aB P w K mg base au 3 f fd ["machine","numbers","row"] (mJ R C 6):=by
 refine F.oK aaA λ_ _ _ s H vs Q E hr h=>?_;obtain⟨F0,m,s,nl,rl,nums,row,k,rfl,is,hF,hM,hn,hw,q⟩:=h;cases is with
 |array n hb=>
 refine⟨_,ay (bZ (ji (oI (aN (pv 0) rfl))) (aw (bh (cR (ah (b_ g.Aw) aj)))) cJ)
  (aw (bh (aV GR hr aW (ah (aN (pv 0) rfl) (ah (cj cH (pv 1) aO (λ_ _=>rfl)) aj))))),?_⟩
 have f9:=hM;obtain⟨cu,cv,ar,as,G,HC,I⟩:=hM;refine⟨_,rfl,_,_,_,_,_,rfl,(bP I.ob).1,M.cls,M.code,rfl,_,rfl,?_⟩;have cd:=I.cd;cases ec:s.code with
 |none=>
  rw[ec] at cd;obtain⟨rfl,ea⟩:=cd;have es:step s (.array n)=(s,i7 Jy):=by show eU s _=_;unfold eU;rw[ec]
  rw[es] at q;exact du ⟨(by show 1<=sizeLine;rw[aP];decide),λl hl=>f7 q hF f9 (λ_ _ e=>e) hl rfl⟩
 |some c=>
  rw[ec] at cd;obtain⟨cd,rfl,cA,gd,el⟩:=cd;obtain⟨al,av⟩:=Bv gd el;have le:s.machine.arrays.length=c.lengths.length:=by have:=congrArg jX el;unfold MR.lU at this;rw[bq] at this;exact this
  refine dY ⟨_,rfl,_,_,_,_,_,rfl,(bP I.ob).1,M.cls,M.arrays,rfl,_,rfl,_,_,_,_,rfl,rfl,aF.of (hF _ _ hn),qE n,?_⟩;refine⟨ar,as,n,s.machine.arrays.map λv=>v.map V.int,rfl,(bP I.arr.l).1,by rw[I.arr.n,bq],λj b hb=>?_,λr hr=>?_,λz l hl=>?_,λz H1 l k1 hl=>?_⟩
  ·rw[(bP (I.arr.at_ j b hb)).1,dI];cases s.machine.arrays[j]? <;>rfl
  ·obtain⟨v,hv,rfl⟩:=mZ.mp hr;have:=av v hv;rw[bq];lia
  ·have es:step s (.array n)=(s,i7 tu):=by
    show eU s _=_;unfold eU yo;rw[ec];simp only;rw[if_neg (by rw[I.arr.n,le] at z;exact z)]
   rw[es] at q;exact f7 q hF f9 (λ_ _ e=>e) hl rfl
  ·have es:step s (.array n)=(s,j8 (dM s.machine n.toNat)):=by
    show eU s _=_;unfold eU yo;rw[ec];simp only;rw[if_pos (by rw[I.arr.n,le] at z;exact z)]
   rw[es] at q;refine f7 q hF f9 k1 hl ?_;show _=V.int 0::bx (dM s.machine n.toNat);unfold dM;rw[dI];cases s.machine.arrays[n.toNat]? <;>rfl
end
section
variable{R:Cl}{C:Cg}{HM iZ HC:Hp}{m cu ar:ae}{s:State}{cv:V}{as:List ae}{G:Rg}
def pD.rest(I:pD R C m s HM cu cv ar as G HC)(k:∀b o,HM b=some o->b≠m->iZ b=some o):uD iZ ar as s.machine.arrays/\n8 R iZ G s.machine/\jd R iZ/\Sub HC iZ:=by
 have n1:∀{b:ae} {xs:List V},HM b=some (.lst xs)->b≠m:=λh=>cE h I.ob (by intro z;cases z)
 have n2:G.reg≠m:=cE I.reg.reg I.ob (by intro z;injection z with _ _ z;injection z with z _;injection z with z _;revert z;decide)
 refine⟨⟨k _ _ I.arr.l (n1 I.arr.l),I.arr.n,λj b e=>k _ _ (I.arr.at_ j b e) (n1 (I.arr.at_ j b e))⟩,⟨k _ _ I.reg.reg n2,k _ _ I.reg.vs (n1 I.reg.vs),k _ _ I.reg.ms (n1 I.reg.ms),k _ _ I.reg.ss (n1 I.reg.ss),I.reg.va,I.reg.ma,λj b e=>k _ _ (I.reg.v j b e) (n1 (I.reg.v j b e)),λj b e=>k _ _ (I.reg.m j b e) (n1 (I.reg.m j b e))⟩,λi b e=>?_,λb o e=>k _ _ (I.hc b o e) (λz=>by rw[z,I.hm] at e;exact ns e)⟩
 obtain⟨q,e1,e2⟩:=I.tb i b e;refine⟨q,e1,e2.imp (λz=>k _ _ z (cE z I.ob (by intro z;cases z))) λz=>?_⟩
 obtain⟨c,h1,h2⟩:=z;exact⟨c,k _ _ h1 (cE h1 I.ob (by intro z;cases z)),k _ _ h2 (cE h2 I.ob (by unfold iE;intro z;cases z))⟩
end
section
variable{R:Cl}{C:Cg}
def Eb{c:Ca}(g:MP.Good c):(yn c).length<=500000:=by
 obtain⟨l1,l2⟩:=OU g;have jl:=MP.y_ (k:=302) (MP.iU c) l2;rw[MP.DZ];exact dy jl (by lia)
def OX(t:aJ):bx (Vaarrj.ints t)=dS t:=by unfold bx Vaarrj.ints dS;rw[iO];rfl
def aeE(F:aD K "answer_plain" "answer_plain" Gg f fd)(M:MK K R C)(g:GI mg)(GP:aK P w K mg base au 19 "plain_text" ["code"] (Ie R C)):aB P w K mg base au 20 f fd ["machine","numbers","row"] (mJ R C 2):=by
 refine F.oK aaq λ_ _ _ s H vs Q E hr h=>?_;obtain⟨F0,m,s,nl,rl,nums,row,k,rfl,is,hF,hM,hn,hw,q⟩:=h;cases is with
 |plain=>
 refine⟨_,ay (bZ (ji (oI (aN (pv 0) rfl))) (aw (bh (cR (ah (b_ g.Aw) aj)))) cJ)
  (aw (bh (cy C5 (cR (ah aO aj)) (aV GP hr aW (ah (aN (pv 0) rfl) aj))))),?_⟩
 have f9:=hM;obtain⟨cu,cv,ar,as,G,HC,I⟩:=hM;refine⟨_,rfl,_,_,_,_,_,rfl,(bP I.ob).1,M.cls,M.code,rfl,_,rfl,?_⟩;have cd:=I.cd;cases ec:s.code with
 |none=>
  rw[ec] at cd;obtain⟨rfl,ea⟩:=cd;have es:step s .plain=(s,i7 Jy):=by show eU s _=_;unfold eU;rw[ec]
  rw[es] at q;exact du ⟨(by show 1<=sizeLine;rw[aP];decide),λl hl=>f7 q hF f9 (λ_ _ e=>e) hl rfl⟩
 |some c=>
  rw[ec] at cd;obtain⟨cd,rfl,cA,gd,el⟩:=cd;have es:step s .plain=(s,j8 (Vaarrj.ints (yn c))):=by show eU s _=_;unfold eU;rw[ec]
  rw[es] at q;refine dY ⟨(by show 1<=sizeLine;rw[aP];decide),λl hl=>?_⟩
  have s1:Sub H (upd H l (.lst [.int 0])):=ir hl;refine⟨_,rfl,_,_,_,_,_,rfl,s1 _ _ (bP I.ob).1,M.cls,M.code,rfl,HC,cd,c,rfl,λb o e=>s1 _ _ (bP (I.hc b o e)).1,cA,gd,λH2 l2 k2 h2=>?_⟩;refine⟨_,_,_,_,rfl,rfl,k2 _ _ aA,h2,(by rw[ik,aP];have:=Eb gd;simp;lia),λp hp=>?_⟩
  refine f7 q hF f9 (s1.trans k2) hp ?_;show[V.int 0]++dS (yn c)=V.int 0::bx (Vaarrj.ints (yn c));rw[OX];rfl
def Ij{l:List Int}{j:Nat}{n:Int}(h:l[j]? =some n):kb (bx l) (j:Int)=some (.int n):=cX (by unfold bx;exact ia h)
def aeF(F:aD K "answer_width" "answer_width" Gh f fd)(M:MK K R C)(e:EK K R)(g:GI mg)(RC:so K mg R):aB P w K mg base au 3 f fd ["machine","numbers","row"] (mJ R C 3):=by
 obtain⟨fr,ip,Mr,Fr,mR⟩:=RC.reg;have GR:aB P w K mg base au 1 fr ip ["self","width"] (xk R):=AS Fr g e;have bR:=Fr.b2 "self" "width";refine F.oK Ng λ_ _ _ s H vs Q E hr h=>?_;obtain⟨F0,m,s,nl,rl,nums,row,k,rfl,is,hF,hM,hn,hw,q⟩:=h;cases is with
 |width n hb=>
 refine⟨_,ay (bE 3 Ng.nd (cj cH (pv 1) aO (λ_ _=>rfl)))
  (ay (bZ (kM (bV gz (pv 3) aO (bO _)) (nH (bV lJ (pv 3) (b_ g.aaJ) (bO _)))).pt (aw (bh (cR (ah (b_ g.Ax) aj)))) cJ)
  (ay (cT (pv 0) (j' Mr GR hr rfl mR bR .nil aW (ah (pv 3) aj)) rfl)
  (aw (bh (cR (ah aO aj)))))),?_⟩
 have f9:=hM;obtain⟨cu,cv,ar,as,G,HC,I⟩:=hM;refine⟨_,rfl,_,_,_,_,rfl,rfl,aF.of (hF _ _ hn),qE n,?_⟩;have bad:(n<1\/16<n)->∀l,H l=none->Q (.ref l) (upd H l (.lst [.int (-4)])):=λz l hl=>by
  have es:step s (.width n)=(s,i7 Qo):=by
   show(if n<1\/16<n then _ else _)=_
   rw[if_pos z]
  rw[es] at q;exact f7 q hF f9 (λ_ _ e=>e) hl rfl
 refine⟨_,rfl,_,_,rfl,rfl,_,rfl,bX (λz=>?_) λz=>?_⟩
 ·exact du ⟨(by show 1<=sizeLine;rw[aP];decide),λl hl=>bad (.inl z) l hl⟩
 refine⟨_,rfl,_,_,rfl,rfl,_,rfl,bX (λz2=>?_) λz2=>?_⟩
 ·exact⟨(by show 1<=sizeLine;rw[aP];decide),λl hl=>bad (.inr z2) l hl⟩
 obtain⟨wd,rfl⟩:∃wd:Nat,n=(wd:Int):=⟨n.toNat,by lia⟩
 have es:step s (.width (wd:Int))=({s with machine:=tq wd s.machine.arrays},{value:=0}):=by
  show(if((wd:Int)<1\/16<(wd:Int)) then _ else _)=_
  rw[if_neg (by lia),gW]
 rw[es] at q;refine⟨_,rfl,λx dx nx nd ne=>⟨x,dx,wd,rfl,aA,by lia,by lia,λH1 G' eg ed rg sq=>⟨rfl,?_⟩⟩⟩
 subst eg ed;obtain⟨m1,k1⟩:=Made.nest (bP I.ob).1 nx nd sq;refine⟨_,rfl,_,_,_,_,rfl,k1 _ _ (bP I.ob).1,M.cls,M.pF,(by show 3<1000;decide),?_⟩
 refine⟨(by show 1<=sizeLine;rw[aP];decide),λl hl=>?_⟩
 have mF:F0 m=none:=(bP I.ob).2;have ee:az "registers" (.ref G'.reg) (cV cv ar G.reg)=cV cv ar G'.reg:=rfl;have nm:∀b∈(G'.reg::G'.all),b≠m:=λb hb z=>by have:=m1.fr b hb;rw[z,(bP I.ob).1] at this;exact sn this
 have frF:∀b∈(G'.reg::G'.all),F0 b=none:=λb hb=>hF.none (m1.fr b hb);have lm:l≠m:=λz=>by rw[z,aA] at hl;exact sn hl
 rw[ee] at hl⊢;have kk:∀b o,H1 b=some o->b≠m->upd (upd H1 m (.ins C.cq cu (cV cv ar G'.reg))) l (.lst [.int 0]) b=some o:=λb o eb n=>by
  have:upd H1 m (.ins C.cq cu (cV cv ar G'.reg)) b=some o:=by rw[ak n];exact eb
  rw[ak (bw this hl)];exact this
 have ko:∀b o,Out F0 H b=some o->b≠m->Out F0 (upd (upd H1 m (.ins C.cq cu (cV cv ar G'.reg))) l (.lst [.int 0])) b=some o:=λb o eb n=>fE (kk _ _ (k1 _ _ (bP eb).1) n) (bP eb).2;obtain⟨a1,a2,a3,a4⟩:=I.rest ko;refine q _ l (λb o eb=>kk _ _ (k1 _ _ (hF _ _ eb)) (λz=>by rw[z,mF] at eb;exact ns eb)) ⟨cu,cv,ar,as,G',HC,fE (by rw[ak (Ne.symm lm),aA]) mF,a1,(rg s.machine.arrays).mono λb o eb hb=>?_,a3,a4,I.hm,I.hr,I.ht,I.ao,λz=>?_,MR.WF.fresh (by lia) (by lia) _,MR.Nums.fresh wd I.nums.ar,?_⟩ aA (hF.none (Sub.none (F:=H) k1 (by rw[ak lm] at hl;exact hl)))
 ·have hb:b∈(G'.reg::G'.all):=cC.mpr hb;exact fE (kk _ _ eb (nm b hb)) (frF b hb)
 ·have:=m1.fr ar (fG _ z);rw[(bP I.arr.l).1] at this;exact sn this
 ·exact I.cd
end
section
variable{R:Cl}{C:Cg}
def boot_all:mX "all"=some (.builtin "all"):=by decide+kernel
inductive Ik(vs:List V)(H:Hp)(Q:VK)(_:XK):Prop
 |mk (k:Int) (_:vs=[.int k]) (_:Q (.bl (decide (-1000000000000000000<=k/\k<=1000000000000000000))) H)
def aeG(F:aD K "is_number" "is_number" Gi f fd)(g:GI mg):aB P w K mg base au 1 f fd ["number"] Ik:=by
 refine F.oK aat λ_ _ _ _ H vs Q E hr h=>?_;obtain⟨k,rfl,q⟩:=h;refine⟨_,aw (bh (yH iQ iQ (b_ g.Av) (pv 0) (b_ g.qr))),?_⟩;refine⟨_,rfl,_,_,rfl,rfl,_,rfl,bX (λz=>?_) λz=>?_⟩
 ·refine⟨_,_,rfl,rfl,?_⟩;have e:decide (k<=1000000000000000000)=decide (-1000000000000000000<=k/\k<=1000000000000000000):=decide_eq_decide.mpr ⟨λy=>⟨z,y⟩,λy=>y.2⟩;show Q (.bl (decide (k<=1000000000000000000))) H;rw[e];exact q
 ·rw[decide_eq_false λy=>z y.1] at q;exact q
def aeH:(eZ.map λx=>(kC (S x):Key)).Nodup:=by
 have h:eZ.Nodup:=by decide+kernel
 refine List.Pairwise.map _ (λa b hab z=>hab ?_) h;injection z with z
 exact MX.lX z
def aeI(F:aD K "answer_map" "answer_map" Gy f fd)(g:GI mg)(ON:sr K w mg)(GM:aK P w K mg base au 2 "map_text" ["operator","length","place"] Ig):aB P w K mg base au 3 f fd ["machine","numbers","row"] (mJ R C 10):=by
 obtain⟨ta,D,mT,tab,keys⟩:=ON.two;refine F.oK As λ_ _ _ s H vs Q E hr h=>?_;obtain⟨F0,m,s,nl,rl,nums,row,k,rfl,is,hF,hM,hn,hw,q⟩:=h;cases is with
 |map o n p ho xG hp=>
 refine⟨_,ay (bE 3 As.nd (cj cH (pv 1) aO (λ_ _=>rfl)))
  (ay (bE 4 As.nd (cj cH (pv 1) aO (λ_ _=>rfl)))
  (ay (bE 5 As.nd (cj cH (pv 1) aO (λ_ _=>rfl)))
  (ay (bZ (kM (bV gz (pv 3) aO (bO _)) (nH (bV J8 (pv 3) (eV XJ (by rfl) g.fX gj (ah (iH mT) aj)) (bO _)))).pt (aw (bh (cR (ah (b_ g.Ax) aj)))) cJ)
  (ay (bZ (kM (bV gz (pv 4) aO (bO _)) (kM (bV lJ (pv 4) (b_ g.Nn) (bO _)) (kM (bV gz (pv 5) aO (bO _)) (nH (bV lJ (pv 5) (b_ g.qr) (bO _)))))).pt (aw (bh (cR (ah (b_ g.Ax) aj)))) cJ)
  (aw (bh (cy C5 (cR (ah aO aj)) (aV GM hr aW (ah (cj cH (oP (XM rfl) (by rfl) g.Ay boot_list (ah (iH mT) aj)) (pv 3) (λ_ _=>rfl)) (ah (pv 4) (ah (pv 5) aj))))))))))),?_⟩
 have hN:=aF.of (K:=K) (hF _ _ hn);have eg:qT=1000000000000000000:=rfl;have dl:D.length=13:=by have:=congrArg jX keys;rw[bq,bq] at this;rw[this];decide+kernel
 have dn:(D.map (·.1)).Nodup:=by rw[keys];exact aeH
 refine⟨_,rfl,_,_,_,_,rfl,rfl,hN,Ij (j:=0) rfl,?_⟩;refine⟨_,rfl,_,_,_,_,rfl,rfl,hN,Ij (j:=1) rfl,?_⟩;refine⟨_,rfl,_,_,_,_,rfl,rfl,hN,Ij (j:=2) rfl,?_⟩;have bad:(o<0\/12<o\/n<0\/1024<n\/p<0\/qT<p)->∀H1 l,Sub H H1->H1 l=none->Q (.ref l) (upd H1 l (.lst [.int (-4)])):=λz H1 l k1 hl=>by
  have es:step s (.map o n p)=(s,i7 Qo):=by
   show(s,yp o n p)=_;unfold yp;rw[if_pos z]
  rw[es] at q;exact f7 q hF hM k1 hl rfl
 have l1:([V.int (-4)]:List V).length<=sizeLine:=by show 1<=sizeLine;rw[aP];decide
 have rf:Sub H H:=λ_ _ e=>e;refine⟨_,rfl,_,_,rfl,rfl,_,rfl,bX (λz=>?_) λz1=>?_⟩
 ·exact du ⟨l1,λl hl=>bad (.inl z) H l rf hl⟩
 refine⟨_,rfl,_,_,rfl,tab,dn,by lia,_,_,rfl,rfl,_,rfl,bX (λz=>?_) λz2=>?_⟩
 ·exact⟨l1,λl hl=>bad (.inr (.inl (by rw[dl] at z;lia))) H l rf hl⟩
 rw[dl] at z2;refine⟨_,rfl,_,_,rfl,rfl,_,rfl,bX (λz=>?_) λz3=>?_⟩
 ·exact du ⟨l1,λl hl=>bad (.inr (.inr (.inl z))) H l rf hl⟩
 refine⟨_,rfl,_,_,rfl,rfl,_,rfl,bX (λz=>?_) λz4=>?_⟩
 ·exact du ⟨l1,λl hl=>bad (.inr (.inr (.inr (.inl z)))) H l rf hl⟩
 refine⟨_,rfl,_,_,rfl,rfl,_,rfl,bX (λz=>?_) λz5=>?_⟩
 ·exact du ⟨l1,λl hl=>bad (.inr (.inr (.inr (.inr (.inl z))))) H l rf hl⟩
 refine⟨_,rfl,_,_,rfl,rfl,_,rfl,bX (λz=>?_) λz6=>?_⟩
 ·exact⟨l1,λl hl=>bad (.inr (.inr (.inr (.inr (.inr (by rw[eg];exact z)))))) H l rf hl⟩
 obtain⟨oo,rfl⟩:∃oo:Nat,o=(oo:Int):=⟨o.toNat,by lia⟩
 obtain⟨nn,rfl⟩:∃nn:Nat,n=(nn:Int):=⟨n.toNat,by lia⟩
 obtain⟨pp,rfl⟩:∃pp:Nat,p=(pp:Int):=⟨p.toNat,by lia⟩
 have es:step s (.map (oo:Int) (nn:Int) (pp:Int))=(s,j8 (Vaarrj.ints (pO oo nn pp))):=by
  show(s,yp _ _ _)=_;unfold yp;rw[if_neg (by rw[eg];lia),gW,gW,gW]
 rw[es] at q;refine⟨(by show 1<=sizeLine;rw[aP];decide),λl hl=>?_⟩
 have s1:Sub H (upd H l (.lst [.int 0])):=ir hl;refine⟨_,_,rfl,tab,dn,by lia,λlt dU=>?_⟩
 have s2:Sub (upd H l (.lst [.int 0])) (upd (upd H l (.lst [.int 0])) lt (.lst (D.map λp=>kV p.1))):=ir dU;have kD:(D.map λp=>kV p.1)=eZ.map λx=>V.str (S x):=by
  have:=congrArg (List.map kV) keys;rw[iO,iO] at this;exact this
 have o13:oo<eZ.length:=by show oo<13;lia
 have eo:(eZ.map λx=>V.str (S x))[oo]? =some (.str (S (fQ eZ oo))):=by
  unfold fQ;rw[dI,eK o13];rfl
 refine⟨_,rfl,_,_,_,_,rfl,rfl,aF.of aA,(by rw[kD];exact cX eo),?_⟩
 refine⟨_,rfl,_,rfl,oo,nn,pp,rfl,by lia,by lia,λH3 l3 k3 h3 ml=>?_⟩
 refine⟨_,_,_,_,rfl,rfl,k3 _ _ (s2 _ _ aA),h3,(by rw[ik,aP];simp;lia),λpf hpf=>?_⟩
 refine f7 q hF hM ((s1.trans s2).trans k3) hpf ?_;show[V.int 0]++dS (pO oo nn pp)=V.int 0::bx (Vaarrj.ints (pO oo nn pp));rw[OX];rfl
def aeJ(F:aD K "answer_where" "answer_where" Gf f fd)(g:GI mg)(FC:n9 K mg C)(GC:aK P w K mg base (bf P w) 43 "read_code" ["text"] (xC K R C)):aB P w K mg base au 44 f fd ["machine","numbers","text"] (mJ R C 1):=by
 obtain⟨NF,ff,sk,FK,mF⟩:=FC.ex;refine F.oK Nf λ_ _ _ s H vs Q E hr h=>?_;obtain⟨F0,m,s,nl,rl,nums,row,k,rfl,is,hF,hM,hn,hw,q⟩:=h;cases is with
 |where_ er hb hl=>
 rename_i t;subst er;refine⟨_,ay (bZ (bV lJ (eV iA (by rfl) g.fX gj (ah (pv 2) aj)) (b_ g.Nm) (bO _)) (aw (bh (cR (ah aO (ah aO aj))))) cJ)
  (ay (Mw (i:=3) FK.cls ⟨rfl,rfl⟩ rfl Nf.nd rfl rfl rfl mF (λpn xe E hp=>aw (bK (aV GC hr hp (ah (pv 2) aj)))) (λx=>aw (bh (cR (ah aO (ah (Eo FK.cls FK.pos (pv 3) rfl) aj))))))
  (aw (bh (cR (ah aO (ah aO aj)))))),?_⟩
 have eb:bx (t.map λ(c:Nat)=>(c:Int))=dS t:=by unfold bx dS;rw[iO];rfl
 rw[eb] at hw;have hT:=aF.of (K:=K) (hF _ _ hw);have l2:∀a b:Int,([V.int a,V.int b]:List V).length<=sizeLine:=λa b=>by show 2<=sizeLine;rw[aP];decide
 refine⟨_,rfl,_,_,rfl,.inl hT,_,_,rfl,rfl,_,rfl,bX (λz=>?_) λz=>?_⟩
 ·rw[ik] at z;have es:step s (.where_ t)=(s,{value:=1,list:=[0]}):=by
   show(s,if 16384<t.length then _ else _)=_
   rw[if_pos (by lia)]
  rw[es] at q;exact⟨l2 _ _,λl hl=>f7 q hF hM (λ_ _ e=>e) hl rfl⟩
 ·rw[ik] at z;refine⟨_,rfl,rl,t,rfl,hT,hl,?_⟩;cases er:Jz t with
  |error p=>
   have es:step s (.where_ t)=(s,{value:=2,list:=[((p:Nat):Int)]}):=by
    show(s,if 16384<t.length then _ else _)=_
    rw[if_neg (by lia),er]
   rw[es] at q;intro H' d kk hd;refine⟨rfl,d,rfl,λσ' x hs hx=>?_⟩;have up:Sub H (upd H' x (qm C.my x d)):=λb o eb=>by rw[ak (bw (kk _ _ eb) hx)];exact kk _ _ eb
   have xd:d≠x:=λz=>by rw[z,hx] at hd;exact ns hd
   obtain⟨a0,a1,a2,a3,rfl⟩:∃a0 a1 a2 a3,σ'=[a0,a1,a2,a3]:=by
    have:σ'.length=4:=hs
    match σ',this with
    |[a0,a1,a2,a3],_=>exact⟨a0,a1,a2,a3,rfl⟩
   refine⟨_,rfl,x,d,_,_,rfl,aA,by rw[ak xd];exact hd,rfl,l2 _ _,λl hl=>?_⟩
   exact f7 q hF hM up hl rfl
  |ok c=>
   have es:step s (.where_ t)=(s,{value:=0,list:=[0]}):=by
    show(s,if 16384<t.length then _ else _)=_
    rw[if_neg (by lia),er]
   rw[es] at q;intro gd H' HC cd kk hc cA;exact⟨l2 _ _,λl hl=>f7 q hF hM kk hl rfl⟩
end
section
variable{R:Cl}{C:Cg}{HM iZ HC:Hp}{m cu ar:ae}{s:State}{cv:V}{as:List ae}{G:Rg}
def pD.aeK(I:pD R C m s HM cu cv ar as G HC)(k:∀b o,HM b=some o->b≠ar->iZ b=some o):iZ m=some (.ins C.cq cu (cV cv ar G.reg))/\ (∀(j:Nat) (b:ae),as[j]? =some b->iZ b=some (.lst (((s.machine.arrays[j]?).getD []).map V.int)))/\n8 R iZ G s.machine/\jd R iZ/\Sub HC iZ:=by
 refine⟨k _ _ I.ob (cE I.ob I.arr.l (by intro z;cases z)),λj b e=>k _ _ (I.arr.at_ j b e) (λz=>I.ao (by rw[<-z];exact d7 e)),I.reg.mono λb o e hb=>k _ _ e ?_,λi b e=>?_,λb o e=>k _ _ (I.hc b o e) (λz=>by rw[z,I.hr] at e;exact ns e)⟩
 ·rcases hb with z|z
  ·rw[z];exact cE I.reg.reg I.arr.l (by intro z;cases z)
  ·exactλy=>I.ag (by rw[<-y];exact z)
 ·obtain⟨q,e1,e2⟩:=I.tb i b e;refine⟨q,e1,e2.imp (λz=>k _ _ z (cE z I.arr.l (by intro z;cases z))) λz=>?_⟩
  obtain⟨c,h1,h2⟩:=z;exact⟨c,k _ _ h1 (cE h1 I.arr.l (by intro z;cases z)),k _ _ h2 (cE h2 I.arr.l (by unfold iE;intro z;cases z))⟩
end
section
variable{R:Cl}{C:Cg}
def aeL(d:List Int)(h:∀k∈d,-1000000000000000000<=k/\k<=1000000000000000000):(d.map λk=>decide (-1000000000000000000<=k/\k<=1000000000000000000)).all id=true:=by
 rw[List.all_map,kH];intro k hk;exact decide_eq_true (h k hk)
def aeM(F:aD K "answer_set" "answer_set" Ap f fd)(M:MK K R C)(g:GI mg)(GT:aK P w K mg base au 1 "is_there" ["rows","wanted"] (xE K))(GN:aK P w K mg base au 1 "is_number" ["number"] Ik):aB P w K mg base au 2 f fd ["machine","numbers","data"] (mJ R C 4):=by
 refine F.oK Aq λ_ _ _ s H vs Q E hr h=>?_;obtain⟨F0,m,s,nl,rl,nums,row,k,rfl,is,hF,hM,hn,hw,q⟩:=h;cases is with
 |set n _ xG hd hdl=>
 refine⟨_,ay (bZ (ji (oI (aN (pv 0) rfl))) (aw (bh (cR (ah (b_ g.Aw) aj)))) cJ)
  (ay (bE 3 Aq.nd (cj cH (pv 1) aO (λ_ _=>rfl)))
  (ay (bZ (lD (gZ (aV GT hr aW (ah (aN (pv 0) rfl) (ah (pv 3) aj))))) (aw (bh (cR (ah (b_ g.GG) aj)))) cJ)
  (ay (bZ (kM (bV jk (eV iA (by rfl) g.fX gj (ah (pv 2) aj)) (eV iA (by rfl) g.fX gj (ah (cj cH (aN (pv 0) rfl) (pv 3) (λ_ _=>rfl)) aj)) (bO _))
    (nH (lD (gZ (eV (Sf rfl) (by rfl) g.aa0 boot_all (ah (nO (own:=[("number",4)]) rfl Aq.nd (g8 (pv 2)) (show jo Nh (aG Ap) _ _ from⟨rfl,by decide+kernel,by decide+kernel,by decide+kernel,by decide+kernel⟩) (λ_ _ _ _ _=>fD 4 Aq.nd)
      (λ_ _ _ _ _=>oS) (λ_ _ _ _ _=>aV GN hr aW (ah (pv 4) aj))) aj)))))).pt (aw (bh (cR (ah (b_ g.aaU) aj)))) cJ)
  (ay (jE (oP Ky (by rfl) g.Ay boot_list (ah (pv 2) aj)) (jD (aN (pv 0) rfl) (pv 3) set_list))
  (aw (bh (cR (ah aO aj)))))))),?_⟩
 have f9:=hM;obtain⟨cu,cv,ar,as,G,HC,I⟩:=hM;have l1:∀k:Int,([V.int k]:List V).length<=sizeLine:=λk=>by show 1<=sizeLine;rw[aP];decide
 have hD:=aF.of (K:=K) (hF _ _ hw);refine⟨_,rfl,_,_,_,_,_,rfl,(bP I.ob).1,M.cls,M.code,rfl,_,rfl,?_⟩;have cd:=I.cd;cases ec:s.code with
 |none=>
  rw[ec] at cd;obtain⟨rfl,ea⟩:=cd;have es:step s (.set n row)=(s,i7 Jy):=by show eU s _=_;unfold eU;rw[ec]
  rw[es] at q;exact du ⟨l1 _,λl hl=>f7 q hF f9 (λ_ _ e=>e) hl rfl⟩
 |some c=>
  rw[ec] at cd;obtain⟨cd,rfl,cA,gd,el⟩:=cd;have le:s.machine.arrays.length=c.lengths.length:=by have:=congrArg jX el;unfold MR.lU at this;rw[bq] at this;exact this
  obtain⟨al,av⟩:=Bv gd el;refine dY ⟨_,rfl,_,_,_,_,rfl,rfl,aF.of (hF _ _ hn),qE n,?_⟩;have hA:=(bP I.arr.l).1;refine⟨_,rfl,_,_,_,_,_,rfl,(bP I.ob).1,M.cls,M.arrays,rfl,_,rfl,ar,_,n,rfl,aF.of hA,_,rfl,?_⟩;rw[bq];by_cases z:0<=n/\n<(as.length:Int)
  ·rw[decide_eq_true z];obtain⟨j,rfl⟩:∃j:Nat,n=(j:Int):=⟨n.toNat,by lia⟩
   have jl:j<as.length:=by lia
   have ja:j<s.machine.arrays.length:=by rw[<-I.arr.n];exact jl
   obtain⟨b,hb⟩:∃b,as[j]? =some b:=⟨_,eK jl⟩;have hB:=(bP (I.arr.at_ j b hb)).1;have hz:dM s.machine j=(s.machine.arrays[j]?).getD []:=rfl;rw[<-hz] at hB;have Bw:step s (.set (j:Int) row)=if row.length≠(dM s.machine j).length\/row.all B7=false then(s,i7 Vaarrj.DATA) else({s with machine:={s.machine with arrays:=s.machine.arrays.set j row}},{value:=0}):=by
    show eU s _=_;unfold eU yo;rw[ec];simp only;rw[if_pos (by rw[<-le,<-I.arr.n];exact z),gW]
   have ga:row.all B7=true:=by
    rw[kH];intro k hk;have:=hd k hk;unfold B7;have eg:qT=1000000000000000000:=rfl;rw[eS,decide_eq_true_iff,decide_eq_true_iff,eg];exact this
   have ld:(bx row).length=row.length:=by unfold bx;rw[bq]
   refine⟨_,rfl,_,_,rfl,.inl hD,_,rfl,_,_,_,_,_,rfl,(bP I.ob).1,M.cls,M.arrays,rfl,_,rfl,_,_,_,_,rfl,rfl,aF.of hA,cX (k:=j) (by rw[dI,hb];rfl),_,_,rfl,.inl (aF.of hB),rfl,_,rfl,?_⟩
   rw[ld,bq];by_cases lz:row.length=(dM s.machine j).length
   ·rw[decide_eq_true (by rw[lz])]
    rw[if_neg (by intro y;rcases y with y|y;· exact y lz
                  ·rw[ga] at y;exact tf y)] at Bw
    rw[Bw] at q;refine⟨_,rfl,rl,rfl,⟨_,hD⟩,λJ hJ=>qg (K:=K) (a:=rl) (xs:=bx row) (λi H'=>Sub H H'/\H' J=some (.lst (((row.take i).map λk=>decide (-1000000000000000000<=k/\k<=1000000000000000000)).map V.bl))) ⟨ir hJ,by rw[aA];rfl⟩ (λi H' _ p=>t9.seq p.1 hD) (λi v H' hi p=>?_) λH1 p=>?_⟩
    ·obtain⟨x,hx,rfl⟩:∃x,row[i]? =some x/\v=.int x:=by
      unfold bx at hi;rw[dI] at hi;cases y:row[i]? with
      |none=>rw[y] at hi;cases hi
      |some n=>rw[y] at hi;exact⟨n,rfl,by injection hi with hi;exact hi.symm⟩
     refine⟨rfl,_,rfl,x,rfl,_,p.2,?_,λb o e=>?_,?_⟩
     ·rw[bq,bq,jY,aP];lia
     ·rw[ak (bw e hJ)];exact p.1 _ _ e
     ·rw[aA,MR.take_snoc hx,iw,iw];rfl
    obtain⟨k1,j1⟩:=p;rw[ld,oG] at j1;refine⟨_,_,rfl,aF.of j1,_,rfl,?_⟩;rw[aeL row hd];refine⟨_,rfl,_,_,rfl,.inl (t9.seq k1 hD),λnb OY=>?_⟩;have k2:Sub H (upd H1 nb (.lst (bx row))):=k1.trans (ir OY);have Il:H nb=none:=k1.none OY;refine⟨_,rfl,_,_,_,_,_,rfl,k2 _ _ (bP I.ob).1,M.cls,M.arrays,rfl,_,rfl,_,_,_,_,rfl,rfl,k2 _ _ hA,jQ (k:=j) (by rw[bq];exact jl),?_⟩
    refine⟨l1 _,λl hl=>?_⟩;have la:l≠ar:=λz=>by rw[z,aA] at hl;exact sn hl
    have OZ:nb≠ar:=λz=>by rw[z,hA] at Il;exact sn Il
    have O0:F0 ar=none:=(bP I.arr.l).2;have kk:∀b o,upd H1 nb (.lst (bx row)) b=some o->b≠ar->upd (upd (upd H1 nb (.lst (bx row))) ar (.lst ((as.map V.ref).set j (.ref nb)))) l (.lst [.int 0]) b=some o:=λb o eb n=>by
     have:upd (upd H1 nb (.lst (bx row))) ar (.lst ((as.map V.ref).set j (.ref nb))) b=some o:=by rw[ak n];exact eb
     rw[ak (bw this hl)];exact this
    have ko:∀b o,Out F0 H b=some o->b≠ar->Out F0 (upd (upd (upd H1 nb (.lst (bx row))) ar (.lst ((as.map V.ref).set j (.ref nb)))) l (.lst [.int 0])) b=some o:=λb o eb n=>fE (kk _ _ (k2 _ _ (bP eb).1) n) (bP eb).2;obtain⟨b1,b2,b3,b4,b5⟩:=I.aeK ko;refine q _ l (λb o eb=>kk _ _ (k2 _ _ (hF _ _ eb)) (λz=>by rw[z,O0] at eb;exact ns eb)) ⟨cu,.ref cd,ar,as.set j nb,G,HC,b1,⟨fE (by rw[ak (Ne.symm la),aA,vd]) O0,by rw[gV,gV];exact I.arr.n,λi b e=>?_⟩,⟨b3.reg,b3.vs,b3.ms,b3.ss,b3.va,b3.ma,b3.v,b3.m⟩,b4,b5,I.hm,I.hr,I.ht,λy=>?_,I.ag,I.wf.arrays _,I.nums.zg (λk hk=>?_) j,?_⟩ aA (hF.none (k2.none (by rw[ak la] at hl;exact hl)))
    ·by_cases ij:i=j
     ·subst ij;rw[uV jl] at e;obtain rfl:=aZ e;rw[uV ja];exact fE (kk _ _ aA OZ) (hF.none Il)
     ·rw[uW (Ne.symm ij)] at e;show _=some (HO.lst ((((s.machine.arrays.set j row)[i]?).getD []).map V.int));rw[uW (Ne.symm ij)];exact b2 i b e
    ·rcases MR.mem_set y with z|z
     ·exact OZ z.symm
     ·exact I.ao z
    ·have:=hd k hk;exact⟨by show-qT<=k;exact this.1,by show k<=qT;exact this.2⟩
    ·show match s.code with|none=>_|some c=>_
     rw[ec];exact⟨cd,rfl,cA,gd,by rw[<-el];exact MR.L_ s.machine j row lz⟩
   ·rw[decide_eq_false (by intro y;injection y with y;exact lz (by lia))]
    rw[if_pos (.inl lz)] at Bw;rw[Bw] at q;exact du ⟨l1 _,λl hl=>f7 q hF f9 (λ_ _ e=>e) hl rfl⟩
  ·rw[decide_eq_false z];have es:step s (.set n row)=(s,i7 tu):=by
    show eU s _=_;unfold eU yo;rw[ec];simp only;rw[if_neg (by rw[I.arr.n,le] at z;exact z)]
   rw[es] at q;exact⟨l1 _,λl hl=>f7 q hF f9 (λ_ _ e=>e) hl rfl⟩
end
section
variable{R:Cl}{C:Cg}
def aeN(F:aD K "answer_load" "answer_load" An f fd)(M:MK K R C)(e:EK K R)(k:jU K C)(g:GI mg)(RC:so K mg R)(FC:n9 K mg C)(GC:aK P w K mg base (bf P w) 43 "read_code" ["text"] (xC K R C)):aB P w K mg base au 44 f fd ["machine","numbers","text"] (mJ R C 0):=by
 obtain⟨NF,ff,sk,FK,mF⟩:=FC.ex;obtain⟨fr,ip,Mr,Fr,mR⟩:=RC.reg;have GR:aB P w K mg base au 1 fr ip ["self","width"] (xk R):=AS Fr g e;have bR:=Fr.b2 "self" "width";refine F.oK Ao λ_ _ _ s H vs Q E hr h=>?_;obtain⟨F0,m,s,nl,rl,nums,row,kc,rfl,is,hF,hM,hn,hw,q⟩:=h;have iY:=hr.mono (show 2<=43 by decide)
 cases is with
 |load er hb hl=>
 rename_i t;subst er;refine⟨_,ay (bZ (bV lJ (eV iA (by rfl) g.fX gj (ah (pv 2) aj)) (b_ g.Nm) (bO _)) (aw (bh (cR (ah (b_ g.aaS) aj)))) cJ)
  (ay (Xn FK.cls ⟨rfl,rfl⟩ rfl mF (λpn xe E hp=>aw (bE 3 Ao.nd (aV GC hr hp (ah (pv 2) aj)))) (λx=>aw (bh (cR (ah (b_ g.aaT) aj)))))
  (ay (cT (pv 0) (pv 3) rfl)
  (ay (cT (pv 0) (nO (own:=[("length",4)]) rfl Ao.nd (g8 (aN (pv 3) rfl)) (show jo Nd (aG An) _ _ from⟨rfl,by decide+kernel,by decide+kernel,by decide+kernel,by decide+kernel⟩) (λ_ _ _ _ _=>fD 4 Ao.nd)
    (λ_ _ _ _ _=>oS) (λ_ _ _ _ _=>cy vB (cR (ah aO aj)) (pv 4))) rfl)
  (ay (cT (pv 0) (j' Mr GR iY rfl mR bR .nil aW (ah (aN (aN (pv 0) rfl) rfl) aj)) rfl)
  (aw (bh (cR (ah (eV iA (by rfl) g.fX gj (ah (aN (pv 3) rfl) aj)) (ah (aN (pv 3) rfl) aj))))))))),?_⟩
 have eb:bx (t.map λ(c:Nat)=>(c:Int))=dS t:=by unfold bx dS;rw[iO];rfl
 rw[eb] at hw;have hT:=aF.of (K:=K) (hF _ _ hw);have l1:∀k:Int,([V.int k]:List V).length<=sizeLine:=λk=>by show 1<=sizeLine;rw[aP];decide
 refine⟨_,rfl,_,_,rfl,.inl hT,_,_,rfl,rfl,_,rfl,bX (λz=>?_) λz=>?_⟩
 ·rw[ik] at z;have es:step s (.load t)=(s,i7 Vaarrj.LONG):=by
   show tD s t=_;unfold tD;rw[if_pos (by lia)]
  rw[es] at q;exact⟨l1 _,λl hl=>f7 q hF hM (λ_ _ e=>e) hl rfl⟩
 rw[ik] at z;refine⟨_,rfl,rl,t,rfl,hT,hl,?_⟩;cases er:Jz t with
 |error p=>
  have es:step s (.load t)=(s,i7 Vaarrj.FORM):=by
   show tD s t=_;unfold tD;rw[if_neg (by lia),er]
  rw[es] at q;intro H' d kk hd;exact⟨rfl,λσ' hs=>⟨l1 _,λl hl=>f7 q hF hM kk hl rfl⟩⟩
 |ok c=>
  have es:step s (.load t)=({code:=some c,machine:=tq s.machine.width (c.lengths.map λn=>cZ n 0)},{value:=((c.lengths.length:Nat):Int),list:=[((c.body.size:Nat):Int)]}):=by
   show tD s t=_;unfold tD;rw[if_neg (by lia),er]
  rw[es] at q;intro gd H1 HC cd k1 hc cA;have k1:Sub H H1:=k1;obtain⟨cu,cv,ar,as,G,HC0,I⟩:=hM;obtain⟨gU,ll,bl,ts,c1,c2,c3,c4⟩:=cA;have gln:=gd.ln;have ou:=k1 _ _ (bP I.ob).1;have qF:F0 m=none:=(bP I.ob).2;refine⟨_,rfl,_,rfl,_,_,_,_,rfl,ou,M.cls,M.code,(by show 3<1000;decide),?_⟩
  have e1:az "code" (.ref cd) (cV cv ar G.reg)=cV (.ref cd) ar G.reg:=rfl;rw[e1];have cm:cd≠m:=λz=>by have:=(hc _ _ c1).2;rw[z,(bP I.ob).1] at this;exact sn this
  have O1:∀{b:ae} {o:HO},HC b=some o->b≠m:=λ{b o} h z=>by have:=(hc _ _ h).2;rw[z,(bP I.ob).1] at this;exact sn this
  have p2:upd H1 m (.ins C.cq cu (cV (.ref cd) ar G.reg)) m=some (.ins C.cq cu (cV (.ref cd) ar G.reg)):=aA;have k2:∀b o,H1 b=some o->b≠m->upd H1 m (.ins C.cq cu (cV (.ref cd) ar G.reg)) b=some o:=λb o eb n=>by rw[ak n];exact eb
  have m2:Made m H1 (upd H1 m (.ins C.cq cu (cV (.ref cd) ar G.reg))) []:=(Made.refl ⟨_,ou⟩).write;generalize upd H1 m (.ins C.cq cu (cV (.ref cd) ar G.reg))=H2 at p2 k2 m2;have C2:∀{b:ae} {o:HO},HC b=some o->H2 b=some o:=λh=>k2 _ _ (hc _ _ h).1 (O1 h);refine⟨_,rfl,_,_,_,_,_,rfl,C2 c1,k.je,k.lengths,rfl,ll,rfl,⟨_,aF.of (C2 c2)⟩,λD hD=>qg (K:=K) (a:=ll) (xs:=iq c.lengths) (iX H2 D λj=>.lst (((((c.lengths.map λn=>cZ n (0:Int))[j]?).getD [])).map V.int)) (iX.start hD) (λi H' _ rI=>?_) (λi v H' hi rI=>?_) λH3 rI=>?_⟩
  ·obtain⟨_,_,_,kp,_⟩:=rI;exact aF.of (kp _ _ (C2 c2))
  ·obtain⟨n,xG,rfl⟩:∃n,c.lengths[i]? =some n/\v=.int ((n:Nat):Int):=by
    unfold iq at hi;rw[dI] at hi;cases y:c.lengths[i]? with
    |none=>rw[y] at hi;cases hi
    |some n=>rw[y] at hi;exact⟨n,rfl,by injection hi with hi;exact hi.symm⟩
   have aew:=gd.le n (d7 xG);have il:=(dz.mp xG).1;refine⟨rfl,(by show 1<=sizeLine;rw[aP];decide),λx hx=>⟨_,rfl,x,_,_,rfl,rfl,aA,by lia,by lia,(by show 1*_<=sizeLine;rw[aP,gW];lia),λr fk=>?_⟩⟩
   have lr:r≠x:=λz=>by rw[z,aA] at fk;exact sn fk
   have si:H' r=none:=by rw[ak lr] at fk;exact fk
   rw[gW,Hf];refine rI.next hD si (λb o eb=>by rw[ak (bw eb si),ak (bw eb hx)];exact eb) ?_ (by lia)
   rw[aA,dI,xG];show some (HO.lst (cZ n (V.int 0)))=some (HO.lst ((cZ n (0:Int)).map V.int));rw[Qn]
  obtain⟨aa,xu,Hu,Hv,m3⟩:=rI.made m2 hD;have k3:Sub H2 H3:=by obtain⟨_,_,_,kp,_⟩:=rI;exact kp
  have el:(iq c.lengths).length=c.lengths.length:=by unfold iq;rw[bq]
  rw[el] at xu;refine⟨_,rfl,_,_,_,_,rfl,k3 _ _ p2,M.cls,M.arrays,(by show 3<1000;decide),?_⟩
  have e2:az "arrays" (.ref D) (cV (.ref cd) ar G.reg)=cV (.ref cd) D G.reg:=rfl;rw[e2];have m4:=m3.write (o:=.ins C.cq cu (cV (.ref cd) D G.reg));have p4:upd H3 m (.ins C.cq cu (cV (.ref cd) D G.reg)) m=some (.ins C.cq cu (cV (.ref cd) D G.reg)):=aA;have k4:∀b o,H3 b=some o->b≠m->upd H3 m (.ins C.cq cu (cV (.ref cd) D G.reg)) b=some o:=λb o eb n=>by rw[ak n];exact eb
  generalize upd H3 m (.ins C.cq cu (cV (.ref cd) D G.reg))=H4 at m4 p4 k4;have gm:G.reg≠m:=cE (bP I.reg.reg).1 (bP I.ob).1 (by intro z;injection z with _ _ z;injection z with z _;injection z with z _;revert z;decide)
  have rg4:=k4 _ _ (k3 _ _ (k2 _ _ (k1 _ _ (bP I.reg.reg).1) gm)) gm;have w1:=I.wf.w1;have fB:=I.wf.fB;refine⟨_,rfl,_,_,_,_,_,rfl,p4,M.cls,M.pF,rfl,_,_,_,_,_,rfl,rg4,e.iG,e.r8,rfl,λx dx nx nd ne=>⟨x,dx,s.machine.width,rfl,aA,w1,fB,λH5 G' eg ed rg sq=>⟨rfl,?_⟩⟩⟩;subst eg ed;obtain⟨m5,k5⟩:=Made.nest p4 nx nd sq;refine⟨_,rfl,_,_,_,_,rfl,k5 _ _ p4,M.cls,M.pF,(by show 3<1000;decide),?_⟩
  have e3:az "registers" (.ref G'.reg) (cV (.ref cd) D G.reg)=cV (.ref cd) D G'.reg:=rfl;rw[e3];have m6:=(m4.trans m5).write (o:=.ins C.cq cu (cV (.ref cd) D G'.reg));have p6:upd H5 m (.ins C.cq cu (cV (.ref cd) D G'.reg)) m=some (.ins C.cq cu (cV (.ref cd) D G'.reg)):=aA;have k6:∀b o,H5 b=some o->b≠m->upd H5 m (.ins C.cq cu (cV (.ref cd) D G'.reg)) b=some o:=λb o eb n=>by rw[ak n];exact eb
  generalize upd H5 m (.ins C.cq cu (cV (.ref cd) D G'.reg))=H6 at m6 p6 k6;have xH:∀b o,H3 b=some o->b≠m->H6 b=some o:=λb o eb n=>k6 _ _ (k5 _ _ (k4 _ _ eb n)) n;have C6:∀{b:ae} {o:HO},HC b=some o->H6 b=some o:=λh=>xH _ _ (k3 _ _ (C2 h)) (O1 h);refine⟨_,rfl,_,_,_,_,_,rfl,C6 c1,k.je,k.lengths,rfl,_,_,rfl,.inl (aF.of (C6 c2)),_,rfl,_,_,_,_,_,rfl,C6 c1,k.je,k.size,rfl,(by show 2<=sizeLine;rw[aP];decide),λl jJ=>?_⟩
  rw[el];have f6:∀b∈([]++(D::aa))++(G'.reg::G'.all),H1 b=none:=m6.fr;have fH:∀b∈([]++(D::aa))++(G'.reg::G'.all),H b=none:=λb hb=>k1.none (f6 b hb);have fF:∀b∈([]++(D::aa))++(G'.reg::G'.all),F0 b=none:=λb hb=>hF.none (fH b hb);have fm:∀b∈([]++(D::aa))++(G'.reg::G'.all),b≠m:=λb hb z=>by have:=fH b hb;rw[z,(bP I.ob).1] at this;exact sn this
  have fC:∀b∈([]++(D::aa))++(G'.reg::G'.all),HC b=none:=λb hb=>by
   cases y:HC b with
   |none=>rfl
   |some o=>have:=f6 b hb;rw[(hc _ _ y).1] at this;exact sn this
  have iD:D∈([]++(D::aa))++(G'.reg::G'.all):=by simp
  have O2:(([]++(D::aa))++(G'.reg::G'.all)).Nodup:=m6.nd;have s7:Sub H6 (upd H6 l (.lst [.int ((c.lengths.length:Nat):Int),.int ((c.body.size:Nat):Int)])):=ir jJ;have l7:upd H6 l (.lst [.int ((c.lengths.length:Nat):Int),.int ((c.body.size:Nat):Int)]) l=some (.lst [.int ((c.lengths.length:Nat):Int),.int ((c.body.size:Nat):Int)]):=aA;generalize upd H6 l (.lst [.int ((c.lengths.length:Nat):Int),.int ((c.body.size:Nat):Int)])=H7 at s7 l7⊢;have kp:∀b o,H b=some o->b≠m->H7 b=some o:=λb o eb n=>s7 _ _ (xH _ _ (k3 _ _ (k2 _ _ (k1 _ _ eb) n)) n);have ko:∀b o,Out F0 H b=some o->b≠m->Out F0 H7 b=some o:=λb o eb n=>fE (kp _ _ (bP eb).1 n) (bP eb).2;obtain⟨_,_,a3,_⟩:=I.rest ko;refine q H7 l (λb o eb=>kp _ _ (hF _ _ eb) (λy=>by rw[y,qF] at eb;exact ns eb)) ⟨cu,.ref cd,D,aa,G',HC,fE (s7 _ _ p6) qF,⟨fE (s7 _ _ (xH _ _ Hv (fm D iD))) (fF D iD),(by rw[xu];show _=(c.lengths.map λn=>cZ n (0:Int)).length;rw[bq]),λj b ck=>?_⟩,(rg _).mono λb o eb ck=>?_,a3,λb o h=>fE (s7 _ _ (C6 h)) (hF.none (hc _ _ h).2),?_,fC D iD,λt ht=>?_,λy=>?_,λy=>?_,MR.WF.fresh w1 fB _,MR.Nums.fresh _ λv hv n yK=>?_,?_⟩ l7 (Sub.none (H:=H6) (λb o eb=>xH _ _ (k3 _ _ (k2 _ _ (k1 _ _ (hF _ _ eb)) (λy=>by rw[y,qF] at eb;exact ns eb))) (λy=>by rw[y,qF] at eb;exact ns eb)) jJ)
  ·have ib:b∈([]++(D::aa))++(G'.reg::G'.all):=by simp[d7 ck]
   exact fE (s7 _ _ (xH _ _ (Hu j b ck) (fm b ib))) (fF b ib)
  ·have ib:b∈([]++(D::aa))++(G'.reg::G'.all):=by rcases ck with y|y<;>simp[y]
   exact fE (s7 _ _ (k6 _ _ eb (fm b ib))) (fF b ib)
  ·cases y:HC m with
   |none=>rfl
   |some o=>have:=(hc _ _ y).2;rw[(bP I.ob).1] at this;exact sn this
  ·cases y:HC t with
   |none=>rfl
   |some o=>
    exfalso;have:=(hc _ _ y).2;obtain⟨i,hi⟩:=lA ht;obtain⟨qq,_,h1|⟨cc,h1,_⟩⟩:=I.tb i t hi
    ·rw[(bP h1).1] at this;exact sn this
    ·rw[(bP h1).1] at this;exact sn this
  ·have nd7:(D::aa).Nodup:=(vc.mp O2).1;exact(fI.mp nd7).1 y
  ·exact(vc.mp O2).2.2 D (by simp) D (fG _ y) rfl
  ·obtain⟨x,_,rfl⟩:=mZ.mp hv;rw[(ya.mp yK).2];exact MR.ze
  ·refine⟨cd,rfl,⟨gU,ll,bl,ts,c1,c2,c3,c4⟩,gd,?_⟩;show(c.lengths.map λn=>cZ n (0:Int)).map jX=c.lengths;rw[iO]
   conv=>rhs;rw[<-Jp c.lengths]
   exact pL λn _=>qL
end
def mK(F:Hp):Prop:=∀b φ,F b≠some (.ext φ)
inductive Bx(R:Cl)(C:Cg)(q:Nat)(vs:List V)(H:Hp)(Q:VK):Prop
 |mk (F m s nl rl nums row k:_) (_:vs=[.ref m,.ref nl,.ref rl]) (_:MC.Is q nums row k) (_:Sub F H) (_:mH R C m s (Out F H)) (_:F nl=some (.lst (bx nums))) (_:F rl=some (.lst (bx row))) (_:mK F) (_:Ii R C F m (step s k) Q)
def aeO(R:Cl)(C:Cg):Sp:=λvs H Q _=>Bx R C 5 vs H Q
section
variable{R:Cl}{C:Cg}
def Im{F H:Hp}(hF:Sub F H)(hE:mK F)(ht:∀t∈R.cf,F t=none)(h:jd R H):jd R (Out F H):=λi b e=>by
 obtain⟨q,e1,e2⟩:=h i b e;have fb:=ht b (d7 e);refine⟨q,e1,e2.imp (λz=>fE z fb) λz=>?_⟩;obtain⟨c,h1,h2⟩:=z;refine⟨c,fE h1 fb,fE h2 ?_⟩;cases y:F c with
 |none=>rfl
 |some o=>
  have:=hF _ _ y;rw[h2] at this;obtain rfl:=aZ this;exact absurd y (hE c _)
def aeP(F:aD K "answer_run" "answer_run" Gk f fd)(M:MK K R C)(e:EK K R)(k:jU K C)(g:GI mg)(SC:nZ K mg R)(GF:aK P w K mg base (bf P w) 22 "finished_run" ["code","width","arrays","budget"] (HA R C)):aB P w K mg base au 23 f fd ["machine","numbers","row"] (aeO R C):=by
 obtain⟨NS,fS,fdS,SK,mS⟩:=SC.ex;refine F.oK Ar λ_ _ _ s H vs Q E hr h=>?_;obtain⟨F0,m,s,nl,rl,nums,row,kc,rfl,is,hF,hM,hn,hw,hE,q⟩:=h;cases is with
 |run n hb=>
 refine⟨_,ay (bZ (ji (oI (aN (pv 0) rfl))) (aw (bh (cR (ah (b_ g.Aw) aj)))) cJ)
  (ay (bE 3 Ar.nd (cj cH (pv 1) aO (λ_ _=>rfl)))
  (ay (bZ (kM (bV gz (pv 3) aO (bO _)) (nH (bV lJ (pv 3) (b_ g.aaM) (bO _)))).pt (aw (bh (cR (ah (b_ g.Ax) aj)))) cJ)
  (ay (Mw (i:=5) SK.cls ⟨rfl,rfl⟩ rfl Ar.nd rfl rfl rfl mS (λpn xe E hp=>aw (bE 4 Ar.nd (aV GF hr hp (ah (jR (K:=K) rfl (pv 0) rfl) (ah (jR (K:=K) rfl (jR (K:=K) rfl (pv 0) rfl) rfl) (ah (jR (K:=K) rfl (pv 0) rfl) (ah (pv 3) aj)))))))
    (λx=>aw (bh (cR (ah aO (ah (Eo SK.cls SK.kind (pv 5) rfl) (ah (Eo SK.cls SK.place (pv 5) rfl) aj)))))))
  (ay (cT (pv 0) (aN (pv 4) rfl) rfl)
  (ay (cT (pv 0) (aN (pv 4) rfl) rfl)
  (aw (bh (cR (ah aO (ah (cy p_ (pv 3) (aN (pv 4) rfl)) aj)))))))))),?_⟩
 have f9:=hM;obtain⟨cu,cv,ar,as,G,HC,I⟩:=hM;have l1:∀k:Int,([V.int k]:List V).length<=sizeLine:=λk=>by show 1<=sizeLine;rw[aP];decide
 refine⟨_,rfl,_,_,_,_,_,rfl,(bP I.ob).1,M.cls,M.code,rfl,_,rfl,?_⟩;have By:=I.cd;cases ec:s.code with
 |none=>
  rw[ec] at By;obtain⟨rfl,ea⟩:=By;have es:step s (.run n)=(s,i7 Jy):=by show eU s _=_;unfold eU;rw[ec]
  rw[es] at q;exact du ⟨l1 _,λl hl=>f7 q hF f9 (λ_ _ e=>e) hl rfl⟩
 |some c=>
  rw[ec] at By;obtain⟨cd,rfl,cA,gd,el⟩:=By;have le:s.machine.arrays.length=c.lengths.length:=by have:=congrArg jX el;unfold MR.lU at this;rw[bq] at this;exact this
  obtain⟨al,av⟩:=Bv gd el;refine dY ⟨_,rfl,_,_,_,_,rfl,rfl,aF.of (hF _ _ hn),qE n,?_⟩;have bad:(n<0\/100000<n)->∀l,H l=none->Q (.ref l) (upd H l (.lst [.int (-4)])):=λz l hl=>by
   have es:step s (.run n)=(s,i7 Qo):=by
    show eU s _=_;unfold eU;rw[ec];simp only;rw[if_pos z]
   rw[es] at q;exact f7 q hF f9 (λ_ _ e=>e) hl rfl
  refine⟨_,rfl,_,_,rfl,rfl,_,rfl,bX (λz=>?_) λz=>?_⟩
  ·exact du ⟨l1 _,λl hl=>bad (.inl z) l hl⟩
  refine⟨_,rfl,_,_,rfl,rfl,_,rfl,bX (λz2=>?_) λz2=>?_⟩
  ·exact⟨l1 _,λl hl=>bad (.inr z2) l hl⟩
  obtain⟨bu,rfl⟩:∃bu:Nat,n=(bu:Int):=⟨n.toNat,by lia⟩
  have es:step s (.run (bu:Int))=match JA c s.machine.width s.machine.arrays bu with
   | .ok y=>({s with machine:=y.1},j8 [((bu-y.2:Nat):Int)])
   | .error e=>(s,{value:=1,list:=Vaarrj.ints [e.1,e.2]}):=by
   show eU s _=_;unfold eU;rw[ec];simp only;rw[if_neg (by lia),gW]
   cases JA c s.machine.width s.machine.arrays bu<;>simp only[ec]
  rw[es] at q;obtain⟨gU,ll,bl,ts,c1,c2,c3,c4⟩:=cA;have Io:∀{b:ae} {o:HO},HC b=some o->H b=some o:=λh=>(bP (I.hc _ _ h)).1;have ttb:jd R H:=I.tb.mono λb o e=>(bP e).1;have tF:∀t∈R.cf,F0 t=none:=λt ht=>by
   obtain⟨i,hi⟩:=lA ht;obtain⟨qq,_,h1|⟨cc,h1,_⟩⟩:=I.tb i t hi
   ·exact(bP h1).2
   ·exact(bP h1).2
  have tK:∀t∈R.cf,∃a,H t=some (.dN a):=λt ht=>by
   obtain⟨i,hi⟩:=lA ht;obtain⟨qq,_,h1|⟨cc,h1,_⟩⟩:=I.tb i t hi
   ·exact⟨_,(bP h1).1⟩
   ·exact⟨_,(bP h1).1⟩
  have rdy:xn R HC H s.machine.width ar as s.machine.arrays:=⟨I.wf.w1,I.wf.fB,⟨(bP I.arr.l).1,I.arr.n,λj b hb=>(bP (I.arr.at_ j b hb)).1⟩,al,I.nums.ar,ttb,M.tl,M.tn,λb o h=>Io h,I.ht⟩;refine⟨_,rfl,_,_,_,_,_,rfl,(bP I.ob).1,M.cls,M.code,rfl,_,rfl,_,_,_,_,_,rfl,(bP I.ob).1,M.cls,M.pF,rfl,_,_,_,_,_,rfl,(bP I.reg.reg).1,e.iG,e.r8,rfl,_,rfl,_,_,_,_,_,rfl,(bP I.ob).1,M.cls,M.arrays,rfl,_,rfl,?_⟩;refine⟨HC,cd,gU,_,bl,ts,c.lengths,c.body,s.machine.width,ar,as,s.machine.arrays,bu,rfl,Io c1,rfl,rdy,c3,c4,by rw[le];exact gd.ok,?_⟩
  have sE:∀{b:ae} {o:HO},H b=some o->(∀a,o≠ .dN a)->b∉R.cf:=λh hn hm=>by
   obtain⟨a,ha⟩:=tK _ hm;rw[h] at ha;obtain rfl:=aZ ha;exact hn a rfl
  cases er:JA c s.machine.width s.machine.arrays bu with
  |error fe=>
   rw[er] at q;intro H' d kp tb hd;refine⟨rfl,d,rfl,λσ' x hs hx=>?_⟩;have xd:d≠x:=λz=>by rw[z,hx] at hd;exact ns hd
   obtain⟨a0,a1,a2,a3,a4,a5,rfl⟩:∃a0 a1 a2 a3 a4 a5,σ'=[a0,a1,a2,a3,a4,a5]:=by
    have:σ'.length=6:=hs
    match σ',this with
    |[a0,a1,a2,a3,a4,a5],_=>exact⟨a0,a1,a2,a3,a4,a5,rfl⟩
   have s1:Sub H' (upd H' x (qm R.stop x d)):=ir hx;have O3:upd H' x (qm R.stop x d) d=some (fK d [("kind",.int (fe.1:Nat)),("place",.int (fe.2:Nat))]):=by rw[ak xd];exact hd
   refine⟨_,rfl,x,d,_,_,rfl,aA,O3,rfl,_,rfl,x,d,_,_,rfl,aA,O3,rfl,(by show 3<=sizeLine;rw[aP];decide),λl hl=>?_⟩
   have s2:=s1.trans (ir (o:=.lst [.int 1,.int ((fe.1:Nat):Int),.int ((fe.2:Nat):Int)]) hl);have uQ:Sub F0 H':=λb o eb=>kp _ _ (hF _ _ eb) (λht=>by rw[tF b ht] at eb;exact ns eb)
   have ko:∀b o,Out F0 H b=some o->b∉R.cf->Out F0 H' b=some o:=λb o eb n=>fE (kp _ _ (bP eb).1 n) (bP eb).2;refine q _ l (uQ.trans s2) ?_ aA ((uQ.trans s1).none hl);refine mH.mono (HM:=Out F0 H') ?_ (Ih s2);have nl:∀{b:ae} {xs:List V},Out F0 H b=some (.lst xs)->b∉R.cf:=λh=>sE (bP h).1 (λa z=>by cases z)
   exact⟨cu,.ref cd,ar,as,G,HC,ko _ _ I.ob (sE (bP I.ob).1 λa z=>by cases z),⟨ko _ _ I.arr.l (nl I.arr.l),I.arr.n,λj b hb=>ko _ _ (I.arr.at_ j b hb) (nl (I.arr.at_ j b hb))⟩,
    ⟨ko _ _ I.reg.reg (sE (bP I.reg.reg).1 λa z=>by cases z),ko _ _ I.reg.vs (nl I.reg.vs),ko _ _ I.reg.ms (nl I.reg.ms),ko _ _ I.reg.ss (nl I.reg.ss),I.reg.va,I.reg.ma,λj b hb=>ko _ _ (I.reg.v j b hb) (nl (I.reg.v j b hb)),λj b hb=>ko _ _ (I.reg.m j b hb) (nl (I.reg.m j b hb))⟩,
    Im uQ hE tF tb,λb o h=>ko _ _ (I.hc b o h) (λht=>by rw[I.ht b ht] at h;exact ns h),I.hm,I.hr,I.ht,I.ao,I.ag,I.wf,I.nums,I.cd⟩
  |ok y=>
   rw[er] at q;intro H' L r kp fr a1 a2;obtain⟨un,hu,hR,hU⟩:=r.ju;have mT:m∉R.cf:=sE (bP I.ob).1 λa z=>by cases z
   have ou:H' m=some (.ins C.cq cu (cV (.ref cd) ar G.reg)):=kp _ _ (bP I.ob).1 mT;have rm:L.run≠m:=cE hR ou (by intro z;injection z with _ _ z;injection z with z _;injection z with z _;revert z;decide)
   have gm:L.reg≠m:=cE r.reg.2 ou (by intro z;injection z with _ _ z;injection z with z _;injection z with z _;revert z;decide)
   refine⟨_,rfl,_,_,_,_,_,rfl,hR,e.eW,e.AE,rfl,_,rfl,_,_,_,_,rfl,ou,M.cls,M.arrays,(by show 3<1000;decide),?_⟩
   have e1:az "arrays" (.ref L.ar) (cV (.ref cd) ar G.reg)=cV (.ref cd) L.ar G.reg:=rfl;rw[e1];have k2:∀b o,H' b=some o->b≠m->upd H' m (.ins C.cq cu (cV (.ref cd) L.ar G.reg)) b=some o:=λb o eb n=>by rw[ak n];exact eb
   have p2:upd H' m (.ins C.cq cu (cV (.ref cd) L.ar G.reg)) m=some (.ins C.cq cu (cV (.ref cd) L.ar G.reg)):=aA;generalize upd H' m (.ins C.cq cu (cV (.ref cd) L.ar G.reg))=H2 at k2 p2;refine⟨_,rfl,_,_,_,_,_,rfl,k2 _ _ hR rm,e.eW,e.mj,rfl,_,rfl,_,_,_,_,rfl,p2,M.cls,M.pF,(by show 3<1000;decide),?_⟩
   have e2:az "registers" (.ref L.reg) (cV (.ref cd) L.ar G.reg)=cV (.ref cd) L.ar L.reg:=rfl;rw[e2];have k3:∀b o,H' b=some o->b≠m->upd H2 m (.ins C.cq cu (cV (.ref cd) L.ar L.reg)) b=some o:=λb o eb n=>by rw[ak n];exact k2 _ _ eb n
   have p3:upd H2 m (.ins C.cq cu (cV (.ref cd) L.ar L.reg)) m=some (.ins C.cq cu (cV (.ref cd) L.ar L.reg)):=aA;generalize upd H2 m (.ins C.cq cu (cV (.ref cd) L.ar L.reg))=H3 at k3 p3;refine⟨_,rfl,_,rfl,_,_,_,_,_,rfl,k3 _ _ hR rm,e.eW,e.wV,rfl,_,_,rfl,rfl,(by show 2<=sizeLine;rw[aP];decide),λl hl=>?_⟩
   have yl:=MR.Wb er;have el2:([V.int 0,V.int ((bu:Int)-((y.2:Nat):Int))]:List V)=bx (kJ (j8 [((bu-y.2:Nat):Int)])):=by
    show _=[V.int 0,V.int ((bu-y.2:Nat):Int)];rw[show((bu:Int)-((y.2:Nat):Int))=((bu-y.2:Nat):Int) by lia]
   show Q (.ref l) (upd H3 l (.lst [V.int 0,V.int ((bu:Int)-((y.2:Nat):Int))]));rw[el2];have s4:Sub H3 (upd H3 l (.lst (bx (kJ (j8 [((bu-y.2:Nat):Int)]))))):=ir hl;have l4:upd H3 l (.lst (bx (kJ (j8 [((bu-y.2:Nat):Int)])))) l=some (.lst (bx (kJ (j8 [((bu-y.2:Nat):Int)])))):=aA;generalize upd H3 l (.lst (bx (kJ (j8 [((bu-y.2:Nat):Int)]))))=H4 at s4 l4⊢;have kk:∀b o,H' b=some o->b≠m->H4 b=some o:=λb o eb n=>s4 _ _ (k3 _ _ eb n);have qF:F0 m=none:=(bP I.ob).2;have uQ:Sub F0 H':=λb o eb=>kp _ _ (hF _ _ eb) (λht=>by rw[tF b ht] at eb;exact ns eb)
   have O4:Sub F0 H4:=λb o eb=>kk _ _ (uQ _ _ eb) (λz=>by rw[z,qF] at eb;exact ns eb)
   have fF:∀b∈(L.reg::L.vs::L.ms::L.ar::L.ss::L.fa::(L.va++(L.ma++L.aa))),F0 b=none:=λb hb=>hF.none (fr b hb);have lk:∀{b:ae} {xs:List V},H' b=some (.lst xs)->b∈(L.reg::L.vs::L.ms::L.ar::L.ss::L.fa::(L.va++(L.ma++L.aa)))->Out F0 H4 b=some (.lst xs):=λh hb=>fE (kk _ _ h (cE h ou (by intro z;cases z))) (fF _ hb)
   have tb4:jd R H4:=λi b eb=>by
    obtain⟨qq,e5,e6⟩:=r.wU i b eb;refine⟨qq,e5,e6.imp (λz=>kk _ _ z (cE z ou (by intro z;cases z))) λz=>?_⟩
    obtain⟨cc,h1,h2⟩:=z;exact⟨cc,kk _ _ h1 (cE h1 ou (by intro z;cases z)),kk _ _ h2 (cE h2 ou (by unfold iE;intro z;cases z))⟩
   refine q H4 l O4 ⟨cu,.ref cd,L.ar,L.aa,⟨L.reg,L.uA,L.vs,L.ss,L.ms,L.va,L.ma⟩,HC,fE (s4 _ _ p3) qF,⟨lk r.ar.2 (by simp),r.aa,λj b ck=>?_⟩,⟨fE (kk _ _ r.reg.2 gm) (fF _ (by simp)),lk r.vs.2 (by simp),lk r.ms.2 (by simp),lk r.GZ (by simp),r.va,r.ma,λj b ck=>?_,λj b ck=>?_⟩,Im O4 hE tF tb4,λb o h=>fE (kk _ _ (r.old b o h) (λz=>by rw[z,I.hm] at h;exact ns h)) (bP (I.hc b o h)).2,I.hm,?_,I.ht,λz=>?_,λz=>?_,r.wf,r.nums,?_⟩ l4 (Sub.none (H:=H3) (λb o eb=>k3 _ _ (uQ _ _ eb) (λz=>by rw[z,qF] at eb;exact ns eb)) hl)
   ·obtain⟨o,h1,rfl⟩:=r.all (.a j) b ck;exact lk h1 (by simp[d7 ck])
   ·obtain⟨o,h1,rfl⟩:=r.all (.v j) b ck;have ck:b∈L.va:=d7 ck;exact lk h1 (by simp[ck])
   ·obtain⟨o,h1,rfl⟩:=r.all (.m j) b ck;have ck:b∈L.ma:=d7 ck;exact lk h1 (by simp[ck])
   ·cases z:HC L.ar with
    |none=>rfl
    |some o=>have:=fr L.ar (by simp);rw[Io z] at this;exact sn this
   ·obtain⟨j,hj⟩:=lA z;exact r.ar.1 ⟨.a j,hj⟩
   ·have z:L.ar∈L.vs::L.va++(L.ss::(L.ms::L.ma)):=z;simp only[cC,gO,B0] at z;rcases z with z|z|z|z|z
    ·exact a1 z
    ·obtain⟨j,hj⟩:=lA z;exact r.ar.1 ⟨.v j,hj⟩
    ·exact r.ar.1 ⟨.ss,by show some L.ss=some L.ar;rw[z]⟩
    ·exact a2 z
    ·obtain⟨j,hj⟩:=lA z;exact r.ar.1 ⟨.m j,hj⟩
   ·show match s.code with|none=>_|some c=>_
    rw[ec];refine⟨cd,rfl,⟨gU,ll,bl,ts,c1,c2,c3,c4⟩,gd,?_⟩;rw[<-el];exact MR.V' er
end
section
variable{R:Cl}{C:Cg}
def aeQ{m cu ar:ae}{s:State}{HM HC:Hp}{cv:V}{as:List ae}{G:Rg}{q:Nat}{nums row:List Int}{k:Call}(I:pD R C m s HM cu cv ar as G HC)(is:MC.Is q nums row k):(kJ (step s k).2).length<=170000:=by
 have enc:∀a:Cd,(kJ a).length=a.list.length+1:=λa=>rfl;rw[enc];have fB:=I.wf.fB;cases is with
 |load er hb hl=>
  rename_i t;show(tD s t).2.list.length+1<=_;unfold tD
  split
  ·show 0+1<=_;lia
  ·cases Jz t with
   |error p=>show 0+1<=_;lia
   |ok c=>show 1+1<=_;lia
 |where_ er hb hl=>
  rename_i t;show(if 16384<t.length then _ else _:Cd).list.length+1<=_
  split
  ·show 1+1<=_;lia
  ·cases Jz t with
   |error p=>show 1+1<=_;lia
   |ok c=>show 1+1<=_;lia
 |plain=>
  show(eU s _).2.list.length+1<=_;unfold eU;have cd:=I.cd;cases ec:s.code with
  |none=>show 0+1<=_;lia
  |some c=>
   rw[ec] at cd;obtain⟨_,_,_,gd,_⟩:=cd;have:=MP.Eb gd;show(Vaarrj.ints (yn c)).length+1<=_;unfold Vaarrj.ints;rw[bq];lia
 |width n hb=>
  show(if n<1\/16<n then _ else _:State×Cd).2.list.length+1<=_
  split<;>(show 0+1<=_;lia)
 |set n _ h1 h2 h3=>
  show(eU s _).2.list.length+1<=_;unfold eU;cases s.code with
  |none=>show 0+1<=_;lia
  |some c=>
   simp only;cases yo c n with
   |none=>show 0+1<=_;lia
   |some r=>
    simp only
    split<;>(show 0+1<=_;lia)
 |run n hb=>
  show(eU s _).2.list.length+1<=_;unfold eU;cases s.code with
  |none=>show 0+1<=_;lia
  |some c=>
   simp only
   split
   ·show 0+1<=_;lia
   ·cases JA c s.machine.width s.machine.arrays n.toNat with
    |ok y=>show 1+1<=_;lia
    |error e=>show 2+1<=_;lia
 |array n hb=>
  show(eU s _).2.list.length+1<=_;unfold eU;have cd:=I.cd;cases ec:s.code with
  |none=>show 0+1<=_;lia
  |some c=>
   rw[ec] at cd;obtain⟨_,_,_,gd,el⟩:=cd;obtain⟨al,av⟩:=Bv gd el;simp only;cases yo c n with
   |none=>show 0+1<=_;lia
   |some r=>
    show(dM s.machine r).length+1<=_;unfold dM;cases ea:s.machine.arrays[r]? with
    |none=>show 0+1<=_;lia
    |some v=>have:=av v (d7 ea);show v.length+1<=_;lia
 |vector n hb=>
  show(match nk 16 n with|some r=>j8 (c9 s.machine r)|none=>i7 tu).list.length+1<=_
  cases nk 16 n with
  |none=>show 0+1<=_;lia
  |some r=>
   show(c9 s.machine r).length+1<=_;unfold c9;cases ea:s.machine.vs[r]? with
   |none=>show 0+1<=_;lia
   |some v=>have:=I.wf.vl v (d7 ea);show v.length+1<=_;lia
 |scalar n hb=>
  show(match nk 16 n with|some r=>j8 [dJ s.machine r]|none=>i7 tu).list.length+1<=_
  cases nk 16 n with
  |none=>show 0+1<=_;lia
  |some r=>show 1+1<=_;lia
 |mask n hb=>
  show(match nk 8 n with|some r=>j8 ((maskOf s.machine r).map λb=>if b=true then 1 else 0)|none=>i7 tu).list.length+1<=_
  cases nk 8 n with
  |none=>show 0+1<=_;lia
  |some r=>
   show((maskOf s.machine r).map λb=>if b=true then(1:Int) else 0).length+1<=_
   rw[bq];unfold maskOf;cases ea:s.machine.ms[r]? with
   |none=>show 0+1<=_;lia
   |some v=>have:=I.wf.ml v (d7 ea);show v.length+1<=_;lia
 |map o n p h1 h2 h3=>
  show(yp o n p).list.length+1<=_;unfold yp
  split
  ·show 0+1<=_;lia
  ·show(Vaarrj.ints (pO o.toNat n.toNat p.toNat)).length+1<=_;unfold Vaarrj.ints;rw[bq,map_eq];have ln:=MP.iV n.toNat;have lp:=MP.iV p.toNat;have lo:=MP.D0 o.toNat;have st:∀s:String,(aC s).length=s.length:=λs=>by unfold aC;rw[bq];rfl
   have a4:(aC "width s0;num s2 1;calc add s3 s1 s0 @0;calc sub s3 s3 s2 @0;calc quo s3 s3 s0 @0;").length<=200:=by decide+kernel
   have a5:(aC "calc mul s5 s4 s0 @0;fill v0 s5;lanes v1;add v0 v0 v1 @0;calc sub s6 s1 s5 @0;tail m0 s6;").length<=200:=by decide+kernel
   have a6:(aC "read v2 a0 v0 ?m0;read v3 a1 v0 ?m0;").length<=200:=by decide+kernel
   have a7:(aC " v4 v2 v3 @").length<=200:=by decide+kernel
   have a8:(aC " ?m0;").length<=200:=by decide+kernel
   have a9:(aC "write a2 v0 v4 ?m0;raise;").length<=200:=by decide+kernel
   have a10:(aC "for s4 s3 {").length<=200:=by decide+kernel
   have a11:(aC "}").length<=200:=by decide+kernel
   have a1:(aC "array ").length<=200:=by decide+kernel
   have a2:(aC ";").length<=200:=by decide+kernel
   have a3:(aC "num s1 ").length<=200:=by decide+kernel
   simp only[bS]
   lia
inductive O5(R:Cl)(C:Cg)(vs:List V)(H:Hp)(Q:VK)(_:XK):Prop
 |mk (p dx:_) (_:vs=[.ref p]) (_:H p=some (.ins C.cq dx [])) (_:∀H' ar G,Made p H H' (ar::(G.reg::G.all))->H' p=some (.ins C.cq dx (cV .aM ar G.reg))->H' ar=some (.lst [])->n8 R H' G (tq 4 [])->Q .aM H')
def aeR(F:aD K "__init__" "Machine.__init__" Am f fd)(M:MK K R C)(e:EK K R)(g:GI mg)(RC:so K mg R):aB P w K mg base au 3 f fd ["self"] (O5 R C):=by
 obtain⟨fr,ip,Mr,Fr,mR⟩:=RC.reg;have GR:aB P w K mg base au 1 fr ip ["self","width"] (xk R):=AS Fr g e;have bR:=Fr.b2 "self" "width";refine F.oK aan λ_ _ _ _ H vs Q E hr h=>?_;obtain⟨p,dx,rfl,hp,q⟩:=h;refine⟨_,ay (cT (pv 0) jC rfl) (ay (cT (pv 0) (cR aj) rfl) (aw (cT (pv 0) (j' Mr GR hr rfl mR bR .nil aW (ah (b_ g.aaI) aj)) rfl))),?_⟩;have m0:Made p H H []:=Made.refl ⟨_,hp⟩;refine⟨_,rfl,_,_,_,_,rfl,hp,M.cls,M.code,(by show 0<1000;decide),?_⟩
 have m1:=m0.write (o:=.ins C.cq dx (az "code" .aM []));have p1:upd H p (.ins C.cq dx (az "code" .aM [])) p=some (.ins C.cq dx (az "code" .aM [])):=aA;generalize upd H p (.ins C.cq dx (az "code" .aM []))=H1 at m1 p1;refine⟨eX _,λar sF=>?_⟩;have m2:=m1.one (o:=.lst []) sF (ir sF) aA;have s2:Sub H1 (upd H1 ar (.lst [])):=ir sF;have a2:upd H1 ar (.lst []) ar=some (.lst []):=aA;generalize upd H1 ar (.lst [])=H2 at m2 s2 a2;refine⟨_,rfl,_,_,_,_,rfl,s2 _ _ p1,M.cls,M.arrays,(by show 1<1000;decide),?_⟩
 have m3:=m2.write (o:=.ins C.cq dx (az "arrays" (.ref ar) (az "code" .aM [])));have ap:ar≠p:=λz=>by rw[z,p1] at sF;exact sn sF
 have a3:upd H2 p (.ins C.cq dx (az "arrays" (.ref ar) (az "code" .aM []))) ar=some (.lst []):=by rw[ak ap];exact a2
 have p3:upd H2 p (.ins C.cq dx (az "arrays" (.ref ar) (az "code" .aM []))) p=some (.ins C.cq dx (az "arrays" (.ref ar) (az "code" .aM []))):=aA;generalize upd H2 p (.ins C.cq dx (az "arrays" (.ref ar) (az "code" .aM [])))=H3 at m3 a3 p3;refineλx dg nx nd ne=>⟨x,dg,4,rfl,aA,by decide,by decide,λH4 G eg ed rg sq=>⟨rfl,?_⟩⟩
 subst eg ed;obtain⟨m4,k4⟩:=Made.nest p3 nx nd sq;refine⟨_,rfl,_,_,_,_,rfl,k4 _ _ p3,M.cls,M.pF,(by show 2<1000;decide),?_⟩
 have m5:=(m3.trans m4).write (o:=.ins C.cq dx (cV .aM ar G.reg));have gp:∀b∈(G.reg::G.all),b≠p:=λb hb z=>by have:=m4.fr b hb;rw[z,p3] at this;exact sn this
 have ee:az "registers" (.ref G.reg) (az "arrays" (.ref ar) (az "code" .aM []))=cV .aM ar G.reg:=rfl;rw[ee];refine q _ ar G m5 aA (by rw[ak ap];exact k4 _ _ a3) ((rg []).mono λb o eb hb=>?_)
 rw[ak (gp b (cC.mpr hb))];exact eb
end
structure O6(P:bQ)(w:bB)(K:aI)(mg:Str->Option ai)(base:aR)(R:Cl)(C:Cg):Prop where
 an:∃ta D,mg "ANSWERERS"=some (.ref ta)/\Tab K w ta D/\ ∀q,q<=10->∃f fd ps iW,dX D (.inl ((q:Nat):Int))=some (.ref f)/\iN K (.ref f)=true/\aB P w K mg base au 44 f fd ps iW/\Binds K fd ps []/\ ∀vs H Q,Bx R C q vs H Q->iW vs H Q E0
 wh:∃ta D,mg "WHOLE_NUMBERS"=some (.ref ta)/\Tab K w ta D/\ ∀q,q<=10->dX D (.inl ((q:Nat):Int))=some (.int ((MC.dR q:Nat):Int))
 wr:∃ta,mg "WITH_ROW"=some (.ref ta)/\ ∀H,fR K H ta [.int 0,.int 1,.int 4]
section
variable{R:Cl}{C:Cg}
def aeS{q:Nat}(h:q<=10):jI (.int ((q:Nat):Int)) [.int 0,.int 1,.int 4]=MC.kT q:=by
 have:∀d:Fin 11,jI (.int ((d.val:Nat):Int)) [.int 0,.int 1,.int 4]=MC.kT d.val:=by decide+kernel
 exact this ⟨q,by lia⟩
def O7{l:List Int}{a b:Nat}(h1:a<=b)(h2:b<=l.length):qd (bx l) (some (a:Int)) (some (b:Int))=bx ((l.drop a).take (b-a)):=by
 have el:(bx l).length=l.length:=by unfold bx;rw[bq]
 unfold qd HT.cK;rw[el];simp only[show¬((a:Int)<0) by lia,show¬((b:Int)<0) by lia,if_false,gW]
 rw[Jv (by lia),Jv (by lia)]
 unfold bx;rw[<-List.map_drop,<-List.map_take]
def O8{F H:Hp}{a:ae}{xs:List V}(k:Sub F H)(h:aF K F a xs):aF K H a xs:=by
 rcases h with(h|⟨o,h⟩)|h
 ·exact .inl (.inl (k _ _ h))
 ·exact .inl (.inr ⟨o,k _ _ h⟩)
 ·exact .inr h
def Bz{F H:Hp}{l:ae}{o:HO}(k:Sub F H):Sub (upd F l o) (upd H l o):=λb u e=>by
 by_cases z:b=l
 ·subst z;rw[aA] at e⊢;exact e
 ·rw[ak z] at e⊢;exact k _ _ e
def xI{F H:Hp}{l:ae}{o o2:HO}(hl:Out F H l=none):Sub (Out F H) (Out (upd F l o) (upd H l o2)):=λb u e=>by
 have n:b≠l:=bw e hl;obtain⟨e1,e2⟩:=bP e;exact fE (by rw[ak n];exact e1) (by rw[ak n];exact e2)
def xJ{F:Hp}{l:ae}{vs:List V}(h:mK F):mK (upd F l (.lst vs)):=λb φ e=>by
 by_cases z:b=l
 ·subst z;rw[aA] at e;cases e
 ·rw[ak z] at e;exact h _ _ e
inductive Ip(K:aI)(R:Cl)(vs:List V)(H:Hp)(Q:VK)(_:XK):Prop
 |mk (a l:_) (_:vs=[.ref a]) (_:aF K H a (bx l)) (_:Qc l=true) (_:l.length<=1000000) (_:jd R H) (_:mK H) (_:∀H' p,H' p=some (.lst (bx (Jq l)))->Q (.ref p) H')
inductive O9(K:aI)(mg:Str->Option ai)(C:Cg):Prop
 |mk (f fd:_) (_:Mk K C.cq f) (_:aD K "__init__" "Machine.__init__" Am f fd) (_:mg "Machine"=some (.ref C.cq))
def aeT(F:aD K "answers" "answers" Au f fd)(M:MK K R C)(e:EK K R)(g:GI mg)(RC:so K mg R)(MM:O9 K mg C)(T:O6 P w K mg base R C):aB P w K mg base au 45 f fd ["calls"] (Ip K R):=by
 obtain⟨fm,fdm,Mm,Fm,mM⟩:=MM;have GM:aB P w K mg base au 3 fm fdm ["self"] (O5 R C):=aeR Fm M e g RC;have bM:=Fm.b1 "self";obtain⟨tan,Dan,mAn,aeU,hAn⟩:=T.an;obtain⟨tw,Dw,mW,aeV,hW⟩:=T.wh;obtain⟨tr,mR,hR⟩:=T.wr;refine F.oK ks λ_ _ _ s H vs Q E hr h=>?_;obtain⟨a,l,rfl,hS,Iq,hlen,mh,hE,q⟩:=h;have hr4:=hr.mono (show 4<=44 by decide)
 refine⟨_,ay (bE 1 ks.nd (Kh Mm GM hr4 rfl mM bM .nil aW))
  (ay (bE 2 ks.nd (cR aj))
  (ay (bE 3 ks.nd aO)
  (ay (yC j6 (bV gz (pv 3) (eV iA (by rfl) g.fX gj (ah (pv 0) aj)) (bO _))
    (ay (bE 4 ks.nd (cj cH (pv 0) (pv 3) (λ_ _=>rfl)))
    (ay (bE 5 ks.nd (cy i9 (cy i9 (pv 3) aO) (rV (iH mW) (pv 4) (λ_ _=>rfl))))
    (ay (bE 6 ks.nd (vx CW (pv 0) (qc (cy i9 (pv 3) aO)) (qc (pv 5))))
    (ay (bE 7 ks.nd (cR aj))
    (ay (bE 3 ks.nd (pv 5))
    (ay (bZ (bV yN (pv 4) (iH mR) rfl)
      (ay (bE 3 ks.nd (cy i9 (cy i9 (pv 5) aO) (cj cH (pv 0) (pv 5) (λ_ _=>rfl))))
        (aw (bE 7 ks.nd (vx CW (pv 0) (qc (cy i9 (pv 5) aO)) (qc (pv 3)))))) cJ)
    (ay (bE 8 ks.nd (rV (iH mAn) (pv 4) (λ_ _=>rfl)))
    (ay (bE 9 ks.nd (zq (i:=8) rfl (Or.inl rfl) (ah (pv 1) (ah (pv 6) (ah (pv 7) aj)))))
    (ay (bK (iS i6 lB lC kd (pv 2) (ah (eV iA (by rfl) g.fX gj (ah (pv 9) aj)) aj)))
    (aw (bK (iS i6 Cb Cc vA (pv 2) (ah (pv 9) aj))))))))))))))
  (aw (bh (pv 2)))))),?_⟩
 have hT:∀t∈R.cf,∃o,H t=some (.dN o):=λt ht=>by
  obtain⟨i,hi⟩:=lA ht;obtain⟨qq,_,h1|⟨cc,h1,_⟩⟩:=mh i t hi
  ·exact⟨_,h1⟩
  ·exact⟨_,h1⟩
 obtain⟨F0,sG⟩:∃F0:Hp,F0=λb=>if b∈R.cf then none else H b:=⟨_,rfl⟩
 have f0t:∀t∈R.cf,F0 t=none:=λt ht=>by rw[sG];exact if_pos ht
 have xK:Sub F0 H:=λb o eb=>by
  rw[sG] at eb;by_cases z:b∈R.cf
  ·have eb:(if b∈R.cf then none else H b)=some o:=eb
   rw[if_pos z] at eb;exact ns eb
  ·have eb:(if b∈R.cf then none else H b)=some o:=eb
   rw[if_neg z] at eb;exact eb
 have O_:∀b,H b=none->F0 b=none:=λb hb=>xK.none hb;have Pa:mK F0:=λb φ z=>hE b φ (xK _ _ z);have f0l:aF K F0 a (bx l):=by
  have keep:∀o,H a=some o->(∀y,o≠ .dN y)->F0 a=some o:=λo ho hn=>by
   rw[sG];show(if a∈R.cf then none else H a)=some o
   rw[if_neg,ho];intro z;obtain⟨y,hy⟩:=hT a z;rw[ho] at hy;obtain rfl:=aZ hy;exact hn y rfl
  rcases hS with(h|⟨o,h⟩)|h
  ·exact .inl (.inl (keep _ h λy z=>by cases z))
  ·exact .inl (.inr ⟨o,keep _ h λy z=>by cases z⟩)
  ·exact .inr h
 clear sG;intro cq dx nx nd ne;refine⟨cq,dx,rfl,aA,λH1 ar G md hob sF hrg=>⟨rfl,?_⟩⟩;have up:∀b u,H b=some u->upd (upd H dx (.own cq)) cq (.ins C.cq dx []) b=some u:=λb u e=>by rw[ak (bw e nx),ak (bw e nd)];exact e
 have s1:Sub H H1:=λb u e=>md.kp b u (up b u e) (bw e nx);have fr:∀b∈(ar::(G.reg::G.all)),F0 b=none:=λb hb=>O_ b (by
  cases z:H b with
  |none=>rfl
  |some u=>have:=md.fr b hb;rw[up b u z] at this;exact sn this)
 have xp:=md.nd;have M1:mH R C cq Vaarrj.start (Out F0 H1):=by
  refine⟨dx,.aM,ar,[],G,λ_=>none,fE hob (O_ _ nx),⟨fE sF (fr _ (iL ..)),rfl,λj b e=>nomatch e⟩,hrg.mono λb o eb hb=>fE eb (fr b (fG _ ?_)),Im (xK.trans s1) Pa f0t (mh.mono s1),(λb o e=>nomatch e),rfl,rfl,(λ_ _=>rfl),(λz=>nomatch z),?_,MR.WF.fresh (by decide) (by decide) [],MR.Nums.fresh 4 (λv hv=>nomatch hv),rfl,rfl⟩
  ·rcases hb with rfl|hb
   ·exact iL ..
   ·exact fG _ hb
  ·have:=(fI.mp xp).1;exactλz=>this (fG _ z)
 refine⟨eX _,λan Pb=>?_⟩;have F1s:Sub (upd F0 an (.lst [])) (upd H1 an (.lst [])):=Bz (xK.trans s1);have a0:F0 an=none:=(xK.trans s1).none Pb;refine⟨λm σ H'=>∃at_ s F done left v4 v5 v6 v7 v8 v9,m=l.length-at_/\σ=[some (.ref a),some (.ref cq),some (.ref an),some (.int ((at_:Nat):Int)),v4,v5,v6,v7,v8,v9]/\MC.Rest l at_ s done left/\Sub F H'/\F an=some (.lst (bx done))/\mH R C cq s (Out F H')/\mK F/\Sub F0 F/\done.length+left*170001<=40*170001,
  ⟨_,0,Vaarrj.start,_,[],40,_,_,_,_,_,_,rfl,rfl,MC.Wi Iq,F1s,aA,M1.mono (xI (by unfold Out;rw[a0,if_neg (by simp)];exact Pb)),xJ Pa,ir a0,by simp⟩,?_⟩
 rintro m σ H' ⟨at_,s,F,done,left,v4,v5,v6,v7,v8,v9,rfl,rfl,Ir,sH,Pc,hM,hFe,sG,hb⟩;have sl:∀H2,Sub F H2->aF K H2 a (bx l):=λH2 k=>O8 (sG.trans k) f0l;have il:∀u:List Int,(bx u).length=u.length:=λu=>by unfold bx;rw[bq]
 refine⟨_,rfl,_,rfl,_,_,rfl,.inl (sl _ sH),_,_,rfl,rfl,_,rfl,bX (λz=>?_) λz=>?_⟩
 ·rw[il] at z;obtain⟨qn,nums,row,k,eO,rfl,hq,hl1,hn,is,en,hle,aeW,hnr,sd⟩:=MC.Wl Ir (by lia)
  have gi:∀{i:Nat} {c:Int},l[i]? =some c->(bx l)[i]? =some (.int c):=λh=>by unfold bx;rw[dI,h];rfl
  refine⟨_,λσ' H' x=>x,_,rfl,_,rfl,_,_,_,_,rfl,rfl,sl _ sH,cX (gi hl1),?_⟩;refine⟨_,rfl,_,_,rfl,rfl,_,rfl,tw,Dw,.inl ((qn:Nat):Int),_,rfl,rfl,aeV,hW qn hq,_,_,rfl,rfl,?_⟩;have e1:((at_:Int)+1+((MC.dR qn:Nat):Int))=((at_+1+MC.dR qn:Nat):Int):=by lia
  dsimp only;rw[e1];refine⟨_,rfl,_,rfl,_,_,rfl,rfl,_,rfl,_,rfl,_,rfl,_,_,rfl,sl _ sH,λnl Iu=>?_⟩;have e2:((at_:Int)+1)=((at_+1:Nat):Int):=by lia
  dsimp only;rw[e2,O7 (by lia) hle,show at_+1+MC.dR qn-(at_+1)=MC.dR qn by lia,<-en]
  have k1:Sub F (upd H' nl (.lst (bx nums))):=sH.trans (ir Iu);have on1:Out F H' nl=none:=by unfold Out;rw[Iu];split<;>rfl
  have M1:=hM.mono (xI (o:=.lst (bx nums)) (o2:=.lst (bx nums)) on1);have s1:Sub (upd F nl (.lst (bx nums))) (upd H' nl (.lst (bx nums))):=Bz sH;have x1:mK (upd F nl (.lst (bx nums))):=xJ hFe;have fn:F nl=none:=sH.none Iu;have g1:Sub F (upd F nl (.lst (bx nums))):=ir fn;have n1:upd F nl (.lst (bx nums)) nl=some (.lst (bx nums)):=aA;generalize upd F nl (.lst (bx nums))=F1 at*;generalize upd H' nl (.lst (bx nums))=H1 at*;refine⟨eX _,λrl Iv=>?_⟩;have on2:Out F1 H1 rl=none:=by unfold Out;rw[Iv];split<;>rfl
  refine⟨_,rfl,?_⟩;refine⟨_,rfl,_,_,rfl,.inr (hR _),rfl,rfl,_,rfl,?_⟩;dsimp only;rw[if_neg cW,aeS hq];refine j7 (λy=>?g1) λy=>?g2
  case' g1=>
   obtain⟨jJ,er,Pd⟩:=aeW y;rw[if_pos y] at sd;have BA:Sub H1 (upd H1 rl (.lst [])):=ir Iv;have k2:Sub F (upd H1 rl (.lst [])):=k1.trans BA;refine⟨_,rfl,_,_,rfl,rfl,_,rfl,_,rfl,_,_,_,_,rfl,rfl,sl _ k2,cX (gi jJ),_,_,rfl,rfl,?_⟩;have e3:(((at_+1+MC.dR qn:Nat):Int)+1+((row.length:Nat):Int))=((at_+1+MC.dR qn+1+row.length:Nat):Int):=by lia
   dsimp only;rw[e3];refine⟨_,rfl,_,rfl,_,_,rfl,rfl,_,rfl,_,rfl,_,rfl,_,_,rfl,sl _ k2,λpG Iw=>?_⟩;have e4:(((at_+1+MC.dR qn:Nat):Int)+1)=((at_+1+MC.dR qn+1:Nat):Int):=by lia
   dsimp only;rw[e4,O7 (by lia) Pd,show at_+1+MC.dR qn+1+row.length-(at_+1+MC.dR qn+1)=row.length by lia,<-er]
   have Iy:Sub F1 (upd H1 rl (.lst [])):=s1.trans BA;have Pe:mH R C cq s (Out F1 (upd H1 rl (.lst []))):=M1.mono (Ih BA);generalize upd H1 rl (.lst [])=Iz at*;have Pf:Out F1 Iz pG=none:=by unfold Out;rw[Iw];split<;>rfl
   have M2:=Pe.mono (xI (o:=.lst (bx row)) (o2:=.lst (bx row)) Pf);have s2:Sub (upd F1 pG (.lst (bx row))) (upd Iz pG (.lst (bx row))):=Bz Iy;have x2:mK (upd F1 pG (.lst (bx row))):=xJ x1;have g2:Sub F1 (upd F1 pG (.lst (bx row))):=ir (Iy.none Iw);have r2:upd F1 pG (.lst (bx row)) pG=some (.lst (bx row)):=aA;generalize upd F1 pG (.lst (bx row))=F2 at*;generalize upd Iz pG (.lst (bx row))=H2 at*;have lt:at_<at_+1+MC.dR qn+1+row.length:=by lia
   generalize at_+1+MC.dR qn+1+row.length=at2 at*;clear BA k2 Iy Pe Iw Pf jJ er Pd e3 e4
  case' g2=>
   obtain rfl:=hnr y;rw[if_neg (by rw[y];decide)] at sd
   have M2:=M1.mono (xI (o:=.lst (bx [])) (o2:=.lst (bx [])) on2);have s2:Sub (upd F1 rl (.lst (bx []))) (upd H1 rl (.lst (bx []))):=Bz s1;have x2:mK (upd F1 rl (.lst (bx []))):=xJ x1;have g2:Sub F1 (upd F1 rl (.lst (bx []))):=ir (s1.none Iv);have r2:upd F1 rl (.lst (bx [])) rl=some (.lst (bx [])):=aA;have eH:upd H1 rl (.lst [])=upd H1 rl (.lst (bx [])):=rfl;rw[eH];generalize upd F1 rl (.lst (bx []))=F2 at*;generalize upd H1 rl (.lst (bx []))=H2 at*;have lt:at_<at_+1+MC.dR qn:=by lia
   generalize at_+1+MC.dR qn=at2 at*
  all_goals
   obtain⟨fa,kY,psa,spa,eA,kA,okA,bA,imA⟩:=hAn qn hq;refine⟨_,rfl,tan,Dan,.inl ((qn:Nat):Int),_,rfl,rfl,aeU,eA,?_⟩;refine⟨fa,rfl,kA,_,rfl,_,rfl,_,rfl,?_⟩;refine⟨Bx R C qn,⟨au,44,kY,psa,spa,E0,okA,hr,bA,aW,imA⟩,F2,cq,s,nl,_,nums,_,k,rfl,is,s2,M2,g2 _ _ n1,r2,x2,λH3 al k3 M3 h3 Pg=>?_⟩;have uR:F2 an=some (.lst (bx done)):=g2 _ _ (g1 _ _ Pc);have ne2:al≠an:=λz=>by rw[z,uR] at Pg;exact sn Pg
   have len:(kJ (step s k).2).length<=170000:=by
    obtain⟨cu,cv,ar2,as2,G2,HC2,I2⟩:=M2;exact aeQ I2 is
   generalize kJ (step s k).2=mP at*;refine⟨_,rfl,.inl ⟨rfl,_,aF.of (k3 _ _ uR)⟩,_,rfl,_,_,rfl,.inl (aF.of h3),?_⟩;refine⟨_,_,_,rfl,rfl,k3 _ _ uR,(by rw[il,aP];lia),?_⟩
   have p4:upd H3 an (.lst (bx done++[.int ((bx mP).length:Int)])) an=some (.lst (bx done++[.int ((bx mP).length:Int)])):=aA;have h4:upd H3 an (.lst (bx done++[.int ((bx mP).length:Int)])) al=some (.lst (bx mP)):=by rw[ak ne2];exact h3
   refine⟨_,rfl,.inl ⟨rfl,_,aF.of p4⟩,_,rfl,?_⟩;refine⟨_,_,_,_,rfl,rfl,p4,h4,(by rw[bS,il,il,aP];simp;lia),?_⟩
   have eD:bx done++[.int ((bx mP).length:Int)]++bx mP=bx (done++((mP.length:Int)::mP)):=by
    rw[il];unfold bx;rw[iw,i4,lh];rfl
   rw[eD];have N1:=sd.le;refine⟨l.length-at2,by lia,at2,_,upd F2 an (.lst (bx (done++((mP.length:Int)::mP)))),_,eO,_,_,_,_,_,_,rfl,rfl,sd,?_,aA,?_,xJ x2,?_,?_⟩
   ·intro b o eb;by_cases zz:b=an
    ·subst zz;rw[aA] at eb⊢;exact eb
    ·rw[ak zz] at eb;rw[ak zz,ak zz];exact k3 _ _ eb
   ·have oan:Out F2 H3 an=none:=by unfold Out;rw[uR];rfl
    have aeX:Out F2 (upd H3 an (.lst (bx done++[.int ((bx mP).length:Int)]))) an=none:=by unfold Out;rw[uR];rfl
    refine(M3.mono ?_).mono (xI aeX);intro b o eb;obtain⟨e1,e2⟩:=bP eb;have nb:b≠an:=λz=>by rw[z,uR] at e2;exact sn e2
    exact fE (by rw[ak nb];exact e1) e2
   ·intro b o eb;rw[ak (bw eb a0)];exact g2 _ _ (g1 _ _ (sG _ _ eb))
   ·rw[bS,cI];lia
 ·rw[il] at z;have:at_=l.length:=by have:=Ir.le;lia
  subst this;refine⟨_,rfl,q H' an ?_⟩;rw[MC.Wj Ir];exact sH _ _ Pc
end
end Lm
namespace L2
open PySem PySem.Spec PyProof.Rows
open PySem.W (Codec OpenSpec WData WellAll ReadsW ReadsAllW)
def aeY{P:bQ}{w:bB}{K:aI}{mg mb:Str->Option ai}{k:Nat}{fa:ae}{fd:dP}{ps:List Str}{sp:Sp}{s₁:aq}{vals:List ai}{ds:List WData}{R:PySem.W.WRecords}{cl:Str->Option ae}{d0:WData}{cf:List ae}
 (KX:K.In s₁.heap) (zo:s₁.heap.Ns mU mg) (hb:s₁.heap.Ns BI mb) (mq:∀x:Str,x≠"__name__"->mb x=mX x) (aeZ:s₁.heap.NoLimit) (hbm:BM mg s₁.heap) (hg:s₁.gens= #[])
 (mh:∀t∈cf,K.lookup t=none/\ ∃c,B6 s₁.heap c t/\s₁.heap.get? t=some (yf #[]))
 (xM:sX w.params s₁.heap vals ds) (dF:kP ds=true) (hwt:∀d∈ds,d.weight<=1048576) (hr:dE k callerA)
 (F:∀base:aR,K.In base->base.Ns mU mg->BM mg base->aB P w K mg base au k fa fd ps sp) (ae0:∀(s:aq) (us:List ai),us.length=ps.length->BindsTo s fd ⟨us,[]⟩ (ps.zip us)) (hlen:ds.length=ps.length)
 (kN:∀(H0 H:Hp) (xs:List V),vH H0->(∀b o,H0 b=some o->H b=some o)->(∀t∈cf,H t=some (.dN #[]))->(∀b,b∉cf->H b=H0 b)->lL K H0 xs ds->sp xs H (λv H'=>Dw K H' v d0) E0):
 pH (model P w) callerA (.call (.ref fa) ⟨vals,[]⟩) (λr s'=>∃u as,r=.ok (.ret u)/\ReadsW R cl s'.heap u d0 as/\OldK s₁.heap s'.heap/\s'.os=s₁.os/\sN s'.gens) s₁:=by
 obtain⟨A,ho,ar⟩:=yU ds vals xM dF hwt;have hO:vH (gK K s₁.heap A):=Tp ar;have aQ:∀(H:Hp) b u,gK K s₁.heap A b=some u->df P w H s₁.heap b u:=λH b u q=>by
  obtain⟨_,vs,h1,h2,⟨e,rfl⟩|⟨e,rfl⟩⟩:=vI ar q
  ·exact⟨e,by rw[bq];exact h1,vs,_,t_ h2,e⟩
  ·exact⟨e,by rw[bq];exact h1,vs,t_ h2,_,e,rfl,_,rfl⟩
 have hS:=yY KX ar ds vals xM dF ho;have hV:=t_ ho;have hK:∀b u,gK K s₁.heap A b=some u->K.lookup b=none:=λb u q=>(vI ar q).1;have isA:∀{b:ae} {o:Obj},s₁.heap.get? b=some o->o.cls≠ .type "list"->o.cls≠ .type "tuple"->gK K s₁.heap A b=none:=λ{b o} e n1 n2=>by
  cases q:gK K s₁.heap A b with
  |none=>rfl
  |some u=>
   obtain⟨_,vs,_,_,⟨e2,_⟩|⟨e2,_⟩⟩:=vI ar q
   ·rw[e2] at e;obtain rfl:=aZ e;exact absurd rfl n1
   ·rw[e2] at e;obtain rfl:=aZ e;exact absurd rfl n2
 have tT:∀{b:ae} {o:Obj} {es:Array ye} {ep:Nat},s₁.heap.get? b=some o->o.data=.dict es ep->gK K s₁.heap A b=none:=λ{b o es ep} e d=>by
  cases q:gK K s₁.heap A b with
  |none=>rfl
  |some u=>
   obtain⟨_,vs,_,_,⟨e2,_⟩|⟨e2,_⟩⟩:=vI ar q
   ·rw[e2] at e;obtain rfl:=aZ e;have d':Data.seq vs.toArray _=Data.dict es ep:=d;cases d'
   ·rw[e2] at e;obtain rfl:=aZ e;have d':Data.seq vs.toArray _=Data.dict es ep:=d;cases d'
 have tN:∀t∈cf,gK K s₁.heap A t=none:=λt ht=>by
  obtain⟨_,c,_,e⟩:=mh t ht;exact isA e (by intro z;cases z) (by intro z;cases z)
 generalize gK K s₁.heap A=H0 at hO aQ hS hK tT isA tN;obtain⟨H,hH⟩:∃H:Hp,H=λb=>if b∈cf then some (.dN #[]) else H0 b:=⟨_,rfl⟩
 have Ht:∀t∈cf,H t=some (.dN #[]):=λt ht=>by rw[hH];exact if_pos ht
 have Hn:∀b,b∉cf->H b=H0 b:=λb hb=>by rw[hH];exact if_neg hb
 have Hs:∀b o,H0 b=some o->H b=some o:=λb o e=>by
  rw[Hn b λz=>by rw[tN b z] at e;exact ns e];exact e
 clear hH;have sE:∀{b:ae} {o:Obj},s₁.heap.get? b=some o->(∀v,o.data≠ .fields v)->b∉cf:=λ{b o} e n z=>by
  obtain⟨_,c,_,e2⟩:=mh b z;rw[e] at e2;obtain rfl:=aZ e2;exact n _ rfl
 have Ph:c_ P w H s₁.heap:=λb o e=>by
  by_cases z:b∈cf
  ·rw[Ht b z] at e;obtain rfl:=aZ e;obtain⟨_,c,_,e2⟩:=mh b z;exact e2
  ·rw[Hn b z] at e;exact aQ H b o e
 have IA:∀{b:ae} {o:Obj},s₁.heap.get? b=some o->H b=none->(nz s₁.heap H).get? b=some o:=λe n=>QB e n;have BB:∀{b:ae} {m:Str->Option ai},s₁.heap.Ns b m->(nz s₁.heap H).Ns b m:=λ{b m} ⟨o,es,ep,e,d,r⟩=>⟨o,es,ep,IA e (by rw[Hn b (sE e λv z=>by rw[d] at z;cases z)];exact tT e d),d,r⟩
 have nK:∀b o,K.lookup b=some o->H b=none:=λb o e=>by
  by_cases z:b∈cf
  ·rw[(mh b z).1] at e;exact ns e
  ·rw[Hn b z];cases q:H0 b with
   |none=>rfl
   |some u=>
    rw[hK b u q] at e;exact ns e
 have Pj:K.In (nz s₁.heap H):=λb o e=>IA (KX b o e) (nK b o e);have hM:Mod K mg (nz s₁.heap H):=⟨Pj,BB zo,⟨mb,BB hb,mq⟩,let ⟨mc,h1,h2⟩:=aeZ;⟨mc,BB h1,h2⟩⟩;have hBM:BM mg (nz s₁.heap H):=by
  obtain⟨bm,ob,h1,h2,h3,h4,h5,h6⟩:=hbm;refine⟨bm,ob,h1,h2,IA h3 ?_,h4,h5,h6⟩;rw[Hn bm (sE h3 λv z=>by rw[h6] at z;cases z)]
  exact isA h3 (by rw[h4];decide) (by rw[h4];decide)
 have e0:rj P w K mg (nz s₁.heap H) callerA [] s₁ H:=⟨rfl,hM,λb o e=>QC e,BO (QA _ _),trivial,λb hb=>absurd (show b∈([]:List ae) from hb) (by simp),Ph,.of_eq hg⟩
 have hl:vals.length=ps.length:=by rw[yT xM];exact hlen
 refine xT ((F _ Pj (BB zo) hBM).run callerA [] s₁ H ⟨vals,[]⟩ vals (vals.map toV) _ _ hr e0 (ae0 s₁ vals hl) hV (kN H0 H _ hO Hs Ht Hn hS)) λr s' x=>?_;cases r with
 |error e=>exact gw x
 |ok fl=>
  cases fl with
  |next=>exact gw x
  |brk=>exact gw x
  |cont=>exact gw x
  |ret u=>
   obtain⟨v,H',os,bare,un,IB,r',q⟩:=x;have kept:∀b o,s₁.heap.get? b=some o->b∉cf->s'.heap.get? b=some o:=λb o e nt=>by
    cases q2:H b with
    |none=>exact un.keep b o e q2 (by intro z;exact absurd (show b∈([]:List ae) from z) (by simp)) (by simp)
    |some u2=>
     rcases hO b with z|⟨ob,u3,z⟩
     ·rw[Hn b nt,z] at q2;exact ns q2
     ·have z:=Hs _ _ z;have z2:=un.jg b ob _ z;obtain⟨e1,_⟩:=Ph b _ z;obtain⟨e2,_⟩:=IB b _ z2;rw[e] at e1;obtain rfl:=aZ e1;exact e2
   have KX':K.In s'.heap:=λb o e=>kept b o (KX b o e) λz=>by rw[(mh b z).1] at e;exact ns e
   obtain⟨as,Pk⟩:=Dw.reads (R:=R) (cl:=cl) IB KX' d0 v u q r';have tab:∀b∈cf,∃more,s'.heap.get? b=some (yf more):=λb z=>by
    obtain⟨more,z2⟩:=un.jz b _ (Ht b z);exact⟨_,IB b _ z2⟩
   refine⟨u,as,rfl,Pk,⟨λb o e=>?_,λb o e=>?_⟩,os,bare⟩
   ·by_cases z:b∈cf
    ·obtain⟨_,c,⟨oc,vs,_,_,_,_,_,_,_,g1,g2,g3,g4,_⟩,e2⟩:=mh b z;rw[e2] at e;obtain rfl:=aZ e;obtain⟨more,e3⟩:=tab b z;exact .inr (.inl ⟨⟨c,oc,vs,g1,g2,g3,g4⟩,rfl,#[],more,rfl,by rw[e3];simp⟩)
    ·exact .inl (kept b o e z)
   ·by_cases z:b∈cf
    ·obtain⟨more,e3⟩:=tab b z;exact⟨_,e3⟩
    ·exact⟨_,kept b o e z⟩
def ae1{r:OpenSpec}(k:r.args.all Codec.fits=true){a:Jf r.args}(h:Codec.withinAll r.args a=true)(ds:List WData):r.claim.post (u_ r.args a) (r.ret.enc (Codec.app r.args r.f a)) ds=true:=by
 show r.post (u_ r.args a) _=true;unfold OpenSpec.post;rw[Codec.decAll_encAll r.args (Codec.ok_all r.args k) a h];exact PySem.W.same_iff.mpr rfl
def ae2{r:OpenSpec}{k:Nat}{q:bQ}{loose:List Str}{XP:(Str->Option ai)->aR->Prop}{YP:bB->aR->Prop}{d:DefRec}{K:Params->aI}{ps:List Str}{cf:Params->List ae}{sp:aI->List ae->Sp}
 (ae3:r.args.all Codec.fits=true) (hlen:r.args.length=ps.length) (hr:dE k callerA)
 (hY:∀(w:bB) (h:aR),YP w h->(K w.params).In h)
 (hT:∀(p:Params) (h:aR) (mg mb:Str->Option ai) (lo:List Str) (BC:ExcName->Option ai),Top q lo BC mg mb h->(K p).In h->∀t∈cf p,(K p).lookup t=none/\ ∃c,B6 h c t/\h.get? t=some (yf #[]))
 (F:∀(w:bB) (mg:Str->Option ai) (fa:ae) (h:aR),YP w h->(K w.params).In h->h.Ns mU mg->mg d.name=some (.ref fa)->
   ∃fd:dP,(∀(s:aq) (us:List ai),us.length=ps.length->BindsTo s fd ⟨us,[]⟩ (ps.zip us))/\
    ∀base:aR,(K w.params).In base->base.Ns mU mg->BM mg base->aB r.prog w (K w.params) mg base au k fa fd ps (sp (K w.params) (cf w.params)))
 (kN:∀(p:Params) (H0 H:Hp) (xs:List V) (a:Jf r.args),vH H0->(∀b o,H0 b=some o->H b=some o)->(∀t∈cf p,H t=some (.dN #[]))->(∀b,b∉cf p->H b=H0 b)->Codec.withinAll r.args a=true->Codec.app r.args r.asked a=true->lL (K p) H0 xs (u_ r.args a)->
   sp (K p) (cf p) xs H (λv H'=>Dw (K p) H' v (r.ret.enc (Codec.app r.args r.f a))) E0):
 PySem.W.WalkOS q loose XP YP r d [] (λf vs=>PySem.call f vs):=by
 intro w dC s₁ mg mb G Y fa o pm cd doc dV kV ho hd fz hD xN hg args vals as ae4 ae5 Pk xM lZ;obtain⟨a,e1,e2⟩:=PySem.W.os_pre_some ae4;obtain⟨e3,BD⟩:=Codec.encAll_of_decAll r.args args a e1;subst e3;have KX:=hY w _ Y;obtain⟨fd,hb,hF⟩:=F w mg fa _ Y KX G.T.g xN;refine PySem.W.enter_call (xT (aeY (R:=[]) (cl:=classAt dC.heap) (d0:=r.ret.enc (Codec.app r.args r.f a)) KX G.T.g G.T.b G.T.builtins G.T.nolimit G.T.bmain hg (hT _ _ _ _ _ _ G.T KX) xM (Lc _ _) (Tt ae5) hr hF hb (by rw[Lj];exact hlen)
  (λH0 H xs hO h1 h2 h3 hS=>kN w.params H0 H xs a hO h1 h2 h3 BD e2 hS)) λr' s' hq=>?_)
 obtain⟨u,as',rfl,h1,h2,h3,h4⟩:=hq;exact⟨.inl ⟨u,_,as',rfl,λ_=>rfl,h1,ae1 ae3 BD _,λz=>kG (show false=true from z)⟩,h2,h3,h4⟩
end L2
namespace Lm
variable{P:bQ}{w:bB}{K:aI}{mg:Str->Option ai}{base:aR}{f:ae}{fd:dP}
open PySem PySem.Spec PyProof.Rows L2
open MX (S)
def En(K:aI)(D:List (Key×V))(k:Key)(x:Str)(st:cD):Prop:=∃f fd,dX D k=some (.ref f)/\aD K x x st f fd
structure BE(K:aI)(w:bB)(mg:Str->Option ai)(a1 a2:ae)(D1 D2:List (Key×V)):Prop where
 m1:mg "OF_ONE"=some (.ref a1)
 t1:Tab K w a1 D1
 k1:D1.map (λp:Key×V=>p.1)=tj.map λx=>kC (S x)
 m2:mg "OF_TWO"=some (.ref a2)
 t2:Tab K w a2 D2
 k2:D2.map (λp:Key×V=>p.1)=eZ.map λx=>kC (S x)
 neg:En K D1 (.inr (S (fQ tj 0))) "negative" EV
 abs:En K D1 (.inr (S (fQ tj 1))) "magnitude" EW
 sign:En K D1 (.inr (S (fQ tj 2))) "sign_of" EX
 not:En K D1 (.inr (S (fQ tj 3))) "opposite" EY
 add:En K D2 (.inr (S (fQ eZ 0))) "plus" EG
 sub:En K D2 (.inr (S (fQ eZ 1))) "minus" EH
 mul:En K D2 (.inr (S (fQ eZ 2))) "times" EI
 quo:En K D2 (.inr (S (fQ eZ 3))) "quotient" EJ
 rem:En K D2 (.inr (S (fQ eZ 4))) "remainder" EL
 min:En K D2 (.inr (S (fQ eZ 5))) "smaller" EM
 max:En K D2 (.inr (S (fQ eZ 6))) "larger" uu
 lt:En K D2 (.inr (S (fQ eZ 7))) "is_less" EN
 le:En K D2 (.inr (S (fQ eZ 8))) "is_at_most" EO
 eq:En K D2 (.inr (S (fQ eZ 9))) "is_equal" ER
 ne:En K D2 (.inr (S (fQ eZ 10))) "is_unequal" ES
 ae6:En K D2 (.inr (S (fQ eZ 11))) "both_true" ET
 or_:En K D2 (.inr (S (fQ eZ 12))) "either_true" EU
 tr:Dd K mg "is_truth" rX
 la:Dd K mg "larger" uu
structure Pn(K:aI)(mg:Str->Option ai):Prop where
 ae7:Dd K mg "to_bytes" Aj
 ae8:Dd K mg "block_lines" F'
 ae9:Dd K mg "instruction_lines" Ak
 plain_text:Dd K mg "plain_text" wO
 afa:Dd K mg "map_text" Ge
 afb:Dd K mg "is_number" Gi
 afc:Dd K mg "is_there" Gj
 afd:Dd K mg "row_held" Gm
 afe:Dd K mg "finished_run" FG
 aff:Dd K mg "read_code" Ai
structure Po(K:aI)(w:bB)(mg:Str->Option ai)(ta:ae)(D:List (Key×V)):Prop where
 m:mg "ANSWERERS"=some (.ref ta)
 t:Tab K w ta D
 e0:En K D (.inl ((0:Nat):Int)) "answer_load" An
 e1:En K D (.inl ((1:Nat):Int)) "answer_where" Gf
 e2:En K D (.inl ((2:Nat):Int)) "answer_plain" Gg
 e3:En K D (.inl ((3:Nat):Int)) "answer_width" Gh
 e4:En K D (.inl ((4:Nat):Int)) "answer_set" Ap
 e5:En K D (.inl ((5:Nat):Int)) "answer_run" Gk
 e6:En K D (.inl ((6:Nat):Int)) "answer_array" Gs
 e7:En K D (.inl ((7:Nat):Int)) "answer_vector" Gv
 e8:En K D (.inl ((8:Nat):Int)) "answer_scalar" Gw
 e9:En K D (.inl ((9:Nat):Int)) "answer_mask" Gx
 e10:En K D (.inl ((10:Nat):Int)) "answer_map" Gy
structure Facts(K:aI)(w:bB)(mg:Str->Option ai)(R:Cl)(C:Cg)(a1 a2 ta:ae)(D D1 D2 DA:List (Key×V)):Prop where
 d:HZ K mg
 g:GI mg
 e:EK K R
 k:jU K C
 fc:n9 K mg C
 tc:qy K mg C
 bl:A0 K mg
 sg:A8 K w mg
 sh:Shapes K w mg
 ic:Bk K mg R
 rc:HX K mg C
 dq:Md K C.dw "advance" "Reader.advance" wI
 ref:Md K C.dw "refuse_unless" "Reader.refuse_unless" wJ
 pass:Md K C.dw "pass_by" "Reader.pass_by" wK
 up:Md K C.dw "number_up_to" "Reader.number_up_to" wL
 ed:A9 K mg
 sc:nZ K mg R
 an:Hx K R D
 at_:Hy K w mg D
 xO:so K mg R
 mQ:MK K R C
 mc:O9 K mg C
 op:BE K w mg a1 a2 D1 D2
 md:Pn K mg
 af:Po K w mg ta DA
 wh:∃ta D,mg "WHOLE_NUMBERS"=some (.ref ta)/\Tab K w ta D/\ ∀q,q<=10->dX D (.inl ((q:Nat):Int))=some (.int ((MC.dR q:Nat):Int))
 wr:∃ta,mg "WITH_ROW"=some (.ref ta)/\ ∀H,fR K H ta [.int 0,.int 1,.int 4]
section
variable{R:Cl}{C:Cg}{a1 a2 ta:ae}{D D1 D2 DA:List (Key×V)}
def Facts.gr(F:Facts K w mg R C a1 a2 ta D D1 D2 DA):Gr K w mg R C:=
 ⟨F.d,F.g,F.e,F.k,F.fc,F.tc,F.bl,F.sg,⟨⟨a2,D2,F.op.m2,F.op.t2,F.op.k2⟩,⟨a1,D1,F.op.m1,F.op.t1,F.op.k1⟩⟩,F.sh,F.ic,F.rc,F.dq,F.ref,F.pass,F.up⟩
def BE.opT(O:BE K w mg a1 a2 D1 D2)(g:GI mg)(hk:Dd K mg "refusal_kind" wq):xb P w K mg base:=by
 obtain⟨ft,pb,FT,mT⟩:=O.tr;obtain⟨fl,GV,FL,mL⟩:=O.la;refine⟨⟨a1,D1,O.m1,O.t1,λo ho=>?_⟩,⟨a2,D2,O.m2,O.t2,λo ho=>?_⟩,let ⟨_,_,F⟩:=hk;abM F g⟩
 ·match o,ho with
  |0,_=>
   obtain⟨f,fd,e,F⟩:=O.neg;exact⟨f,fd,["a"],e,F.kp,(abi F).mono (by decide),F.b1 "a"⟩
  |1,_=>
   obtain⟨f,fd,e,F⟩:=O.abs;exact⟨f,fd,["a"],e,F.kp,(abj F g).mono (by decide),F.b1 "a"⟩
  |2,_=>
   obtain⟨f,fd,e,F⟩:=O.sign;exact⟨f,fd,["a"],e,F.kp,(abk F).mono (by decide),F.b1 "a"⟩
  |3,_=>
   obtain⟨f,fd,e,F⟩:=O.not;exact⟨f,fd,["a"],e,F.kp,abl F FT mT,F.b1 "a"⟩
  |o+4,h=>exact absurd h (by lia)
 ·match o,ho with
  |0,_=>
   obtain⟨f,fd,e,F⟩:=O.add;exact⟨f,fd,["a","b"],e,F.kp,(aa5 F g).mono (by decide),F.b2 "a" "b"⟩
  |1,_=>
   obtain⟨f,fd,e,F⟩:=O.sub;exact⟨f,fd,["a","b"],e,F.kp,(aa7 F g).mono (by decide),F.b2 "a" "b"⟩
  |2,_=>
   obtain⟨f,fd,e,F⟩:=O.mul;exact⟨f,fd,["a","b"],e,F.kp,(aa8 F g).mono (by decide),F.b2 "a" "b"⟩
  |3,_=>
   obtain⟨f,fd,e,F⟩:=O.quo;exact⟨f,fd,["a","b"],e,F.kp,(aa9 F).mono (by decide),F.b2 "a" "b"⟩
  |4,_=>
   obtain⟨f,fd,e,F⟩:=O.rem;exact⟨f,fd,["a","b"],e,F.kp,(aba F).mono (by decide),F.b2 "a" "b"⟩
  |5,_=>
   obtain⟨f,fd,e,F⟩:=O.min;exact⟨f,fd,["a","b"],e,F.kp,(abb F).mono (by decide),F.b2 "a" "b"⟩
  |6,_=>
   obtain⟨f,fd,e,F⟩:=O.max;exact⟨f,fd,["a","b"],e,F.kp,(Nu F).mono (by decide),F.b2 "a" "b"⟩
  |7,_=>
   obtain⟨f,fd,e,F⟩:=O.lt;exact⟨f,fd,["a","b"],e,F.kp,(abc F).mono (by decide),F.b2 "a" "b"⟩
  |8,_=>
   obtain⟨f,fd,e,F⟩:=O.le;exact⟨f,fd,["a","b"],e,F.kp,(abd F).mono (by decide),F.b2 "a" "b"⟩
  |9,_=>
   obtain⟨f,fd,e,F⟩:=O.eq;exact⟨f,fd,["a","b"],e,F.kp,(abe F).mono (by decide),F.b2 "a" "b"⟩
  |10,_=>
   obtain⟨f,fd,e,F⟩:=O.ne;exact⟨f,fd,["a","b"],e,F.kp,(abf F).mono (by decide),F.b2 "a" "b"⟩
  |11,_=>
   obtain⟨f,fd,e,F⟩:=O.ae6;exact⟨f,fd,["a","b"],e,F.kp,abg F FT mT,F.b2 "a" "b"⟩
  |12,_=>
   obtain⟨f,fd,e,F⟩:=O.or_;exact⟨f,fd,["a","b"],e,F.kp,abh F FT mT FL mL,F.b2 "a" "b"⟩
  |o+13,h=>exact absurd h (by lia)
def Facts.eng(F:Facts K w mg R C a1 a2 ta D D1 D2 DA)(bm:BM mg base)(dB:K.In base):Bb P w K mg base R D:=
 ⟨F.ed,F.g,F.e,F.op.opT F.g F.ed.ada,F.sc,F.an,bm,dB⟩
def Facts.lines(F:Facts K w mg R C a1 a2 ta D D1 D2 DA):∀h,aK P w K mg base au (2*h+2) "block_lines" ["body"] (Bs R h):=by
 obtain⟨f,fd,F1,m1⟩:=F.md.ae9;obtain⟨f2,Pp,F2,m2⟩:=F.md.ae8;have b1:=F1.b1 "told";have b2:=F2.b1 "body";intro h
 induction h with
 |zero=>
  have G:aK P w K mg base au 1 "instruction_lines" ["told"] (xD R 0):=⟨f,fd,aeq F1 F.e,m1,F1.kp,b1⟩;exact⟨f2,Pp,OM F2 G,m2,F2.kp,b2⟩
 |succ h ih=>
  have G:aK P w K mg base au (2*h+3) "instruction_lines" ["told"] (xD R (h+1)):=⟨f,fd,aet F1 F.e F.g ih,m1,F1.kp,b1⟩;exact⟨f2,Pp,OM F2 G,m2,F2.kp,b2⟩
def oy{q:Nat}{vs:List V}{H:Hp}{Q:VK}{E:XK}(h:Bx R C q vs H Q):mJ R C q vs H Q E:=by
 obtain⟨F,m,s,nl,rl,nums,row,k,e,h1,h2,h3,h4,h5,_,h7⟩:=h;exact⟨F,m,s,nl,rl,nums,row,k,e,h1,h2,h3,h4,h5,h7⟩
def Facts.anT(F:Facts K w mg R C a1 a2 ta D D1 D2 DA)(bm:BM mg base)(dB:K.In base):O6 P w K mg base R C:=by
 have GT:aK P w K mg base au 1 "is_there" ["rows","wanted"] (xE K):=by
  obtain⟨f,fd,F1,m1⟩:=F.md.afc;exact⟨f,fd,aey F1 F.g,m1,F1.kp,F1.b2 "rows" "wanted"⟩
 have GN:aK P w K mg base au 1 "is_number" ["number"] Ik:=by
  obtain⟨f,fd,F1,m1⟩:=F.md.afb;exact⟨f,fd,aeG F1 F.g,m1,F1.kp,F1.b1 "number"⟩
 have GR:aK P w K mg base au 2 "row_held" ["rows","wanted"] xF:=by
  obtain⟨f,fd,F1,m1⟩:=F.md.afd;exact⟨f,fd,aez F1 F.g GT,m1,F1.kp,F1.b2 "rows" "wanted"⟩
 have GB:aK P w K mg base au 1 "to_bytes" ["text"] Br:=by
  obtain⟨f,fd,F1,m1⟩:=F.md.ae7;exact⟨f,fd,aen F1 F.g,m1,F1.kp,F1.b1 "text"⟩
 have GP:aK P w K mg base au 19 "plain_text" ["code"] (Ie R C):=by
  obtain⟨f,fd,F1,m1⟩:=F.md.plain_text;exact⟨f,fd,aev F1 F.g F.k (F.lines 8) GB,m1,F1.kp,F1.b1 "code"⟩
 have GM:aK P w K mg base au 2 "map_text" ["operator","length","place"] Ig:=by
  obtain⟨f,fd,F1,m1⟩:=F.md.afa;exact⟨f,fd,aex F1 F.g GB,m1,F1.kp,F1.b3 "operator" "length" "place"⟩
 have GC:aK P w K mg base (bf P w) 43 "read_code" ["text"] (xC K R C):=by
  obtain⟨f,fd,F1⟩:=F.md.aff;exact ael F1 F.gr
 have GF:aK P w K mg base (bf P w) 22 "finished_run" ["code","width","arrays","budget"] (HA R C):=by
  obtain⟨f,fd,F1,m1⟩:=F.md.afe;exact⟨f,fd,adj F1 (F.eng bm dB) F.at_ F.xO F.k,m1,F1.kp,F1.b4 "code" "width" "arrays" "budget"⟩
 refine⟨⟨ta,DA,F.af.m,F.af.t,λq hq=>?_⟩,F.wh,F.wr⟩
 match q,hq with
 |0,_=>
  obtain⟨f,fd,e,F1⟩:=F.af.e0;exact⟨f,fd,["machine","numbers","text"],_,e,F1.kp,aeN F1 F.mQ F.e F.k F.g F.xO F.fc GC,F1.b3 "machine" "numbers" "text",λvs H Q h=>oy h⟩
 |1,_=>
  obtain⟨f,fd,e,F1⟩:=F.af.e1;exact⟨f,fd,["machine","numbers","text"],_,e,F1.kp,aeJ F1 F.g F.fc GC,F1.b3 "machine" "numbers" "text",λvs H Q h=>oy h⟩
 |2,_=>
  obtain⟨f,fd,e,F1⟩:=F.af.e2;exact⟨f,fd,["machine","numbers","row"],_,e,F1.kp,(aeE F1 F.mQ F.g GP).mono (by decide),F1.b3 "machine" "numbers" "row",λvs H Q h=>oy h⟩
 |3,_=>
  obtain⟨f,fd,e,F1⟩:=F.af.e3;exact⟨f,fd,["machine","numbers","row"],_,e,F1.kp,(aeF F1 F.mQ F.e F.g F.xO).mono (by decide),F1.b3 "machine" "numbers" "row",λvs H Q h=>oy h⟩
 |4,_=>
  obtain⟨f,fd,e,F1⟩:=F.af.e4;exact⟨f,fd,["machine","numbers","data"],_,e,F1.kp,(aeM F1 F.mQ F.g GT GN).mono (by decide),F1.b3 "machine" "numbers" "data",λvs H Q h=>oy h⟩
 |5,_=>
  obtain⟨f,fd,e,F1⟩:=F.af.e5;exact⟨f,fd,["machine","numbers","row"],_,e,F1.kp,(aeP F1 F.mQ F.e F.k F.g F.sc GF).mono (by decide),F1.b3 "machine" "numbers" "row",λvs H Q h=>h⟩
 |6,_=>
  obtain⟨f,fd,e,F1⟩:=F.af.e6;exact⟨f,fd,["machine","numbers","row"],_,e,F1.kp,(aeD F1 F.mQ F.e F.g GR).mono (by decide),F1.b3 "machine" "numbers" "row",λvs H Q h=>oy h⟩
 |7,_=>
  obtain⟨f,fd,e,F1⟩:=F.af.e7;exact⟨f,fd,["machine","numbers","row"],_,e,F1.kp,(aeA F1 F.mQ F.e F.g GR).mono (by decide),F1.b3 "machine" "numbers" "row",λvs H Q h=>oy h⟩
 |8,_=>
  obtain⟨f,fd,e,F1⟩:=F.af.e8;exact⟨f,fd,["machine","numbers","row"],_,e,F1.kp,(aeC F1 F.mQ F.e F.g GT).mono (by decide),F1.b3 "machine" "numbers" "row",λvs H Q h=>oy h⟩
 |9,_=>
  obtain⟨f,fd,e,F1⟩:=F.af.e9;exact⟨f,fd,["machine","numbers","row"],_,e,F1.kp,(aeB F1 F.mQ F.e F.g GR).mono (by decide),F1.b3 "machine" "numbers" "row",λvs H Q h=>oy h⟩
 |10,_=>
  obtain⟨f,fd,e,F1⟩:=F.af.e10;exact⟨f,fd,["machine","numbers","row"],_,e,F1.kp,(aeI F1 F.g F.gr.on GM).mono (by decide),F1.b3 "machine" "numbers" "row",λvs H Q h=>oy h⟩
 |q+11,h=>exact absurd h (by lia)
theorem Facts.answers{f:ae}{fd:dP}(F:Facts K w mg R C a1 a2 ta D D1 D2 DA)(bm:BM mg base)(dB:K.In base)(FA:aD K "answers" "answers" Au f fd):aB P w K mg base au 45 f fd ["calls"] (Ip K R):=
 aeT FA F.mQ F.e F.g F.xO F.mc (F.anT bm dB)
end
section
variable{h:aR}
def uS{x:Str}{st:cD}{f:ae}{oc:ai}{od an:Option ae}{gI:Array (Option ai)}{kV doc pm b9 ct:ai}(X:K.In h)(G:h.Ns mU mg)(a:ly K mU x=some (some (.ref f)))
 (l:K.lookup f=some ⟨oc,od,.func (j0 x x (ke st) (hX st) (aG st) .none kV doc pm an b9 ct),gI⟩) (c:sT K b9 x=true) (k:iN K (.ref f)=true):Dd K mg x st:=⟨f,_,rE l c k,kK X G a⟩
def ID{D:List (Key×V)}{ky:Key}{x:Str}{st:cD}{f:ae}{oc:ai}{od an:Option ae}{gI:Array (Option ai)}{kV doc pm b9 ct:ai}(v:dX D ky=some (.ref f))
 (l:K.lookup f=some ⟨oc,od,.func (j0 x x (ke st) (hX st) (aG st) .none kV doc pm an b9 ct),gI⟩) (c:sT K b9 x=true) (k:iN K (.ref f)=true):En K D ky x st:=⟨f,_,v,rE l c k⟩
def BF{C:ae}{x q:Str}{st:cD}{f:ae}{oc:ai}{od an:Option ae}{gI:Array (Option ai)}{kV doc pm b9 ct:ai}(a:jv K (.ref C) x=some (some (.ref f)))(i:uY K (.ref f)=true)
 (l:K.lookup f=some ⟨oc,od,.func (j0 x q (ke st) (hX st) (aG st) .none kV doc pm an b9 ct),gI⟩) (c:sT K b9 q=true) (k:iN K (.ref f)=true):Md K C x q st:=⟨f,_,⟨a,i,k⟩,rE l c k⟩
def sI{C:ae}{x q:Str}{st:cD}{f:ae}{oc:ai}{od an:Option ae}{gI:Array (Option ai)}{kV doc pm b9 ct:ai}(X:K.In h)(G:h.Ns mU mg)(n:ly K mU x=some (some (.ref C)))(m:PH K C=true)(kc:iN K (.ref C)=true)
 (a:jv K (.ref C) "__init__"=some (some (.ref f))) (i:uY K (.ref f)=true)
 (l:K.lookup f=some ⟨oc,od,.func (j0 "__init__" q (ke st) (hX st) (aG st) .none kV doc pm an b9 ct),gI⟩) (c:sT K b9 q=true) (k:iN K (.ref f)=true):
 ∃f fd,Mk K C f/\aD K "__init__" q st f fd/\mg x=some (.ref C):=⟨f,_,⟨m,a,i,kc⟩,rE l c k,kK X G n⟩
def afg{R:Cl}{D:List (Key×V)}{a:String}{x:Str}{st:cD}{j:Nat}{q:Str}{f cd Pl:ae}{oc:ai}{od an:Option ae}{gI:Array (Option ai)}{kV doc pm ct:ai}{o2:Option ae}{vs:Array ai}{sl2:Array (Option ai)}{file:Str}{tf tg tt:Tok}{flags text:Int}{Pq:Bool}
 (v:dX D (.inr (S (aC a)))=some (.ref f))
 (l:K.lookup f=some ⟨oc,od,.func (j0 x x (ke st) (hX st) (aG st) .none kV doc pm an (.ref cd) ct),gI⟩) (c:sT K (.ref cd) x=true) (k:iN K (.ref f)=true)
 (lc:K.lookup cd=some ⟨.type "code",o2,.fields vs,sl2⟩) (h1:vs[11]? =some (.ref Pl)) (h2:vs.getD 11 .none=.ref Pl) (h3:vs.getD 18 .none=.str file tf) (h4:vs.getD 7 .none=.int flags tg) (h5:vs.getD 9 .none=.bool Pq) (h6:vs.getD 10 .none=.int text tt) (h7:cd≠Pl)
 (t:R.cf[j]? =some Pl) (m:R.r0[j]? =some (qv st,q)):A_ K R D a x st j q:=
 ⟨f,_,cd,Pl,v,rE l c k,λbase X=>⟨rfl,⟨_,vs,file,tf,flags,tg,Pq,text,tt,X _ _ lc,rfl,rfl,h1,h2,h3,h4,h5,h6,h7⟩,t,m⟩⟩
def sJ{a:ae}{D:List (Key×V)}{es:Array ye}{n:Nat}(s:(a==sysModules)=false)(l:K.lookup a=some ⟨.type "dict",none,.dict es n,#[]⟩)(p:Paired (Ent w) D es.toList):Tab K w a D:=⟨s,es,n,l,p⟩
def Pr{a:ae}{o:Obj}{aE:Array ai}{n:Nat}{xs:List V}(l:K.lookup a=some o)(c:o.cls=.type "tuple")(d:o.data=.seq aE n)(s:aE.size<=sizeLine)(v:Vals xs aE.toList):∀H,fR K H a xs:=λ_=>.inr ⟨o,aE,n,l,c,d,s,v⟩
def BG{C:ae}(pg:BN K C sQ=true)(hd:IT K C=true)(po:PD K C=true)(sa:jv K (.ref C) "__setattr__"=some (some (.builtin "object.__setattr__"))):iz K C:=⟨pg,hd,po,sa⟩
def Pt{C N f:ae}{nm q:Str}{bs:List ai}{sn:List Str}{sub:List ai}{ab:Bool}{col:Option Bool}{dd:Option ae}{k0 k1 k2 k3 k5:Option ai}(l:K.lookup C=some (ng nm q C N bs wb true sn sub ab col dd k0 k1 k2 k3 k5 "Exception.__new__"))(o:PySem.W.nsOkIn K N=true)(i:ly K N "__init__"=some (some (.ref f)))
 (fn:uY K (.ref f)=true) (k:iN K (.ref C)=true) (s:ly K N "__setattr__"=some none) (g:ly K N "__getattribute__"=some none) (gh:ly K N "__getattr__"=some none):jc K C N f:=⟨⟨_,_,_,_,_,_,_,_,_,_,_,_,_,l⟩,o,i,fn,k,s,g,gh⟩
end
def RR:Cl:=⟨203,184,594,166,[(qv wD,"do_both.<locals>.<lambda>"),(qv wF,"do_less.<locals>.<lambda>"),(qv wG,"do_either.<locals>.<lambda>")],[352,359,366]⟩
def CC:Cg:=⟨483,503,664,615,814⟩
section
variable{h:aR}(X:(Lm.zzH.heap_1 w.params).In h)(G:h.Ns mU mg)
include X G
theorem afh:A9 (Lm.zzH.heap_1 w.params) mg:=by
 constructor<;>(refine' uS X G ?a ?l ?c ?k;(case a=>k_is);(case l=>k_is);(case c=>k_is);(case k=>k_is))
theorem afi:HZ (Lm.zzH.heap_1 w.params) mg:=by
 constructor<;>(refine' uS X G ?a ?l ?c ?k;(case a=>k_is);(case l=>k_is);(case c=>k_is);(case k=>k_is))
theorem afj:Pn (Lm.zzH.heap_1 w.params) mg:=by
 constructor<;>(refine' uS X G ?a ?l ?c ?k;(case a=>k_is);(case l=>k_is);(case c=>k_is);(case k=>k_is))
theorem afk:Dd (Lm.zzH.heap_1 w.params) mg "is_truth" rX:=by(refine' uS X G ?a ?l ?c ?k;(case a=>k_is);(case l=>k_is);(case c=>k_is);(case k=>k_is))
theorem afl:Dd (Lm.zzH.heap_1 w.params) mg "larger" uu:=by(refine' uS X G ?a ?l ?c ?k;(case a=>k_is);(case l=>k_is);(case c=>k_is);(case k=>k_is))
theorem afm:Dd (Lm.zzH.heap_1 w.params) mg "answers" Au:=by(refine' uS X G ?a ?l ?c ?k;(case a=>k_is);(case l=>k_is);(case c=>k_is);(case k=>k_is))
theorem afn:∃f fd,Mk (Lm.zzH.heap_1 w.params) 203 f/\aD (Lm.zzH.heap_1 w.params) "__init__" "Run.__init__" wu f fd/\mg "Run"=some (.ref 203):=by(refine' sI X G ?n ?m ?kc ?a ?i ?l ?c ?k;(case n=>k_is);(case m=>k_is);(case kc=>k_is);(case a=>k_is);(case i=>k_is);(case l=>k_is);(case c=>k_is);(case k=>k_is))
theorem afo:∃f fd,Mk (Lm.zzH.heap_1 w.params) 184 f/\aD (Lm.zzH.heap_1 w.params) "__init__" "Registers.__init__" uv f fd/\mg "Registers"=some (.ref 184):=by(refine' sI X G ?n ?m ?kc ?a ?i ?l ?c ?k;(case n=>k_is);(case m=>k_is);(case kc=>k_is);(case a=>k_is);(case i=>k_is);(case l=>k_is);(case c=>k_is);(case k=>k_is))
theorem afp:∃f fd,Mk (Lm.zzH.heap_1 w.params) 594 f/\aD (Lm.zzH.heap_1 w.params) "__init__" "Instruction.__init__" z8 f fd/\mg "Instruction"=some (.ref 594):=by(refine' sI X G ?n ?m ?kc ?a ?i ?l ?c ?k;(case n=>k_is);(case m=>k_is);(case kc=>k_is);(case a=>k_is);(case i=>k_is);(case l=>k_is);(case c=>k_is);(case k=>k_is))
theorem afq:∃f fd,Mk (Lm.zzH.heap_1 w.params) 503 f/\aD (Lm.zzH.heap_1 w.params) "__init__" "Token.__init__" zN f fd/\mg "Token"=some (.ref 503):=by(refine' sI X G ?n ?m ?kc ?a ?i ?l ?c ?k;(case n=>k_is);(case m=>k_is);(case kc=>k_is);(case a=>k_is);(case i=>k_is);(case l=>k_is);(case c=>k_is);(case k=>k_is))
theorem afr:∃f fd,Mk (Lm.zzH.heap_1 w.params) 664 f/\aD (Lm.zzH.heap_1 w.params) "__init__" "Reader.__init__" z_ f fd/\mg "Reader"=some (.ref 664):=by(refine' sI X G ?n ?m ?kc ?a ?i ?l ?c ?k;(case n=>k_is);(case m=>k_is);(case kc=>k_is);(case a=>k_is);(case i=>k_is);(case l=>k_is);(case c=>k_is);(case k=>k_is))
theorem afs:∃f fd,Mk (Lm.zzH.heap_1 w.params) 615 f/\aD (Lm.zzH.heap_1 w.params) "__init__" "Code.__init__" z9 f fd/\mg "Code"=some (.ref 615):=by(refine' sI X G ?n ?m ?kc ?a ?i ?l ?c ?k;(case n=>k_is);(case m=>k_is);(case kc=>k_is);(case a=>k_is);(case i=>k_is);(case l=>k_is);(case c=>k_is);(case k=>k_is))
theorem aft:∃f fd,Mk (Lm.zzH.heap_1 w.params) 814 f/\aD (Lm.zzH.heap_1 w.params) "__init__" "Machine.__init__" Am f fd/\mg "Machine"=some (.ref 814):=by(refine' sI X G ?n ?m ?kc ?a ?i ?l ?c ?k;(case n=>k_is);(case m=>k_is);(case kc=>k_is);(case a=>k_is);(case i=>k_is);(case l=>k_is);(case c=>k_is);(case k=>k_is))
omit X G
theorem afu:EK (Lm.zzH.heap_1 w.params) RR:=by
 constructor<;>first|(refine' BG ?a ?b ?c ?d;(case a=>k_is);(case b=>k_is);(case c=>k_is);(case d=>k_is))|(refine'(show jv _ _ _=some none from ?a);(case a=>k_is))|rfl|decide
theorem Pu:AX (Lm.zzH.heap_1 w.params) CC:=by
 constructor<;>first|(refine' BG ?a ?b ?c ?d;(case a=>k_is);(case b=>k_is);(case c=>k_is);(case d=>k_is))|(refine'(show jv _ _ _=some none from ?a);(case a=>k_is))|rfl|decide
theorem afv:jU (Lm.zzH.heap_1 w.params) CC:=by
 constructor<;>first|exact Pu|first|(refine' BG ?a ?b ?c ?d;(case a=>k_is);(case b=>k_is);(case c=>k_is);(case d=>k_is))|(refine'(show jv _ _ _=some none from ?a);(case a=>k_is))|rfl|decide
theorem afw:MK (Lm.zzH.heap_1 w.params) RR CC:=by
 constructor<;>first|(refine' BG ?a ?b ?c ?d;(case a=>k_is);(case b=>k_is);(case c=>k_is);(case d=>k_is))|(refine'(show jv _ _ _=some none from ?a);(case a=>k_is))|rfl|decide
theorem afx:jc (Lm.zzH.heap_1 w.params) 166 165 163:=by
 refine' Pt ?l ?o ?i ?f ?k ?s ?g ?h
 case o=>kernel_rfl
 (case l=>k_is);(case i=>k_is);(case f=>k_is);(case k=>k_is);(case s=>k_is);(case g=>k_is);(case h=>k_is)
theorem afy:me (Lm.zzH.heap_1 w.params) 165 "kind":=⟨by k_is,rfl⟩
theorem afz:me (Lm.zzH.heap_1 w.params) 165 "place":=⟨by k_is,rfl⟩
theorem afA:∃fd,aD (Lm.zzH.heap_1 w.params) "__init__" "Stop.__init__" EZ 163 fd:=by
 refine'⟨_,rE ?l ?c ?k⟩
 (case l=>k_is);(case c=>k_is);(case k=>k_is)
theorem afB:jc (Lm.zzH.heap_1 w.params) 483 482 480:=by
 refine' Pt ?l ?o ?i ?f ?k ?s ?g ?h
 case o=>kernel_rfl
 (case l=>k_is);(case i=>k_is);(case f=>k_is);(case k=>k_is);(case s=>k_is);(case g=>k_is);(case h=>k_is)
theorem afC:me (Lm.zzH.heap_1 w.params) 482 "position":=⟨by k_is,rfl⟩
theorem afD:∃fd,aD (Lm.zzH.heap_1 w.params) "__init__" "FormError.__init__" FH 480 fd:=by
 refine'⟨_,rE ?l ?c ?k⟩
 (case l=>k_is);(case c=>k_is);(case k=>k_is)
theorem afE:Md (Lm.zzH.heap_1 w.params) 664 "advance" "Reader.advance" wI:=by
 refine' BF ?a ?i ?l ?c ?k
 (case a=>k_is);(case i=>k_is);(case l=>k_is);(case c=>k_is);(case k=>k_is)
theorem afF:Md (Lm.zzH.heap_1 w.params) 664 "refuse_unless" "Reader.refuse_unless" wJ:=by
 refine' BF ?a ?i ?l ?c ?k
 (case a=>k_is);(case i=>k_is);(case l=>k_is);(case c=>k_is);(case k=>k_is)
theorem afG:Md (Lm.zzH.heap_1 w.params) 664 "pass_by" "Reader.pass_by" wK:=by
 refine' BF ?a ?i ?l ?c ?k
 (case a=>k_is);(case i=>k_is);(case l=>k_is);(case c=>k_is);(case k=>k_is)
theorem afH:Md (Lm.zzH.heap_1 w.params) 664 "number_up_to" "Reader.number_up_to" wL:=by
 refine' BF ?a ?i ?l ?c ?k
 (case a=>k_is);(case i=>k_is);(case l=>k_is);(case c=>k_is);(case k=>k_is)
def ky(s:String)(a:ae):Key×V:=(.inr (S (aC s)),.ref a)
def IE:List (Key×V):=[ky "neg" 119,ky "abs" 126,ky "sign" 133,ky "not" 140]
def IF:List (Key×V):=[ky "add" 21,ky "sub" 28,ky "mul" 35,ky "quo" 42,ky "rem" 49,ky "min" 56,ky "max" 63,ky "lt" 70,ky "le" 77,ky "eq" 84,ky "ne" 91,ky "and" 105,ky "or" 112]
def IG:List (Key×V):=[ky "lanes" 259,ky "const" 273,ky "fill" 280,ky "copy" 287,ky "one" 294,ky "two" 301,ky "read" 315,ky "pick" 322,ky "write" 329,ky "test" 336,ky "tail" 343,ky "both" 357,ky "less" 364,ky "either" 371,ky "count" 378,ky "num" 385,ky "width" 392,ky "calc" 399,ky "get" 413,ky "put" 420,ky "for" 427,ky "when" 434,ky "raise" 448]
def IH:List (Key×V):=[(.inl 0,.ref 823),(.inl 1,.ref 830),(.inl 2,.ref 837),(.inl 3,.ref 844),(.inl 4,.ref 863),(.inl 5,.ref 870),(.inl 6,.ref 884),(.inl 7,.ref 891),(.inl 8,.ref 898),(.inl 9,.ref 905),(.inl 10,.ref 912)]
def II:List (Key×V):=[(.inl 0,.int 0),(.inl 1,.int 0),(.inl 2,.int 0),(.inl 3,.int 1),(.inl 4,.int 1),(.inl 5,.int 1),(.inl 6,.int 1),(.inl 7,.int 1),(.inl 8,.int 1),(.inl 9,.int 1),(.inl 10,.int 3)]
theorem afI:Tab (Lm.zzH.heap_1 w.params) w 142 IE:=by
 refine' sJ rfl ?l ?p
 case l=>k_is
 case p=>repeat' first|exact .nil|refine .cons ⟨rfl,rfl,rfl⟩ ?_|refine .cons ⟨rfl,rfl,_,rfl⟩ ?_
theorem afJ:Tab (Lm.zzH.heap_1 w.params) w 141 IF:=by
 refine' sJ rfl ?l ?p
 case l=>k_is
 case p=>repeat' first|exact .nil|refine .cons ⟨rfl,rfl,rfl⟩ ?_|refine .cons ⟨rfl,rfl,_,rfl⟩ ?_
theorem afK:Tab (Lm.zzH.heap_1 w.params) w 449 IG:=by
 refine' sJ rfl ?l ?p
 case l=>k_is
 case p=>repeat' first|exact .nil|refine .cons ⟨rfl,rfl,rfl⟩ ?_|refine .cons ⟨rfl,rfl,_,rfl⟩ ?_
theorem afL:Tab (Lm.zzH.heap_1 w.params) w 913 IH:=by
 refine' sJ rfl ?l ?p
 case l=>k_is
 case p=>repeat' first|exact .nil|refine .cons ⟨rfl,rfl,rfl⟩ ?_|refine .cons ⟨rfl,rfl,_,rfl⟩ ?_
theorem afM:Tab (Lm.zzH.heap_1 w.params) w 914 II:=by
 refine' sJ rfl ?l ?p
 case l=>k_is
 case p=>repeat' first|exact .nil|refine .cons ⟨rfl,rfl,rfl⟩ ?_|refine .cons ⟨rfl,rfl,_,rfl⟩ ?_
theorem afN:Tab (Lm.zzH.heap_1 w.params) w 465 A7:=by
 refine' sJ rfl ?l ?p
 case l=>k_is
 case p=>repeat' first|exact .nil|refine .cons ⟨rfl,rfl,rfl⟩ ?_|refine .cons ⟨rfl,rfl,_,rfl⟩ ?_
theorem afO:Tab (Lm.zzH.heap_1 w.params) w 576 Bj:=by
 refine' sJ rfl ?l ?p
 case l=>k_is
 case p=>repeat' first|exact .nil|refine .cons ⟨rfl,rfl,rfl⟩ ?_|refine .cons ⟨rfl,rfl,_,rfl⟩ ?_
include X G
theorem afP:BE (Lm.zzH.heap_1 w.params) w mg 142 141 IE IF:=by
 constructor
 case m1=>exact kK X G (by k_is)
 case m2=>exact kK X G (by k_is)
 case t1=>exact afI
 case t2=>exact afJ
 case k1=>decide+kernel
 case k2=>decide+kernel
 case tr=>exact afk X G
 case la=>exact afl X G
 all_goals (refine' ID ?v ?l ?c ?k;(case v=>exact rfl);(case l=>k_is);(case c=>k_is);(case k=>k_is))
theorem afQ:Po (Lm.zzH.heap_1 w.params) w mg 913 IH:=by
 constructor
 case m=>exact kK X G (by k_is)
 case t=>exact afL
 all_goals (refine' ID ?v ?l ?c ?k;(case v=>exact rfl);(case l=>k_is);(case c=>k_is);(case k=>k_is))
omit X G
theorem afR:Hx (Lm.zzH.heap_1 w.params) RR IG:=by
 constructor<;>first|(refine' ID ?v ?l ?c ?k;(case v=>exact rfl);(case l=>k_is);(case c=>k_is);(case k=>k_is))|(refine' afg ?v ?l ?c ?k ?lc ?h1 ?h2 ?h3 ?h4 ?h5 ?h6 ?h7 ?t ?m;(case v=>exact rfl);(case l=>k_is);(case c=>k_is);(case k=>k_is);(case lc=>k_is);(case h1=>rfl);(case h2=>rfl);(case h3=>rfl);(case h4=>rfl);(case h5=>rfl);(case h6=>rfl);(case h7=>decide);(case t=>rfl);(case m=>rfl))
include X G
theorem afS:GI mg:=by
 constructor<;>first|exact⟨_,kK X G (by k_is)⟩|exact PySem.W.mg_none_of X G (by k_is)
omit X G
theorem afT:∀H,fR (Lm.zzH.heap_1 w.params) H 466 [.int 32,.int 9,.int 10,.int 13]:=by
 refine' Pr (n:= ?n) ?l ?c ?d ?s ?v
 case l=>k_is
 case c=>rfl
 case d=>rfl
 case s=>decide
 case v=>exact .cons ⟨_,rfl⟩ (.cons ⟨_,rfl⟩ (.cons ⟨_,rfl⟩ (.cons ⟨_,rfl⟩ (.nil))))
theorem afU:∀H,fR (Lm.zzH.heap_1 w.params) H 915 [.int 0,.int 1,.int 4]:=by
 refine' Pr (n:= ?n) ?l ?c ?d ?s ?v
 case l=>k_is
 case c=>rfl
 case d=>rfl
 case s=>decide
 case v=>exact .cons ⟨_,rfl⟩ (.cons ⟨_,rfl⟩ (.cons ⟨_,rfl⟩ (.nil)))
include X G
theorem afV:nZ (Lm.zzH.heap_1 w.params) mg RR:=by
 obtain⟨fd,F⟩:=afA (w:=w);exact⟨165,163,fd,⟨afx,afy,afz,F⟩,kK X G (by k_is)⟩
theorem afW:n9 (Lm.zzH.heap_1 w.params) mg CC:=by
 obtain⟨fd,F⟩:=afD (w:=w);exact⟨482,480,fd,⟨afB,afC,F⟩,kK X G (by k_is)⟩
theorem afX:Facts (Lm.zzH.heap_1 w.params) w mg RR CC 142 141 913 IG IE IF IH:=by
 exact{d:=afi X G,g:=afS X G,e:=afu,k:=afv,fc:=afW X G,tc:=⟨Pu,afq X G⟩,bl:=⟨466,kK X G (by k_is),afT⟩,sg:=⟨465,kK X G (by k_is),afN⟩,sh:=⟨576,kK X G (by k_is),afO⟩,ic:=let ⟨f,fd,a,b,c⟩:=afp X G;⟨f,fd,a,b,c⟩,rc:=⟨afs X G,afr X G⟩,dq:=afE,ref:=afF,pass:=afG,up:=afH,ed:=afh X G,sc:=afV X G,an:=afR,at_:=⟨449,kK X G (by k_is),afK⟩,xO:=⟨afo X G,afn X G⟩,mQ:=afw,mc:=let ⟨f,fd,a,b,c⟩:=aft X G;⟨f,fd,a,b,c⟩,op:=afP X G,md:=afj X G,af:=afQ X G,wh:=⟨914,II,kK X G (by k_is),afM,λq hq=>(by decide+kernel:∀d:Fin 11,dX II (.inl ((d.val:Nat):Int))=some (.int ((MC.dR d.val:Nat):Int))) ⟨q,by lia⟩⟩,wr:=⟨915,kK X G (by k_is),afU⟩}
end
open PySem.W (Codec)
theorem afY{p:Params}{h:aR}{q:bQ}{mg mb:Str->Option ai}{lo:List Str}{BC:ExcName->Option ai}(h1:∃d,(recsOf q).find? (λe:DefRec=>e.name==("do_both":Str))=some d)(h2:∃d,(recsOf q).find? (λe:DefRec=>e.name==("do_less":Str))=some d)(h3:∃d,(recsOf q).find? (λe:DefRec=>e.name==("do_either":Str))=some d)
 (T:Top q lo BC mg mb h) (X:(Lm.zzH.heap_1 p).In h):∀t∈RR.cf,(Lm.zzH.heap_1 p).lookup t=none/\ ∃c,B6 h c t/\h.get? t=some (yf #[]):=by
 obtain⟨d1,h1⟩:=h1;obtain⟨d2,h2⟩:=h2;obtain⟨d3,h3⟩:=h3;intro t ht;rcases cC.mp ht with rfl|ht
 ·exact⟨by kernel_rfl,356,Qp T X h1 (by kernel_rfl)⟩
 rcases cC.mp ht with rfl|ht
 ·exact⟨by kernel_rfl,363,Qp T X h2 (by kernel_rfl)⟩
 rcases cC.mp ht with rfl|ht
 ·exact⟨by kernel_rfl,370,Qp T X h3 (by kernel_rfl)⟩
 ·cases ht
theorem afZ{H0 H:Hp}{ts:List ae}(hO:vH H0)(h1:∀t∈ts,H t=some (.dN #[]))(h2:∀b,b∉ts->H b=H0 b):mK H:=λb φ z=>by
 by_cases y:b∈ts
 ·rw[h1 b y] at z;cases z
 ·rw[h2 b y] at z;rcases hO b with e|⟨o,u,e⟩<;>rw[e] at z<;>cases z
theorem agh{q:bQ}{loose:List Str}{XP:(Str->Option ai)->aR->Prop}{YP:bB->aR->Prop}{d:DefRec}(hY:∀(w:bB) (h:aR),YP w h->(Lm.zzH.heap_1 w.params).In h)(hd:d.name="answers")
 (h1:∃d,(recsOf q).find? (λe:DefRec=>e.name==("do_both":Str))=some d) (h2:∃d,(recsOf q).find? (λe:DefRec=>e.name==("do_less":Str))=some d) (h3:∃d,(recsOf q).find? (λe:DefRec=>e.name==("do_either":Str))=some d):
 PySem.W.WalkOS q loose XP YP agd d [] (λf vs=>PySem.call f vs):=by
 refine ae2 (r:=agd) (k:=45) (K:=Lm.zzH.heap_1) (ps:=["calls"]) (cf:=λ_=>RR.cf) (sp:=λK _=>Ip K RR) (by decide+kernel) rfl ⟨rfl,by decide,by decide⟩ hY (λp h mg mb lo BC T X=>afY h1 h2 h3 T X) ?F ?S
 case F=>
  intro w mg fa h Y KX G xN;obtain⟨f,fd,F,m⟩:=afm KX G;rw[hd] at xN;obtain rfl:f=fa:=by rw[m] at xN;cases xN;rfl
  have Fx:=afX KX G;refine⟨fd,λs us hu=>?_,λbase X B bm=>Facts.answers Fx bm X F⟩;obtain⟨oc,od,kV,doc,pm,an,b9,ct,gI,rfl,lk,fz⟩:=F.ex;exact match us,hu with|[_],_=>.of_eq rfl
 case S=>
  intro p H0 H xs a hO hS hT hN BD Iq hx;cases hx with
  |cons x1 x2=>
   cases x2;cases x1 with
   |lst hs ha=>
    have e:=L2.La a.1 _ ha;subst e;have q:((Codec.inLen 0 17000 a.1&&a.1.all (Codec.inInt (-1000000000000000000) 1000000000000000000))&&true)=true:=BD;rw[eS,eS] at q;have len:=(Codec.inNat_iff.mp q.1.1).2;refine⟨_,a.1,rfl,O8 hS hs,Iq,dy len (by decide),λi b e=>?_,afZ hO hT hN,λH' p hp=>.lst (L2.aF.of hp) (L2.K' _)⟩
    have il:i<3:=(dz.mp e).1;obtain⟨q1,hq⟩:∃q1,RR.r0[i]? =some q1:=⟨_,eK il⟩;exact⟨q1,hq,.inl (hT b (d7 e))⟩
end Lm
theorem PySem.Challenge.cw_lanemachine_s01_answers_holds : PySem.Challenge.rw_lanemachine_s01_answers.Holds :=
  Lm.zzH (Lm.agh (fun w h Y => PySem.W.kIn_of Y) rfl (Option.isSome_iff_exists.mp (by decide +kernel)) (Option.isSome_iff_exists.mp (by decide +kernel)) (Option.isSome_iff_exists.mp (by decide +kernel)))
#print axioms PySem.Challenge.cw_lanemachine_s01_answers_holds
