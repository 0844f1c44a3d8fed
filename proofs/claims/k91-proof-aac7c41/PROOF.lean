import PyProof.Rows.All
import Wide.All
import OpenK.AllK
import Wide.FinOn
import PyProof.Seq
import PyProof.RangeIter
import PyProof.TupleIter
import PyProof.StrLoop
import PyProof.WalkInts
import PyProof.StationsW
import PyProof.ZipIter
import PyProof.ListNew
import Lean
import PyProof.EqAt
import PyProof.EqKinds
import PyProof.TupleCall
import PyProof.NeKinds
import KE.IntTextLaws
import KE.KIntText
import PyProof.Draws
import PyProof.EnumMake
import PyProof.EnumFor
import PyProof.NsDelKeeps
import PyProof.Rows.StrFit
import PyProof.Rows.SortShellK
import PyProof.DictKinds
import KE.KDictList
import PyProof.DictWalks
import KE.KEqDict
import PyProof.RaisesDict
import PySem.SetOps
import PyProof.FactsAll.set_1
import PyProof.FactsAll.set_2
import PyProof.LongRange
import PyProof.MaxThree
import KE.KDictOf
import PyProof.AttrMissHeap
import KE.KItemsList
import KE.KDictLaws
import PyProof.Rows.IntBool
import KE.KSortAsk
import PySem.Challenge.RW_copperbook_k91_whole_turned_and_mirrored
set_option Elab.async false
set_option linter.all false
set_option compiler.extract_closed false
set_option maxRecDepth 100000
open Array renaming length_toList→yD,getElem?_toList→Qc,toList_append→Qg,toList_extract→Qi,getElem_toList→QL,toList_reverse→aaz,getElem?_setIfInBounds_ne→aaO,toList_setIfInBounds→aa1,getElem_extract→abn,push_eq_append→abu,size_extract→aby
open Array.Perm renaming refl→aaH
open Bool renaming false_ne_true→yA,and_eq_true→yU,eq_iff_iff→y4,true_and→QM,false_and→QU,false_eq_true→Yz,and_false→Y0,not_eq_true'→aal,or_eq_true→aaY,not_false→aa8,not_true→abe,false_or→abf
open Classical renaming propDecidable→Yu
open False renaming elim→Yf
open ForInStep renaming yield→Yq,done→abx
open Function renaming comp_def→abt
open Int renaming toNat_natCast→yY,emod_lt_of_pos→Qe,emod_nonneg→Qj,eq_ofNat_of_zero_le→aat,zero_add→aaw,le_refl→aaC,lt_of_lt_of_le→aaI,fdiv_eq_ediv_of_nonneg→aba,toNat_of_nonneg→abB
open List renaming length_map→yb,getElem?_eq_getElem→yc,getElem?_eq_some_iff→yd,length_append→ye,mem_map→yf,mem_singleton→yi,mem_append→yj,map_append→yk,getElem?_append_right→yl,getElem?_append_left→yn,getElem?_map→yo,mem_of_getElem?→yp,mem_append_right→yr,size_toArray→yt,mem_append_left→yu,mem_cons→yz,pairwise_append→yC,mem_cons_self→yE,mem_cons_of_mem→yH,append_nil→yK,length_take→yM,drop_eq_getElem_cons→yN,getElem_of_mem→yO,append_assoc→yQ,map_cons→yR,map_map→yS,pairwise_map→yT,getElem_mem→yV,take_length→yW,take_append_drop→yX,mem_filter→yZ,all_eq_true→y6,getD_eq_getElem?_getD→y7,length_filter_le→y8,perm_ext_iff_of_nodup→y9,length_cons→Qa,getElem_map→Qh,length_drop→Ql,take_succ→Qm,nodup_cons→Qo,mem_of_mem_take→Qp,not_mem_nil→Qq,mem_map_of_mem→Qr,mem_range→Qs,mem_filterMap→Qu,getElem_toArray→Qv,nodup_append→Qw,map_congr_left→Qx,mem_reverse→QA,take_of_length_le→QD,drop_eq_nil_of_le→QE,ext_getElem→QF,filter_append→QH,pairwise_iff_getElem→QJ,pairwise_singleton→QN,pairwise_cons→QO,nil_append→QP,flatMap_cons→QR,mem_iff_getElem→QS,any_eq_true→QX,filterMap_cons→QY,flatMap_append→QZ,of_mem_zip→Q0,toArray→Ya,replicate→Yd,extract_eq_drop_take→Ye,range→Yk,length→Yl,lookup→Ys,map→Yv,zip_cons_cons→Yy,take_add_one→YW,nodup_nil→YX,getElem_take→YY,getElem_drop→YZ,perm_append_comm→Y3,lookup_cons→Y4,mem_of_mem_drop→Y7,range_succ→Y8,forIn_cons→Y9,drop_drop→aae,mem_of_find?_eq_some→aah,reverse_cons→aai,mapM_toArray→aaj,filter_congr→aak,zipIdx_cons→aao,getElem?_replicate→aap,cons_append→aaq,drop_of_length_le→aau,length_replicate→aax,take_zero→aaA,map_id→aaB,flatten_append→aaD,getElem?_take→aaE,getElem?_drop→aaF,filterMap_map→aaG,map_nil→aaK,length_range→aaL,foldl_append→aaM,ext_getElem?→aaN,map_flatMap→aaS,flatMap_nil→aaT,find?_some→aaV,filter_nil→aaW,filter_map→aaX,take_take→aa3,drop_zero→aa4,drop_take→aa5,Nodup→aa7,sublist_append_left→abb,length_filterMap_le→abc,any_cons→abd,filter_cons_of_pos→abi,filter_cons_of_neg→abj,getElem?_set_self→abl,all_map→abm,length_singleton→abq,filterMap_append→abr,getElem?_set_ne→abv,lookup_append→abA,getElem?_inj→abE,mem_flatMap→abH,drop_append→abI,all_toArray→abJ,length_nil→abK,find?_cons→abL,take_left→abQ,perm_cons→abR,forIn_nil→abS
open List.Pairwise renaming nil→aa6
open List.Perm renaming trans→Yn,append_left→Yr,append_right→Yw,map→aac,refl→aaR
open List.cons renaming inj→aab
open Nat renaming le_refl→yh,le_trans→ym,lt_of_lt_of_le→yw,lt_or_ge→yx,ne_of_lt→yJ,zero_le→yL,lt_of_le_of_lt→yP,succ_le_succ→Qb,le_of_ble_eq_true→Qd,succ_pos→Qf,not_lt_zero→Qt,min_eq_left→Qz,lt_irrefl→QB,ne_of_gt→QC,mul_le_mul→QI,min_eq_right→QW,add_sub_cancel_left→YV,sub_self→Y1,lt_trans→Y2,le_of_lt→aaa,lt_or_eq_of_le→aag,min_le_right→aar,lt_succ_self→aas,le_of_eq→aav,lt_succ_of_lt→aaP,le_of_lt_succ→aaQ,succ_lt_succ→aaU,min_le_left→aa0,lt_of_succ_lt_succ→abo,add_zero→abp,lt_of_lt_of_eq→abC,eq_zero_or_pos→abD,le_antisymm→abP
open Nat.succ renaming inj→Yx
open Ne renaming symm→yG
open Option renaming map_eq_some_iff→yI,isSome_iff_exists→Qk,map_some→Y6,isSome_map→aaf
open Option.some renaming inj→Yb
open Prod renaming ext→QQ,snd→abO
open Prod.mk renaming injEq→abG
open PyProof.Rows renaming callWith_type1→Yp,slot_tuple_getitem→aay
open PySem renaming mem_of_lookup→Yt,Within→abg,call→abw
open PySem.F renaming plainAttrs_list→Yc,type_list_extend→Yg,type_list_append→Yh,slot_list_extend→Yi,slot_list_append→Yj,plain_min_loop→Ym,entry_min_loop→aan,args_tuple_add_2→aaZ,entry_tuple_add→aa2,slot_tuple_add→aa9,slot_dict_eq→abh
open PySem.Heap renaming get?_push_of_some→yg,lt_size→yq,get?_push_size→yB,get?_update_other→yF,get?_update_self→QG,get?_none_of_le→QK,size_push→QT
open PySem.W renaming OpenLaw→abz,WalkO→abF
open Std.Legacy renaming Range→abk
open Std.Legacy.Range renaming size→abM,forIn_eq_forIn_range'→abN
open Sum renaming inl→Y5,inr→aam
open Sum.inl renaming inj→aad
open Sum.inr renaming inj→aaJ
open True renaming intro→Yo
section
local macro_rules|`(#[$x,*])=>`(⟨$x,*⟩)
open PySem.W (CodeHd FnAt Frag InstAt KdlSrc Looks callWith_F callWith_K callWith_K0 cellsFrom_some codeHdIn codeHd_of_K codeIn emptyDict envX findIn fnMade fnOf fnX handedIn hasDictIn hideAll hideAll_get hideAll_none instObj isFn keepIn kia_one kitOne kitx_dict kitx_list kla_fn kla_obj lookIn makesIn methodCall_KW mroIn of_hideAll plainGet plainGet_of plainOver tabObj takerIn typeIn)
section
open PySem PySem.Spec PyProof.Rows
abbrev DO:=Value->Shared->Prop
abbrev DP:=Unit->Shared->Prop
abbrev DQ:=Bool->Shared->Prop
abbrev DR:=Option Value->Shared->Prop
abbrev DS:=PySem.W.Frag
abbrev DT:=List (Int×Int×Int)
abbrev DU:=List (Int×Int)
abbrev DV:=Str->Option Value
abbrev DW:=List (Addr×Obj)
abbrev DX:=Array Keyed
abbrev DY:=List Value
abbrev DZ:=List Addr
abbrev D0:=List (Str×Addr)
abbrev D6:=Array (Int×Value)
abbrev D7:=Array (Option Value)
abbrev D8:=List Str
abbrev D9:=Array Value
abbrev Ea:=List Expr
abbrev Ec:=Array (Option Nat)
abbrev Ed:=Option Addr
abbrev Ee:=Program
abbrev Ef:=@PySem.wpAny_bind
abbrev Eg:=@PySem.wpAny_pure
end
/- Names that keep the opening's equations from being written; used nowhere. -/
theorem zza(h:0=0:=by rfl):True:=trivial
def ac:=zza._auto_1
theorem zzb(h:0=0:=by decide):True:=trivial
def gt:=zzb._auto_1
theorem zzc(h:0=0:=by first|exact VX|exact rfl):True:=trivial
def zzd:=zzc._auto_1
theorem zze(h:0=0:=by first|exact .inl rfl|exact .inr rfl|assumption):True:=trivial
def zzf:=zze._auto_1
theorem zzg(h:0=0:=by intro _;rfl):True:=trivial
def zzh:=zzg._auto_1
theorem zzi(h:0=0:=by exact vL hr):True:=trivial
def zzj:=zzi._auto_1
theorem zzk(h:0=0:=by exact hr.mono (by decide)):True:=trivial
def zzl:=zzk._auto_1
theorem zzm(h:0=0:=by first|exact Vn|exact gC):True:=trivial
def zzn:=zzm._auto_1
theorem zzo(h:0=0:=by exact#[rfl,rfl,rfl,by decide +kernel,rfl,by decide +kernel,by decide +kernel]):True:=trivial
def zzp:=zzo._auto_1
theorem zzq(h:0=0:=by exact M6 (by kernel_rfl)):True:=trivial
def zzr:=zzq._auto_1
theorem zzs(h:0=0:=by first|exact .inl rfl|exact .inr rfl):True:=trivial
def zzt:=zzs._auto_1
theorem zzu(h:0=0:=by first|exact NP _ (by decide) (by decide)|rfl):True:=trivial
def zzv:=zzu._auto_1
namespace PySem.W.Fast
def tw11896056617762157716:=0
def te8729385142852268635:=0
def tw8170270510425867400:=0
def tw2530542389621173926:=0
def tw10054027822389029096:=0
def tw1044081400610879252:=0
def tw859508453281751670:=0
def tw14719478528662411461:=0
def tw11198249834965262758:=0
def tw565738041129615924:=0
def tw2199741843078954118:=0
def tw1189214635996684548:=0
def tw12167936512720837858:=0
def tw11782155660631885106:=0
def tw1693943075433777442:=0
def tw1567631436928876571:=0
def tw5498202073548905793:=0
def tw13069213603374291559:=0
def tw13073446264987245396:=0
def tw7913037986031363992:=0
def tw1340218451834478309:=0
def tw776214188971056394:=0
def tw4080945210234553787:=0
def tw16812055823085188779:=0
def tw2277454501112734592:=0
def tw17857666444686398970:=0
def tw6654930356629316982:=0
def tw6860251309517530962:=0
def tw9553284037015510199:=0
def tw11724162802327347221:=0
def tw5964457406843468928:=0
def tw4174328209917153259:=0
def tw6556370174072515046:=0
def tw11820205957728265680:=0
def tw6519166136083316641:=0
def tw18326918188668966120:=0
def tw11109981893930891482:=0
def tw135810353961840732:=0
def tw10980372199356065337:=0
def tw18381518494650509849:=0
def tw6580934551607696808:=0
def tw4659389535167662887:=0
def tw16164927751245237817:=0
def tw16958516513427932892:=0
def tw5514424179127996275:=0
def tw562691955382784210:=0
def tw6553441948475543543:=0
def tw6323559242147383036:=0
def tw10204714811478214277:=0
def tw8496279448869909989:=0
def tw1963411407323808083:=0
def tw3716212547224101979:=0
def tw9683728830673488368:=0
def tw1548708695241815200:=0
def tw14508465788295527361:=0
def tw13871895944971163934:=0
def tw11103648945311085539:=0
def tw180228808437604159:=0
def tw17514123003013763265:=0
def tw13919617217578774220:=0
def tw9080834401024980126:=0
def tw3006089198147169198:=0
def tw13930721848923662423:=0
def tw16803205797542138508:=0
def tw9163188661005423211:=0
def tw15099337594241400240:=0
def tw2339347273210739152:=0
def tw4898382988156652839:=0
def tw15138209415005189798:=0
def tw18261335449298277012:=0
def tw13305296797974250289:=0
def tw8106856532511278169:=0
def tw4349344718496819202:=0
def tw18445729187651238967:=0
def tw14797438216635503162:=0
def tw10354875990863046008:=0
def tw7534473892392812187:=0
def tw12389069444359077144:=0
def tw4402732951721530698:=0
def tw11413354012124324747:=0
def tw8127215676217580452:=0
def tw15740564709051922249:=0
def tw14680231480747804692:=0
def tw9626106810485736692:=0
def tw1312115190448479839:=0
def tw14143162580548480984:=0
def tw8338265576386048690:=0
def tw605249450113243120:=0
def tw6597240251812479427:=0
def tw6933515620641431654:=0
def tw3426869033127267987:=0
def tw14010982458066981017:=0
def tw15118046601427918445:=0
def tw323969307941262792:=0
def tw3106295359920308495:=0
def tw14939221014869235510:=0
def tw5850585497809354394:=0
def tw11605954642121778876:=0
def tw7496897543560907110:=0
def tw956490044537484444:=0
def tw5037341943662418532:=0
def tw8893347558779705008:=0
def tw7434617022433692600:=0
def tw14389540058791269027:=0
def tw14389401317480507224:=0
def tw16016993978181110666:=0
def tw3515387629253425721:=0
def tw17142703103805183473:=0
def tw8432350686069929501:=0
def tw1623046544584567669:=0
def tw10340222760996905690:=0
def tw9510970506260515735:=0
def tw1713230070559562116:=0
def tw7704372020803535062:=0
def tw5949289922367953807:=0
def tw18047631376691000058:=0
def tw17757621552779469255:=0
def tw7045300501014342931:=0
def tw5438295395263418810:=0
def tw10295768168278965719:=0
def tw2493321070196100274:=0
def tw14744483785155107353:=0
def tw13090729137494081590:=0
def tw4147841877609700219:=0
def tw3418953387674290177:=0
def tw17370156221954084146:=0
def tw11722689261446918598:=0
def tw14089868960627286289:=0
def tw2677720712456714300:=0
def tw5876263339601771749:=0
def tw710369300708490909:=0
def tw16430413333038182066:=0
def tw14229383137923925968:=0
def tw17085146832618903647:=0
def tw12534029531989160787:=0
def tw8985839536234966116:=0
def tw12902406258623718279:=0
def tw13183467414586490275:=0
def tw18300918346047216004:=0
def tw560657026668439666:=0
def tw2477595184594963342:=0
def tw1337915620323772631:=0
def tw17520853984029495671:=0
def tw2607863255119690353:=0
def tw3561466820956714558:=0
def tw11719927115628737777:=0
def tw10384830050616562273:=0
def tw11130845157117301999:=0
def tw7936624509742083484:=0
def tw9322265260962412490:=0
def tw15455060056322185091:=0
def tw12436745287856586182:=0
def tw4279532309382499550:=0
def tw9908528961527552615:=0
def tw8577780549375720859:=0
def tw16087541107688310401:=0
def tw13296514578683604611:=0
def tw5327728639840064251:=0
def tw2623911640173094671:=0
def tw17107393201021527169:=0
def tw15299196179294972778:=0
def tw14195774548878389324:=0
def tw14795858921537851179:=0
def tw13016358556216057505:=0
def tw3565314763902497678:=0
def tw15254211014776182064:=0
def tw15047925509400914436:=0
def tw6351549518081813859:=0
def tw9458640230053991880:=0
def tw14987662795662242833:=0
def tw7193515195513363248:=0
def tw386124750918178831:=0
def tw8827320239302698592:=0
def tw16754628518713037989:=0
def tw14024958351721228496:=0
def tw2682274076945922940:=0
def tw519448653712741283:=0
def tw14358182505802112426:=0
def tw10970462206388446049:=0
def tw6906756155607839200:=0
def tw12531839317606953965:=0
def tw12836181603529845718:=0
def tw8159363607268024859:=0
def tw16707930805666052618:=0
def tw15986947184707526986:=0
def tw16496239537145681383:=0
def tw11704813607855804149:=0
def tw6227642119594248476:=0
def tw15041903536516688038:=0
def tw4695402916865500035:=0
def tw406227144886256330:=0
def tw1389664759234934230:=0
def tw13195244511289418377:=0
def tw13753344598602682054:=0
def tw8723608182903119709:=0
def tw5507611340618853965:=0
def tw303032422562449461:=0
def tw1310287162683715135:=0
def tw14540152180914624589:=0
def tw3428435309035846950:=0
def tw7935554589774153085:=0
def tw14940846544965662551:=0
def tw15919443411307089474:=0
def tw11174519204042691803:=0
def tw12159726851879507365:=0
def tw5517214552848813126:=0
def tw326868458470829313:=0
def tw6231808202878962354:=0
def tw3920034176484532468:=0
def tw3880403718543374681:=0
def tw15876807422568946475:=0
def tw1283216233754290989:=0
def tw1739606308581582176:=0
def tw5984977331767873307:=0
def tw2331625756043727489:=0
def tw18275247992121526837:=0
def tw9134991271749570761:=0
def tw11711868414816986122:=0
def tw6799651230719662614:=0
def tw2566369559427118830:=0
def tw2467511299716068923:=0
def tw3308517407773262270:=0
def tw1721477383637574628:=0
def tw14766734581241606534:=0
def tw90591350241370175:=0
def tw39040839383011797:=0
def tw6257230270870095385:=0
def tw17909698665353109756:=0
def tw18165434962068965496:=0
def tw5397891460233257300:=0
def tw2915144075929569349:=0
def tw17415322138297302686:=0
def tw1684073905738380146:=0
def tw12672616023159280150:=0
def tw9400240816801040264:=0
def tw17820796103819206338:=0
def tw14688010529133953062:=0
def tw7690971531023327019:=0
def tw17102540060403548447:=0
def tw16937256147860886118:=0
def tw17032984753611628676:=0
def tw13516456573347867909:=0
def tw8413556330617682410:=0
def tw15941022131167972480:=0
def tw14975481054060058312:=0
def tw11645603044493232518:=0
def tw7924589133946110659:=0
def tw10647620619343347824:=0
def tw11422911520078341564:=0
def tw8523955003166570848:=0
def tw1697927251989210291:=0
def tw15857949188721915054:=0
def tw1422527999742383016:=0
def tw13990602747780514398:=0
def tw8350834409299208900:=0
def tw11624953664525834037:=0
def tw17897905817503226355:=0
def tw9043147459590767547:=0
def tw17068267003819341296:=0
def tw1255596053009423622:=0
def tw4916650279227915853:=0
def tw436136725529089036:=0
def tw4119112652499883209:=0
def tw361245553348030983:=0
def tw17810200704506236457:=0
def tw15013880202831872423:=0
def tw1610004627810987559:=0
def tw2189309148544404845:=0
def tw7152652390217283855:=0
def tw12808090753020224175:=0
def tw13552426847837084974:=0
def tw15275223400050034556:=0
def tw3592116440263024615:=0
def tw2113704565089260786:=0
def tw12216108248491193127:=0
def tw4636581133898583661:=0
def tw17026642513119345952:=0
def tw315704351668204798:=0
def tw15822728171327019539:=0
def tw4237618745366465021:=0
def tw3033623022285086370:=0
def tw2579815297200588636:=0
def tw13074168550511664178:=0
def tw6067193080378942128:=0
def tw3622323458220397355:=0
def tw10226834914119677806:=0
def tw6730683015485424909:=0
def tw3136470150074808216:=0
def tw1944246889660184681:=0
def tw12828756353178309477:=0
def tw13594498690907275136:=0
def tw11398996053867878312:=0
def tw9220102486577843719:=0
def tw3265495039219982374:=0
def tw18092021988116022201:=0
def tw16328625987787109119:=0
def tw981732689513925935:=0
def tw5836422818798867625:=0
def tw15550574874314453538:=0
def tw16141989985932272421:=0
def tw11459988824477134830:=0
def tw9948521115963589780:=0
def tw12949730731487403375:=0
def tw12200646089432587001:=0
def tw7437031246259260667:=0
def tw10941792820721873476:=0
def tw5539387579325289657:=0
def tw17608648340742100342:=0
def tw11562679931128672337:=0
def tw10194814937213025797:=0
def tw4877993829838294056:=0
def tw3005213701231635575:=0
def tw12048466940939241071:=0
def tw14371421834519748980:=0
def tw12640525175656074054:=0
def tw5884903027842158679:=0
def tw9185838294088105676:=0
def tw8952484665628917125:=0
def tw5896426648627443976:=0
def tw11526095654660203521:=0
def tw9677905153600434360:=0
def tw4260646394091607357:=0
def tw17355223620491109784:=0
def tw12679043985690696133:=0
def tw12170846031167581323:=0
def tw3691504667029200684:=0
def tw16546721331801286640:=0
def tw9142660293178933021:=0
def tw6874485333200355120:=0
def tw15658765693686654443:=0
def tw16976847474777632314:=0
def tw9575783652608480427:=0
def tw7421378198949711485:=0
def tw2451750837230024075:=0
def tw1696640023925585957:=0
def tw15108644954736890790:=0
def tw1504622568267875952:=0
def tw8571907395717557089:=0
def tw6107289160220511053:=0
def tw2313653216561056975:=0
def tw17266072107671268053:=0
def tw12020590055847279813:=0
def tw7005855467269118700:=0
def tw4353502702955345306:=0
def tw12394180607847393905:=0
def tw9046239793880976663:=0
def tw8496487397392412360:=0
def tw10316370163442641142:=0
def tw8783363419857677255:=0
def tw8280073752688204276:=0
def tw7247950254545273210:=0
def tw3983237856734629175:=0
def tw16178976477780893299:=0
def tw7707535425880310769:=0
def tw5220597433630329504:=0
def tw14068791072948015944:=0
def tw1246814918081372970:=0
def tw5298577432110325045:=0
def tw16957470511141011398:=0
def tw17070686258658818110:=0
def tw1639757560843740320:=0
def tw14576042927898115702:=0
def tw12132796666334125323:=0
def tw10434578718425226157:=0
def tw1011909152524718422:=0
def tw6427451919632946446:=0
def tw1081266494155119314:=0
def tw18439974342405263453:=0
def tw9890232702383053818:=0
def tw4349759929657619575:=0
def tw2097649732821699162:=0
def tw4290094699922430500:=0
def tw11026365642750629441:=0
def tw11601598809936839875:=0
def tw268196727436401633:=0
def tw3936718707163461358:=0
def tw14698148439476756500:=0
def tw14413652528625948196:=0
def tw1175129301767815278:=0
def tw17340119085205439785:=0
def tw13048127199317483480:=0
def tw12850955656238487454:=0
def tw8989946301830916412:=0
def tw17474614743454922052:=0
def tw9757288414933272871:=0
def tw13872649182949797549:=0
def tw7914268520394137725:=0
def tw2336394480903222985:=0
def tw10305585159831824838:=0
def tw12201162065914367442:=0
def tw15398786504569658764:=0
def tw6192030035438250201:=0
def tw5491565762301609783:=0
def tw17844400157440570884:=0
def tw9595430032842009356:=0
def tw14478269996533504389:=0
def tw11658525383897973890:=0
def tw18279407765506117588:=0
def tw15957230653421285673:=0
def tw6070038856581779234:=0
end PySem.W.Fast
namespace L2
open PySem
variable {h h':Heap}{D:DZ}{v:Value}{A:Around}{it a o b e l:Addr}{ob oe:Obj}{us vs items:D9}{Q:DR}{i:Nat}
inductive ZA (h:Heap) (D:DZ):Value->Prop
 | nil:ZA h D .none
 | cons {b:Addr} {ob:Obj} {us:D9} {c:Value}:b∈D->h.get? b=some ob->ob.data=.fields us->us[2]?=some c->ZA h D c->ZA h D (.ref b)
theorem ZA.kept {D':DZ} (n:ZA h D v) (k:∀b∈D,∀o,h.get? b=some o->h'.get? b=some o) (d:∀b∈D,b∈D'):ZA h' D' v:=by
 induction n with
 | nil=>exact .nil
 | cons q1 q2 q3 q4 _ ih=>exact .cons (d _ q1) (k _ q1 _ q2) q3 q4 ih
theorem ZA.small (n:ZA h D v):∃D',ZA h D' v/\∀b∈D',∃(o:Obj) (us:D9),h.get? b=some o/\o.data=.fields us/\2<us.size:=by
 induction n with
 | nil=>exact#[[],.nil,λb hb=>absurd hb (by simp)]
 | @cons b ob us c q1 q2 q3 q4 _ ih =>
  obtain⟨D',m,l⟩:=ih;refine#[b::D',.cons (by simp) q2 q3 q4 (m.kept (λ_ _ _ e=>e) λd hd=>yH _ hd),λd hd=>?_];rcases yz.mp hd with rfl|hd
  ·exact#[ob,us,q2,q3,(Array.getElem?_eq_some_iff.mp q4).1]
  ·exact l d hd
def mz (A:Around) (h:Heap) (D:DZ):Prop:=A.handled=none\/∃ea:Addr,A.handled=some (.ref ea)/\ZA h D (.ref ea)
def ZT (A:Around) (h:Heap):Prop:=∃D,mz A h D
theorem mz.keptD (n:mz A h D) (k:∀b∈D,∀o,h.get? b=some o->h'.get? b=some o):mz A h' D:=by
 rcases n with z|⟨ea,h1,h2⟩
 ·exact .inl z
 ·exact .inr #[ea,h1,h2.kept k λ_ q=>q]
theorem ZT.small (n:ZT A h):∃D,mz A h D/\∀b∈D,∃(o:Obj) (us:D9),h.get? b=some o/\o.data=.fields us/\2<us.size:=by
 obtain⟨D,n⟩:=n;rcases n with z|⟨ea,h1,h2⟩
 ·exact#[[],.inl z,λb hb=>absurd hb (by simp)]
 ·obtain⟨D',m,l⟩:=h2.small;exact#[D',.inr #[ea,h1,m],l]
theorem ZT.but (n:ZT A h) (k:Heap.SameBut it h h') (ne:∃(o:Obj) (us:D9),h.get? it=some o/\o.data=.fields us/\us.size<=2):ZT A h':=by
 obtain⟨D,n,l⟩:=n.small;refine#[D,n.keptD λb hb o e=>(k.2 b λq=>?_).trans e];obtain⟨o1,us1,e1,e2,e3⟩:=l b hb;obtain⟨o2,S',f1,f2,f3⟩:=ne;rw[q,f1] at e1;cases e1;rw[f2] at e2;cases e2
 lia
theorem Mz:entryFor table "proto.unchain"=some Builtin.«proto.unchain»:=entryFor_of_tree (by kernel_rfl)
section
variable {prog:Ee}{w:World}{A:Around}{E:DO}{s:Shared}
inductive Gv (h:Heap):Addr->Addr->Prop
 | refl (a:Addr):Gv h a a
 | step {a b o:Addr} {ob:Obj} {us:D9}:h.get? a=some ob->ob.data=.fields us->us[2]?=some (.ref b)->Gv h b o->Gv h a o
theorem Gv.snoc (p:Gv h a o) (h1:h.get? o=some ob) (h2:ob.data=.fields us) (h3:us[2]?=some (.ref b)):Gv h a b:=by
 induction p with
 | refl a=>exact .step h1 h2 h3 (.refl b)
 | step q1 q2 q3 _ ih=>exact .step q1 q2 q3 (ih h1)
def Cd (h:Heap) (a o:Addr):Prop:=∃(b:Addr) (ob:Obj) (us:D9),h.get? a=some ob/\ob.data=.fields us/\us[2]?=some (.ref b)/\Gv h b o
theorem Gv.far (p:Gv h a o) (h1:h.get? o=some ob) (h2:ob.data=.fields us) (h3:us[2]?=some (.ref b)):Cd h a b:=by
 cases p with
 | refl=>exact#[b,ob,us,h1,h2,h3,.refl b]
 | step q1 q2 q3 p=>exact#[_,_,_,q1,q2,q3,p.snoc h1 h2 h3]
theorem fy {R:Result->Shared->Prop} (new:e ∉ D) (h:R (.ok<|.ret .none) s) (n:ZA s.heap D v):∀(o F3:Addr) (tg:Bool),v=.ref o->Gv s.heap F3 o->(tg=true->Cd s.heap F3 o) ->
  codeAny (model prog w) A (.builtin "proto.unchain" #[[.ref e,.ref o,.ref F3,.bool tg],[]]) R s:=by
 induction n with
 | nil=>intro o F3 tg q;cases q
 | @cons b ob us c q1 q2 q3 q4 m ih =>
  intro o F3 tg q p far;cases q;refine codeAny_builtin Mz ?_;unfold Builtin.«proto.unchain»;refine Ef<|wpAny_field q2 q3 q4 ?_;cases m with
  | nil=>exact Eg h
  | @cons b2 ob2 S' c2 r1 r2 r3 r4 m2 =>
   have S₁:b2≠e:=λq=>new<|q▸r1;rw[if_neg (show ¬((Value.ref b2==Value.none)=true) from yA),if_neg (by simpa using S₁)];by_cases hs:b2=F3
   ·subst hs;rw[if_pos (by simp)];exact Ef (wpAny_rule<|Eg h)
   ·rw[if_neg (by simpa using hs)];cases tg with
    | false=>exact Ef (Eg (Eg #[Code.quiet_builtin _ (by decide +kernel),ih b2 F3 true rfl (p.snoc q2 q3 q4) λ_=>p.far q2 q3 q4]))
    | true =>
     obtain⟨b3,ob3,us3,f1,f2,f3,p3⟩:=far rfl;exact Ef (wpAny_field f1 f2 f3 (Eg #[Code.quiet_builtin _ (by decide +kernel),ih b2 b3 false rfl (p3.snoc q2 q3 q4) λz=>by cases z]))
theorem qC {α:Type}{Q:α->Shared->Prop} (hn:mz A s.heap D) (he:s.heap.get? e=some oe) (hd:oe.data=.fields vs) (h2:2<vs.size)
  (new:e ∉ D)
  (h:∀h',(h'=s.heap/\A.handled=none)\/(∃ea,A.handled=some (.ref ea)/\h'=s.heap.update e (Obj.mapFields (·.setIfInBounds 2<|.ref ea)))->Heap.SameBut e s.heap h'->(∃o,h'.get? e=some o/\o.cls=oe.cls)->E (.ref e) { s with heap:=h' }):wpAny (model prog w) A (raiseNew (.ref e):Sem α) Q E s:=by
 refine Ef<|wpAny_handled ?_;rcases hn with z|⟨ea,z,n⟩
 ·rw[z];exact Ef (Eg (wpAny_throw (h s.heap (.inl #[rfl,z]) #[rfl,λ_ _=>rfl] #[oe,he,rfl])))
 ·have ne:ea≠e:=λq=>by cases n with|cons q1=>exact new (q▸q1)
  rw[z];dsimp only;have Ey:(Value.ref ea != Value.ref e)=true:=by
   grind
  rw[Ey];have wf:∀{P:DP},P _ _->wpAny (model prog w) A (updateField e 2<|.ref ea) P E s:=λ{P} q=>wpAny_setField he hd h2 q;refine Ef (wpAny_holding (wpAny_runValue (fy new ?_ n ea ea false rfl (.refl ea) λz=>by cases z)));exact Ef (wf<|wpAny_throw<|h _ (.inr #[ea,z,rfl]) (Heap.SameBut.update ..) #[_,QG _ he<|Obj.isFreed_of_fields<|Obj.data_mapFields hd _,Obj.cls_mapFields ..])
theorem mi {α:Type}{Q:α->Shared->Prop} (hn:ZT A s.heap) (h:∀h' e,(∀b o,s.heap.get? b=some o->h'.get? b=some o)->(∃o,h'.get? e=some o/\o.cls=.type "StopIteration")->E (.ref e) { s with heap:=h' }) :
  wpAny (model prog w) A (newExc (.type "StopIteration") []>>=λx=>(raiseNew x:Sem α)) Q E s:=by
 refine Ef ?_;refine Ef (wpAny_newObj_type ?_ (by show 0<=sizeLine;decide));refine Ef (wpAny_of_eq rfl (wpAny_newObj_type ?_ (by size_fits)));generalize hp:s.heap.push _=h1;have k1:∀b o,s.heap.get? b=some o->h1.get? b=some o:=λb o e=>hp▸yg _ e;have k2:∀ob b o,h1.get? b=some o->(h1.push ob).get? b=some o:=λob b o e=>yg _ e;obtain⟨D,nD,lD⟩:=hn.small;refine qC ((nD.keptD λb _ o e=>k1 b o e).keptD λb _ o e=>k2 _ b o e) (yB _ rfl) rfl (by show 2<6;decide) (λq=>?_) λh' _ sb ex=>h h' _ (λb o e=>(sb.2 b ?_).trans<|k2 _ b o<|k1 b o e) ex
 ·obtain⟨o,_,eo,_⟩:=lD _ q;exact absurd (yq<|k1 _ _ eo) (QB _)
 ·exact yJ (yq<|k1 b o e)
theorem mj (ex:∃o,s.heap.get? e=some o/\o.cls=.type "StopIteration") (h:Q none s) :
  wpAny (model prog w) A (do if (<-isInstance (.ref e) (.type "StopIteration"))=true then pure (none:Option Value) else throw (.ref e)) Q E s:=by
 obtain⟨o,h1,h2⟩:=ex;refine Ef<|wpAny_isInstance #[o,h1,h2] isSubtype_stop ?_;exact Eg h
theorem cD (hn:ZT A s.heap) (hit:s.heap.IsListIter it l i) (hl:s.heap.IsList l items) (hx:items[i]?=none)
  (hQ:∀h',Heap.ExtBut it s.heap h'->Q none { s with heap:=h' }):wpAny (model prog w) A (pyNext<|.ref it) Q E s:=by
 obtain⟨o,ho,hc,hd⟩:=id hit;obtain⟨ol,Tn,_,nl,To⟩:=hl;refine Ef<|wpAny_attempt<|wpAny_callSpecial?_slot hit.typeIs slot_listiter_next<|wpAny_call_entry slot_listiter_next hit.typeIs entry_listiter_next ?_<|args_listiter_next _;refine (show ∀{R:Fin->Shared->Prop} {F:DO},wpAny _ A.in1 (field _ 0>>=_) R F s->wpAny _ A.in1 _ R F s from λz=>z)<|Ef<|wpAny_field ho hd rfl ?_;refine Ef<|wpAny_field ho hd rfl<|Ef<|wpAny_seqItems Tn To ?_;simp only[yY,hx];refine Ef (wpAny_rule (Ef (wpAny_setField ho hd (by simp) ?_)));have sb:Heap.SameBut it s.heap (s.heap.update it<|Obj.mapFields (·.setIfInBounds 0 .none)):=Heap.SameBut.update ..;refine mi (hn.but sb #[o,_,ho,hd,by simp]) λh' e k ex=>mj ex (hQ h' λb o hb q=>k b o<|(sb.2 b hb).trans q)
theorem rz (hn:ZT A s.heap) (hit:s.heap.IsTupleIter it l i) (hl:s.heap.IsTuple l items) (hx:items[i]?=none)
  (hQ:∀h',Heap.ExtBut it s.heap h'->Q none { s with heap:=h' }):wpAny (model prog w) A (pyNext<|.ref it) Q E s:=by
 obtain⟨o,ho,hc,hd⟩:=id hit;obtain⟨ol,Tn,_,nl,To⟩:=hl;refine Ef<|wpAny_attempt<|wpAny_callSpecial?_slot hit.typeIs F.slot_tuple_iterator_next<|wpAny_call_entry F.slot_tuple_iterator_next hit.typeIs F.entry_tuple_iterator_next ?_<|F.args_tuple_iterator_next_1 _;refine (show ∀{R:Fin->Shared->Prop} {F:DO},wpAny _ A.in1 (field _ 0>>=_) R F s->wpAny _ A.in1 _ R F s from λz=>z)<|Ef<|wpAny_field ho hd rfl ?_;refine Ef<|wpAny_field ho hd rfl<|Ef<|wpAny_seqItems Tn To ?_;simp only[yY,hx];refine Ef (wpAny_rule (Ef (wpAny_setField ho hd (by simp) ?_)));have sb:Heap.SameBut it s.heap (s.heap.update it<|Obj.mapFields (·.setIfInBounds 0 .none)):=Heap.SameBut.update ..;refine mi (hn.but sb #[o,_,ho,hd,by simp]) λh' e k ex=>mj ex (hQ h' λb o hb q=>k b o<|(sb.2 b hb).trans q)
theorem qE {x left step:Int} (hn:ZT A s.heap) (hit:IsRangeIter s.heap it x left step) (PY:left<=0)
  (hQ:∀h',Heap.ExtBut it s.heap h'->Q none { s with heap:=h' }):wpAny (model prog w) A (pyNext<|.ref it) Q E s:=by
 have hT:s.TypeIs (.ref it) "range_iterator":=#[_,hit,rfl];unfold pyNext;refine Ef<|wpAny_attempt<|wpAny_callSpecial?_slot (name:=Str.ofString "__next__") hT F.slot_range_iterator_next<|wpAny_call_entry F.slot_range_iterator_next hT F.entry_range_iterator_next ?_<|F.args_range_iterator_next_1 _;refine (show ∀{R:Fin->Shared->Prop} {F:DO},wpAny (model prog w) A.in1 (field (.ref it) 0>>=_) R F s->wpAny (model prog w) A.in1 (Builtin.«range_iterator.__next__» _) R F s from λz=>z)<|Ef<|wpAny_field hit rfl (x:=rawInt x) rfl ?_;refine (show ∀{k:Value->Sem Fin} {R:Fin->Shared->Prop} {F:DO},wpAny (model prog w) A.in1 (k<|rawInt left) R F s->wpAny (model prog w) A.in1 (field (.ref it) 1>>=k) R F s from λz=>Ef<|wpAny_field hit rfl (x:=rawInt left) rfl z) ?_;refine (show ∀{k:Value->Sem Fin} {R:Fin->Shared->Prop} {F:DO},wpAny (model prog w) A.in1 (k<|rawInt step) R F s->wpAny (model prog w) A.in1 (field (.ref it) 2>>=k) R F s from λz=>Ef<|wpAny_field hit rfl (x:=rawInt step) rfl z) ?_;refine (show ∀{a b:Sem Fin} {R:Fin->Shared->Prop} {F:DO},wpAny (model prog w) A.in1 a R F s->wpAny (model prog w) A.in1 (if left<=0 then a else b) R F s from λz=>by rw[if_pos PY];exact z) ?_;refine Ef<|wpAny_rule<|Ef ?_;exact mi (A:=A.in1) hn λh' e k ex=>mj (s:={ s with heap:=h' }) ex (hQ h' λb o _ q=>k b o q)
theorem rC (I ax:Addr) (Ey:ax≠I) (D:DZ) (hI:I ∉ D) (items:D9) :
  Walks prog w A I ([I,ax]++D) [I] items.size (λi v=>items[i]?=some v) (λi h=>(h.IsListIter I ax i/\h.IsList ax items)/\mz A h D) where
 sub:=λb hb=>by simp at hb;simp [hb]
 frame:=λi h h' st k=>#[#[st.1.1.at λo e=>k I (by simp) o e,st.1.2.at λo e=>k ax (by simp) o e],st.2.keptD λb hb o e=>k b (by simp [hb]) o e]
 item:=λi s Q E hi st hQ=>by
  refine wpAny_pyNext_list_item st.1.1 st.1.2 (x:=items[i]) (by simp [hi]) λh' Tp sb=>?_;refine hQ _ h' s.toks (by simp [hi]) #[#[Tp,st.1.2.extBut sb.extBut Ey],st.2.keptD λb hb o e=>(sb.2 b λq=>hI<|q▸hb).trans e] λb o hb e=>(sb.2 b λq=>hb (by simp [q])).trans e
 done:=λs Q E st hQ=>cD #[D,st.2] st.1.1 st.1.2 (by simp) λh' k=>hQ h' s.toks λb o hb e=>k b o (λq=>hb (by simp [q])) e
 self:=λ_ _ _ _ st hQ=>wpAny_pyIter_listiter st.1.1 hQ
theorem An {xs:Array (Int×Tok)}{Q:DO} (hn:ZT A s.heap) (hl:s.heap.IsList l (intItems xs)) (Ey:0<xs.size)
  (h:∀v h' tk,(intItems xs)[argBest (λi j=>decide (numAt xs i<numAt xs j))<|xs.size - 1]?=some v->(∀b o,s.heap.get? b=some o->h'.get? b=some o)->Q v { s with heap:=h',toks:=tk }) :
  wpAny (model prog w) A (call (.builtin "min") [.ref l]) Q E s:=by
 obtain⟨D,nD,lD⟩:=hn.small;have El:=λb hb=>let ⟨_,_,e,_⟩:=lD b hb;yq e
 refine call_min_walk (iter_intList hl λs2 e st S₂ T₁=>?_);subst e;have nI:s.heap.objs.size ∉ D:=λz=>absurd (El _ z)<|QB _;refine#[_,_,_,_,_,_,_,rfl,rC s.heap.objs.size l T₁ D nI _,#[st,mz.keptD nD λb _ o e=>yg _ e],λb hb=>?_,by simpa [intItems] using Ey,CmpOf.ints_lt _ (λ_ _=>intItems_at),λv h' tk hP hk=>?_]
 ·rcases yj.mp hb with z|z
  ·exact S₂ b z
  ·rw[QT];exact aaP (El b z)
 ·exact h v h' tk (by simpa [intItems] using hP) (old_kept hk)
end
def rJ (h base:Heap) (e:Addr) (cls:Value) (a0:Value×Value) (fl:Value):Prop :=
 ∃oe vs T oT ts,h.get? e=some oe/\(oe.cls=cls/\vs[0]?=some a0.1/\vs[2]?=some a0.2)/\oe.data=.fields vs/\vs[1]?=some (.ref T)/\base.get? T=none/\T≠e/\h.get? T=some oT/\oT.data=.fields ts/\ts[3]?=some fl
structure kz (base:Heap) (l:List Env) (e:Addr) (cls:Value) (a0:Value×Value) (fl:Value) (h h':Heap):Prop where
 st:base.StaysIn h'
 ff:h'.FunFrames base l
 tr:rJ h' base e cls a0 fl
 up:h.UpToSlots h'
section
variable {M:Model}{A:Around}{E:DO}{s:Shared}{base:Heap}{env:Env}{outer:List Env}{L e:Addr}{cls:Value}{a0:Value×Value}
theorem tK {head:Value}{IU:Bool}{Q:DP} (LO:A.frames=some (env::outer)) (hl:s.heap.FunFrames base (env::outer)) (hf:env.frame=some L)
  (he:s.heap.get? e=some oe) (LP:base.StaysIn s.heap) (PZ:base.get? e=none) (hd:oe.data=.fields vs) (hsz:1<vs.size) (h0:vs[0]?=some a0.1) (h2:vs[2]?=some a0.2)
  (h:∀h',kz base (env::outer) e oe.cls a0 (rawInt L) s.heap h'->Q () { s with heap:=h' }) :
  wpAny M A (do let a <-frameOf env;let pl <-entryPlaceOf L IU;let b <-EntryCells.newEntry head a .none (rawInt L) .none pl;setField (.ref e) 1 b) Q E s:=by
 have LQ:∀b o,s.heap.get? b=some o->(∀us,o.data≠.fields us)->b≠e:=λb o hb hn q=>by
  subst q;rw[he] at hb;cases hb;exact hn vs hd
 have T₂:e ∉ (env::outer).filterMap (·.frame):=λhm=>by
  obtain⟨_,o,ho,hn⟩:=hl.mem hm;exact LQ e o ho hn rfl
 refine Ef (wpAny_frameOf_fun LO hl hf λg hg=>Ef (wpAny_entryPlaceOf λpl EE=>?_));unfold EntryCells.newEntry newFields;refine Ef<|wpAny_newObj_type ?_<|EE.sizeOk5 _ _ _ _ _;generalize ho:(Obj.mk (.type "traceback") none (.fields ([head,.ref L,.none,rawInt L,.none]++(if pl.isEmpty then Yd 6 Value.none else pl)).toArray)<|Ya [])=ot;have EO:ot.data=.fields ([head,.ref L,.none,rawInt L,.none]++(if pl.isEmpty then Yd 6 Value.none else pl)).toArray:=by rw[<-ho]
 have eg:g.get? e=some oe:=(hg.2.1 e T₂).trans he;have bg:base.StaysIn g:=λb o hb=>(hg.2.1 b λhm=>by rw[(hl.mem hm).1] at hb;cases hb).trans<|LP b o hb;have nT:g.objs.size≠e:=QC<|yq eg;have e2:(g.push ot).get? e=some oe:=yg _ eg;refine wpAny_setField e2 hd hsz<|h _ ?_;have d3:=Obj.data_mapFields hd (·.setIfInBounds 1<|Value.ref g.objs.size);have e3:=QG (Obj.mapFields (·.setIfInBounds 1<|Value.ref g.objs.size)) e2<|Obj.isFreed_of_fields d3;have keep:∀b o,b≠e->g.get? b=some o->((g.push ot).update e<|Obj.mapFields (·.setIfInBounds 1<|Value.ref g.objs.size)).get? b=some o:=λb o hb q=>by
  rw[yF _ _<|yG hb];exact yg _ q
 have T3:((g.push ot).update e<|Obj.mapFields (·.setIfInBounds 1<|Value.ref g.objs.size)).get? g.objs.size=some ot:=by
  rw[yF _ _<|yG nT];exact yB g (by rw[<-ho];rfl)
 refine#[λb o hb=>keep b o (λq=>by rw[q,PZ] at hb;cases hb)<|bg b o hb,hl.of_keeps λb o hb hn=>?_,#[_,_,g.objs.size,ot,_,e3,#[Obj.cls_mapFields _ _,?_,?_],d3,by simp [hsz],bg.fresh,nT,T3,EO,?_],λb o hb hn=>?_]
 ·obtain⟨sl,q⟩:=hg.2.2 b o hb;exact#[_,keep b _ (LQ b o hb hn) q,rfl]
 ·rw[aaO (by decide)];exact h0
 ·rw[aaO (by decide)];exact h2
 ·first|(simp;done)|(rcases EE with rfl|⟨_,_,_,_,_,_,_,rfl⟩<;>simp)
 ·obtain⟨sl,q⟩:=hg.2.2 b o hb;exact#[sl,keep b _ (LQ b o hb hn) q]
theorem pU {l:List Env}{fl:Value}{Q:DP} (LP:base.StaysIn s.heap) (hl:s.heap.FunFrames base l) (ht:rJ s.heap base e cls a0 fl)
  (h:∀h',kz base l e cls a0 .none s.heap h'->(∀b o,s.heap.get? b=some o->(∀us,o.data≠.fields us)->h'.get? b=some o)->Q () { s with heap:=h' }):wpAny M A (setFlight (.ref e) none) Q E s:=by
 obtain⟨oe,vs,T,oT,ts,he,hc,hd,h1,SS,SV,hT,Lv,h3⟩:=ht;have z3:3<ts.size:=(Array.getElem?_eq_some_iff.mp h3).1;have Hy:∀b o,s.heap.get? b=some o->(∀us,o.data≠.fields us)->T≠b:=λb o hb hn q=>by
  subst q;rw[hT] at hb;cases hb;exact hn ts Lv
 unfold setFlight;refine Ef<|wpAny_field he hd h1 ?_;rw[if_pos (show (Value.ref T != Value.none)=true by simp)];refine wpAny_setField hT Lv z3 (h _ #[λb o hb=>?_,hl.of_keeps λb o hb hn=>#[o,?_,rfl],#[oe,vs,T,_,_,?_,hc,hd,h1,SS,SV,QG _ hT<|Obj.isFreed_of_fields<|Obj.data_mapFields Lv _,Obj.data_mapFields Lv _,by simp [z3]],λb o hb hn=>#[o.slots,?_]] λb o hb hn=>?_)
 ·rw[yF _ _ (λq=>by rw[<-q,SS] at hb;cases hb)];exact LP b o hb
 ·rw[yF _ _<|Hy b o hb hn];exact hb
 ·rw[yF _ _ SV];exact he
 ·rw[yF _ _<|Hy b o hb hn];exact hb
 ·rw[yF _ _<|Hy b o hb hn];exact hb
theorem lF {Q:DP} (LO:A.frames=some (env::outer)) (hl:s.heap.FunFrames base (env::outer)) (hf:env.frame=some L) (ht:rJ s.heap base e cls a0 .none) (LP:base.StaysIn s.heap) (PZ:base.get? e=none)
  (h:∀h',kz base (env::outer) e cls a0 (rawInt L) s.heap h'->Q () { s with heap:=h' }):wpAny M A (noteFrame (.ref e) env) Q E s:=by
 obtain⟨oe,vs,T,oT,ts,he,⟨hc,h0,h2⟩,hd,h1,SS,SV,hT,Lv,h3⟩:=ht;subst hc;have Hy:∀b o,s.heap.get? b=some o->(∀us,o.data≠.fields us)->T≠b:=λb o hb hn q=>by
  subst q;rw[hT] at hb;cases hb;exact hn ts Lv
 unfold noteFrame;simp only[hf];refine Ef<|wpAny_field he hd h1 ?_;rw[if_pos (show (Value.ref T != Value.none)=true by simp)];refine Ef<|wpAny_field hT Lv h3 ?_;rw[if_neg (show ¬((Value.none==rawInt L)=true) by simp [rawInt])];refine Ef (wpAny_setField hT Lv (Array.getElem?_eq_some_iff.mp h3).1 ?_)
 refine tK (s:={ s with heap:=_ }) LO (hl.of_keeps λb o hb hn=>#[o,by rw[yF _ _<|Hy b o hb hn];exact hb,rfl]) hf (by rw[yF _ _ SV];exact he) (λb o hb=>by
  rw[yF _ _ (λq=>by rw[<-q,SS] at hb;cases hb)];exact LP b o hb) PZ hd (Array.getElem?_eq_some_iff.mp h1).1 h0 h2 λh' S=>h h' #[S.st,S.ff,S.tr,λb o hb hn=>S.up b o (by rw[yF _ _<|Hy b o hb hn];exact hb) hn]
theorem d6 {Q:DP} (LO:A.frames=some (env::outer)) (hl:s.heap.FunFrames base (env::outer)) (hf:env.frame=some L) (ht:rJ s.heap base e cls a0 .none) (LP:base.StaysIn s.heap) (PZ:base.get? e=none)
  (h:∀h',kz base (env::outer) e cls a0 .none s.heap h'->Q () { s with heap:=h' }):wpAny M A (leaving env<|.ref e) Q E s:=by
 unfold leaving;refine Ef (lF LO hl hf ht LP PZ λh1 S=>pU (s:={ s with heap:=h1 }) S.st S.ff S.tr λh2 S2 _=>h h2 #[S2.st,S2.ff,S2.tr,S.up.trans S2.up])
end
end L2
namespace L2
open PySem PySem.Spec PyProof.Rows
variable {xs vs:List V}{us:DY}{H:Hp}{o:HO}{P:Ee}{h:Heap}{l e tg:Expr}{c cm:Bool}{g':Array GenState}{t' k:Nat}{d':Drawn}{ch fp:DZ}{it C dx:Addr}{M:Model}{E:DO}{Q:VK}{X:Cx}{s:Shared}{tb:TS}{pins:DW}{σ:St}{R:V->V->Hp->Prop}{y:V}{tc:TT}{es:Ea}{te tl:TE}{g:TG}{body:List Stmt}{lo:Int}{pl:Sem Bool}{D:zD}{r r':R2}{f:Value->Value->Sem Value}{O0:CmpOp}{mA:DV}{ps:D8}{kindOf:Str->Option NameKind}{CX:M9}{qual:Str}{scope:Scope}
section
set_option genSizeOf false
set_option genInjectivity false
inductive E2 {α0 α1:Type} (p:α0->α1->Prop):Prop
 | mk (x0:α0) (x1:α1) (h:p x0 x1):E2 p
inductive E3 {α0 α1 α2:Type} (p:α0->α1->α2->Prop):Prop
 | mk (x0:α0) (x1:α1) (x2:α2) (h:p x0 x1 x2):E3 p
inductive E4 {α0 α1 α2 α3:Type} (p:α0->α1->α2->α3->Prop):Prop
 | mk (x0:α0) (x1:α1) (x2:α2) (x3:α3) (h:p x0 x1 x2 x3):E4 p
inductive E5 {α0 α1 α2 α3 α4:Type} (p:α0->α1->α2->α3->α4->Prop):Prop
 | mk (x0:α0) (x1:α1) (x2:α2) (x3:α3) (x4:α4) (h:p x0 x1 x2 x3 x4):E5 p
inductive E6 {α0 α1 α2 α3 α4 α5:Type} (p:α0->α1->α2->α3->α4->α5->Prop):Prop
 | mk (x0:α0) (x1:α1) (x2:α2) (x3:α3) (x4:α4) (x5:α5) (h:p x0 x1 x2 x3 x4 x5):E6 p
inductive E7 {α0 α1 α2 α3 α4 α5 α6:Type} (p:α0->α1->α2->α3->α4->α5->α6->Prop):Prop
 | mk (x0:α0) (x1:α1) (x2:α2) (x3:α3) (x4:α4) (x5:α5) (x6:α6) (h:p x0 x1 x2 x3 x4 x5 x6):E7 p
inductive E8 {α0 α1 α2 α3 α4 α5 α6 α7:Type} (p:α0->α1->α2->α3->α4->α5->α6->α7->Prop):Prop
 | mk (x0:α0) (x1:α1) (x2:α2) (x3:α3) (x4:α4) (x5:α5) (x6:α6) (x7:α7) (h:p x0 x1 x2 x3 x4 x5 x6 x7):E8 p
inductive E9 {α0 α1 α2 α3 α4 α5 α6 α7 α8:Type} (p:α0->α1->α2->α3->α4->α5->α6->α7->α8->Prop):Prop
 | mk (x0:α0) (x1:α1) (x2:α2) (x3:α3) (x4:α4) (x5:α5) (x6:α6) (x7:α7) (x8:α8) (h:p x0 x1 x2 x3 x4 x5 x6 x7 x8):E9 p
inductive Gq {α0 α1 α2 α3 α4 α5 α6 α7 α8 α9:Type} (p:α0->α1->α2->α3->α4->α5->α6->α7->α8->α9->Prop):Prop
 | mk (x0:α0) (x1:α1) (x2:α2) (x3:α3) (x4:α4) (x5:α5) (x6:α6) (x7:α7) (x8:α8) (x9:α9) (h:p x0 x1 x2 x3 x4 x5 x6 x7 x8 x9):Gq p
inductive bL {α0 α1 α2 α3 α4 α5 α6 α7 α8 α9 α10:Type} (p:α0->α1->α2->α3->α4->α5->α6->α7->α8->α9->α10->Prop):Prop
 | mk (x0:α0) (x1:α1) (x2:α2) (x3:α3) (x4:α4) (x5:α5) (x6:α6) (x7:α7) (x8:α8) (x9:α9) (IV:α10) (h:p x0 x1 x2 x3 x4 x5 x6 x7 x8 x9 IV):bL p
inductive w5 {α0 α1 α2 α3 α4 α5 α6 α7 α8 α9 α10 α11:Type} (p:α0->α1->α2->α3->α4->α5->α6->α7->α8->α9->α10->α11->Prop):Prop
 | mk (x0:α0) (x1:α1) (x2:α2) (x3:α3) (x4:α4) (x5:α5) (x6:α6) (x7:α7) (x8:α8) (x9:α9) (IV:α10) (LU:α11) (h:p x0 x1 x2 x3 x4 x5 x6 x7 x8 x9 IV LU):w5 p
inductive bM {α0 α1 α2 α3 α4 α5 α6 α7 α8 α9 α10 α11 α12:Type} (p:α0->α1->α2->α3->α4->α5->α6->α7->α8->α9->α10->α11->α12->Prop):Prop
 | mk (x0:α0) (x1:α1) (x2:α2) (x3:α3) (x4:α4) (x5:α5) (x6:α6) (x7:α7) (x8:α8) (x9:α9) (IV:α10) (LU:α11) (P0:α12) (h:p x0 x1 x2 x3 x4 x5 x6 x7 x8 x9 IV LU P0):bM p
inductive w6 {α0 α1 α2 α3 α4 α5 α6 α7 α8 α9 α10 α11 α12 α13 α14 α15 α16 α17:Type} (p:α0->α1->α2->α3->α4->α5->α6->α7->α8->α9->α10->α11->α12->α13->α14->α15->α16->α17->Prop):Prop
 | mk (x0:α0) (x1:α1) (x2:α2) (x3:α3) (x4:α4) (x5:α5) (x6:α6) (x7:α7) (x8:α8) (x9:α9) (IV:α10) (LU:α11) (P0:α12) (Tq:α13) (W':α14) (W₁:α15) (W₂:α16) (X':α17) (h:p x0 x1 x2 x3 x4 x5 x6 x7 x8 x9 IV LU P0 Tq W' W₁ W₂ X'):w6 p
structure A3 (a0 a1 a2:Prop):Prop where
 mk ::
 h0:a0
 h1:a1
 h2:a2
structure A4 (a0 a1 a2 a3:Prop):Prop where
 mk ::
 h0:a0
 h1:a1
 h2:a2
 h3:a3
structure A5 (a0 a1 a2 a3 a4:Prop):Prop where
 mk ::
 h0:a0
 h1:a1
 h2:a2
 h3:a3
 h4:a4
structure A6 (a0 a1 a2 a3 a4 a5:Prop):Prop where
 mk ::
 h0:a0
 h1:a1
 h2:a2
 h3:a3
 h4:a4
 h5:a5
structure A7 (a0 a1 a2 a3 a4 a5 a6:Prop):Prop where
 mk ::
 h0:a0
 h1:a1
 h2:a2
 h3:a3
 h4:a4
 h5:a5
 h6:a6
structure A8 (a0 a1 a2 a3 a4 a5 a6 a7:Prop):Prop where
 mk ::
 h0:a0
 h1:a1
 h2:a2
 h3:a3
 h4:a4
 h5:a5
 h6:a6
 h7:a7
structure A9 (a0 a1 a2 a3 a4 a5 a6 a7 a8:Prop):Prop where
 mk ::
 h0:a0
 h1:a1
 h2:a2
 h3:a3
 h4:a4
 h5:a5
 h6:a6
 h7:a7
 h8:a8
structure fA (a0 a1 a2 a3 a4 a5 a6 a7 a8 a9:Prop):Prop where
 mk ::
 h0:a0
 h1:a1
 h2:a2
 h3:a3
 h4:a4
 h5:a5
 h6:a6
 h7:a7
 h8:a8
 h9:a9
structure BY (a0 a1 a2 a3 a4 a5 a6 a7 a8 a9 LW:Prop):Prop where
 mk ::
 h0:a0
 h1:a1
 h2:a2
 h3:a3
 h4:a4
 h5:a5
 h6:a6
 h7:a7
 h8:a8
 h9:a9
 h10:LW
structure BZ (a0 a1 a2 a3 a4 a5 a6 a7 a8 a9 LW P4:Prop):Prop where
 mk ::
 h0:a0
 h1:a1
 h2:a2
 h3:a3
 h4:a4
 h5:a5
 h6:a6
 h7:a7
 h8:a8
 h9:a9
 h10:LW
 h11:P4
structure Ds (a0 a1 a2 a3 a4 a5 a6 a7 a8 a9 LW P4 Tr X₁ X₂ a15 a16 a17:Prop):Prop where
 mk ::
 h0:a0
 h1:a1
 h2:a2
 h3:a3
 h4:a4
 h5:a5
 h6:a6
 h7:a7
 h8:a8
 h9:a9
 h10:LW
 h11:P4
 h12:Tr
 h13:X₁
 h14:X₂
 h15:a15
 h16:a16
 h17:a17
end
abbrev Key:=Sum Int Str
def gX:Key->Value->Bool
 | .inl k,v=>Value.isInt k v
 | .inr x,v=>Value.isStrOf x v
def CQ (w:World):Key->Int
 | .inl k=>hashInt k
 | .inr x=>hashStr w x
theorem J1:∀{k:Key} {v:Value},gX k v=true->(∃i t,k=Y5 i/\v=Value.int i t)\/(∃x t,k=aam x/\v=Value.str x t)
 | .inl i,v,h=>by
  obtain⟨t,e⟩:=Value.isInt_shape h;exact .inl #[i,t,rfl,e]
 | .inr x,v,h=>by
  obtain⟨t,e⟩:=Value.isStrOf_shape h;exact .inr #[x,t,rfl,e]
theorem iW (i:Int) (t:Tok):gX (.inl i) (.int i t)=true:=by simp [gX,Value.isInt]
theorem iX (x:Str) (t:Tok):gX (.inr x) (.str x t)=true:=by simp [gX,Value.isStrOf]
theorem xV (a b:Int):decide ((Y5 a:Key)=Y5 b)=(a==b):=by
 grind
theorem xZ (a b:Str):decide ((aam a:Key)=aam b)=decide (a=b):=by
 grind
theorem xW (a:Int) (b:Str):decide ((Y5 a:Key)=aam b)=false:=decide_eq_false (λq=>nomatch q)
theorem xY (a:Str) (b:Int):decide ((aam a:Key)=Y5 b)=false:=decide_eq_false (λq=>nomatch q)
def Jp (prog:Ee) (w:World):PySem.KeyKind prog w Key where
 is:=gX
 hash:=CQ w
 inj:=λv a b ha hb=>by
  rcases J1 ha with ⟨i,t,rfl,rfl⟩|⟨x,t,rfl,rfl⟩
  ·rcases J1 hb with ⟨j,u,rfl,e⟩|⟨y,u,rfl,e⟩
   ·injection e with e1 _;rw[e1]
   ·exact nomatch e
  ·rcases J1 hb with ⟨j,u,rfl,e⟩|⟨y,u,rfl,e⟩
   ·exact nomatch e
   ·injection e with e1 _;rw[e1]
 byValue:=λk v h=>by
  rcases J1 h with ⟨i,t,rfl,rfl⟩|⟨x,t,rfl,rfl⟩<;>rfl
 pyHash:=λhv h=>by
  rcases J1 hv with ⟨i,t,rfl,rfl⟩|⟨x,t,rfl,rfl⟩
  ·exact wpAny_pyHash_int h
  ·exact wpAny_pyHash_str h
 eqBool:=λhu hv h=>by
  rcases J1 hu with ⟨i,t,rfl,rfl⟩|⟨x,t,rfl,rfl⟩
  ·rcases J1 hv with ⟨j,u,rfl,rfl⟩|⟨y,u,rfl,rfl⟩
   ·rw[xV] at h;exact wpAny_eqBool_int h
   ·rw[xW] at h;exact SeqAt.EqAt.int_str i t y u _ _ _ _ h
  ·rcases J1 hv with ⟨j,u,rfl,rfl⟩|⟨y,u,rfl,rfl⟩
   ·rw[xY] at h;exact SeqAt.EqAt.str_int x t j u _ _ _ _ h
   ·rw[xZ] at h;exact wpAny_eqBool_str h
 «strs»:=λk x t v h=>by
  rcases J1 h with ⟨i,u,rfl,e⟩|⟨y,u,rfl,e⟩
  ·exact nomatch e
  ·injection e with e1 _
   subst e1;cases v<;>rfl
theorem bu (prog:Ee) (w:World) (i:Int) (t:Tok):(Jp prog w).is (.inl i) (.int i t)=true:=iW i t
theorem bv (prog:Ee) (w:World) (x:Str) (t:Tok):(Jp prog w).is (.inr x) (.str x t)=true:=iX x t
inductive V where
 | non|bl (b:Bool)|int (i:Int)|str (x:Str)|byt (b:Array UInt8)|flt (b:UInt64)|ref (a:Addr)|ty (n:String)
 deriving DecidableEq
def jI:V->Value->Prop
 | .non,u=>u=Value.none
 | .bl b,u=>u=Value.bool b
 | .int i,u=>∃t,u=Value.int i t
 | .str x,u=>∃t,u=Value.str x t
 | .byt b,u=>∃t,u=Value.bytes b t
 | .flt b,u=>∃t,u=Value.float b t
 | .ref a,u=>u=Value.ref a
 | .ty n,u=>u=Value.type n
abbrev jG:List V->List Value->Prop:=Paired jI
theorem jG.length (r:jG xs us):xs.length=us.length:=Paired.length r
theorem jG.get:∀{xs:List V} {us:DY} {i:Nat} {x:V},jG xs us->xs[i]?=some x->∃u,us[i]?=some u/\jI x u:=by
 intro _ _ i _ h e
 induction h generalizing i with
 | nil=>cases e
 | cons r t ih =>
  cases i with
  | zero=>cases e;exact#[_,rfl,r]
  | succ i=>exact ih e
theorem jG.append:∀{xs ys:List V} {us ws:DY},jG xs us->jG ys ws->jG (xs++ys) (us++ws):=by
 intro _ _ _ _ h s
 induction h with
 | nil=>exact s
 | cons r t ih=>exact .cons r ih
theorem jG.take:∀{xs:List V} {us:DY} (n:Nat),jG xs us->jG (xs.take n) (us.take n):=by
 intro _ _ n h
 induction h generalizing n with
 | nil=>cases n<;>exact .nil
 | cons r t ih =>
  cases n with
  | zero=>exact .nil
  | succ n=>exact .cons r (ih n)
theorem jG.drop:∀{xs:List V} {us:DY} (n:Nat),jG xs us->jG (xs.drop n) (us.drop n):=by
 intro _ _ n h
 induction h generalizing n with
 | nil=>cases n<;>exact .nil
 | cons r t ih =>
  cases n with
  | zero=>exact .cons r t
  | succ n=>exact ih n
def vg:Option V->Option Value->Prop
 | some v,some u=>jI v u
 | none,none=>True
 | _,_=>False
def KV {κ:Type}:List (κ×V)->List (κ×Value)->Prop:=Paired λ(p:κ×V) (q:κ×Value)=>p.1=q.1/\jI p.2 q.2
def kV:Key->V
 | .inl i=>.int i
 | .inr x=>.str x
inductive HO where
 | lst (xs:List V)
 | tup (xs:List V)
 | dK (Ei:List (Key×V))|dT (Ei:List (List Key×V))
 | set (S:Int->Bool) (n:Nat)
 | ins (C dx:Addr) (fs:List (Str×V))
 | own (x:Addr)
 | xd (fs:List (Str×V))
 | met (f x:Addr)
 | rng (lo hi:Int)
 | frz (o:Obj) (u:HO)
 | tbl (ps:D9)
 | ext (φ:Heap->Prop)
abbrev Hp:=Addr->Option HO
def upd (H:Hp) (a:Addr) (o:HO):Hp:=λb=>if b=a then some o else H b
theorem jd {a:Addr}:upd H a o a=some o:=by unfold upd;rw[if_pos rfl]
theorem jj {a b:Addr} (h:b≠a):upd H a o b=H b:=by unfold upd;rw[if_neg h]
theorem jB {a b:Addr}{x:Option HO} (n:b≠a) (e:H b=x):upd H a o b=x:=by rw[jj n];exact e
theorem wY {a:Addr}{u:HO}:upd (upd H a o) a u=upd H a u:=by
 funext b;unfold upd;split<;>rfl
theorem jA {a b:Addr}{u:HO} (h:H a=some o) (h':H b=some u) (d:o≠u:=by exact λz=>nomatch z):a≠b:=by
 grind
theorem jh {a b:Addr} (h:H a=some o) (h':H b=none):a≠b:=by
 grind
section
variable (P:Ee) (w:World)
def Jz (H:Hp) (h:Heap) (a:Addr):HO->Prop
 | .lst xs=>xs.length<=sizeLine/\∃(Ek:DY) (n:Nat),jG xs Ek/\h.get? a=some { cls:=.type "list",data:=.seq Ek.toArray n }
 | .tup xs=>xs.length<=sizeLine/\∃Ek:List Value,jG xs Ek/\IsTup h a Ek.toArray
 | .dK Ei=>Ei.length<=sizeLine/\(a==sysModules)=false/\∃vs,KV Ei vs/\h.DictOf (Jp P w) a vs
 | .dT Ei=>Ei.length<=sizeLine/\(a==sysModules)=false/\∃xs:List (List Key×Addr×Value),
   Paired (λ(p:List Key×V) (q:List Key×Addr×Value)=>p.1=q.1/\H q.2.1=some (.tup<|p.1.map kV)/\jI p.2 q.2.2) Ei xs /\
   ∃o es ep,h.get? a=some o/\o.ExactDict/\o.data=.dict es ep/\es.toList=xs.map (entryOfKey<|tupleKind<|Jp P w)/\(xs.map (·.1)).Nodup
 | .set S n=>h.SetOf (intKind P w) a S n
 | .ins C dx fs=>H dx=some (.own a)/\fs.length<=1000/\dx≠a/\h.get? a=some (instObj C dx) /\
   ∃mA,h.Ns1 dx mA/\(∀f,vg (fs.lookup f)<|mA f)/\abg mA (fs.map (·.1))
 | .own _=>∃o,h.get? a=some o
 | .xd fs=>∃mA,h.Ns1 a mA/\∀f,vg (fs.lookup f) (mA f)
 | .rng lo hi=>∃t u v,h.get? a=some { cls:=.type "range",data:=.fields (Ya [.int lo t,.int hi u,.int 1 v]) }
 | .frz o u=>h.get? a=some o/\Jz H h a u
 | .tbl ps=>h.get? a=some { cls:=.none,data:=.fields ps }
 | .met f x=>h.get? a=some (PySem.W.methodObj (.ref f)<|.ref x)
 | .ext φ=>φ h/\(∃o,h.get? a=some o)/\∀h1 h2:Heap,φ h1->(∀o,h1.get? a=some o->h2.get? a=some o)->φ h2
def Jh (H:Hp) (h:Heap):Prop:=∀a o,H a=some o->Jz P w H h a o
end
section
variable {P:Ee}{w:World}{H H':Hp}{h h':Heap}{a:Addr}{o:HO}
theorem Jz.lt (x:Jz P w H h a o):a<h.objs.size:=by
 cases o with
 | lst xs=>obtain⟨_,_,_,_,e⟩:=x;exact yq e
 | tup xs=>obtain⟨_,_,_,p⟩:=x;exact p.lt
 | dK Ei=>obtain⟨_,_,_,_,o,_,_,e,_⟩:=x;exact yq e
 | dT Ei=>obtain⟨_,_,_,_,o,_,_,e,_⟩:=x;exact yq e
 | set S n=>obtain⟨o,_,_,_,e,_⟩:=x;exact yq e
 | ins C dx fs=>obtain⟨_,_,_,e,_⟩:=x;exact yq e
 | own y=>obtain⟨_,e⟩:=x;exact yq e
 | xd fs=>obtain⟨_,⟨_,_,_,e,_⟩,_⟩:=x;exact yq e
 | rng lo hi=>obtain⟨_,_,_,e⟩:=x;exact yq e
 | frz ob u=>obtain⟨e,_⟩:=x;exact yq e
 | tbl ps=>exact yq (x)
 | met f y=>exact yq (x)
 | ext φ=>obtain⟨_,⟨_,e⟩,_⟩:=x;exact yq e
theorem Paired.mapP {α β:Type}{F G:α->β->Prop}:∀{l₁:List α} {l₂:List β},Paired F l₁ l₂->(∀a b,F a b->G a b)->Paired G l₁ l₂:=by
 intro _ _ h f
 induction h with
 | nil=>exact .nil
 | cons r t ih=>exact .cons (f _ _ r) ih
theorem Jz.stay (x:Jz P w H h a o) (k:∀b u,(b=a\/H b=some (.own a))->h.get? b=some u->h'.get? b=some u)
  (ho:∀b,H b=some (.own a)->H' b=some (.own a)) (ht:∀b xs,H b=some (.tup xs)->H' b=some (.tup xs)):Jz P w H' h' a o:=by
 induction o with
 | lst xs=>obtain⟨z,Ek,n,r,e⟩:=x;exact#[z,Ek,n,r,k _ _ (.inl rfl) e]
 | tup xs=>obtain⟨z,Ek,r,ob,e,c⟩:=x;exact#[z,Ek,r,ob,k _ _ (.inl rfl) e,c]
 | dK Ei=>obtain⟨z,y,vs,r,ob,es,ep,e,c⟩:=x;exact#[z,y,vs,r,ob,es,ep,k _ _ (.inl rfl) e,c]
 | dT Ei =>
  obtain⟨z,y,xs,r,ob,es,ep,e,c⟩:=x;exact#[z,y,xs,Paired.mapP r λp q z=>#[z.1,ht _ _ z.2.1,z.2.2],ob,es,ep,k _ _ (.inl rfl) e,c]
 | set S n=>obtain⟨ob,es,ep,t,e,c⟩:=x;exact#[ob,es,ep,t,k _ _ (.inl rfl) e,c]
 | ins C dx fs =>
  obtain⟨d,z,ne,e,mA,⟨od,es,ep,e2,c⟩,r⟩:=x;exact#[ho _ d,z,ne,k _ _ (.inl rfl) e,mA,#[od,es,ep,k _ _ (.inr d) e2,c],r]
 | own y=>obtain⟨ob,e⟩:=x;exact#[ob,k _ _ (.inl rfl) e]
 | xd fs=>obtain⟨mA,⟨od,es,ep,e,c⟩,r⟩:=x;exact#[mA,#[od,es,ep,k _ _ (.inl rfl) e,c],r]
 | rng lo hi=>obtain⟨t,u,v,e⟩:=x;exact#[t,u,v,k _ _ (.inl rfl) e]
 | frz ob u ih=>obtain⟨e,q⟩:=x;exact#[k _ _ (.inl rfl) e,ih q]
 | tbl ps =>
  have e:=x;exact k a _ (.inl rfl) e
 | met f y =>
  have e:=x;exact k a _ (.inl rfl) e
 | ext φ=>obtain⟨p,⟨o,e⟩,st⟩:=x;exact#[st _ _ p λo q=>k _ _ (.inl rfl) q,#[o,k _ _ (.inl rfl) e],st]
theorem Jh.lt (x:Jh P w H h) (e:H a=some o):a<h.objs.size:=(x a o e).lt
theorem Jh.fresh (x:Jh P w H h) (e:h.objs.size<=a):H a=none:=by
 cases q:H a with
 | none=>rfl
 | some u=>exact absurd (yw (x.lt q) e) (QB _)
theorem Jh.kept (x:Jh P w H h) (k:∀b u,h.get? b=some u->h'.get? b=some u):Jh P w H h':=λa o e =>
 (x a o e).stay (λb u _ q=>k b u q) (λ_ q=>q) λ_ _ q=>q
theorem Jh.laid (x:Jh P w H h) (k:∀b u,h.get? b=some u->h'.get? b=some u) (hp:h.objs.size<=a) (new:Jz P w (upd H a o) h' a o):Jh P w (upd H a o) h':=λb u e=>by
 have hn:=x.fresh hp;by_cases hb:b=a
 ·subst hb;rw[jd] at e;cases e;exact new
 ·rw[jj hb] at e;exact (x b u e).stay (λc v _ q=>k c v q) (λc q=>jB (jh q hn) q) λc xs q=>by rw[jj<|jh q hn];exact q
end
def Rd (H:Hp) (a:Addr) (u:HO):Prop:=H a=some u\/∃o,H a=some (.frz o u)
theorem Rd.ok {w:World}{a:Addr}{u:HO} (r:Rd H a u) (x:Jh P w H h):Jz P w H h a u:=by
 rcases r with r|⟨o,r⟩
 ·exact x a u r
 ·obtain⟨_,q⟩:=x a _ r;exact q
def fO:Option HO->Prop
 | some (.lst _)=>True
 | some (.dK _)=>True
 | some (.dT _)=>True
 | some (.set _ _)=>True
 | some (.ins _ _ _)=>True
 | some (.ext _)=>True
 | _=>False
section
variable {P:Ee}{w:World}{H:Hp}{h h':Heap}{x e:Addr}{o':HO}
theorem Jh.write (ok:Jh P w H h) (mu:fO (H x)) (he:e=x\/H e=some (.own x)) (k:∀b u,b≠e->h.get? b=some u->h'.get? b=some u) (O1:∃u,h'.get? e=some u)
  (new:Jz P w (upd H x o') h' x o'):Jh P w (upd H x o') h':=λb u q=>by
 have Ts:∀c y,H c=some (.own y)->c≠x:=λc y r z=>by subst z;rw[r] at mu;exact mu
 have Tt:∀c xs,H c=some (.tup xs)->c≠x:=λc xs r z=>by subst z;rw[r] at mu;exact mu
 by_cases hb:b=x
 ·subst hb;rw[jd] at q;cases q;exact new
 ·rw[jj hb] at q;by_cases P6:b=e
  ·have q':H b=some (.own x):=by
    grind
   rw[q] at q';cases q';obtain⟨v,hv⟩:=O1;exact#[v,by rw[P6];exact hv]
  ·refine (ok b u q).stay (λc v hc r=>k c v ?_ r) (λc r=>jB (Ts c b r) r) λc xs r=>by rw[jj<|Tt c xs r];exact r
   rcases hc with rfl|hc
   ·exact P6
   ·grind
end
structure Un (fs ex:DZ) (H H':Hp) (h h':Heap):Prop where
 keep:∀b o,h.get? b=some o->H b=none->b ∉ fs->b ∉ ex->h'.get? b=some o
 slot:∀b o,h.get? b=some o->H b=none->b∈fs->b ∉ ex->∃sl,h'.get? b=some { o with slots:=sl }
 free:∀b o,h.get? b=some o->H b=none->b ∉ ex->H' b=none
 there:∀b o,h.get? b=some o->b ∉ ex->∃o',h'.get? b=some o'
 tups:∀b xs,H b=some (.tup xs)->H' b=some (.tup xs)
 frzs:∀b o u,H b=some (.frz o u)->H' b=some (.frz o u)
 tbls:∀b ps,H b=some (.tbl ps)->∃more,H' b=some (.tbl<|ps++more)
section
variable {fs fs' ex ex':DZ}{H H1 H2:Hp}{h h1 h2 h':Heap}{a x e:Addr}{o:HO}
theorem Un.any (u:Un fs ex H H1 h h1) {b:Addr} {ob:Obj} (q:h.get? b=some ob) (n:H b=none) (hx:b ∉ ex):∃sl,h1.get? b=some { ob with slots:=sl }:=by
 by_cases hb:b∈fs
 ·exact u.slot b ob q n hb hx
 ·exact#[ob.slots,u.keep b ob q n hb hx]
theorem Un.kept (k:∀b u,h.get? b=some u->h'.get? b=some u):Un fs ex H H h h' :=
 #[λb ob q _ _ _=>k b ob q,λb ob q _ _ _=>#[ob.slots,k b ob q],λ_ _ _ n _=>n,λb ob q _=>#[ob,k b ob q],λ_ _ q=>q,λ_ _ _ q=>q,λ_ ps q=>#[(Ya []),by rw[q];simp]]
theorem Un.refl:Un fs ex H H h h:=Un.kept λ_ _ q=>q
theorem Un.laid (k:∀b u,h.get? b=some u->h'.get? b=some u) (hp:h.objs.size<=a) (hn:H a=none):Un fs ex H (upd H a o) h h' where
 keep:=λb u q _ _ _=>k b u q
 slot:=λb u q _ _ _=>#[u.slots,k b u q]
 free:=λb u q n _=>by rw[jj<|yJ<|yw (yq q) hp];exact n
 there:=λb u q _=>#[u,k b u q]
 tups:=λb xs q=>by rw[jj<|jh q hn];exact q
 frzs:=λb u xs q=>by rw[jj<|jh q hn];exact q
 tbls:=λb ps q=>#[(Ya []),by rw[jj<|jh q hn,q];simp]
theorem Un.write (mu:fO (H x)) (he:e=x\/H e=some (.own x)) (k:∀b u,b≠e->h.get? b=some u->h'.get? b=some u) (O1:∃u,h'.get? e=some u):Un fs ex H (upd H x o) h h':=by
 have hx:∀b,H b=none->b≠x:=λb n z=>by subst z;rw[n] at mu;exact mu
 have hb:∀b,H b=none->b≠e:=λb n z=>by
  grind
 have hm:∀b u,H b=some u->¬fO (some u)->b≠x:=λb u q nm z=>by grind
 refine#[λb u q n _ _=>k b u (hb b n) q,λb u q n _ _=>#[u.slots,k b u (hb b n) q],λb u q n _=>jB (hx b n) n,λb u q _=>?_,
  λb xs q=>jB (hm b _ q λz=>z) q,λb u xs q=>jB (hm b _ q λz=>z) q,λb ps q=>#[(Ya []),by rw[jj (hm b _ q λz=>z),q];simp]]
 by_cases P6:b=e
 ·subst P6;exact O1
 ·exact#[u,k b u P6 q]
end
def sV (h:Heap) (H:Hp):List Addr:=(Yk h.objs.size).filter λa=>(H a).isSome
def zG (h:Heap) (H:Hp):Heap:=hideAll h (sV h H)
theorem iJ (h:Heap) (H:Hp):(zG h H).objs.size=h.objs.size:=PySem.W.hideAll_size _ _
theorem p5 {b:Addr}{o:Obj} (e:h.get? b=some o) (n:H b=none):(zG h H).get? b=some o :=
 hideAll_get _ e λhm=>by
  have q:(H b).isSome=true:=(yZ.mp hm).2;rw[n] at q;simp at q
theorem t5 {b:Addr}{o:Obj} (e:(zG h H).get? b=some o):h.get? b=some o/\H b=none:=by
 have e':h.get? b=some o:=of_hideAll (sV h H) e;refine#[e',?_];cases q:H b with
 | none=>rfl
 | some x =>
  have hm:b∈sV h H:=yZ.mpr #[Qs.mpr<|yq e',by simp [q]];have z:(zG h H).get? b=none:=hideAll_none (sV h H) hm;rw[z] at e;cases e
structure Mod (K:DS) (mg:DV) (base:Heap):Prop where
 kin:K.In base
 glob:base.Ns mainGlobals mg
 blt:∃mb,base.Ns builtinsNs mb/\∀x:Str,x≠"__name__"->mb x=bootBuiltins x
 nolimit:base.NoLimit
structure Cx where
 prog:Program
 w:World
 K:Frag
 mg:Str->Option Value
 base:Heap
 A:Around
 N:List Str
 s₀:Shared
 H₀:Hp
 env:Env
 outer:List Env
 stack:List Env
 ex:List Addr
 fn:Str->Bool
 calm:Bool
 pn:List (Addr×Obj)
 xe:Value->Shared->Prop
theorem M6 {l:D8} (h:decide l.Nodup=true):l.Nodup:=of_decide_eq_true h
theorem VX {a w K mg base A N s₀ H₀ env outer stack ex fn calm pn xe}:(Cx.mk a w K mg base A N s₀ H₀ env outer stack ex fn calm pn xe).K=K:=rfl
def uo (l:List Env):List Addr:=l.filterMap (·.frame)
abbrev Cx.fs (X:Cx):List Addr:=uo X.outer
def xp (sc:Scope) (x:Str):Prop:=sc.names.lookup x=some .local\/sc.names.lookup x=some .cell\/sc.names.lookup x=some .free
def nR (sc:Scope) (x:Str):Prop:=sc.names.lookup x=some .local\/sc.names.lookup x=some .cell
def CC (env:Env) (h:Heap) (m:DV) (x:Str) (u:Value):Prop :=
 (env.kindOf x=some .local/\m x=some u)\/((env.kindOf x=some .cell\/env.kindOf x=some .free)/\∃c,env.cells.lookup x=some c/\h.IsCell c (some u))
structure Cx.Ok (X:Cx):Prop where
 mod:Mod X.K X.mg X.base
 kind:X.env.scope.kind=.function
 glob:X.env.globals=mainGlobals
 blt:X.env.builtins=builtinsNs
 above:X.s₀.heap.objs.size<=X.env.locals
 inj:∀x y c,X.env.cells.lookup x=some c->X.env.cells.lookup y=some c->x=y
 has:∀x,(X.env.kindOf x=some .cell\/X.env.kindOf x=some .free)->∃c,X.env.cells.lookup x=some c
 cab:∀x c,X.fn x=true->X.env.cells.lookup x=some c->X.s₀.heap.objs.size<=c
 hd:X.calm=true->X.A.handled=none
 frames:X.A.frames=some X.stack
 stk:X.stack=X.outer\/(X.stack=X.env::X.outer/\X.env.frame=some X.env.locals)
 exf:∀b∈X.ex,b≠X.env.locals/\∀x c,X.env.cells.lookup x=some c->c≠b
 bs:∀b o,X.base.get? b=some o->X.s₀.heap.get? b=some o/\X.H₀ b=none
 bsz:X.base.objs.size<=X.s₀.heap.objs.size
 noex:∀b o,X.base.get? b=some o->b ∉ X.ex
 exfs:∀b∈X.ex,b ∉ X.fs
 funs:X.s₀.heap.FunFrames X.base X.outer
 frf:∀b∈X.fs,X.H₀ b=none
inductive ZP (H:Hp):Value->Prop
 | nil:ZP H .none
 | cons {b:Addr} {ob:Obj} {us:D9} {u:HO} {c:Value}:H b=some (.frz ob u)->ob.data=.fields us->us[2]?=some c->ZP H c->ZP H (.ref b)
theorem ZP.mono {H':Hp}{c:Value} (h:ZP H c) (k:∀b o u,H b=some (.frz o u)->H' b=some (.frz o u)):ZP H' c:=by
 induction h with
 | nil=>exact .nil
 | cons q1 q2 q3 _ ih=>exact .cons (k _ _ _ q1) q2 q3 ih
theorem ZP.chn {w:World}{c:Value} (n:ZP H c) (ok:Jh P w H h):∃D,ZA h D c/\∀b∈D,∃o u,H b=some (.frz o u):=by
 induction n with
 | nil=>exact#[[],.nil,λb hb=>absurd hb (by simp)]
 | @cons b ob us u c q1 q2 q3 _ ih =>
  obtain⟨D,m,l⟩:=ih;refine#[b::D,.cons (by simp) (ok b _ q1).1 q2 q3 (m.kept (λ_ _ _ e=>e) λd hd=>yH _ hd),λd hd=>?_];rcases yz.mp hd with rfl|hd
  ·exact#[_,_,q1]
  ·exact l d hd
def nM (A:Around) (H:Hp):Prop:=A.handled=none\/∃ea:Addr,A.handled=some (.ref ea)/\ZP H (.ref ea)
theorem nM.mono {A:Around}{H':Hp} (h:nM A H) (k:∀b o u,H b=some (.frz o u)->H' b=some (.frz o u)):nM A H':=by
 rcases h with z|⟨ea,h1,h2⟩
 ·exact .inl z
 ·exact .inr #[ea,h1,h2.mono k]
theorem nM.now {w:World}{A:Around} (n:nM A H) (ok:Jh P w H h):ZT A h:=by
 rcases n with z|⟨ea,h1,h2⟩
 ·exact#[[],.inl z]
 ·obtain⟨D,m,_⟩:=h2.chn ok;exact#[D,.inr #[ea,h1,m]]
structure jo (X:Cx) (pins:DW) (σ:List (Option V)) (H:Hp) (s:Shared):Prop where
 ok:X.Ok
 os:s.os=X.s₀.os
 bare:AllBare s.gens
 base:Un X.fs X.ex X.H₀ H X.s₀.heap s.heap
 loc:∃m,s.heap.Ns X.env.locals m/\∀(i:Nat) (x:Str) (v:V),X.N[i]?=some x->σ[i]?=some (some v)->xp X.env.scope x->∃u,jI v u/\CC X.env s.heap m x u
 cell:∀x c,X.env.cells.lookup x=some c->∃v,s.heap.IsCell c v
 free:H X.env.locals=none
 freeC:∀x c,X.env.cells.lookup x=some c->H c=none
 pin:∀p∈X.pn++pins,s.heap.get? p.1=some p.2/\H p.1=none/\p.1≠X.env.locals/\p.1 ∉ X.fs/\∀v,p.2.data≠.cell v
 hok:Jh X.prog X.w H s.heap
 len:σ.length=X.N.length
 hn:nM X.A H
section
variable {X:Cx}{pins:DW}{σ:List (Option V)}{H H':Hp}{s:Shared}{h':Heap}
theorem Cx.Ok.nofr (ok:X.Ok) {b:Addr} {o:Obj} (e:X.base.get? b=some o):b ∉ X.fs:=λhb=>by
 have:=(ok.funs.mem hb).1;rw[e] at this;cases this
theorem jo.bs (I:jo X pins σ H s):∀b o,X.base.get? b=some o->s.heap.get? b=some o/\H b=none:=λb o e =>
 #[I.base.keep b o (I.ok.bs b o e).1 (I.ok.bs b o e).2 (I.ok.nofr e)<|I.ok.noex b o e,I.base.free b o (I.ok.bs b o e).1 (I.ok.bs b o e).2<|I.ok.noex b o e]
theorem jo.bk (I:jo X pins σ H s):∀b o,X.base.get? b=some o->s.heap.get? b=some o:=λb o e=>(I.bs b o e).1
theorem jo.mod (I:jo X pins σ H s):Mod X.K X.mg X.base:=I.ok.mod
theorem jo.kIn (I:jo X pins σ H s):X.K.In s.heap:=I.ok.mod.kin.keeps I.bk
theorem jo.fr (I:jo X pins σ H s):∃m,Fr X.base X.env.locals s.heap m :=
 let ⟨m,hn,_⟩:=I.loc
 #[m,hn,I.bk,ym I.ok.bsz I.ok.above]
theorem jo.lt (I:jo X pins σ H s):X.env.locals<s.heap.objs.size:=let ⟨_,hn,_⟩:=I.loc;hn.lt
theorem jo.sz (I:jo X pins σ H s):X.s₀.heap.objs.size<=s.heap.objs.size:=ym I.ok.above (aaa I.lt)
theorem jo.nofs (I:jo X pins σ H s) {a:Addr} (h:s.heap.objs.size<=a):a ∉ X.fs:=λhb=>by
 obtain⟨_,o,ho,_⟩:=I.ok.funs.mem hb;exact absurd (yw (yq ho)<|ym I.sz h) (QB _)
theorem jo.cne (I:jo X pins σ H s):∀x c,X.env.cells.lookup x=some c->c≠X.env.locals:=λx c e z=>by
 obtain⟨v,o,ho,hd⟩:=I.cell x c e;obtain⟨m,⟨o',es,ep,EG,P7,_⟩,_⟩:=I.loc;rw[z,EG] at ho;cases ho;rw[P7] at hd;cases hd
theorem jo.funs (I:jo X pins σ H s):s.heap.FunFrames X.base X.outer:=by
 have all:∀(l:List Env),(∀b∈uo l,b∈X.fs)->X.s₀.heap.FunFrames X.base l->s.heap.FunFrames X.base l:=by
  intro l
  induction l with
  | nil=>intro _ _;trivial
  | cons env r ih =>
   intro hs hl;obtain⟨hk,⟨L,o,hf,hn,ho,hd⟩,hr⟩:=hl;have hL:=hs L (by unfold uo;rw[QY,hf];exact yE);obtain⟨sl,e⟩:=I.base.slot L o ho (I.ok.frf L hL) hL λz=>I.ok.exfs L z hL;exact#[hk,#[L,_,hf,hn,e,hd],ih (λb hb=>hs b (by unfold uo;rw[QY,hf];exact yH _ hb)) hr]
 exact all X.outer (λ_ hb=>hb) I.ok.funs
theorem jo.stack (I:jo X pins σ H s):s.heap.FunFrames X.base X.stack:=by
 rcases I.ok.stk with e|⟨e,hf⟩
 ·rw[e];exact I.funs
 ·rw[e];obtain⟨m,hn,_⟩:=I.loc;refine .cons (by rw[I.ok.kind];decide) hf hn ?_ I.funs;exact QK (ym I.ok.bsz I.ok.above)
theorem jo.stkSub (I:jo X pins σ H s):∀b∈uo X.stack,b∈X.env.locals::X.fs:=λb hb=>by
 rcases I.ok.stk with e|⟨e,hf⟩
 ·grind
 ·rw[e] at hb;unfold uo at hb;rw[QY,hf] at hb;exact hb
theorem jo.stkFree (I:jo X pins σ H s):∀b∈uo X.stack,H b=none:=λb hb=>by
 rcases yz.mp (I.stkSub b hb) with e|hb
 ·rw[e];exact I.free
 ·obtain⟨_,o,ho,_⟩:=I.ok.funs.mem hb;exact I.base.free b o ho (I.ok.frf b hb) λz=>I.ok.exfs b z hb
theorem jo.step {g':Array GenState}{t':Nat}{d':Drawn}{ch:DZ} (I:jo X pins σ H s)
  (Fn:∀b∈ch,(b∈X.ex\/X.s₀.heap.objs.size<=b)/\b≠X.env.locals/\(∀x c,X.env.cells.lookup x=some c->c≠b)/\∀p∈X.pn++pins,p.1≠b)
  (keep:∀b o,b≠X.env.locals->b ∉ X.fs->b ∉ ch->s.heap.get? b=some o->H b=none->h'.get? b=some o)
  (slot:∀b o,b≠X.env.locals->b∈X.fs->b ∉ ch->s.heap.get? b=some o->H b=none->∃sl,h'.get? b=some { o with slots:=sl }) (free:∀b o,b ∉ ch->s.heap.get? b=some o->H b=none->H' b=none)
  (there:∀b o,b ∉ ch->s.heap.get? b=some o->∃o',h'.get? b=some o')
  (tups:∀b xs,H b=some (.tup xs)->H' b=some (.tup xs)) (frzs:∀b o u,H b=some (.frz o u)->H' b=some (.frz o u)) (tbls:∀b ps,H b=some (.tbl ps)->∃more,H' b=some (.tbl<|ps++more))
  (ns:∀m,s.heap.Ns X.env.locals m->h'.Ns X.env.locals m) (hok:Jh X.prog X.w H' h') (hg:AllBare g') :
  jo X pins σ H' { s with heap:=h',gens:=g',drawn:=d',toks:=t' }:=by
 have X3:∀b o,X.s₀.heap.get? b=some o->b≠X.env.locals:=λb o e=>yJ<|yw (yq e) I.ok.above;have O2:∀b o,X.s₀.heap.get? b=some o->b ∉ X.ex->b ∉ ch:=λb o e hx hb=>by
  rcases (Fn b hb).1 with z|z
  ·exact hx z
  ·exact absurd (yw (yq e) z) (QB _)
 have cellK:∀x c,X.env.cells.lookup x=some c->∀v,s.heap.IsCell c v->h'.IsCell c v:=λx c e v #[o,ho,hd]=>by
  have Lx:=λz=>(Fn c z).2.2.1 x c e rfl;by_cases hc:c∈X.fs
  ·obtain⟨sl,q⟩:=slot c o (I.cne x c e) hc Lx ho<|I.freeC x c e;exact#[_,q,hd]
  ·exact#[o,keep c o (I.cne x c e) hc Lx ho<|I.freeC x c e,hd]
 refine#[I.ok,I.os,hg,#[λb o e n hb hx=>?_,λb o e n hb hx=>?_,λb o e n hx=>?_,λb o e hx=>?_,λb xs e=>tups b xs<|I.base.tups b xs e,λb o xs e=>frzs b o xs<|I.base.frzs b o xs e,λb ps e=>?_],?_,λx c e=>?_,?_,λx c e=>?_,λp hp=>?_,hok,I.len,I.hn.mono frzs]
 ·exact keep b o (X3 b o e) hb (O2 b o e hx) (I.base.keep b o e n hb hx) (I.base.free b o e n hx)
 ·obtain⟨sl,e1⟩:=I.base.slot b o e n hb hx;obtain⟨Tu,e2⟩:=slot b _ (X3 b o e) hb (O2 b o e hx) e1<|I.base.free b o e n hx;exact#[Tu,e2]
 ·obtain⟨o',e1⟩:=I.base.there b o e hx;exact free b o' (O2 b o e hx) e1 (I.base.free b o e n hx)
 ·obtain⟨o',e1⟩:=I.base.there b o e hx;exact there b o' (O2 b o e hx) e1
 ·obtain⟨m1,e1⟩:=I.base.tbls b ps e;obtain⟨m2,e2⟩:=tbls b _ e1;exact#[_,by rw[e2,Array.append_assoc]]
 ·obtain⟨m,hn,hl⟩:=I.loc;refine#[m,ns m hn,λi x v e1 e2 e3=>?_];obtain⟨u,r,l⟩:=hl i x v e1 e2 e3;refine#[u,r,?_];rcases l with l|⟨k,c,e,z⟩
  ·exact .inl l
  ·exact .inr #[k,c,e,cellK x c e _ z]
 ·obtain⟨v,z⟩:=I.cell x c e;exact#[v,cellK x c e v z]
 ·obtain⟨m,⟨o,_,_,ho,_⟩,_⟩:=I.loc;exact free _ o (λz=>(Fn _ z).2.1 rfl) ho I.free
 ·obtain⟨v,o,ho,hd⟩:=I.cell x c e;exact free c o (λz=>(Fn c z).2.2.1 x c e rfl) ho (I.freeC x c e)
 ·obtain⟨e,n,ne,nf,d⟩:=I.pin p hp;have Lx:=λz=>(Fn _ z).2.2.2 p hp rfl;exact#[keep _ _ ne nf Lx e n,free _ _ Lx e n,ne,nf,d]
theorem jo.un (I:jo X pins σ H s) (u:Un X.fs [] H H' s.heap h') (hok:Jh X.prog X.w H' h'):jo X pins σ H' { s with heap:=h',toks:=t' }:=by
 obtain⟨m,⟨o,es,ep,ho,r⟩,_⟩:=id I.loc;obtain⟨sl,hL⟩:=u.any ho I.free (by simp)
 exact I.step (ch:=[]) (λ_ z=>nomatch z) (λb o _ hb _ e n=>u.keep b o e n hb (by simp)) (λb o _ hb _ e n=>u.slot b o e n hb (by simp)) (λb o _ e n=>u.free b o e n (by simp)) (λb o _ e=>u.there b o e (by simp)) u.tups u.frzs u.tbls (λm' hm=>by
  obtain⟨o',FD,P8,EG,r'⟩:=hm;rw[ho] at EG;cases EG;exact#[_,FD,P8,hL,r']) hok I.bare
theorem jo.call (I:jo X pins σ H s) (u:Un (uo X.stack) ch H H' s.heap h') (hok:Jh X.prog X.w H' h') (hg:AllBare g')
  (Fn:∀b∈ch,(b∈X.ex\/X.s₀.heap.objs.size<=b)/\b≠X.env.locals/\(∀x c,X.env.cells.lookup x=some c->c≠b)/\∀p∈X.pn++pins,p.1≠b) :
  jo X pins σ H' { s with heap:=h',gens:=g',drawn:=d',toks:=t' }:=by
 obtain⟨m,⟨o,es,ep,ho,r⟩,_⟩:=id I.loc;obtain⟨sl,hL⟩:=u.any ho I.free λz=>(Fn _ z).2.1 rfl;exact I.step Fn (λb o hL hb hc e n=>u.keep b o e n (λz=>(yz.mp<|I.stkSub b z).elim hL hb) hc) (λb o _ _ hc e n=>u.any e n hc) (λb o hc e n=>u.free b o e n hc) (λb o hc e=>u.there b o e hc) u.tups u.frzs u.tbls (λm' hm=>by
  obtain⟨o',FD,P8,EG,r'⟩:=hm;rw[ho] at EG;cases EG;exact#[_,FD,P8,hL,r']) hok hg
theorem jo.turned (I:jo X pins σ H s) (k:∀b o,b≠it->s.heap.get? b=some o->h'.get? b=some o) (hn:H it=none) (hL:it≠X.env.locals)
  (h1:it∈X.ex\/X.s₀.heap.objs.size<=it) (h2:∀x c,X.env.cells.lookup x=some c->c≠it) (h3:∀p∈X.pn++pins,p.1≠it):jo X pins σ H { s with heap:=h',toks:=t' }:=by
 have j':∀b u,H b=some u->b≠it:=λb u e z=>by rw[z,hn] at e;cases e
 refine I.step (g':=s.gens) (d':=s.drawn) (ch:=[it]) (λb hb=>?_) (λb o _ _ hc e _=>k b o (λz=>hc (by simp [z])) e) (λb o _ _ hc e _=>#[o.slots,k b o (λz=>hc (by simp [z])) e]) (λ_ _ _ _ n=>n)
  (λb o hc e=>#[o,k b o (λz=>hc (by simp [z])) e]) (λ_ _ e=>e) (λ_ _ _ e=>e) (λb ps e=>#[(Ya []),by rw[e];simp]) (λm hm=>?_) (λb u e=>?_) I.bare
 ·have e:b=it:=by simpa using hb
  subst e;exact#[h1,hL,h2,h3]
 ·obtain⟨o,es,ep,ho,r⟩:=hm;exact#[o,es,ep,k _ o (yG hL) ho,r]
 ·refine (I.hok b u e).stay (λc v hc q=>k c v ?_ q) (λ_ q=>q) λ_ _ q=>q;rcases hc with z|z
  ·rw[z];exact j' b u e
  ·exact j' c _ z
theorem jo.tok (I:jo X pins σ H s) (t:Nat):jo X pins σ H { s with toks:=t }:=I.un Un.refl I.hok
theorem jo.kept (I:jo X pins σ H s) (k:∀b u,s.heap.get? b=some u->h'.get? b=some u):jo X pins σ H { s with heap:=h',toks:=t' }:=I.un (Un.kept k) (I.hok.kept k)
theorem jo.laid {a:Addr} (I:jo X pins σ H s) (k:∀b u,s.heap.get? b=some u->h'.get? b=some u) (hp:s.heap.objs.size<=a) (new:Jz X.prog X.w (upd H a o) h' a o) :
  jo X pins σ (upd H a o) { s with heap:=h',toks:=t' }:=I.un (Un.laid k hp<|I.hok.fresh hp) (I.hok.laid k hp new)
theorem jo.write {x e:Addr} (I:jo X pins σ H s) (mu:fO (H x)) (he:e=x\/H e=some (.own x)) (k:∀b u,b≠e->s.heap.get? b=some u->h'.get? b=some u) (O1:∃u,h'.get? e=some u)
  (new:Jz X.prog X.w (upd H x o) h' x o):jo X pins σ (upd H x o) { s with heap:=h',toks:=t' }:=I.un (Un.write mu he k O1) (I.hok.write mu he k O1 new)
theorem jo.weak {σ':List (Option V)} (I:jo X pins σ H s) (hl:σ'.length=σ.length) (w:∀(i:Nat) v,σ'[i]?=some (some v)->σ[i]?=some (some v)):jo X pins σ' H s :=
 #[I.ok,I.os,I.bare,I.base,let ⟨m,hn,IG⟩:=I.loc;#[m,hn,λi x v e1 e2 e3=>IG i x v e1 (w i v e2) e3],I.cell,I.free,I.freeC,I.pin,I.hok,hl.trans I.len,I.hn]
theorem jo.pins_of {Ly:DW} (I:jo X pins σ H s) (h:∀p∈Ly,s.heap.get? p.1=some p.2/\H p.1=none/\p.1≠X.env.locals/\p.1 ∉ X.fs/\∀v,p.2.data≠.cell v):jo X Ly σ H s :=
 #[I.ok,I.os,I.bare,I.base,I.loc,I.cell,I.free,I.freeC,λp hp=>(yj.mp hp).elim (λz=>I.pin p<|yu _ z)<|h p,I.hok,I.len,I.hn]
theorem NQ {N:D8} (hN:N.Nodup) {i j:Nat} {x:Str} (a:N[i]?=some x) (b:N[j]?=some x):i=j:=by
 obtain⟨h1,e1⟩:=yd.mp a;obtain⟨h2,e2⟩:=yd.mp b;exact (List.getElem_inj hN).mp (e1.trans e2.symm)
theorem Md {A:Around}{i:Nat}{x:Str}{v:V}{u:Value}{Q:DP} (I:jo X pins σ H s) (hN:X.N.Nodup) (hi:X.N[i]?=some x) (hx:nR X.env.scope x) (r:jI v u)
  (h:∀s',jo X pins (σ.set i<|some v) H s'->(∃a,Heap.SameBut a s.heap s'.heap/\(a=X.env.locals\/X.env.cells.lookup x=some a))->Q () s') (hf:autoParam (X.fn x=true\/X.env.scope.names.lookup x=some .local) zzf):wpAny M A (storeName X.env x u) Q E s:=by
 obtain⟨m,hn,hl⟩:=id I.loc;have Tv:(X.env.scope.kind==.class||(X.env.scope.kind==.module&&X.env.locals != X.env.globals))=false:=by rw[I.ok.kind];rfl
 have j₁:i<σ.length:=by rw[I.len];exact (yd.mp hi).1
 have cne:=I.cne;have tracked:∀{a:Addr} {h':Heap},(∃o,s.heap.get? a=some o/\H a=none)->Heap.SameBut a s.heap h'->Jh X.prog X.w H h':=λ{a h'} ha hs b ob e=>by
  obtain⟨_,_,Hm⟩:=ha;refine (I.hok b ob e).stay (λc w' hc q=>(hs.2 c ?_).trans q) (λ_ q=>q) λ_ _ q=>q;rintro rfl;rcases hc with rfl|hc
  ·rw[Hm] at e;cases e
  ·rw[Hm] at hc;cases hc
 rcases hx with hk|hk
 ·refine wpAny_storeName_local hk hn (λh' HX hs=>?_) Tv;obtain⟨oL,_,_,hoL,_⟩:=id hn;refine h _ #[I.ok,I.os,I.bare,#[λb o e n hb hx=>?_,λb o e n hb hx=>?_,I.base.free,λb o e hx=>?_,I.base.tups,I.base.frzs,I.base.tbls],#[_,HX,λj y v' e1 e2 e3=>?_],λy c e=>?_,I.free,I.freeC,λp hp=>?_,tracked #[oL,hoL,I.free] hs,by simpa using I.len,I.hn] #[_,hs,.inl rfl]
  ·exact (hs.2 b<|yJ<|yw (yq e) I.ok.above).trans (I.base.keep b o e n hb hx)
  ·obtain⟨sl,e1⟩:=I.base.slot b o e n hb hx;exact#[sl,(hs.2 b<|yJ<|yw (yq e) I.ok.above).trans e1]
  ·obtain⟨o',e1⟩:=I.base.there b o e hx;exact#[o',(hs.2 b<|yJ<|yw (yq e) I.ok.above).trans e1]
  ·by_cases hj:j=i
   ·subst hj;rw[hi] at e1;cases e1;rw[abl j₁] at e2;cases e2;exact#[u,r,.inl #[hk,by simp]]
   ·rw[abv<|yG hj] at e2;obtain⟨u',r',q⟩:=hl j y v' e1 e2 e3;refine#[u',r',?_];rcases q with ⟨k,e⟩|⟨k,c,e,z⟩
    ·refine .inl #[k,?_];have:y≠x:=λe=>hj<|NQ hN e1<|e▸hi;simp [this,e]
    ·exact .inr #[k,c,e,z.sameBut hs<|cne y c e]
  ·obtain⟨w',z⟩:=I.cell y c e;exact#[w',z.sameBut hs<|cne y c e]
  ·obtain⟨e,n,ne,nf,d⟩:=I.pin p hp;exact#[(hs.2 _ ne).trans e,n,ne,nf,d]
 ·have EV:X.fn x=true:=by
   grind
  obtain⟨c,hc⟩:=I.ok.has x<|.inl hk;obtain⟨w',z⟩:=I.cell x c hc;refine wpAny_storeName_cell I.ok.kind hk hc z (λh' Fo hs=>?_);obtain⟨oc,EO,Tx⟩:=id z;refine h _ #[I.ok,I.os,I.bare,#[λb o e n hb hx=>?_,λb o e n hb hx=>?_,I.base.free,λb o e hx=>?_,I.base.tups,I.base.frzs,I.base.tbls],#[m,hn.sameBut hs<|yG<|cne x c hc,λj y v' e1 e2 e3=>?_],λy c' e=>?_,I.free,I.freeC,λp hp=>?_,tracked #[oc,EO,I.freeC x c hc] hs,by simpa using I.len,I.hn] #[c,hs,.inr hc]
  ·exact (hs.2 b<|yJ<|yw (yq e)<|I.ok.cab x c EV hc).trans (I.base.keep b o e n hb hx)
  ·obtain⟨sl,e1⟩:=I.base.slot b o e n hb hx;exact#[sl,(hs.2 b<|yJ<|yw (yq e)<|I.ok.cab x c EV hc).trans e1]
  ·obtain⟨o',e1⟩:=I.base.there b o e hx;exact#[o',(hs.2 b<|yJ<|yw (yq e)<|I.ok.cab x c EV hc).trans e1]
  ·by_cases hj:j=i
   ·subst hj;rw[hi] at e1;cases e1;rw[abl j₁] at e2;cases e2;exact#[u,r,.inr #[.inl hk,c,hc,Fo]]
   ·rw[abv<|yG hj] at e2;obtain⟨u',r',q⟩:=hl j y v' e1 e2 e3;refine#[u',r',?_];rcases q with q|⟨k,c',e,z'⟩
    ·exact .inl q
    ·refine .inr #[k,c',e,z'.sameBut hs ?_];rintro rfl;exact hj (NQ hN e1<|I.ok.inj _ _ _ e hc▸hi)
  ·by_cases IW:c'=c
   ·subst IW;exact#[_,Fo]
   ·obtain⟨w2,z2⟩:=I.cell y c' e;exact#[w2,z2.sameBut hs IW]
  ·obtain⟨e,n,ne,nf,d⟩:=I.pin p hp;refine#[(hs.2 _ ?_).trans e,n,ne,nf,d];intro q;rw[q,EO] at e;have q':=Yb e;exact d w' (by rw[<-q'];exact Tx)
theorem Zy {A:Around}{i:Nat}{x:Str}{v:V}{u:Value}{Q:DP} (I:jo X pins σ H s) (hN:X.N.Nodup) (hi:X.N[i]?=some x) (hx:nR X.env.scope x) (r:jI v u)
  (h:∀s',jo X pins (σ.set i<|some v) H s'->Q () s') (hf:autoParam (X.fn x=true\/X.env.scope.names.lookup x=some .local) zzf):wpAny M A (storeName X.env x u) Q E s :=
 Md I hN hi hx r (λs' I' _=>h s' I') hf
theorem jo.call' {s':Shared} (I:jo X pins σ H s) (ho:s'.os=s.os) (u:Un (uo X.stack) ch H H' s.heap s'.heap) (hok:Jh X.prog X.w H' s'.heap) (hg:AllBare s'.gens)
  (Fn:∀b∈ch,(b∈X.ex\/X.s₀.heap.objs.size<=b)/\b≠X.env.locals/\(∀x c,X.env.cells.lookup x=some c->c≠b)/\∀p∈X.pn++pins,p.1≠b):jo X pins σ H' s':=by
 obtain⟨h',g',d',t',o'⟩:=s';have e:=ho;subst e;exact I.call u hok hg Fn
end
abbrev XK:=Value->Option Addr->Hp->Prop
abbrev St:=List (Option V)
abbrev VK:=V->Hp->Prop
abbrev TE:=St->Hp->VK->Prop
abbrev TT:=St->Hp->(Bool->Hp->Prop)->Prop
abbrev TA:=St->Hp->(List V->Hp->Prop)->Prop
structure zD where
 nx:St->Hp->Prop
 rt:VK
 bk:St->Hp->Prop:=λ_ _=>False
 ct:St->Hp->Prop:=λ_ _=>False
abbrev TS:=zD->St->Hp->Prop
inductive Cc (X:Cx) (pins:DW) (σ:St) (Q:VK) (u:Value) (s':Shared):Prop
 | mk (v:_) (H':_) (h0:jo X pins σ H' s') (h1:jI v u) (h2:Q v H'):Cc X pins σ Q u s'
def EP (X:Cx) (pins:DW) (σ:St) (Q:VK) (u:Value) (s':Shared):Prop:=Cc X pins σ Q u s'
inductive Ci (X:Cx) (pins:DW) (σ:St) (Q:Bool->Hp->Prop) (b:Bool) (s':Shared):Prop
 | mk (H':_) (h0:jo X pins σ H' s') (h1:Q b H'):Ci X pins σ Q b s'
def TP (X:Cx) (pins:DW) (σ:St) (Q:Bool->Hp->Prop) (b:Bool) (s':Shared):Prop:=Ci X pins σ Q b s'
inductive B0 (X:Cx) (pins:DW) (σ:St) (Q:List V->Hp->Prop) (us:DY) (s':Shared):Prop
 | mk (vs:_) (H':_) (h0:jo X pins σ H' s') (h1:jG vs us) (h2:Q vs H'):B0 X pins σ Q us s'
def AP (X:Cx) (pins:DW) (σ:St) (Q:List V->Hp->Prop) (us:DY) (s':Shared):Prop:=B0 X pins σ Q us s'
def SP (X:Cx) (pins:DW) (D:zD) (f:Flow) (s':Shared):Prop :=
 match f with
 | .next=>∃σ' H',jo X pins σ' H' s'/\D.nx σ' H'
 | .brk=>∃σ' H',jo X pins σ' H' s'/\D.bk σ' H'
 | .cont=>∃σ' H',jo X pins σ' H' s'/\D.ct σ' H'
 | .ret u=>∃v σ' H',jo X pins σ' H' s'/\jI v u/\D.rt v H'
def PE (X:Cx) (e:Expr) (t:TE):Prop :=
 ∀(pins:DW) (s:Shared) (σ:St) (H:Hp) (Q:VK),jo X pins σ H s->t σ H Q->wpAny (model X.prog X.w) X.A (eval e X.env) (EP X pins σ Q) X.xe s
def PT (X:Cx) (e:Expr) (t:TT):Prop :=
 ∀(pins:DW) (s:Shared) (σ:St) (H:Hp) (Q:Bool->Hp->Prop),jo X pins σ H s->t σ H Q->wpAny (model X.prog X.w) X.A (isTrue e X.env<|eval e X.env) (TP X pins σ Q) X.xe s
def PW (X:Cx) (e:Expr) (t:TT):Prop :=
 ∀(whole:Sem Value) (pins:DW) (s:Shared) (σ:St) (H:Hp) (Q:Bool->Hp->Prop),jo X pins σ H s->t σ H Q->wpAny (model X.prog X.w) X.A (isTrue e X.env whole) (TP X pins σ Q) X.xe s
theorem PW.pt {t:TT} (h:PW X e t):PT X e t:=h _
def PA (X:Cx) (es:Ea) (t:TA):Prop :=
 ∀(pos:Pos) (pins:DW) (s:Shared) (σ:St) (H:Hp) (Q:List V->Hp->Prop),jo X pins σ H s->t σ H Q->wpAny (model X.prog X.w) X.A (spliced<|backTo pos<|starEach es X.env) (AP X pins σ Q) X.xe s
def PS (X:Cx) (st:Stmt) (t:TS):Prop :=
 ∀(pins:DW) (s:Shared) (σ:St) (H:Hp) (D:zD),jo X pins σ H s->t D σ H->wpAny (model X.prog X.w) X.A (exec st X.env) (SP X pins D) X.xe s
def zO (X:Cx) (st:List Stmt) (t:TS):Prop :=
 ∀(pins:DW) (s:Shared) (σ:St) (H:Hp) (D:zD),jo X pins σ H s->t D σ H->wpAny (model X.prog X.w) X.A (execs st X.env) (SP X pins D) X.xe s
theorem jE {α:Type}{t:Sem α}{Q Q':α->Shared->Prop}{A:Around} (h:wpAny M A t Q E s) (hQ:∀a s,Q a s->Q' a s):wpAny M A t Q' E s:=wpAny_mono h hQ λ_ _ x=>x
section
variable {X:Cx}
theorem DN {a b:Expr}{ta tb:TE} (ha:PE X a ta) (hb:PE X b tb) (I:jo X pins σ H s) (h:ta σ H λx H1=>tb σ H1 λy H2=>R x y H2)
  {α:Type} {Q:α->Shared->Prop} {f:Value->Value->Sem α}
  (hf:∀v u s2 x y H2,jo X pins σ H2 s2->jI x v->jI y u->R x y H2->wpAny (model X.prog X.w) X.A (f v u) Q X.xe s2) :
  wpAny (model X.prog X.w) X.A (eval a X.env) (λv s₁=>wpAny (model X.prog X.w) X.A (eval b X.env) (λu s₂=>wpAny (model X.prog X.w) X.A (f v u) Q X.xe s₂) X.xe s₁) X.xe s:=by
 refine jE (ha pins s σ H _ I h) λv s1 #[x,H1,I1,r1,q1]=>?_;refine jE (hb pins s1 σ H1 _ I1 q1) λu s2 #[y,H2,I2,r2,q2]=>?_;exact hf v u s2 x y H2 I2 r1 r2 q2
inductive sU (i:Nat) (σ:St) (H:Hp) (Q:VK):Prop
 | mk (v:_) (h0:σ[i]?=some (some v)) (h1:Q v H):sU i σ H Q
abbrev mn (i:Nat):TE:=λσ H Q=>match σ[i]? with|some (some v)=>Q v H|_=>False
theorem mn.out {i:Nat} (h:mn i σ H Q):sU i σ H Q:=by
 unfold mn at h
 split at h
 ·exact#[_,‹_›,h]
 ·cases h
def tC (v:V):TE:=λ_ H Q=>Q v H
theorem Ay {i:Nat}{x:Str}{pos:Pos} (hN:X.N[i]?=some x) (hv:xp X.env.scope x) (hd:autoParam ((x==("__debug__":Str))=false) gt) (FE:autoParam ((x==("__classdict__":Str))=false) gt):PE X (.Name x pos) (mn i):=by
 intro pins s σ H Q I h;obtain⟨v,e,h⟩:=mn.out h;obtain⟨m,hn,hl⟩:=I.loc;obtain⟨u,r,l⟩:=hl i x v hN e hv;have fin:EP X pins σ Q u s:=#[v,H,I,r,h];rcases l with ⟨hk,hm⟩|⟨hk,c,hc,Hn⟩
 ·exact wpAny_Name (wpAny_loadName_local I.ok.kind hk hn hm fin) hd
 ·rcases hk with hk|hk
  ·exact wpAny_Name (wpAny_loadName_cell I.ok.kind hk hc Hn fin) hd
  ·exact wpAny_Name (wpAny_loadName_free I.ok.kind hk hc Hn fin FE) hd
theorem jg {i j pos}:PE X (.Constant (.int i) j pos) (tC<|.int i):=λ_ _ _ H _ I h=>wpAny_Constant_int #[.int i,H,I.tok _,#[_,rfl],h]
theorem VE {b j pos}:PE X (.Constant (.bool b) j pos) (tC<|.bl b):=λ_ _ _ H _ I h=>Constant_bool #[.bl b,H,I,rfl,h]
theorem zb {j pos}:PE X (.Constant .none j pos) (tC .non):=λ_ _ _ H _ I h=>Constant_none #[.non,H,I,rfl,h]
theorem U7 {x j pos}:PE X (.Constant (.str x) j pos) (tC<|.str x):=λ_ _ _ H _ I h=>Calls.Constant_str #[.str x,H,I.tok _,#[_,rfl],h]
def Gl (X:Cx) (x:Str):Prop:=X.env.kindOf x=some .globalImplicit
theorem gY {x:Str}{u:Value}{pos:Pos}{Q:DO} (I:jo X pins σ H s) (hg:Gl X x) (hm:X.mg x=some u) (h:Q u s)
  (hd:autoParam ((x==("__debug__":Str))=false) gt):wpAny (model X.prog X.w) X.A (eval (.Name x pos) X.env) Q E s :=
 Calls.Name_function_global I.ok.kind hg (Calls.loadGlobal_global (by rw[I.ok.glob];exact I.mod.glob.keeps I.bk) hm h) hd
theorem zT {x:Str}{u:Value}{pos:Pos}{Q:DO} (I:jo X pins σ H s) (hg:Gl X x) (hm:X.mg x=none) (hv:bootBuiltins x=some u) (h:Q u s)
  (hn:autoParam (x≠"__name__") gt) (hd:autoParam ((x==("__debug__":Str))=false) gt):wpAny (model X.prog X.w) X.A (eval (.Name x pos) X.env) Q E s:=by
 obtain⟨mb,h1,h2⟩:=I.mod.blt;exact Calls.Name_function_global I.ok.kind hg (Calls.loadGlobal_builtin (by rw[I.ok.glob];exact I.mod.glob.keeps I.bk) hm (by rw[I.ok.blt];exact h1.keeps I.bk) ((h2 x hn).trans hv) h) hd
theorem Va {x:Str}{v:V}{u:Value}{pos:Pos} (hg:Gl X x) (hm:X.mg x=some u) (r:jI v u) (hd:autoParam ((x==("__debug__":Str))=false) gt):PE X (.Name x pos) (tC v) :=
 λ_ _ _ H _ I h=>gY I hg hm #[v,H,I,r,h] hd
theorem z8 {x:Str}{v:V}{u:Value}{pos:Pos} (hg:Gl X x) (hm:X.mg x=none) (hv:bootBuiltins x=some u) (r:jI v u) (hn:autoParam (x≠"__name__") gt) (hd:autoParam ((x==("__debug__":Str))=false) gt):PE X (.Name x pos) (tC v) :=
 λ_ _ _ H _ I h=>zT I hg hm hv #[v,H,I,r,h] hn hd
variable {a b:Expr}{ta tb:TE}{pos:Pos}
def PC (X:Cx) (op:CmpOp) (a b:Expr) (t:TE):Prop :=
 ∀(pins:DW) (s:Shared) (σ:St) (H:Hp) (Q:VK),jo X pins σ H s->t σ H Q ->
  wpAny (model X.prog X.w) X.A (eval a X.env) (λv s₁=>wpAny (model X.prog X.w) X.A (eval b X.env) (λu s₂=>wpAny (model X.prog X.w) X.A (compareOp op v u) (EP X pins σ Q) X.xe s₂) X.xe s₁) X.xe s
theorem NP (b:Expr) {op:CmpOp} (h:op≠.In) (h2:op≠.NotIn):behindInMarks op b=false:=by
 have e1:(op==CmpOp.In)=false:=by grind
 have e2:(op==CmpOp.NotIn)=false:=by grind
 cases b<;>simp [behindInMarks,e1,e2]
def Ba (ta:TE):TE:=λσ H Q=>ta σ H λx H1=>Q (.bl<|decide (x=.non)) H1
def BU (ta:TE):TE:=λσ H Q=>ta σ H λx H1=>Q (.bl<|!decide (x=.non)) H1
theorem jI.none_iff {x:V}{v:Value} (r:jI x v):(v==Value.none)=decide (x=.non):=by
 cases x with
 | non=>cases r;rfl
 | bl _=>cases r;rfl
 | int _=>obtain⟨t,rfl⟩:=r;rfl
 | str _=>obtain⟨t,rfl⟩:=r;rfl
 | byt _=>obtain⟨t,rfl⟩:=r;rfl
 | flt _=>obtain⟨t,rfl⟩:=r;rfl
 | ref _=>cases r;rfl
 | ty _=>cases r;rfl
theorem lT {j pos'} (ha:PE X a ta):PC X .Is a (.Constant .none j pos') (Ba ta):=by
 intro pins s σ H Q I h;refine jE (ha pins s σ H _ I h) λv s1 #[x,H1,I1,r1,q1]=>?_;exact Constant_none (is_none_gen #[.bl _,H1,I1,by rw[r1.none_iff];rfl,q1])
theorem g9 {j pos'} (ha:PE X a ta):PC X .IsNot a (.Constant .none j pos') (BU ta):=by
 intro pins s σ H Q I h;refine jE (ha pins s σ H _ I h) λv s1 #[x,H1,I1,r1,q1]=>?_;exact Constant_none (isnot_none_gen #[_,H1,I1,by rw[r1.none_iff];rfl,q1])
inductive Cz (Q:Bool->Hp->Prop) (x:V) (H1:Hp):Prop
 | mk (c:_) (h0:x=.bl c) (h1:Q c H1):Cz Q x H1
abbrev gJ (Q:Bool->Hp->Prop) (x:V) (H:Hp):Prop:=match x with|.bl c=>Q c H|_=>False
theorem gJ.out {Q:Bool->Hp->Prop}{x:V} (h:gJ Q x H):Cz Q x H:=by
 cases x with
 | bl c=>exact#[c,rfl,h]
 | _=>cases h
def tB (t:TE):TT:=λσ H Q=>t σ H λx H1=>gJ Q x H1
theorem N4 {op:CmpOp}{t:TE} (h:PC X op a b t) (h1:autoParam (behindInMarks op b=false) zzv):PE X (.Compare a [op] [b] pos) t:=λpins s σ H Q I hw=>wpAny_Compare1 (h pins s σ H Q I hw) h1
theorem uw {op:CmpOp}{t:TE} (h:PC X op a b t) (h1:autoParam (behindInMarks op b=false) zzv):PT X (.Compare a [op] [b] pos) (tB t):=by
 intro pins s σ H Q I hw;refine wpAny_isTrue_Compare1 (jE (h pins s σ H _ I hw) λv s1 h1=>jE h1 λu s2 h2=>jE h2 λc s3 #[x,H1,I1,r1,q1]=>?_) h1;obtain⟨d,rfl,q⟩:=gJ.out q1;cases r1;exact wpAny_truthy_bool #[H1,I1,q]
theorem JS {t:TE} (h:PE X e t) (he:autoParam (∀whole,isTrue e X.env whole=(do let v <-whole;standAt e.pos;holding [v]<|truthy v)) zzh):PT X e (tB t):=by
 intro pins s σ H Q I hw;refine isTrue_plain (jE (h pins s σ H _ I hw) λv s1 #[x,H1,I1,r1,q1]=>?_)<|he _;obtain⟨d,rfl,q⟩:=gJ.out q1;cases r1;exact wpAny_truthy_bool #[H1,I1,q]
variable {tA SW:TT}{rest:Ea}
def C9 (t u:TT):TT:=λσ H Q=>t σ H λc H1=>if c=true then u σ H1 Q else Q false H1
def DI (t u:TT):TT:=λσ H Q=>t σ H λc H1=>if c=true then Q true H1 else u σ H1 Q
def Dk (t:TT):TT:=λσ H Q=>t σ H λc H1=>Q (!c) H1
theorem cQ (ha:PT X a tA):PW X (.BoolOp .And [a] pos) tA:=by
 intro wh pins s σ H Q I h;refine isTrue_and (jE (ha pins s σ H Q I h) λc s1 e=>?_);cases c with
 | true=>exact isTrue_and_nil e
 | false=>exact e
theorem vU (ha:PT X a tA):PW X (.BoolOp .Or [a] pos) tA:=by
 intro wh pins s σ H Q I h;refine isTrue_or (jE (ha pins s σ H Q I h) λc s1 e=>?_);cases c with
 | false=>exact isTrue_or_nil e
 | true=>exact e
theorem af (ha:PT X a tA) (hb:PW X (.BoolOp .And (b::rest) pos) SW):PW X (.BoolOp .And (a::b::rest) pos) (C9 tA SW):=by
 intro wh pins s σ H Q I h;refine isTrue_and (jE (ha pins s σ H _ I h) λc s1 #[H1,I1,q1]=>?_);cases c with
 | true=>exact hb wh pins s1 σ H1 Q I1 q1
 | false=>exact#[H1,I1,q1]
theorem Vh (ha:PT X a tA) (hb:PW X (.BoolOp .Or (b::rest) pos) SW):PW X (.BoolOp .Or (a::b::rest) pos) (DI tA SW):=by
 intro wh pins s σ H Q I h;refine isTrue_or (jE (ha pins s σ H _ I h) λc s1 #[H1,I1,q1]=>?_);cases c with
 | true=>exact#[H1,I1,q1]
 | false=>exact hb wh pins s1 σ H1 Q I1 q1
theorem uN (ha:PT X a tA):PT X (.UnaryOp .Not a pos) (Dk tA):=by
 intro pins s σ H Q I h;exact isTrue_not (jE (ha pins s σ H _ I h) λc s1 #[H1,I1,q1]=>#[H1,I1,q1])
inductive oB (tb:TE) (σ:St) (Q:VK) (x:V) (H1:Hp):Prop
 | mk (c:_) (h0:x=.bl c) (h1:if c=true then tb σ H1 Q else Q (.bl false) H1):oB tb σ Q x H1
def BP (ta tb:TE):TE:=λσ H Q=>ta σ H λx H1=>oB tb σ Q x H1
inductive sR (tb:TE) (σ:St) (Q:VK) (x:V) (H1:Hp):Prop
 | mk (c:_) (h0:x=.bl c) (h1:if c=true then Q (.bl true) H1 else tb σ H1 Q):sR tb σ Q x H1
def Dl (ta tb:TE):TE:=λσ H Q=>ta σ H λx H1=>sR tb σ Q x H1
inductive oG (Q:VK) (x:V) (H1:Hp):Prop
 | mk (c:_) (h0:x=.bl c) (h1:Q (.bl<|!c) H1):oG Q x H1
def BV (ta:TE):TE:=λσ H Q=>ta σ H λx H1=>oG Q x H1
theorem U6 {op}{t:TE} (h:PE X a t):PE X (.BoolOp op [a] pos) t:=λpins s σ H Q I hw=>BoolOp_one (h pins s σ H Q I hw)
theorem u7 (ha:PE X a ta) (hb:PE X (.BoolOp .And (b::rest) pos) tb):PE X (.BoolOp .And (a::b::rest) pos) (BP ta tb):=by
 intro pins s σ H Q I h;refine BoolOp_and (jE (ha pins s σ H _ I h) λv s1 #[x,H1,I1,r1,q1]=>?_);obtain⟨c,rfl,q1⟩:=q1;cases r1;refine wpAny_truthy_bool ?_;cases c with
 | true=>exact hb pins s1 σ H1 Q I1 q1
 | false=>exact#[.bl false,H1,I1,rfl,q1]
theorem BH (ha:PE X a ta) (hb:PE X (.BoolOp .Or (b::rest) pos) tb):PE X (.BoolOp .Or (a::b::rest) pos) (Dl ta tb):=by
 intro pins s σ H Q I h;refine BoolOp_or (jE (ha pins s σ H _ I h) λv s1 #[x,H1,I1,r1,q1]=>?_);obtain⟨c,rfl,q1⟩:=q1;cases r1;refine wpAny_truthy_bool ?_;cases c with
 | false=>exact hb pins s1 σ H1 Q I1 q1
 | true=>exact#[.bl true,H1,I1,rfl,q1]
theorem Ax (ha:PE X a ta):PE X (.UnaryOp .Not a pos) (BV ta):=by
 intro pins s σ H Q I h;refine UnaryOp_ (jE (ha pins s σ H _ I h) λv s1 #[x,H1,I1,r1,q1]=>?_);obtain⟨c,rfl,q1⟩:=q1;cases r1;exact not_of (wpAny_truthy_bool #[.bl _,H1,I1,rfl,q1])
end
def jt (K:DS) (H:Hp) (a:Addr) (xs:List V):Prop :=
 Rd H a (.lst xs) \/
  ∃(o:Obj) (Ek:D9) (n:Nat),K.lookup a=some o/\o.cls=.type "list"/\o.dict=none/\o.data=.seq Ek n/\Ek.size<=sizeLine/\jG xs Ek.toList
def jx (K:DS) (H:Hp) (a:Addr) (xs:List V):Prop :=
 Rd H a (.tup xs) \/
  ∃(o:Obj) (Ek:D9) (n:Nat),K.lookup a=some o/\o.cls=.type "tuple"/\o.data=.seq Ek n/\Ek.size<=sizeLine/\jG xs Ek.toList
def CM:Value->Option V
 | .none=>some .non
 | .bool b=>some (.bl b)
 | .int i _=>some (.int i)
 | .str x _=>some (.str x)
 | .bytes b _=>some (.byt b)
 | .float b _=>some (.flt b)
 | .ref a=>some (.ref a)
 | .type n=>some (.ty n)
 | _=>none
theorem jI.abs {x:V}{u:Value} (r:jI x u):CM u=some x:=by
 cases x with
 | non=>cases r;rfl
 | bl _=>cases r;rfl
 | int _=>obtain⟨t,rfl⟩:=r;rfl
 | str _=>obtain⟨t,rfl⟩:=r;rfl
 | byt _=>obtain⟨t,rfl⟩:=r;rfl
 | flt _=>obtain⟨t,rfl⟩:=r;rfl
 | ref _=>cases r;rfl
 | ty _=>cases r;rfl
theorem jI.inj {x:V}{u:Value} (r:jI x u) (q:jI y u):x=y:=Yb (r.abs.symm.trans q.abs)
theorem jG.inj:∀{xs ys:List V} {us:DY},jG xs us->jG ys us->xs=ys:=by
 intro xs ys us h g
 induction h generalizing ys with
 | nil=>cases g;rfl
 | cons r t ih =>
  cases g with
  | cons r' t'=>rw[r.inj r',ih t']
section
variable {X:Cx}{pins:DW}{σ:St}{H:Hp}{s:Shared}{a:Addr}{xs ys:List V}
theorem jt.of {K:DS} (h:H a=some (.lst xs)):jt K H a xs:=.inl (.inl h)
theorem jx.of {K:DS} (h:H a=some (.tup xs)):jx K H a xs:=.inl (.inl h)
theorem jo.list (I:jo X pins σ H s) (h:jt X.K H a xs):∃Ek:List Value,jG xs Ek/\PlainL s.heap a Ek.toArray/\xs.length<=sizeLine:=by
 rcases h with h|⟨o,Ek,n,hk,hc,hd,hs,hz,r⟩
 ·obtain⟨z,Ek,n,r,e⟩:=h.ok I.hok;exact#[Ek,r,#[_,n,e,rfl,rfl,rfl],z]
 ·refine#[Ek.toList,r,#[o,n,I.kIn a o hk,hc,hd,by simpa using hs],?_];have e:=r.length;simp only[yD] at e
  lia
theorem jo.tuple (I:jo X pins σ H s) (h:jx X.K H a xs):∃Ek:List Value,jG xs Ek/\IsTup s.heap a Ek.toArray/\xs.length<=sizeLine:=by
 rcases h with h|⟨o,Ek,n,hk,hc,hs,hz,r⟩
 ·obtain⟨z,Ek,r,p⟩:=h.ok I.hok;exact#[Ek,r,p,z]
 ·refine#[Ek.toList,r,#[o,I.kIn a o hk,hc,n,by simpa using hs],?_];have e:=r.length;simp only[yD] at e
  lia
theorem jo.list_inj (I:jo X pins σ H s) (h:jt X.K H a xs) (h':jt X.K H a ys):xs=ys:=by
 obtain⟨Ek,r,⟨o,n,e,_,_,d⟩,_⟩:=I.list h;obtain⟨its',r',⟨o',n',e',_,_,d'⟩,_⟩:=I.list h';rw[e] at e';have:Ek=its':=by grind
 subst this;exact r.inj r'
theorem jo.tuple_inj (I:jo X pins σ H s) (h:jx X.K H a xs) (h':jx X.K H a ys):xs=ys:=by
 obtain⟨Ek,r,⟨o,e,_,n,d⟩,_⟩:=I.tuple h;obtain⟨its',r',⟨o',e',_,n',d'⟩,_⟩:=I.tuple h';rw[e] at e';have:Ek=its':=by grind
 subst this;exact r.inj r'
end
section
variable {X:Cx}{st:Stmt}{rest:List Stmt}{t u:TS}{e:Expr}{te:TE}{pos:Pos}
def BT:TS:=λD σ H=>D.nx σ H
def UQ (t u:TS):TS:=λD σ H=>t { D with nx:=u D } σ H
theorem jW:zO X [] BT:=λ_ _ σ H _ I h=>wpAny_execs_nil #[σ,H,I,h]
theorem ji (h1:PS X st t) (h2:zO X rest u):zO X (st::rest) (UQ t u):=by
 intro pins s σ H D I h;refine wpAny_execs_cons (jE (h1 pins s σ H _ I h) λf s1 q=>?_);cases f with
 | next =>
  obtain⟨σ',H',I',q⟩:=q;exact h2 pins s1 σ' H' D I' q
 | ret v=>exact q
 | brk=>exact q
 | cont=>exact q
theorem jk (h1:PS X st t):zO X [st] t:=by
 intro pins s σ H D I h;refine wpAny_execs_cons (jE (h1 pins s σ H D I h) λf s1 q=>?_);cases f with
 | next=>exact wpAny_execs_nil q
 | ret v=>exact q
 | brk=>exact q
 | cont=>exact q
def BR:TS:=λD σ H=>D.ct σ H
theorem bC:PS X (.Continue pos) BR:=λ_ _ σ H _ I h=>wpAny_Continue #[σ,H,I,h]
theorem jo.quiet (I:jo X pins σ H s):interactive X.env=false:=by simp [interactive,I.ok.kind]
def sL (te:TE):TS:=λD σ H=>te σ H λ_ H1=>D.nx σ H1
theorem jQ (he:PE X e te) (hs:autoParam (swapsWith e none pos.line X.env=pure false) ac):PS X (.Expr e pos) (sL te):=by
 intro pins s σ H D I h;exact wpAny_Expr_any (jE (he pins s σ H _ I h) λv s1 #[x,H1,I1,r1,q1]=>#[σ,H1,I1,q1]) I.quiet hs
def Dm (te:TE):TS:=λD σ H=>te σ H D.rt
theorem jC (he:PE X e te):PS X (.Return (some e) pos) (Dm te):=by
 intro pins s σ H D I h;exact wpAny_Return_some (jE (he pins s σ H _ I h) λv s1 #[x,H1,I1,r1,q1]=>#[x,σ,H1,I1,r1,q1])
def A2 (c:TT) (t u:TS):TS:=λD σ H=>c σ H λb H1=>if b=true then t D σ H1 else u D σ H1
theorem j9 {c:Expr}{a b:List Stmt} (hc:PT X c tc) (ha:zO X a t) (hb:zO X b u):PS X (.If c a b pos) (A2 tc t u):=by
 intro pins s σ H D I h;refine wpAny_If (jE (hc pins s σ H _ I h) λd s1 #[H1,I1,q1]=>?_);cases d with
 | true=>exact ha pins s1 σ H1 D I1 q1
 | false=>exact hb pins s1 σ H1 D I1 q1
def Be:TS:=λ_ _ _=>False
theorem JW:PS X st Be:=λ_ _ _ _ _ _ h=>h.elim
end
abbrev TG:=V->St->Hp->(St->Hp->Prop)->Prop
abbrev Z0:=List V->St->Hp->(St->Hp->Prop)->Prop
def PG (X:Cx) (target:Expr) (t:TG):Prop :=
 ∀(pins:DW) (s:Shared) (σ:St) (H:Hp) (v:V) (u:Value) (Q:St->Hp->Prop),jo X pins σ H s->jI v u->t v σ H Q ->
  wpAny (model X.prog X.w) X.A (assign target X.env u) (λ_ s'=>∃σ' H',jo X pins σ' H' s'/\Q σ' H') X.xe s
def rH (X:Cx) (ts:Ea) (t:Z0):Prop :=
 ∀(pins:DW) (s:Shared) (σ:St) (H:Hp) (vs:List V) (us:DY) (Q:St->Hp->Prop),jo X pins σ H s->jG vs us->t vs σ H Q ->
  wpAny (model X.prog X.w) X.A (assignInOrder ((assignEach ts X.env).map (·.2)) us) (λ_ s'=>∃σ' H',jo X pins σ' H' s'/\Q σ' H') X.xe s
section
variable {X:Cx}{pos:Pos}
def vo (i:Nat):TG:=λv σ H Q=>Q (σ.set i<|some v) H
theorem jw (i:Nat) {x:Str} (hN:autoParam (X.N.Nodup) zzr) (hi:autoParam (X.N[i]?=some x) ac) (hx:autoParam (nR X.env.scope x) zzt) (hf:autoParam (X.fn x=true\/X.env.scope.names.lookup x=some .local) zzf):PG X (.Name x pos) (vo i):=by
 intro pins s σ H v u Q I r h;exact wpAny_assign_Name (Zy I hN hi hx r (λs' I'=>#[_,H,I',h]) hf)
def KY:Z0:=λvs σ H Q=>match vs with|[]=>Q σ H|_=>False
theorem KY.out {Q:St->Hp->Prop} (h:KY vs σ H Q):vs=[]/\Q σ H:=by
 cases vs with
 | nil=>exact#[rfl,h]
 | cons _ _=>cases h
def vJ (t:TG) (u:Z0):Z0:=λvs σ H Q=>match vs with|v::r=>t v σ H λσ' H'=>u r σ' H' Q|[]=>False
theorem vJ.out {t:TG}{u:Z0}{Q:St->Hp->Prop} (h:vJ t u vs σ H Q):∃v r,vs=v::r/\t v σ H λσ' H'=>u r σ' H' Q:=by
 cases vs with
 | nil=>cases h
 | cons v r=>exact#[v,r,rfl,h]
theorem Vb:rH X [] KY:=by
 intro pins s σ H vs us Q I r h;obtain⟨e,h⟩:=KY.out h;subst e;exact assignInOrder_nil #[σ,H,I,h]
theorem Jn {t:TG}{u:Z0} (h1:PG X e t) (h2:rH X es u)
  (hs:autoParam ((assignEach (e::es) X.env).map (·.2)=assign e X.env::(assignEach es X.env).map (·.2)) ac):rH X (e::es) (vJ t u):=by
 intro pins s σ H vs us Q I r h;obtain⟨v,vr,e1,h⟩:=vJ.out h;subst e1;cases r with
 | cons r rr =>
  rw[hs];refine assignInOrder_cons (jE (h1 pins s σ H _ _ _ I r h) λ_ s1 #[σ1,H1,I1,q1]=>?_);exact h2 pins s1 σ1 H1 _ _ Q I1 rr q1
inductive rS (K:DS) (n:Nat) (t:Z0) (v:V) (σ:St) (H:Hp) (Q:St->Hp->Prop):Prop
 | mk (a:_) (xs:_) (h0:v=.ref a) (h1:jx K H a xs) (h2:xs.length=n) (h3:t xs σ H Q):rS K n t v σ H Q
inductive rT (K:DS) (n:Nat) (t:Z0) (a:Addr) (σ:St) (H:Hp) (Q:St->Hp->Prop):Prop
 | mk (xs:_) (h1:jx K H a xs) (h2:xs.length=n) (h3:t xs σ H Q):rT K n t a σ H Q
def dR (K:DS) (n:Nat) (t:Z0):TG:=λv σ H Q=>match v with|.ref a=>rT K n t a σ H Q|_=>False
theorem dR.out {K:DS}{n:Nat}{t:Z0}{v:V}{Q:St->Hp->Prop} (h:dR K n t v σ H Q):rS K n t v σ H Q:=by
 cases v with
 | ref a =>
  obtain⟨xs,h1,h2,h3⟩:=h;exact#[a,xs,rfl,h1,h2,h3]
 | _=>cases h
theorem zd {K:DS}{t:Z0}{n:Nat} (h:rH X es t) (hc:autoParam (X.calm=true) ac)
  (hn:autoParam ((assignEach es X.env).length=n) ac) (Fp:autoParam ((assignEach es X.env).findIdx? (·.1)=none) ac) (hK:autoParam (X.K=K) zzd):PG X (.Tuple es k pos) (dR K n t):=by
 subst hK;intro pins s σ H v u Q I r hw;obtain⟨a,xs,e1,hq,hl,Tz⟩:=dR.out hw;subst e1;cases r;obtain⟨Ek,rv,ht,hz⟩:=I.tuple hq;refine assign_Tuple_tuple (I.ok.hd hc) ht (by simp [hn,<-hl,rv.length]) Fp λh' hx=>?_;have I1:=I.kept (t':=s.toks) λb o e=>hx b o (yJ<|yq e) e;exact h pins _ σ H xs _ Q I1 (by simpa using rv) Tz
def fg (te:TE) (g:TG):TS:=λD σ H=>te σ H λx H1=>g x σ H1 D.nx
theorem AA (he:PE X e te) (hg:PG X tg g) (hs:autoParam (swapsWithSole [tg] e pos.line X.env=pure false) ac) (hw:autoParam (swappedStores [tg] e X.env=pure none) ac)
  (h1:autoParam ((assignEach [tg] X.env).map (·.2)=[assign tg X.env]) ac):PS X (.Assign [tg] e pos) (fg te g):=by
 intro pins s σ H D I h;refine wpAny_Assign_stores (jE (he pins s σ H _ I h) λv s1 #[x,H1,I1,r1,q1]=>?_) hs hw;rw[h1];exact jE (hg pins s1 σ H1 x v _ I1 r1 q1) λ_ s2 q=>q
theorem jv (i:Nat) {x:Str} {pos':Pos} (he:PE X e te) (hN:autoParam (X.N.Nodup) zzr) (hi:autoParam (X.N[i]?=some x) ac) (hx:autoParam (nR X.env.scope x) zzt) (hs:autoParam (swapsWith e (some<|.Name x pos') pos.line X.env=pure false) ac) (hf:autoParam (X.fn x=true\/X.env.scope.names.lookup x=some .local) zzf) :
  PS X (.Assign [.Name x pos'] e pos) (fg te<|vo i):=by
 intro pins s σ H D I h;refine wpAny_Assign_Name (jE (he pins s σ H _ I h) λv s1 #[y,H1,I1,r1,q1]=>?_) hs;exact Zy I1 hN hi hx r1 (λs2 I2=>#[_,H1,I2,q1]) hf
end
section
variable {X:Cx}{pos:Pos}
def Bf (c:TT) (tb:TS):TS:=λD σ H=>∃W:Nat->St->Hp->Prop,(∃m,W m σ H)/\∀m σ H,W m σ H ->
 c σ H λb H1=>if b=true then ∃N:St->Hp->Prop,(∀σ' H',N σ' H'->∃m',m'<m/\W m' σ' H')/\tb { D with nx:=N,ct:=N,bk:=D.nx } σ H1 else D.nx σ H1
theorem zf {c:Expr} (hp:PassesOwn (model X.prog X.w) X.A X.env X.xe) (hc:PT X c tc) (hb:zO X body tb):PS X (.While c body [] pos) (Bf tc tb):=by
 intro pins s σ H D I h;obtain⟨W,⟨m0,w0⟩,turn⟩:=h;refine wpAny_While (codeAny_whileLoop (λn s'=>∃σ' H',jo X pins σ' H' s'/\W n σ' H') ?_ m0 #[σ,H,I,w0]);rintro n s1 ⟨σ1,H1,I1,w1⟩;refine wpAny_passesOwn hp (jE (hc pins s1 σ1 H1 _ I1<|turn n σ1 H1 w1) λb s2 #[H2,I2,q2]=>?_);cases b with
 | true =>
  obtain⟨N,hN,q2⟩:=q2;refine wpAny_passesOwn hp (jE (hb pins s2 σ1 H2 _ I2 q2) λf s3 q3=>?_);cases f with
  | next =>
   obtain⟨σ3,H3,I3,n3⟩:=q3;obtain⟨m',hm,w3⟩:=hN σ3 H3 n3;exact#[m',hm,σ3,H3,I3,w3]
  | cont =>
   obtain⟨σ3,H3,I3,n3⟩:=q3;obtain⟨m',hm,w3⟩:=hN σ3 H3 n3;exact#[m',hm,σ3,H3,I3,w3]
  | brk=>exact q3
  | ret v=>exact q3
 | false =>
  exact wpAny_execs_nil #[σ1,H2,I2,q2]
end
structure It where
 go:Nat->Hp->Prop
 yld:Nat->Hp->V->Hp->Prop
 stop:Nat->Hp->Prop
def zE (X:Cx) (pins:DW) (H:Hp) (b:Addr):Prop :=
 H b=none/\b≠X.env.locals/\b ∉ X.fs/\(b∈X.ex\/X.s₀.heap.objs.size<=b)/\(∀x c,X.env.cells.lookup x=some c->c≠b)/\∀p∈X.pn++pins,p.1≠b
theorem jo.fpOk {H':Hp}{b:Addr} (I:jo X pins σ H s) (hb:s.heap.objs.size<=b) (hn:H' b=none):zE X pins H' b:=by
 refine#[hn,QC<|yw I.lt hb,I.nofs hb,.inr<|ym I.sz hb,λx c e z=>?_,λp hp z=>?_]
 ·obtain⟨v,q⟩:=I.cell x c e;exact absurd (yw q.lt (by rw[z];exact hb)) (QB _)
 ·exact absurd (yw (yq (I.pin p hp).1) (by rw[z];exact hb)) (QB _)
structure Z1 (P:Ee) (w:World) (K:DS) (tg:Expr) (J:It) (fp:DZ) (it:Addr) (tn:Nat->Heap->Prop) (nm:Bool):Prop where
 mem:it∈fp
 obj:∀i h,tn i h->∀b∈fp,∃o,h.get? b=some o/\∀v,o.data≠.cell v
 keep:∀i h h',tn i h->(∀b∈fp,∀o,h.get? b=some o->h'.get? b=some o)->tn i h'
 item:∀(X:Cx),X.prog=P->X.w=w->X.K=K->(nm=true->X.calm=true)->∀(i:Nat) (pins:DW) (s:Shared) (σ:St) (H:Hp) (E:DO),jo X pins σ H s->(∀b∈fp,zE X pins H b)->tn i s.heap->J.go i H ->
  wpAny (model P w) X.A (pyNext<|.ref it) (λr s1=>∃u,r=some u /\
   wpAny (model P w) X.A (letOwnedTupleGo tg (.ref it) u) (λ_ s2=>∃x H',jo X pins σ H' s2/\jI x u/\J.yld i H x H'/\tn (i+1) s2.heap/\∀b∈fp,H' b=none) E s1) E s
 done:∀(X:Cx),X.prog=P->X.w=w->X.K=K->(nm=true->X.calm=true)->∀(i:Nat) (pins:DW) (s:Shared) (σ:St) (H:Hp) (E:DO),jo X pins σ H s->(∀b∈fp,zE X pins H b)->tn i s.heap->J.stop i H ->
  wpAny (model P w) X.A (pyNext<|.ref it) (λr s1=>r=none/\jo X pins σ H s1) E s
 self:∀(A:Around) (i:Nat) (s:Shared) (Q:DO) (E:DO),tn i s.heap->Q (.ref it) s->wpAny (model P w) A (pyIter<|.ref it) Q E s
def Zh (X:Cx) (tg:Expr) (J:It) (fp:DZ) (it:Addr) (tn:Nat->Heap->Prop):Prop:=∃nm,Z1 X.prog X.w X.K tg J fp it tn nm/\(nm=true->X.calm=true)
theorem Zh.of {J:It}{tn:Nat->Heap->Prop} (T:Z1 X.prog X.w X.K tg J fp it tn false):Zh X tg J fp it tn:=#[false,T,λz=>by cases z]
abbrev TI:=St->Hp->(It->Hp->Prop)->Prop
def xj (X:Cx) (pins:DW) (σ:St) (tg:Expr) (R:It->Hp->Prop) (TB:Value) (s2:Shared):Prop :=
 ∃(it:Addr) (fp:DZ) (tn:Nat->Heap->Prop) (J:It) (H':Hp),TB=.ref it/\jo X pins σ H' s2/\Zh X tg J fp it tn/\tn 0 s2.heap/\(∀b∈fp,zE X pins H' b)/\R J H'
def PI (X:Cx) (tg iter:Expr) (wi:TI):Prop :=
 ∀(pins:DW) (s:Shared) (σ:St) (H:Hp) (R:It->Hp->Prop),jo X pins σ H s->wi σ H R ->
  wpAny (model X.prog X.w) X.A (eval iter X.env) (λv s1=>wpAny (model X.prog X.w) X.A (pyIter v) (xj X pins σ tg R) X.xe s1) X.xe s
theorem kW {A:Around}{u:Value}{o:Obj}{n:String}{vs:D9}{Q:DP} (ho:s.heap.get? it=some o) (hc:o.cls=.type n) (hd:o.data=.fields vs)
  (hn:["enumerate","zip","dict_itemiterator","dict_reverseitemiterator","odict_iterator","itertools.zip_longest","itertools.pairwise"].contains n=false) (hQ:Q () s):wpAny M A (letOwnedTupleGo tg (.ref it) u) Q E s:=by
 cases tg<;>first
  | exact Eg hQ
  | (cases u<;>first
    | exact Eg hQ
    | (refine Ef (wpAny_load ho ?_)
       rw[hc,hd];show wpAny M A (if (["enumerate","zip","dict_itemiterator","dict_reverseitemiterator","odict_iterator","itertools.zip_longest","itertools.pairwise"].contains n&&vs[0]?==some _)=true then _ else _) Q E s;rw[if_neg (by grind)];exact Eg hQ))
def ZU (K:DS) (a:Addr):It :=
 #[λi H=>∃xs x,jt K H a xs/\xs[i]?=some x,λi H x H'=>H'=H/\∀xs,jt K H a xs->xs[i]?=some x,λi H=>∃xs,jt K H a xs/\xs.length<=i]
def nQ (K:DS) (a:Addr):It :=
 #[λi H=>∃xs x,jx K H a xs/\xs[i]?=some x,λi H x H'=>H'=H/\∀xs,jx K H a xs->xs[i]?=some x,λi H=>∃xs,jx K H a xs/\xs.length<=i]
def ZV (lo:Int) (n:Nat):It:=#[λi _=>i<n,λi H x H'=>H'=H/\x=.int (lo+i),λi _=>n<=i]
theorem oN {w:World}{K:DS} (a it:Addr):Z1 P w K tg (ZU K a) [it] it (λi h=>h.IsListIter it a i) false where
 mem:=by simp
 obj:=λi h st b hb=>by
  have e:=by simpa using hb
  subst e;obtain⟨o,e,c,d⟩:=st;exact#[o,e,λv z=>by rw[d] at z;cases z]
 keep:=λi h h' st k=>st.at λo e=>k it (by simp) o e
 item:=by
  intro X hP hw hK hc i pins s σ H E I hf st hg;subst hP hw hK;obtain⟨xs,x,hq,hx⟩:=hg;obtain⟨Ek,rv,p,hz⟩:=I.list hq;obtain⟨u,hu,ru⟩:=rv.get hx;obtain⟨f0,f1,f2,f3,f4,f5⟩:=hf it (by simp);refine wpAny_pyNext_list_item st p.isList (by simpa using hu) λh' Hz sb=>?_;have I1:=I.turned (t':=s.toks) (λb o hb e=>(sb.2 b hb).trans e) f0 f1 f3 f4 f5;obtain⟨o,e,c,d⟩:=id Hz;exact#[u,rfl,kW e c d (by decide) #[x,H,I1,ru,#[rfl,λys hy=>by rw[I.list_inj hy hq];exact hx],Hz,λb hb=>(hf b hb).1]]
 done:=by
  intro X hP hw hK hc i pins s σ H E I hf st hg;subst hP hw hK;obtain⟨xs,hq,hx⟩:=hg;obtain⟨Ek,rv,p,hz⟩:=I.list hq;obtain⟨f0,f1,f2,f3,f4,f5⟩:=hf it (by simp);have hl:=rv.length;exact cD (I.hn.now I.hok) st p.isList (by simp;lia) λh' eb=>#[rfl,I.turned (λb o hb e=>eb b o hb e) f0 f1 f3 f4 f5]
 self:=λ_ _ _ _ _ st h=>wpAny_pyIter_listiter st h
theorem fj {w:World}{K:DS} (a it:Addr):Z1 P w K tg (nQ K a) [it] it (λi h=>h.IsTupleIter it a i) false where
 mem:=by simp
 obj:=λi h st b hb=>by
  have e:=by simpa using hb
  subst e;obtain⟨o,e,c,d⟩:=st;exact#[o,e,λv z=>by rw[d] at z;cases z]
 keep:=λi h h' st k=>st.at λo e=>k it (by simp) o e
 item:=by
  intro X hP hw hK hc i pins s σ H E I hf st hg;subst hP hw hK;obtain⟨xs,x,hq,hx⟩:=hg;obtain⟨Ek,rv,p,hz⟩:=I.tuple hq;obtain⟨u,hu,ru⟩:=rv.get hx;obtain⟨f0,f1,f2,f3,f4,f5⟩:=hf it (by simp);refine wpAny_pyNext_tuple_item st (p) (by simpa using hu) λh' Hz sb=>?_;have I1:=I.turned (t':=s.toks) (λb o hb e=>(sb.2 b hb).trans e) f0 f1 f3 f4 f5;obtain⟨o,e,c,d⟩:=id Hz;exact#[u,rfl,kW e c d (by decide) #[x,H,I1,ru,#[rfl,λys hy=>by rw[I.tuple_inj hy hq];exact hx],Hz,λb hb=>(hf b hb).1]]
 done:=by
  intro X hP hw hK hc i pins s σ H E I hf st hg;subst hP hw hK;obtain⟨xs,hq,hx⟩:=hg;obtain⟨Ek,rv,p,hz⟩:=I.tuple hq;obtain⟨f0,f1,f2,f3,f4,f5⟩:=hf it (by simp);have hl:=rv.length;exact rz (I.hn.now I.hok) st (p) (by simp;lia) λh' eb=>#[rfl,I.turned (λb o hb e=>eb b o hb e) f0 f1 f3 f4 f5]
 self:=λ_ _ _ _ _ st h=>wpAny_pyIter_tupleiter st h
theorem KF {w:World}{K:DS} (it:Addr) (lo:Int) (n:Nat):Z1 P w K tg (ZV lo n) [it] it (λi h=>IsRangeIter h it (lo+(i:Nat)*1) ((n:Int) - (i:Nat)) 1) false where
 mem:=by simp
 obj:=λi h st b hb=>by
  grind
 keep:=λi h h' st k=>k it (by simp) _ st
 item:=by
  intro X hP hw hK hc i pins s σ H E I hf st hg;obtain⟨f0,f1,f2,f3,f4,f5⟩:=hf it (by simp);refine wpAny_pyNext_range_item st (by have:i<n:=hg;lia) λh' Hz sb=>?_;obtain⟨tk,O3⟩:∃tk,tk=s.toks+1:=#[_,rfl];rw[<-O3];have I1:jo X pins σ H { s with heap:=h',toks:=tk }:=I.turned (λb o hb e=>(sb.2 b hb).trans e) f0 f1 f3 f4 f5;have Ho:IsRangeIter h' it (lo+((i+1))*1) ((n) - ((i+1))) 1:=by
   grind
  refine#[_,rfl,kW Hz rfl rfl (by decide) #[.int _,H,I1,#[s.toks,?_],#[rfl,rfl],Ho,λb hb=>(hf b hb).1]];rw[Int.mul_one]
 done:=by
  intro X hP hw hK hc i pins s σ H E I hf st hg;obtain⟨f0,f1,f2,f3,f4,f5⟩:=hf it (by simp);exact qE (I.hn.now I.hok) st (by have:n<=i:=hg;lia) λh' eb=>#[rfl,I.turned (λb o hb e=>eb b o hb e) f0 f1 f3 f4 f5]
 self:=λ_ _ _ _ _ st h=>wpAny_pyIter_rangeiter st h
section
variable {X:Cx}{tg:Expr}
inductive iL (K:DS) (R:It->Hp->Prop) (x:V) (H1:Hp):Prop
 | mk (a:_) (h0:x=.ref a) (h1:(∃xs,jt K H1 a xs)) (h2:R (ZU K a) H1):iL K R x H1
def By (K:DS) (tl:TE):TI:=λσ H R=>tl σ H λx H1=>iL K R x H1
inductive rV (K:DS) (R:It->Hp->Prop) (x:V) (H1:Hp):Prop
 | mk (a:_) (h0:x=.ref a) (h1:(∃xs,jx K H1 a xs)) (h2:R (nQ K a) H1):rV K R x H1
def CO (K:DS) (tl:TE):TI:=λσ H R=>tl σ H λx H1=>rV K R x H1
theorem jV {K:DS} (hl:PE X l tl) (hK:autoParam (X.K=K) zzd):PI X tg l (By K tl):=by
 subst hK;intro pins s σ H R I h;refine jE (hl pins s σ H _ I h) λv s1 #[x,H1,I1,r1,q1]=>?_;obtain⟨a,e,⟨xs,hq⟩,q⟩:=q1;subst e;cases r1;obtain⟨Ek,rv,p,hz⟩:=I1.list hq;refine wpAny_pyIter_list p.isList ?_;refine#[s1.heap.objs.size,_,_,_,H1,rfl,I1.kept λb o e=>yg _ e,Zh.of<|oN a _,#[_,yB _ rfl,rfl,rfl],λb hb=>?_,q];have e:=by simpa using hb
 subst e;exact I1.fpOk (yh _) (I1.hok.fresh<|yh _)
theorem N8 {K:DS} (hl:PE X l tl) (hK:autoParam (X.K=K) zzd):PI X tg l (CO K tl):=by
 subst hK;intro pins s σ H R I h;refine jE (hl pins s σ H _ I h) λv s1 #[x,H1,I1,r1,q1]=>?_;obtain⟨a,e,⟨xs,hq⟩,q⟩:=q1;subst e;cases r1;obtain⟨Ek,rv,p,hz⟩:=I1.tuple hq;refine wpAny_pyIter_tuple (p) ?_;refine#[s1.heap.objs.size,_,_,_,H1,rfl,I1.kept λb o e=>yg _ e,Zh.of<|fj a _,#[_,yB _ rfl,rfl,rfl],λb hb=>?_,q];have e:=by simpa using hb
 subst e;exact I1.fpOk (yh _) (I1.hok.fresh<|yh _)
theorem qD {R:It->Hp->Prop}{hi:Int}{t u v:Tok}{tk:Nat} (I:jo X pins σ H s) (h1:-(2^62)<=lo) (h2:lo<2^62) (h3:-(2^62)<=hi) (h4:hi<2^62)
  (q:R (ZV lo (hi - lo).toNat) H):wpAny (model X.prog X.w) X.A (pyIter<|.ref s.heap.objs.size) (xj X pins σ tg R) E { s with heap:=s.heap.push { cls:=.type "range",data:=.fields (Ya [.int lo t,.int hi u,.int 1 v]) },toks:=tk }:=by
 refine wpAny_pyIter_range (IsRange.new ..) (small_one h1 h2 h3 h4) ?_;have I1:jo X pins σ H { s with heap:=s.heap.push { cls:=.type "range",data:=.fields (Ya [.int lo t,.int hi u,.int 1 v]) },toks:=tk }:=I.kept λb o e=>yg _ e;refine#[_,_,_,_,H,rfl,
  I1.kept λb o e=>yg _ e,Zh.of<|KF _ lo _,?_,λb hb=>?_,q]
 ·have e1:lo+((0:Nat))*1=lo:=by simp
  have e2:(((hi - lo).toNat)) - ((0:Nat))=Builtin.Range.rangeSize lo hi 1:=by rw[rangeSize_one];split<;>lia
  rw[e1,e2];exact yB _ rfl
 ·have e:b=(s.heap.push { cls:=.type "range",data:=.fields (Ya [.int lo t,.int hi u,.int 1 v]) }).objs.size:=by simpa using hb
  subst e;exact I1.fpOk (yh _) (I1.hok.fresh<|yh _)
inductive iM (R:It->Hp->Prop) (vs:List V) (H1:Hp):Prop
 | mk (j:Int) (h0:vs=[.int j]) (h1:-(2^62)<=j) (h2:j<2^62) (h3:R (ZV 0 j.toNat) H1):iM R vs H1
def Bz (ta:TA):TI:=λσ H R=>ta σ H λvs H1=>iM R vs H1
theorem uE {a:Expr}{ta:TA}{p pos:Pos} (hg:Gl X "range") (hm:X.mg "range"=none) (ha:PA X [a] ta) (hs:autoParam (starEach [a] X.env=[(false,eval a X.env)]) ac):PI X tg (.Call (.Name "range" p) [a] [] pos) (Bz ta):=by
 intro pins s σ H R I h;refine Call_ (zT I hg hm boot_range (Yp (jE (ha pos pins s σ H _ I h) λus s1 #[vs,H1,I1,r1,q1]=>?_) hs rfl));obtain⟨j,e,q1,q2,q⟩:=q1;subst e;cases r1 with
 | cons r rr =>
  cases rr;obtain⟨t,rfl⟩:=r;exact call_range_1 (qD I1 (by lia) (by lia) q1 q2 (by simpa using q))
def Dg (wi:TI) (g:TG) (tb:TS):TS:=λD σ H=>wi σ H λJ H1=>∃W:Nat->Nat->St->Hp->Prop,(∃m,W 0 m σ H1)/\∀i m σ H,W i m σ H ->
 (J.stop i H/\D.nx σ H)\/(J.go i H/\∃N:St->Hp->Prop,(∀σ' H',N σ' H'->∃m',m'<m/\W (i+1) m' σ' H')/\∀x H',J.yld i H x H'->g x σ H' λσ2 H2=>tb { D with nx:=N,ct:=N,bk:=D.nx } σ2 H2)
def Ky (fp:DZ) (h:Heap):List (Addr×Obj):=fp.filterMap λb=>(h.get? b).map λo=>(b,o)
theorem VB {b:Addr}{o:Obj} (hb:b∈fp) (e:h.get? b=some o):(b,o)∈Ky fp h:=Qu.mpr #[b,hb,by rw[e];rfl]
theorem lG {p:Addr×Obj} (hp:p∈Ky fp h):p.1∈fp/\h.get? p.1=some p.2:=by
 obtain⟨b,hb,e⟩:=Qu.mp hp;cases q:h.get? b with
 | none=>rw[q] at e;cases e
 | some o =>
  rw[q] at e;have e':=Yb e;subst e';exact#[hb,q]
theorem jo.pinned (I:jo X pins σ H s) (hf:∀b∈fp,zE X pins H b) (ho:∀b∈fp,∃o,s.heap.get? b=some o/\∀v,o.data≠.cell v):jo X (pins++Ky fp s.heap) σ H s :=
 I.pins_of λp hp=>(yj.mp hp).elim (λz=>I.pin p<|yr _ z) λz=>by
  obtain⟨hb,e⟩:=lG z;obtain⟨f0,f1,f2,_⟩:=hf _ hb;obtain⟨o,e',d⟩:=ho _ hb;rw[e] at e';cases e';exact#[e,f0,f1,f2,d]
theorem jo.unpinned {pl:DW} (I:jo X (pins++pl) σ H s):jo X pins σ H s:=I.pins_of λp hp=>I.pin p (yr _<|yu _ hp)
theorem j7 {iter:Expr}{wi:TI}{pos:Pos} (hp:PassesOwn (model X.prog X.w) X.A X.env X.xe) (hi:PI X tg iter wi) (hg:PG X tg g) (hb:zO X body tb)
  (hs:autoParam (∀x,foldedSetIterable iter X.env x=pure x) zzh):PS X (.For tg iter body [] pos) (Dg wi g tb):=by
 intro pins s σ H D I h;refine wpAny_For (jE (hi pins s σ H _ I h) λv s1 h1=>jE h1 λTB s2 h2=>?_) hs;obtain⟨it,fp,tn,J,H2,e,I2,T,Ho,f2,W,⟨m0,w0⟩,turn⟩:=h2;subst e;obtain⟨nm,T,hc⟩:=T;have F4:∀{H':Hp},(∀b∈fp,H' b=none)->∀b∈fp,zE X pins H' b:=λhn b hb=>#[hn b hb,(f2 b hb).2];refine codeAny_forLoop_any (λn s'=>∃i σ' H',jo X pins σ' H' s'/\tn i s'.heap/\(∀b∈fp,H' b=none)/\W i n σ' H') ?_ m0 #[0,σ,H2,I2,Ho,λb hb=>(f2 b hb).1,w0];rintro n s3 ⟨i,σ3,H3,I3,P9,Q1,w3⟩;rcases turn i n σ3 H3 w3 with ⟨stop,qn⟩|⟨go,N,hN,step⟩
 ·refine wpAny_passesOwn hp (jE (T.done X rfl rfl rfl hc i pins s3 σ3 H3 X.xe I3 (F4 Q1) P9 stop) λr s4 #[hr,I4]=>?_);subst hr;exact wpAny_execs_nil #[σ3,H3,I4,qn]
 ·refine wpAny_passesOwn hp (jE (T.item X rfl rfl rfl hc i pins s3 σ3 H3 X.xe I3 (F4 Q1) P9 go) λr s4 #[u,hr,h4]=>?_);subst hr;refine wpAny_passesOwn hp (jE h4 λ_ s5 hh=>?_);obtain⟨x,H5,I5,r5,y5,LX,TC⟩:=hh;have I5':=I5.pinned (F4 TC)<|T.obj _ _ LX;refine wpAny_passesOwn hp (jE (hg _ s5 σ3 H5 x u _ I5' r5<|step x H5 y5) λ_ s6 #[σ6,H6,I6,q6]=>?_);refine wpAny_passesOwn hp (jE (hb _ s6 σ6 H6 _ I6 q6) λf s7 q7=>?_);have again:∀{σ7:St} {H7:Hp},jo X _ σ7 H7 s7->N σ7 H7->∃m,m<n/\∃i σ' H',jo X pins σ' H' s7/\tn i s7.heap/\(∀b∈fp,H' b=none)/\W i m σ' H':=λ{σ7 H7} I7 n7=>by
   obtain⟨m',hm,w7⟩:=hN σ7 H7 n7;refine#[m',hm,_,σ7,H7,I7.unpinned,T.keep _ _ _ LX λb hb o e=>(I7.pin _<|yr _<|yr _<|VB hb e).1,λb hb=>?_,w7];obtain⟨o,e,d⟩:=T.obj _ _ LX b hb;exact (I7.pin _<|yr _<|yr _<|VB hb e).2.1
  cases f with
  | next=>obtain⟨σ7,H7,I7,n7⟩:=q7;exact again I7 n7
  | cont=>obtain⟨σ7,H7,I7,n7⟩:=q7;exact again I7 n7
  | brk=>obtain⟨σ7,H7,I7,q7⟩:=q7;exact#[σ7,H7,I7.unpinned,q7]
  | ret v=>obtain⟨x7,σ7,H7,I7,r7,q7⟩:=q7;exact#[x7,σ7,H7,I7.unpinned,r7,q7]
end
theorem Jt {K:DS}{a:Addr} (Pv:Nat->St->Hp->Prop) (h0:Pv 0 σ H) (hl:∀i σ H,i<=xs.length->Pv i σ H->jt K H a xs)
  (hs:∀i x σ H,xs[i]?=some x->Pv i σ H->g x σ H λσ2 H2=>tb { D with nx:=Pv<|i+1,ct:=Pv<|i+1,bk:=D.nx } σ2 H2) (hd:∀σ H,Pv xs.length σ H->D.nx σ H) :
  ∃W:Nat->Nat->St->Hp->Prop,(∃m,W 0 m σ H)/\∀i m σ H,W i m σ H ->
   ((ZU K a).stop i H/\D.nx σ H)\/((ZU K a).go i H/\∃N:St->Hp->Prop,(∀σ' H',N σ' H'->∃m',m'<m/\W (i+1) m' σ' H')/\∀x H',(ZU K a).yld i H x H'->g x σ H' λσ2 H2=>tb { D with nx:=N,ct:=N,bk:=D.nx } σ2 H2):=by
 refine#[λi m σ H=>m=xs.length - i/\i<=xs.length/\Pv i σ H,#[xs.length,by simp,yL _,h0],?_];rintro i m σ H ⟨rfl,hi,p⟩;have q:=hl i σ H hi p;by_cases El:i<xs.length
 ·refine .inr #[#[xs,xs[i],q,by simp [El]],_,λσ' H' p'=>#[_,by omega,rfl,El,p'],λx H' y=>?_];obtain⟨e,y⟩:=y;subst e;exact hs i x σ _ (y xs q) p
 ·have e:i=xs.length:=by lia
  subst e;exact .inl #[#[xs,q,yh _],hd σ H p]
theorem tN {K:DS}{a:Addr} (Pv:Nat->St->Hp->Prop) (h0:Pv 0 σ H) (hl:∀i σ H,i<=xs.length->Pv i σ H->jx K H a xs)
  (hs:∀i x σ H,xs[i]?=some x->Pv i σ H->g x σ H λσ2 H2=>tb { D with nx:=Pv<|i+1,ct:=Pv<|i+1,bk:=D.nx } σ2 H2) (hd:∀σ H,Pv xs.length σ H->D.nx σ H) :
  ∃W:Nat->Nat->St->Hp->Prop,(∃m,W 0 m σ H)/\∀i m σ H,W i m σ H ->
   ((nQ K a).stop i H/\D.nx σ H)\/((nQ K a).go i H/\∃N:St->Hp->Prop,(∀σ' H',N σ' H'->∃m',m'<m/\W (i+1) m' σ' H')/\∀x H',(nQ K a).yld i H x H'->g x σ H' λσ2 H2=>tb { D with nx:=N,ct:=N,bk:=D.nx } σ2 H2):=by
 refine#[λi m σ H=>m=xs.length - i/\i<=xs.length/\Pv i σ H,#[xs.length,by simp,yL _,h0],?_];rintro i m σ H ⟨rfl,hi,p⟩;have q:=hl i σ H hi p;by_cases El:i<xs.length
 ·refine .inr #[#[xs,xs[i],q,by simp [El]],_,λσ' H' p'=>#[_,by omega,rfl,El,p'],λx H' y=>?_];obtain⟨e,y⟩:=y;subst e;exact hs i x σ _ (y xs q) p
 ·have e:i=xs.length:=by lia
  subst e;exact .inl #[#[xs,q,yh _],hd σ H p]
theorem Uo {n:Nat} (Pv:Nat->St->Hp->Prop) (h0:Pv 0 σ H)
  (hs:∀i σ H,i<n->Pv i σ H->g (.int<|lo+i) σ H λσ2 H2=>tb { D with nx:=Pv<|i+1,ct:=Pv<|i+1,bk:=D.nx } σ2 H2) (hd:∀σ H,Pv n σ H->D.nx σ H) :
  ∃W:Nat->Nat->St->Hp->Prop,(∃m,W 0 m σ H)/\∀i m σ H,W i m σ H ->
   ((ZV lo n).stop i H/\D.nx σ H)\/((ZV lo n).go i H/\∃N:St->Hp->Prop,(∀σ' H',N σ' H'->∃m',m'<m/\W (i+1) m' σ' H')/\∀x H',(ZV lo n).yld i H x H'->g x σ H' λσ2 H2=>tb { D with nx:=N,ct:=N,bk:=D.nx } σ2 H2):=by
 refine#[λi m σ H=>m=n - i/\i<=n/\Pv i σ H,#[n,by simp,yL _,h0],?_];rintro i m σ H ⟨rfl,hi,p⟩;by_cases El:i<n
 ·refine .inr #[El,_,λσ' H' p'=>#[_,by omega,rfl,El,p'],λx H' y=>?_];obtain⟨e,y⟩:=y;subst e y;exact hs i σ _ El p
 ·have e:i=n:=by lia
  subst e;exact .inl #[yh _,hd σ H p]
abbrev R2:=V->V->Hp->VK->Prop
def uC (X:Cx) (f:Value->Value->Sem Value) (r:R2):Prop :=
 ∀(pins:DW) (s:Shared) (σ:St) (H:Hp) (x y:V) (v u:Value) (Q:VK),jo X pins σ H s->jI x v->jI y u->r x y H Q ->
  wpAny (model X.prog X.w) X.A (f v u) (EP X pins σ Q) X.xe s
def xo (X:Cx) (f:Value->Sem Value) (r:V->Hp->VK->Prop):Prop :=
 ∀(pins:DW) (s:Shared) (σ:St) (H:Hp) (x:V) (v:Value) (Q:VK),jo X pins σ H s->jI x v->r x H Q ->
  wpAny (model X.prog X.w) X.A (f v) (EP X pins σ Q) X.xe s
def u4 (X:Cx) (f:Value) (r:List V->Hp->VK->Prop):Prop :=
 ∀(pins:DW) (s:Shared) (σ:St) (H:Hp) (xs:List V) (us:DY) (Q:VK),jo X pins σ H s->jG xs us->r xs H Q ->
  wpAny (model X.prog X.w) X.A (call f us) (EP X pins σ Q) X.xe s
def CI (X:Cx) (r:V->Hp->(Bool->Hp->Prop)->Prop):Prop :=
 ∀(pins:DW) (s:Shared) (σ:St) (H:Hp) (x:V) (v:Value) (Q:Bool->Hp->Prop),jo X pins σ H s->jI x v->r x H Q ->
  wpAny (model X.prog X.w) X.A (truthy v) (TP X pins σ Q) X.xe s
def sQ (r:R2) (ta tb:TE):TE:=λσ H Q=>ta σ H λx H1=>tb σ H1 λy H2=>r x y H2 Q
def DK (r:V->Hp->VK->Prop) (ta:TE):TE:=λσ H Q=>ta σ H λx H1=>r x H1 Q
inductive Cu (C:Int->Int->Prop) (g:Int->Int->V) (x:V) (y:V) (H:Hp) (Q:VK):Prop
 | mk (i:_) (j:_) (h0:x=.int i) (h1:y=.int j) (h2:C i j) (h3:Q (g i j) H):Cu C g x y H Q
structure DB (C Q:Prop):Prop where
 h2:C
 h3:Q
def rI (C:Int->Int->Prop) (g:Int->Int->V):R2:=λx y H Q=>match x,y with|.int i,.int j=>DB (C i j) (Q (g i j) H)|_,_=>False
theorem rI.out {C:Int->Int->Prop}{g:Int->Int->V}{x:V} (h:rI C g x y H Q):Cu C g x y H Q:=by
 unfold rI at h
 split at h
 ·exact#[_,_,rfl,rfl,h.1,h.2]
 ·cases h
inductive AC (g:Int->Int->V) (x:V) (y:V) (H:Hp) (Q:VK):Prop
 | mk (i:_) (j:_) (h0:x=.int i) (h1:y=.int j) (h2:Q (g i j) H):AC g x y H Q
def zC (g:Int->Int->V):R2:=λx y H Q=>match x,y with|.int i,.int j=>Q (g i j) H|_,_=>False
theorem zC.out {g:Int->Int->V}{x:V} (h:zC g x y H Q):AC g x y H Q:=by
 unfold zC at h
 split at h
 ·exact#[_,_,rfl,rfl,h]
 ·cases h
inductive Cv (g:Int->V) (x:V) (H:Hp) (Q:VK):Prop
 | mk (i:_) (h0:x=.int i) (h1:Q (g i) H):Cv g x H Q
def rU (g:Int->V):V->Hp->VK->Prop:=λx H Q=>Cv g x H Q
section
variable {X:Cx}{a b c:Expr}{ta tb tc:TE}{pos:Pos}
theorem pD (ha:PE X a ta) (hb:PE X b tb) (I:jo X pins σ H s)
  (h:ta σ H λx H1=>tb σ H1 λy H2=>R x y H2) {Q:DO} {f:Value->Value->Sem Value}
  (hf:∀v u s2 x y H2,jo X pins σ H2 s2->jI x v->jI y u->R x y H2->wpAny (model X.prog X.w) X.A (f v u) Q X.xe s2) :
  wpAny (model X.prog X.w) X.A (eval a X.env) (λv s₁=>wpAny (model X.prog X.w) X.A (eval b X.env) (λu s₂=>wpAny (model X.prog X.w) X.A (f v u) Q X.xe s₂) X.xe s₁) X.xe s:=by
 refine jE (ha pins s σ H _ I h) λv s1 #[x,H1,I1,r1,q1]=>?_;refine jE (hb pins s1 σ H1 _ I1 q1) λu s2 #[y,H2,I2,r2,q2]=>?_;exact hf v u s2 x y H2 I2 r1 r2 q2
theorem jp {op:Operator} (ho:uC X (binaryOp op) r) (ha:PE X a ta) (hb:PE X b tb):PE X (.BinOp a op b pos) (sQ r ta tb):=by
 intro pins s σ H Q I h;exact wpAny_BinOp (pD ha hb I h λv u s2 x y H2 I2 rx ry q=>ho pins s2 σ H2 x y v u Q I2 rx ry q)
theorem Kx {op:UnaryOp}{r:V->Hp->VK->Prop} (ho:xo X (unaryOp op) r) (ha:PE X a ta):PE X (.UnaryOp op a pos) (DK r ta):=by
 intro pins s σ H Q I h;exact UnaryOp_ (jE (ha pins s σ H _ I h) λv s1 #[x,H1,I1,r1,q1]=>ho pins s1 σ H1 x v Q I1 r1 q1)
theorem cK {C:Int->Int->Prop}{g:Int->Int->Int}
  (rule:∀(i j:Int) (t u:Tok) (s:Shared) (Q:DO) (E:DO),C i j->Q (.int (g i j) s.toks) { s with toks:=s.toks+1 }->wpAny (model X.prog X.w) X.A (f (.int i t)<|.int j u) Q E s) :
  uC X f (rI C λi j=>.int<|g i j):=by
 intro pins s σ H x y v u Q I rx ry h;obtain⟨i,j,rfl,rfl,hc,q⟩:=rI.out h;obtain⟨t,rfl⟩:=rx;obtain⟨t',rfl⟩:=ry;exact rule i j t t' s _ _ hc #[.int _,H,I.tok _,#[_,rfl],q]
theorem eJ {g:Int->Int->Int}
  (rule:∀(i j:Int) (t u:Tok) (s:Shared) (Q:DO) (E:DO),Q (.int (g i j) s.toks) { s with toks:=s.toks+1 }->wpAny (model X.prog X.w) X.A (f (.int i t)<|.int j u) Q E s) :
  uC X f (zC λi j=>.int<|g i j):=by
 intro pins s σ H x y v u Q I rx ry h;obtain⟨i,j,rfl,rfl,q⟩:=zC.out h;obtain⟨t,rfl⟩:=rx;obtain⟨t',rfl⟩:=ry;exact rule i j t t' s _ _ #[.int _,H,I.tok _,#[_,rfl],q]
theorem qo {g:Int->Int->Bool}
  (rule:∀(i j:Int) (t u:Tok) (s:Shared) (Q:DO) (E:DO),Q (.bool<|g i j) s->wpAny (model X.prog X.w) X.A (f (.int i t)<|.int j u) Q E s) :
  uC X f (zC λi j=>.bl<|g i j):=by
 intro pins s σ H x y v u Q I rx ry h;obtain⟨i,j,rfl,rfl,q⟩:=zC.out h;obtain⟨t,rfl⟩:=rx;obtain⟨t',rfl⟩:=ry;exact rule i j t t' s _ _ #[.bl _,H,I,rfl,q]
def CB (i j:Int):Prop:=0<j/\j<1073741824
def w4 (i j:Int):Prop:=0<=j/\j<=1000000/\i.natAbs<2^64
def oV (i j:Int):Prop:=(-(2^64)<i/\i<2^64)\/(-(2^64)<j/\j<2^64)
theorem oV.ok {i j:Int} (h:oV i j):IntMulOk i j:=by
 rcases h with ⟨h1,h2⟩|⟨h1,h2⟩
 ·exact .of_left (intBits_le_64 h1 h2)
 ·exact .of_right (intBits_le_64 h1 h2)
theorem fq (k:Nat):(0:Int)<=2^k:=by
 rw[two_pow_cast];exact Int.natCast_nonneg _
theorem Jc:uC X (binaryOp .Add) (zC λi j=>.int<|i+j):=eJ λ_ _ _ _ _ _ _ q=>add_int q
theorem JR:uC X (binaryOp .Sub) (zC λi j=>.int<|i - j):=eJ λ_ _ _ _ _ _ _ q=>sub_int q
theorem U5:uC X (binaryOp .Mult) (rI oV λi j=>.int<|i*j):=cK λ_ _ _ _ _ _ _ hc q=>mul_int q hc.ok
theorem Je:uC X (binaryOp .FloorDiv) (rI CB λi j=>.int<|i / j):=cK λi j _ _ _ _ _ hc q=>by
 have h1:(0:Int)<j:=hc.1;have h2:j<1073741824:=hc.2;exact floordiv_int (by lia) (by rw[aba i (by lia)];exact q) (.inl (PyProof.noPylong_small (by omega)))
theorem j6:uC X (binaryOp .Mod) (rI (λ_ j=>0<j) λi j=>.int<|i % j):=cK λi j _ _ _ _ _ hc q=>by
 have h1:(0:Int)<j:=hc;exact mod_int' (by lia) (by rw[Int.fmod_eq_emod_of_nonneg i (by lia)];exact q)
theorem As:uC X (binaryOp .Pow) (rI w4 λi j=>.int<|i^j.toNat):=cK λ_ _ _ _ _ _ _ hc q=>pow_int_small hc.1 hc.2.1 hc.2.2 q
theorem At:uC X (binaryOp .LShift) (rI w4 λi j=>.int<|i*2^j.toNat):=cK λ_ _ _ _ _ _ _ hc q=>lshift_int_small hc.1 hc.2.1 hc.2.2 q
theorem N3:uC X (binaryOp .RShift) (rI (λ_ j=>0<=j) λi j=>.int<|i / 2^j.toNat):=cK λi j _ _ _ _ _ hc q =>
 rshift_int hc (by rw[aba i<|fq _];exact q)
theorem lM:uC X (binaryOp .BitAnd) (zC λi j=>.int<|Builtin.bitAnd i j):=eJ λ_ _ _ _ _ _ _ q=>and_int q
theorem BG:uC X (binaryOp .BitOr) (zC λi j=>.int<|Builtin.bitOr i j):=eJ λ_ _ _ _ _ _ _ q=>or_int q
theorem DL {f:Value->Sem Value}{g:Int->Int}
  (rule:∀(i:Int) (t:Tok) (s:Shared) (Q:DO) (E:DO),Q (.int (g i) s.toks) { s with toks:=s.toks+1 }->wpAny (model X.prog X.w) X.A (f<|.int i t) Q E s) :
  xo X f (rU λi=>.int<|g i):=by
 intro pins s σ H x v Q I rx h;obtain⟨i,rfl,q⟩:=h;obtain⟨t,rfl⟩:=rx;exact rule i t s _ _ #[.int _,H,I.tok _,#[_,rfl],q]
theorem gL:xo X (unaryOp .USub) (rU λi=>.int<|-i):=DL λ_ _ _ _ _ q=>neg_int q
end
def AH:V->V->Bool
 | .non,.non=>true|.non,.int _=>true|.int _,.non=>true|.non,.bl _=>true|.bl _,.non=>true|.non,.str _=>true|.str _,.non=>true
 | .int _,.int _=>true|.bl _,.bl _=>true|.str _,.str _=>true|.byt _,.byt _=>true
 | .int _,.str _=>true|.str _,.int _=>true|.bl _,.str _=>true|.str _,.bl _=>true
 | _,_=>false
inductive AB (x:V) (y:V) (H:Hp) (Q:VK):Prop
 | mk  (h0:AH x y=true) (h1:Q (.bl<|decide (x=y)) H):AB x y H Q
def DA:R2:=λx y H Q=>AB x y H Q
inductive AF (x:V) (y:V) (H:Hp) (Q:VK):Prop
 | mk  (h0:AH x y=true) (h1:Q (.bl<|!decide (x=y)) H):AF x y H Q
def DC:R2:=λx y H Q=>AF x y H Q
theorem bY {i j:Int}:decide (V.int i=V.int j)=(i==j):=by
 rw[y4];simp
theorem ig {i j:Bool}:decide (V.bl i=V.bl j)=(i==j):=by
 rw[y4];simp
theorem bZ {i j:Str}:decide (V.str i=V.str j)=(i==j):=by
 rw[y4];simp
theorem bX {i j:Array UInt8}:decide (V.byt i=V.byt j)=(i.toList==j.toList):=by
 rw[y4];cases i;cases j;simp
section
variable {X:Cx}{a b c:Expr}{ta tb tc:TE}{pos:Pos}
theorem Ja {k k':Bool} (I:jo X pins σ H s) (q:Q (.bl k) H) (e:k=k'):EP X pins σ Q (.bool k') s:=by
 subst e;exact#[.bl k,H,I,rfl,q]
theorem Uz:uC X (compareOp .Eq) DA:=by
 intro pins s σ H x y v u Q I rx ry h;obtain⟨hs,q⟩:=h;cases x with
 | non =>
  cases rx;cases y with
  | non=>cases ry;exact PySem.EqNone.eq_none_none (Ja I q (by simp))
  | bl j=>cases ry;exact PySem.EqNone.eq_none_bool (Ja I q (by simp))
  | int j=>obtain⟨t',rfl⟩:=ry;exact PySem.EqNone.eq_none_int (Ja I q (by simp))
  | str j=>obtain⟨t',rfl⟩:=ry;exact PySem.EqNone.eq_none_str (Ja I q (by simp))
  | _=>exact absurd (show false=true from hs) yA
 | bl i =>
  cases rx;cases y with
  | non=>cases ry;exact PySem.EqNone.eq_bool_none (Ja I q (by simp))
  | bl j=>cases ry;exact eq_bool (Ja I q ig)
  | str j=>obtain⟨t',rfl⟩:=ry;exact PySem.EqMixed.eq_bool_str (Ja I q (by simp))
  | _=>exact absurd (show false=true from hs) yA
 | int i =>
  obtain⟨t,rfl⟩:=rx;cases y with
  | non=>cases ry;exact PySem.EqNone.eq_int_none (Ja I q (by simp))
  | int j=>obtain⟨t',rfl⟩:=ry;exact eq_int (Ja I q bY)
  | str j=>obtain⟨t',rfl⟩:=ry;exact PySem.EqMixed.eq_int_str (Ja I q (by simp))
  | _=>exact absurd (show false=true from hs) yA
 | str i =>
  obtain⟨t,rfl⟩:=rx;cases y with
  | non=>cases ry;exact PySem.EqNone.eq_str_none (Ja I q (by simp))
  | bl j=>cases ry;exact PySem.EqMixed.eq_str_bool (Ja I q (by simp))
  | int j=>obtain⟨t',rfl⟩:=ry;exact PySem.EqMixed.eq_str_int (Ja I q (by simp))
  | str j=>obtain⟨t',rfl⟩:=ry;exact eq_str (Ja I q bZ)
  | _=>exact absurd (show false=true from hs) yA
 | byt i =>
  obtain⟨t,rfl⟩:=rx;cases y with
  | byt j=>obtain⟨t',rfl⟩:=ry;exact PySem.W.eq_bytes (Ja I q bX)
  | _=>exact absurd (show false=true from hs) yA
 | _=>cases y<;>exact absurd (show false=true from hs) yA
theorem Ks:uC X (compareOp .NotEq) DC:=by
 intro pins s σ H x y v u Q I rx ry h;obtain⟨hs,q⟩:=h;cases x with
 | non =>
  cases rx;cases y with
  | non=>cases ry;exact PySem.EqNone.ne_none_none (Ja I q (by simp))
  | bl j=>cases ry;exact PySem.EqNone.ne_none_bool (Ja I q (by simp))
  | int j=>obtain⟨t',rfl⟩:=ry;exact PySem.EqNone.ne_none_int (Ja I q (by simp))
  | str j=>obtain⟨t',rfl⟩:=ry;exact PySem.EqNone.ne_none_str (Ja I q (by simp))
  | _=>exact absurd (show false=true from hs) yA
 | bl i =>
  cases rx;cases y with
  | non=>cases ry;exact PySem.EqNone.ne_bool_none (Ja I q (by simp))
  | bl j=>cases ry;exact ne_bool (Ja I q<|congrArg not ig)
  | str j=>obtain⟨t',rfl⟩:=ry;exact PySem.EqMixed.ne_bool_str (Ja I q (by simp))
  | _=>exact absurd (show false=true from hs) yA
 | int i =>
  obtain⟨t,rfl⟩:=rx;cases y with
  | non=>cases ry;exact PySem.EqNone.ne_int_none (Ja I q (by simp))
  | int j=>obtain⟨t',rfl⟩:=ry;exact ne_int (Ja I q<|congrArg not bY)
  | str j=>obtain⟨t',rfl⟩:=ry;exact PySem.EqMixed.ne_int_str (Ja I q (by simp))
  | _=>exact absurd (show false=true from hs) yA
 | str i =>
  obtain⟨t,rfl⟩:=rx;cases y with
  | non=>cases ry;exact PySem.EqNone.ne_str_none (Ja I q (by simp))
  | bl j=>cases ry;exact PySem.EqMixed.ne_str_bool (Ja I q (by simp))
  | int j=>obtain⟨t',rfl⟩:=ry;exact PySem.EqMixed.ne_str_int (Ja I q (by simp))
  | str j=>obtain⟨t',rfl⟩:=ry;exact ne_str (Ja I q<|congrArg not bZ)
  | _=>exact absurd (show false=true from hs) yA
 | byt i =>
  obtain⟨t,rfl⟩:=rx;cases y with
  | byt j=>obtain⟨t',rfl⟩:=ry;exact PySem.W.ne_bytes (Ja I q<|congrArg not bX)
  | _=>exact absurd (show false=true from hs) yA
 | _=>cases y<;>exact absurd (show false=true from hs) yA
theorem UU:uC X (compareOp .Lt) (zC λi j=>.bl<|decide (i<j)):=qo λ_ _ _ _ _ _ _ q=>lt_int q
theorem vP:uC X (compareOp .LtE) (zC λi j=>.bl<|decide (i<=j)):=qo λ_ _ _ _ _ _ _ q=>le_int q
theorem r9:uC X (compareOp .Gt) (zC λi j=>.bl<|decide (j<i)):=qo λ_ _ _ _ _ _ _ q=>gt_int q
theorem lE (b:Expr) {op:CmpOp} (h:autoParam (op≠.In) gt) (h2:autoParam (op≠.NotIn) gt):behindInMarks op b=false:=by
 have e1:(op==CmpOp.In)=false:=by grind
 have e2:(op==CmpOp.NotIn)=false:=by grind
 cases b<;>simp [behindInMarks,e1,e2]
theorem vy {op:CmpOp} (ho:uC X (compareOp op) r) (ha:PE X a ta) (hb:PE X b tb) (hm:behindInMarks op b=false:=by first|exact lE _|with_unfolding_all rfl):PE X (.Compare a [op] [b] pos) (sQ r ta tb):=by
 intro pins s σ H Q I h;exact wpAny_Compare1 (pD ha hb I h λv u s2 x y H2 I2 rx ry q=>ho pins s2 σ H2 x y v u Q I2 rx ry q) hm
def sS (t:TE):TT:=λσ H Q=>t σ H λx H'=>gJ Q x H'
theorem j5 {op:CmpOp} (ho:uC X (compareOp op) r) (ha:PE X a ta) (hb:PE X b tb) (hm:behindInMarks op b=false:=by first|exact lE _|with_unfolding_all rfl):PT X (.Compare a [op] [b] pos) (sS<|sQ r ta tb):=by
 intro pins s σ H Q I h;refine wpAny_isTrue_Compare1 (jE (ha pins s σ H _ I h) λv s1 #[x,H1,I1,r1,q1]=>jE (hb pins s1 σ H1 _ I1 q1) λu s2 #[y,H2,I2,r2,q2] =>
  jE (ho pins s2 σ H2 x y v u _ I2 r1 r2 q2) λc s3 #[z,H3,I3,r3,qq]=>?_) hm
 obtain⟨k,e,q3⟩:=gJ.out qq;subst e;cases r3;exact wpAny_truthy_bool #[H3,I3,q3]
inductive c9 (r':R2) (tc:TE) (σ:St) (Q:VK) (y:V) (z:V) (H3:Hp):Prop
 | mk (k:_) (h0:z=.bl k) (h1:(if k=true then tc σ H3 λw' H4=>r' y w' H4 Q else Q (.bl false) H3)):c9 r' tc σ Q y z H3
def oE (r r':R2) (ta tb tc:TE):TE:=λσ H Q=>ta σ H λx H1=>tb σ H1 λy H2=>r x y H2 λz H3=>c9 r' tc σ Q y z H3
theorem vp {op:CmpOp} (ho:uC X (compareOp op) r) (EG:uC X (compareOp O0) r') (ha:PE X a ta) (hb:PE X b tb) (hc:PE X c tc)
  (hm:lastMarks [op,O0] [b,c]=false:=by with_unfolding_all rfl):PE X (.Compare a [op,O0] [b,c] pos) (oE r r' ta tb tc):=by
 intro pins s σ H Q I h;refine Compare_chain (jE (ha pins s σ H _ I h) λv s1 #[x,H1,I1,r1,q1]=>chain_link (jE (hb pins s1 σ H1 _ I1 q1) λu s2 #[y,H2,I2,r2,q2] =>
  jE (ho pins s2 σ H2 x y v u _ I2 r1 r2 q2) λd s3 #[z,H3,I3,r3,k,e,q3]=>?_)) hm
 subst e;cases r3;refine wpAny_truthy_bool ?_;cases k with
 | false=>exact ite_ff #[.bl false,H3,I3,rfl,q3]
 | true=>exact ite_tt (chain_last (jE (hc pins s3 σ H3 _ I3 q3) λw' s4 #[z',H4,I4,r4,q4]=>EG pins s4 σ H4 y z' u w' Q I4 r2 r4 q4))
theorem ab {op:CmpOp} (ho:uC X (compareOp op) r) (EG:uC X (compareOp O0) r') (ha:PE X a ta) (hb:PE X b tb) (hc:PE X c tc)
  (hm:lastMarks [op,O0] [b,c]=false:=by with_unfolding_all rfl):PT X (.Compare a [op,O0] [b,c] pos) (sS<|oE r r' ta tb tc):=by
 intro pins s σ H Q I h;refine isTrue_chain (jE (ha pins s σ H _ I h) λv s1 #[x,H1,I1,r1,q1]=>test_link (jE (hb pins s1 σ H1 _ I1 q1) λu s2 #[y,H2,I2,r2,q2] =>
  jE (ho pins s2 σ H2 x y v u _ I2 r1 r2 q2) λd s3 #[z,H3,I3,r3,k,e,q3]=>?_)) hm
 subst e;cases r3;refine wpAny_truthy_bool ?_;cases k with
 | false =>
  exact ite_ff #[H3,I3,q3]
 | true =>
  refine ite_tt (test_last (jE (hc pins s3 σ H3 _ I3 q3) λw' s4 #[z',H4,I4,r4,q4]=>jE (EG pins s4 σ H4 y z' u w' _ I4 r2 r4 q4) λd' s5 #[z2,H5,I5,r5,qq]=>?_));obtain⟨k2,e2,q5⟩:=gJ.out qq;subst e2;cases r5;exact wpAny_truthy_bool #[H5,I5,q5]
def xm (K:DS) (x:V) (H:Hp) (k:Bool):Prop :=
 match x with
 | .non=>k=false
 | .bl b=>k=b
 | .int i=>k=(i != 0)
 | .str y=>y.length<=sizeLine/\k=((y.length:Int) != 0)
 | .byt y=>y.size<=sizeLine/\k=((y.size:Int) != 0)
 | .ref p=>(∃xs,jt K H p xs/\k=!xs.isEmpty)\/(∃xs,jx K H p xs/\k=!xs.isEmpty)\/∃Ei,H p=some (.dK Ei)/\k=!Ei.isEmpty
 | _=>False
theorem dZ {κ:Type}{Ei:List (κ×V)}{vs:List (κ×Value)} (r:KV Ei vs):(!vs.isEmpty)=!Ei.isEmpty:=by
 cases r<;>rfl
theorem kZ {Ek:DY} (r:jG xs Ek):(!Ek.toArray.isEmpty)=!xs.isEmpty:=by
 cases r<;>simp
theorem Kf:(sizeLine:Nat)<2^63:=by decide
theorem Bg:CI X (λx H Q=>∃k,xm X.K x H k/\Q k H):=by
 intro pins s σ H x v Q I rx h;obtain⟨k,e,q⟩:=h;have hl:=Kf;have hs:sizeLine=16777216:=sizeLine_eq;cases x with
 | non =>
  cases rx;have e':k=false:=e;subst e';exact truthy_none #[H,I,q]
 | bl b =>
  cases rx;have e':k=b:=e;subst e';exact wpAny_truthy_bool #[H,I,q]
 | int i =>
  obtain⟨t,rfl⟩:=rx;have e':k=(i != 0):=e;subst e';exact PySem.P.truthy_int #[H,I,q]
 | str y =>
  obtain⟨t,rfl⟩:=rx;obtain⟨hy,e'⟩:y.length<=sizeLine/\k=((y.length:Int) != 0):=e;subst e';exact PySem.P.truthy_str (by lia) #[H,I.tok _,q]
 | byt y =>
  obtain⟨t,rfl⟩:=rx;obtain⟨hy,e'⟩:y.size<=sizeLine/\k=((y.size:Int) != 0):=e;subst e';exact PySem.W.truthy_bytes (by lia) #[H,I.tok _,q]
 | ref p =>
  cases rx;have e':(∃xs,jt X.K H p xs/\k=!xs.isEmpty)\/(∃xs,jx X.K H p xs/\k=!xs.isEmpty)\/∃Ei,H p=some (.dK Ei)/\k=!Ei.isEmpty:=e;rcases e' with ⟨xs,hx,e'⟩|⟨xs,hx,e'⟩|⟨Ei,hx,e'⟩
  ·subst e';obtain⟨Ek,r,pl,hz⟩:=I.list hx;have hlen:=r.length;exact wpAny_truthy_list pl.isList (by simp only[yt];lia) #[H,I.tok _,by rw[kZ r];exact q]
  ·subst e';obtain⟨Ek,r,pl,hz⟩:=I.tuple hx;have hlen:=r.length;exact truthy_tuple pl (by simp only[yt];lia) #[H,I.tok _,by rw[kZ r];exact q]
  ·subst e';obtain⟨hz,hS,vs,r,m⟩:Ei.length<=sizeLine/\(p==sysModules)=false/\∃vs,KV Ei vs/\s.heap.DictOf (Jp X.prog X.w) p vs:=I.hok p _ hx;have hlen:Ei.length=vs.length:=Paired.length r;exact wpAny_truthy_dict hS m (by lia) #[H,I.tok _,by rw[dZ r];exact q]
 | _=>exact (show False from e).elim
theorem G8 (ha:PE X a ta) (he:∀whole,isTrue a X.env whole=(do let v <-whole;standAt a.pos;holding [v]<|truthy v)) :
  PT X a (λσ H Q=>ta σ H λx H'=>∃k,xm X.K x H' k/\Q k H'):=by
 intro pins s σ H Q I h;exact isTrue_plain (jE (ha pins s σ H _ I h) λv s1 #[x,H1,I1,r1,q1]=>Bg pins s1 σ H1 x v Q I1 r1 q1) (he _)
theorem UV {x:V} (r:jG [x] us):∃u,us=[u]/\jI x u:=by
 cases r with
 | cons r1 r2=>cases r2;exact#[_,rfl,r1]
theorem BX {x:V} (r:jG [x,y] us):∃u w',us=[u,w']/\jI x u/\jI y w':=by
 cases r with
 | cons r1 r2 =>
  cases r2 with
  | cons r3 r4=>cases r4;exact#[_,_,rfl,r1,r3]
theorem pI:u4 X (.builtin "abs") (λxs H Q=>∃i,xs=[.int i]/\Q (.int (if i<0 then -i else i)) H):=by
 intro pins s σ H xs us Q I r h;obtain⟨i,rfl,q⟩:=h;obtain⟨u,rfl,t,rfl⟩:=UV r;exact call_abs_int λu tk=>#[.int (if i<0 then -i else i),H,I.tok _,#[_,rfl],q]
theorem fX:u4 X (.type "int") (λxs H Q=>(∃i,xs=[.int i]/\Q (.int i) H)\/∃k,xs=[.bl k]/\Q (.int (if k then 1 else 0)) H):=by
 intro pins s σ H xs us Q I r h;rcases h with ⟨i,rfl,q⟩|⟨k,rfl,q⟩
 ·obtain⟨u,rfl,t,rfl⟩:=UV r;exact call_int_int #[.int i,H,I,#[_,rfl],q]
 ·obtain⟨u,rfl,r1⟩:=UV r;cases r1;exact call_int_bool #[.int _,H,I.tok _,#[_,rfl],q]
end
structure GU (h:Heap) (x dx C:Addr) (mA:DV):Prop where
 obj:h.get? x=some (instObj C dx)
 ns:h.Ns1 dx mA
 ne:dx≠x
theorem i5 (n:h.Ns1 dx mA):∃od,h.get? dx=some od/\∀name,lookIn name od=some (mA name):=by
 obtain⟨o,es,ep,ho,hd,hk,_,hm⟩:=n;refine#[o,ho,λname=>?_];have e:=hm name;unfold nsFind findBy at e;rw[<-Array.find?_toList] at e;unfold lookIn;rw[hd];dsimp only;split
 ·grind
 ·rename_i q;rw[q] at e;have a:es.toList.any (·.refKey)=false:=by
   rw[List.any_eq_false];intro y hy;obtain⟨z,t,TH⟩:=hk y<|Array.mem_toList_iff.mp hy;simp [DictEntry.refKey,TH]
  have a':¬es.toList.any (·.refKey)=true:=by grind
  rw[if_neg a'];exact congrArg some e
theorem GU.look {x:Addr} (I:GU h x dx C mA):∃od,InstAt h x (instObj C dx) C (some od)/\∀name,lookIn name od=some (mA name) :=
 let ⟨od,ho,hl⟩:=i5 I.ns
 #[od,#[I.obj,rfl,rfl,ho],hl]
section
variable {prog:Ee}{w:World}{A:Around}{E:DO}{s:Shared}{K:DS}{x dx C f:Addr}{mA:DV}{name:Str}{v:Value}
theorem tT {expr:Bool}{Q:DO} (X:K.In s.heap) (I:GU s.heap x dx C mA) (hg:plainGet K C name=true) (hh:hasDictIn K C=true)
  (ha:findIn K (.ref C) name=some none) (hv:mA name=some v) (HY:handedIn v=true) (h:Q v { s with toks:=s.toks+1 }) :
  wpAny (model prog w) A (getAttr (.ref x) name expr) Q E s:=by
 obtain⟨od,J,hl⟩:=I.look;exact PySem.W.get_value X J (plainGet_of hg).1 (PySem.W.findObj_own hh ha rfl (by rw[hl,hv])) HY h
theorem pY {Q:Value×List Value->Shared->Prop} (X:K.In s.heap) (I:GU s.heap x dx C mA) (hg:plainGet K C name=true)
  (hf:findIn K (.ref C) name=some (some<|.ref f)) (ht:isFn K (.ref f)=true) (hv:mA name=none) (h:Q (.ref f,[.ref x]) s) :
  wpAny (model prog w) A (getMethod (.ref x) name pl) Q E s:=by
 obtain⟨od,J,hl⟩:=I.look;exact PySem.W.method_fn X J (plainGet_of hg).1 (plainGet_of hg).2 hf (beq_iff_eq.mp ht) (by show (lookIn name od).map _=some false;rw[hl,hv];rfl) h
theorem wB {ns:D8}{Q:DP} (X:K.In s.heap) (I:GU s.heap x dx C mA)
  (hs:findIn K (.ref C) "__setattr__"=some (some<|.builtin "object.__setattr__")) (hp:plainOver K C=true) (ht:takerIn K C name=some none) (hh:hasDictIn K C=true)
  (hw:abg mA ns) (hsz:ns.length<=sizeLine)
  (h:∀h',GU h' x dx C (λy=>if y=name then some v else mA y)->Heap.SameBut dx s.heap h'->Q () { s with heap:=h',toks:=s.toks+2 }) :
  wpAny (model prog w) A (setAttr (.ref x) name v) Q E s:=by
 obtain⟨od,J,hl⟩:=I.look;refine PySem.W.set_plain X J hs (PySem.W.osa_open X J hp ht λb=>?_);obtain⟨cd,hc,P7⟩:=PySem.W.any_some hh;have hx:=I.obj;refine Ef<|Eg<|Ef<|Ef<|wpAny_loadPart hx<|Ef<|Looks.here (PySem.W.looks_clsIn X hc) ?_;rw[P7];refine Eg<|Ef<|Eg<|Ef ?_;refine wpAny_nsSet1 I.ns λh' O4 Q2=>?_;obtain⟨oD,esD,epD,hoD,hdD,hcD⟩:=O4.count<|PySem.Within.cons name v hw;refine Ef (wpAny_lookBehind hoD (by rw[hdD];exact pastItsLine_dict (ym hcD (by rw[Qa];lia))) ?_);exact Eg (h _ #[(Q2.2 _<|yG I.ne).trans I.obj,O4,I.ne] Q2)
theorem qh {R:Result->Shared->Prop}{vs:DY}{kw:List (Str×Value)} (X:K.In s.heap) (hm:makesIn K C=true)
  (hi:findIn K (.ref C) "__init__"=some (some<|.ref f)) (hf:typeIn K (.ref f)=some (.type "function"))
  (h:codeAny (model prog w) (A.under<|.builtin "type.__call__" #[.ref C::vs,kw]) (.call (.ref f) #[.ref (s.heap.objs.size+1)::vs,kw]) (PySem.W.InitBack (s.heap.objs.size+1) R)
   { s with heap:=(s.heap.push emptyDict).push (instObj C s.heap.objs.size) }) :
  codeAny (model prog w) A (.call (.ref C) #[vs,kw]) R s:=by
 exact PySem.W.make_core (PySem.W.makes_of X hm) (PySem.W.looks_findIn X hi) (λself=>PySem.W.bind_fn X self hf) (.inl rfl) h
end
def JM (f:Str) (v:V):List (Str×V)->List (Str×V)
 | []=>[(f,v)]
 | (g,x)::r=>if g=f then (g,v)::r else (g,x)::JM f v r
theorem GG (f g:Str) (v:V):∀fs:List (Str×V),(JM f v fs).lookup g=if g=f then some v else fs.lookup g
 | []=>by
  show Ys g [(f,v)]=_;by_cases h:g=f
  ·have hb:(g==f)=true:=beq_iff_eq.mpr h;simp only[Ys,hb,if_pos h]
  ·have hb:(g==f)=false:=beq_eq_false_iff_ne.mpr h;simp only[Ys,hb,if_neg h]
 | (k,x)::r=>by
  have ih:=GG f g v r;rw[show JM f v ((k,x)::r)=(if k=f then (k,v)::r else (k,x)::JM f v r) from rfl];by_cases hk:k=f
  ·rw[if_pos hk];by_cases h:g=k
   ·have hb:(g==k)=true:=beq_iff_eq.mpr h;simp only[Ys,hb,if_pos<|h.trans hk]
   ·have hb:(g==k)=false:=beq_eq_false_iff_ne.mpr h;simp only[Ys,hb,if_neg (λe:g=f=>h<|e.trans hk.symm)]
  ·rw[if_neg hk];by_cases h:g=k
   ·have hb:(g==k)=true:=beq_iff_eq.mpr h;simp only[Ys,hb,if_neg (λe:g=f=>hk<|h.symm.trans e)]
   ·have hb:(g==k)=false:=beq_eq_false_iff_ne.mpr h;simp only[Ys,hb];exact ih
theorem gj (f:Str) (v:V):∀fs:List (Str×V),f∈(JM f v fs).map (·.1)/\∀g,g∈fs.map (·.1)->g∈(JM f v fs).map (·.1)
 | []=>#[by simp [JM],λg h=>by simp at h]
 | (k,x)::r=>by
  obtain⟨i1,i2⟩:=gj f v r;rw[show JM f v ((k,x)::r)=(if k=f then (k,v)::r else (k,x)::JM f v r) from rfl];by_cases hk:k=f
  ·rw[if_pos hk];subst hk;exact#[by simp,λg h=>by simpa using h]
  ·rw[if_neg hk];refine#[?_,λg h=>?_]
   ·rw[yR];exact yH _ i1
   ·rw[yR] at h ⊢;rcases yz.mp h with e|e
    ·exact yz.mpr (.inl e)
    ·exact yH _ (i2 g e)
theorem GF (f:Str) (v:V):∀fs:List (Str×V),(JM f v fs).length<=fs.length+1
 | []=>by simp [JM]
 | (k,x)::r=>by
  have ih:=GF f v r;rw[show JM f v _=(if k=f then (k,v)::r else (k,x)::JM f v r) from rfl];by_cases hk:k=f
  ·simp_all
  ·grind
theorem vg.some_of {v:V}{o:Option Value} (r:vg (some v) o):∃u,o=some u/\jI v u:=by
 cases o with
 | none=>exact (r).elim
 | some u=>exact#[u,rfl,r]
theorem vg.none_of {o:Option Value} (r:vg none o):o=none:=by
 cases o with
 | none=>rfl
 | some u=>exact (r).elim
theorem iF {v:V}{u:Value} (r:jI v u):handedIn u=true:=by
 cases v with
 | non=>cases (r);rfl
 | bl b=>cases (r);rfl
 | int i=>obtain⟨t,e⟩:=(r);cases e;rfl
 | str x=>obtain⟨t,e⟩:=(r);cases e;rfl
 | byt b=>obtain⟨t,e⟩:=(r);cases e;rfl
 | flt b=>obtain⟨t,e⟩:=(r);cases e;rfl
 | ref a=>cases (r);rfl
 | ty n=>cases (r);rfl
section
variable {P:Ee}{w:World}{H H':Hp}{h h':Heap}{a C dx:Addr}{fs fs':List (Str×V)}
theorem gW (hok:Jh P w H h) (e:H a=some (.ins C dx fs)):∃mA,GU h a dx C mA/\(∀f,vg (fs.lookup f)<|mA f)/\abg mA (fs.map (·.1))/\fs.length<=1000/\H dx=some (.own a):=by
 obtain⟨d,z,ne,ob,mA,n,r,q⟩:=(hok a _ e);exact#[mA,#[ob,n,ne],r,q,z,d]
end
structure Vi (K:DS) (C:Addr):Prop where
 pg:plainGet K C Str.empty=true
 hd:hasDictIn K C=true
 po:plainOver K C=true
 sa:findIn K (.ref C) "__setattr__"=some (some<|.builtin "object.__setattr__")
theorem Vi.get {K:DS} (c:Vi K C) (f:Str):plainGet K C f=true:=c.pg
def JC (K:DS) (C:Addr) (f:Str):Prop:=findIn K (.ref C) f=some none
theorem JC.taker {K:DS}{f:Str} (n:JC K C f):takerIn K C f=some none:=by
 unfold takerIn;rw[n]
 rfl
structure ZX (K:DS) (C:Addr) (m:Str) (f:Addr):Prop where
 at_:findIn K (.ref C) m=some (some<|.ref f)
 fn:isFn K (.ref f)=true
 kp:keepIn K (.ref f)=true
section
variable {X:Cx}{pins:DW}{σ:St}{H:Hp}{s:Shared}{a C dx:Addr}{fs:List (Str×V)}{f:Str}{v:V}{A:Around}{E:DO}
theorem dX {b:Bool}{Q:DO} (I:jo X pins σ H s) (e:H a=some (.ins C dx fs)) (c:Vi X.K C) (n:JC X.K C f) (l:fs.lookup f=some v)
  (h:∀u s',jo X pins σ H s'->jI v u->Q u s'):wpAny (model X.prog X.w) A (getAttr (.ref a) f b) Q E s:=by
 obtain⟨mA,O,r,_,_,_⟩:=gW I.hok e;obtain⟨u,hu,ru⟩:=vg.some_of (by rw[<-l];exact r f);exact tT I.kIn O (c.get f) c.hd n hu (iF ru) (h u _ (I.tok _) ru)
theorem vK {m:Str}{g:Addr}{Q:Value×List Value->Shared->Prop} (I:jo X pins σ H s) (e:H a=some (.ins C dx fs)) (c:Vi X.K C) (k:ZX X.K C m g) (l:fs.lookup m=none)
  (h:Q (.ref g,[.ref a]) s):wpAny (model X.prog X.w) A (getMethod (.ref a) m pl) Q E s:=by
 obtain⟨mA,O,r,_,_,_⟩:=gW I.hok e;have hn:=vg.none_of (by rw[<-l];exact r m);exact pY I.kIn O (c.get m) k.at_ k.fn hn h
theorem eV {u:Value}{Q:DP} (I:jo X pins σ H s) (e:H a=some (.ins C dx fs)) (c:Vi X.K C) (n:JC X.K C f) (hl:fs.length<1000) (ry:jI y u)
  (h:∀s',jo X pins σ (upd H a<|.ins C dx<|JM f y fs) s'->Q () s'):wpAny (model X.prog X.w) A (setAttr (.ref a) f u) Q E s:=by
 obtain⟨mA,O,r,wi,_,ho⟩:=gW I.hok e;have hz:(fs.map (·.1)).length<=sizeLine:=by rw[yb,sizeLine_eq];lia
 refine wB I.kIn O c.sa c.po n.taker c.hd wi hz λh' O' sb=>h _ ?_;have hd:∃o,h'.get? dx=some o:=let ⟨o,_,_,e',_⟩:=O'.ns;#[o,e']
 refine I.write (by rw[e];exact Yo) (.inr ho) (λb q hb z=>(sb.2 b hb).trans z) hd ?_;refine#[jB O.ne ho,?_,O.ne,O'.obj,_,O'.ns,λg=>?_,λg hg=>?_]
 ·have:=GF f y fs;lia
 ·rw[GG];by_cases q:g=f
  ·rw[if_pos q,if_pos q];exact ry
  ·grind
 ·by_cases q:g=f
  ·rw[q];exact (gj f y fs).1
  ·refine (gj f y fs).2 g (wi g λz=>hg ?_);show (if g=f then some u else mA g)=none;rw[if_neg q];exact z
theorem jo.made (I:jo X pins σ H s):jo X pins σ (upd (upd H s.heap.objs.size<|.own<|s.heap.objs.size+1) (s.heap.objs.size+1)<|.ins C s.heap.objs.size [])
  { s with heap:=(s.heap.push emptyDict).push (instObj C s.heap.objs.size) }:=by
 have e1:(s.heap.push emptyDict).get? s.heap.objs.size=some emptyDict:=yB s.heap rfl;have e2:=by
  have:=yB (s.heap.push emptyDict) (o:=instObj C s.heap.objs.size) rfl;rwa [QT] at this
 have e3:(s.heap.push emptyDict).Ns s.heap.objs.size _:=#[emptyDict,_,_,e1,rfl,(λe he=>absurd he (by simp)),λ_=>rfl];have I1:=I.laid (o:=.own<|s.heap.objs.size+1) (t':=s.toks) (λb u q=>yg _ q) (yh _) #[_,e1];refine I1.laid (λb u q=>yg _ q) (aav<|QT _ _) ?_;have ne:s.heap.objs.size≠s.heap.objs.size+1:=yJ<|aas _;refine#[by rw[jj ne,jd],yL _,ne,e2,_,(Heap.Ns1.of_empty e3).at λo q=>yg _ q,λ_=>Yo,λy hy=>absurd rfl hy]
theorem tu {prog:Ee}{w:World}{env:Env}{pos:Pos}{Q:DO} (hb:attributeBase e f env (eval e env)=eval e env)
  (h:wpAny (model prog w) A (eval e env) (λo s₁=>wpAny (model prog w) A (getAttr o f true) Q E s₁) E s):wpAny (model prog w) A (eval (.Attribute e f pos) env) Q E s :=
 Attribute_any_ h (by rw[arm_eval_Attribute,hb])
end
inductive sM (K:DS) (f:Str) (Q:VK) (x:V) (H1:Hp):Prop
 | mk (a:_) (C:_) (dx:_) (fs:_) (v:_) (h0:x=.ref a) (h1:H1 a=some (.ins C dx fs)) (h2:Vi K C) (h3:JC K C f) (h4:fs.lookup f=some v) (h5:Q v H1):sM K f Q x H1
def De (K:DS) (ta:TE) (f:Str):TE:=λσ H Q=>ta σ H λx H1=>sM K f Q x H1
inductive sF (K:DS) (f:Str) (D:zD) (σ:St) (y:V) (x:V) (H2:Hp):Prop
 | mk (a:_) (C:_) (dx:_) (fs:_) (h0:x=.ref a) (h1:H2 a=some (.ins C dx fs)) (h2:Vi K C) (h3:JC K C f) (h4:fs.length<1000) (h5:D.nx σ (upd H2 a<|.ins C dx<|JM f y fs)):sF K f D σ y x H2
def CZ (K:DS) (ta tv:TE) (f:Str):TS:=λD σ H=>tv σ H λy H1=>ta σ H1 λx H2=>sF K f D σ y x H2
section
variable {X:Cx}{o e value:Expr}{f:Str}{pos pos' HA:Pos}{ta tv:TE}
theorem jM {K:DS} (he:PE X e ta) (hb:autoParam (attributeBase e f X.env (eval e X.env)=eval e X.env) ac) (hK:autoParam (X.K=K) zzd):PE X (.Attribute e f pos) (De K ta f):=by
 subst hK;intro pins s σ H Q I h;refine tu hb (jE (he pins s σ H _ I h) λu s1 hh=>?_);obtain⟨x,H1,I1,rx,a,C,dx,fs,v,ex,ea,c,n,l,q⟩:=hh;subst ex;obtain rfl:u=Value.ref a:=rx;exact dX I1 ea c n l λu' s2 I2 ru=>#[v,H1,I2,ru,q]
theorem u8 (ha:PE X o ta) (hv:PE X value tv) (hs:swapsWith value (some<|.Attribute o f pos') pos.line X.env=pure false):PS X (.Assign [.Attribute o f pos'] value pos) (CZ X.K ta tv f):=by
 intro pins s σ H D I h;refine plainObj_wpAny_Assign_Attribute (jE (hv pins s σ H _ I h) λu s1 #[y,H1,I1,ry,q]=>jE (ha pins s1 σ H1 _ I1 q) λov s2 hh=>?_) hs;obtain⟨x,H2,I2,rx,a,C,dx,fs,ex,ea,c,n,l,q2⟩:=hh;subst ex;obtain rfl:ov=Value.ref a:=rx;exact eV I2 ea c n l ry λs3 I3=>#[σ,_,I3,q2]
theorem Bl {m:Str}{apos:Pos}{args:Ea}{Q:DO} (he:PE X e te) (I:jo X pins σ H s)
  (h:te σ H λx H1=>∃a C dx fs g,x=.ref a/\H1 a=some (.ins C dx fs)/\Vi X.K C/\ZX X.K C m g/\fs.lookup m=none /\
   ∀s1,jo X pins σ H1 s1->wpAny (model X.prog X.w) X.A (callWith pos (.ref g) [.ref a] (backTo pos<|starEach args X.env)<|backToKw pos<|keywordEach [] X.env) Q X.xe s1)
  (ht:eval (.Call (.Attribute e m apos) args [] pos) X.env=(do
   let ov <-eval e X.env
   standAt apos.atName
   let (f,first) <-holding [ov] (getMethod ov m pl)
   callWith pos f first (backTo pos<|starEach args X.env) (backToKw pos<|keywordEach [] X.env))) :
  wpAny (model X.prog X.w) X.A (eval (.Call (.Attribute e m apos) args [] pos) X.env) Q X.xe s:=by
 refine methodCall_KW (jE (he pins s σ H _ I h) λu s1 hh=>?_) ht;obtain⟨x,H1,I1,rx,a,C,dx,fs,g,ex,ea,c,k,l,q⟩:=hh;subst ex;obtain rfl:u=Value.ref a:=rx;exact vK I1 ea c k l (q s1 I1)
end
section
variable {X:Cx}{pins:DW}{σ:St}{H:Hp}{s:Shared}{A:Around}{E:DO}{Q:DO}{c:Value}{b:Bool}
inductive vX (K:DS) (H:Hp):V->Value->Prop where
 | non:vX K H .non (.type "NoneType")
 | bl (x:Bool):vX K H (.bl x) (.type "bool")
 | int (i:Int):vX K H (.int i) (.type "int")
 | str (x:Str):vX K H (.str x) (.type "str")
 | flt (x:UInt64):vX K H (.flt x) (.type "float")
 | lst {a:Addr} {xs:List V} (e:H a=some (.lst xs)):vX K H (.ref a) (.type "list")
 | frz {a:Addr} {o:Obj} {xs:List V} (e:H a=some (.frz o<|.lst xs)):vX K H (.ref a) (.type "list")
 | tup {a:Addr} {xs:List V} (e:H a=some (.tup xs)):vX K H (.ref a) (.type "tuple")
 | dK {a:Addr} {Ei:List (Key×V)} (e:H a=some (.dK Ei)):vX K H (.ref a) (.type "dict")
 | dT {a:Addr} {Ei:List (List Key×V)} (e:H a=some (.dT Ei)):vX K H (.ref a) (.type "dict")
 | ins {a C dx:Addr} {fs:List (Str×V)} (e:H a=some (.ins C dx fs)) (cl:Vi K C) (ha:findIn K (.ref C) "__class__"=some (some<|.builtin "object.__class__"))
   (hn:PySem.W.specialIn K (.builtin "object.__class__") "__get__"=some (some<|.builtin "getset_descriptor.__get__")) (O3:PySem.W.takesIn K (.builtin "object.__class__")=some true)
   (hm:mroIn K C (.type "object")=some true):vX K H (.ref a) (.ref C)
theorem iP {x:V}{u t:Value} (I:jo X pins σ H s) (rx:jI x u) (ty:vX X.K H x t) (e:kitOne X.K t c=some b) (h:∀tk,Q (.bool b) { s with toks:=tk }) :
  wpAny (model X.prog X.w) A (call (.builtin "isinstance") [u,c]) Q E s:=by
 cases ty with
 | non=>cases (rx);exact kia_one PySem.W.kitx_none I.kIn Yo e (λz=>nomatch z) h
 | bl y=>cases (rx);exact kia_one PySem.W.kitx_bool I.kIn Yo e (λz=>nomatch z) h
 | int i=>obtain⟨t,q⟩:=(rx);cases q;exact kia_one PySem.W.kitx_int I.kIn Yo e (λz=>nomatch z) h
 | str y=>obtain⟨t,q⟩:=(rx);cases q;exact kia_one PySem.W.kitx_str I.kIn Yo e (λz=>nomatch z) h
 | flt y=>obtain⟨t,q⟩:=(rx);cases q;exact kia_one PySem.W.kitx_float I.kIn Yo e (λz=>nomatch z) h
 | @lst a xs ea =>
  cases (rx);obtain⟨_,_,n,_,h1⟩:=(I.hok a _ ea);exact kia_one kitx_list I.kIn #[_,h1,rfl] e (λz=>nomatch z) h
 | @frz a ob xs ea =>
  cases (rx);obtain⟨_,_,_,n,_,h1⟩:=(I.hok a _ ea);exact kia_one kitx_list I.kIn #[_,h1,rfl] e (λz=>nomatch z) h
 | @tup a xs ea =>
  cases (rx);obtain⟨_,_,_,p⟩:=(I.hok a _ ea);obtain⟨o,h1,h2,_⟩:=p;exact kia_one PySem.W.kitx_tuple I.kIn #[o,h1,h2] e (λz=>nomatch z) h
 | @dK a Ei ea =>
  cases (rx);obtain⟨_,_,vs,_,p⟩:=(I.hok a _ ea);obtain⟨o,es,ep,h1,h2,_⟩:=p;exact kia_one kitx_dict I.kIn #[o,h1,h2.1] e (λz=>nomatch z) h
 | @dT a Ei ea =>
  cases (rx);obtain⟨_,_,xs,_,o,es,ep,h1,h2,_⟩:=(I.hok a _ ea);exact kia_one kitx_dict I.kIn #[o,h1,h2.1] e (λz=>nomatch z) h
 | @ins a C dx fs ea cl ha hn O3 hm =>
  cases (rx);obtain⟨mA,O,_⟩:=gW I.hok ea;obtain⟨od,J,_⟩:=O.look;exact kia_one (PySem.W.kitx_own (cl.get _) cl.hd ha hn O3 hm) I.kIn J e (λz=>nomatch z) h
end
structure Jf (c:Bool) (k:Nat) (A:Around):Prop where
 hd:c=true->A.handled=none
 dp:A.depth+3*k+5<recursionLimit
 un:A.units+16*k+200<cLine
abbrev UM:=Jf true
theorem Jf.mono {c':Bool}{j:Nat}{A:Around} (r:Jf c k A) (h:j<=k) (hc:autoParam (c'=true->c=true) gt):Jf c' j A:=#[λz=>r.hd<|hc z,by have:=r.dp;lia,by have:=r.un;lia]
theorem Jf.m {c c':Bool}{j k:Nat}{A:Around} (r:Jf c k A) (h:autoParam (j<=k) gt) (hc:autoParam (c'=true->c=true) gt):Jf c' j A:=r.mono h hc
theorem Jf.deeper {A:Around} (r:Jf c (k+1) A) (env:Env):Jf c k (A.deeper env) :=
 #[r.hd,by have:=r.dp;show A.depth+1+3*k+5<_;lia,by have:=r.un;show A.units+3+16*k+200<_;lia]
theorem d8 {A:Around}{kw:List (Str×Value)}:(A.under<|.builtin "type.__call__" #[.ref C::us,kw]).depth=A.depth+1:=by
 first|rfl
theorem d9 {A:Around}{kw:List (Str×Value)}:(A.under<|.builtin "type.__call__" #[.ref C::us,kw]).units=A.units+1:=by
 first|rfl
theorem Jf.make {A:Around} (r:Jf c (k+1) A) (C:Addr) (us:DY) (kw:List (Str×Value)):Jf c k (A.under<|.builtin "type.__call__" #[.ref C::us,kw]) :=
 #[r.hd,by have:=r.dp;rw[d8];lia,by have:=r.un;rw[d9];lia]
theorem Jf.depth {A:Around} (r:Jf c k A):A.depth<recursionLimit:=by have:=r.dp;lia
theorem Jf.units {A:Around} (r:Jf c k A):A.units+64<cLine:=by have:=r.un;lia
theorem Jf.units0 {A:Around} (r:Jf c k A):A.units<cLine:=by have:=r.un;lia
def Di:TA:=λ_ H Q=>Q [] H
def BQ (ta:TE) (tr:TA):TA:=λσ H Q=>ta σ H λx H1=>tr σ H1 λxs H2=>Q (x::xs) H2
section
variable {X:Cx}{e:Expr}{es:Ea}{te:TE}{t:TA}{pos:Pos}
theorem jf:PA X [] Di:=λ_ _ _ _ H Q I h=>Calls.spliced_nil #[_,H,I,.nil,h]
theorem ja (ha:PE X e te) (hr:PA X es t) (hs:autoParam (starEach (e::es) X.env=(false,eval e X.env)::starEach es X.env) ac):PA X (e::es) (BQ te t):=by
 intro pos pins s σ H Q I h;rw[hs];refine Calls.spliced_cons (jE (ha pins s σ H _ I h) λu s1 #[x,H1,I1,r1,q1]=>?_);exact jE (hr pos pins s1 σ H1 _ I1 q1) λus s2 #[xs,H2,I2,r2,q2]=>#[_,H2,I2,.cons r1 r2,q2]
inductive sT (Q:VK) (xs:List V) (H1:Hp):Prop
 | mk  (h0:xs.length<=sizeLine) (h1:∀p,H1 p=none->Q (.ref p) (upd H1 p<|.tup xs)):sT Q xs H1
def Do (t:TA):TE:=λσ H Q=>t σ H λxs H1=>sT Q xs H1
inductive sN (Q:VK) (xs:List V) (H1:Hp):Prop
 | mk  (h0:xs.length<=sizeLine) (h1:∀p,H1 p=none->Q (.ref p) (upd H1 p<|.lst xs)):sN Q xs H1
def Dh (t:TA):TE:=λσ H Q=>t σ H λxs H1=>sN Q xs H1
theorem jN {x1} (h:PA X es t):PE X (.Tuple es x1 pos) (Do t):=by
 intro pins s σ H Q I hq;refine wpAny_Tuple_spliced (jE (h pos pins s σ H _ I hq) λus s1 #[xs,H1,I1,r,z,q]=>#[by rw[<-r.length];exact z,?_]);have hf:=I1.hok.fresh<|yh _;refine#[.ref s1.heap.objs.size,_,I1.laid (λb u e=>yg _ e) (yh _) ?_,rfl,q _ hf];exact#[z,us,r,#[_,yB _ rfl,rfl,_,rfl]]
theorem JL (h:PA X es t):PE X (.List es pos) (Dh t):=by
 intro pins s σ H Q I hq;refine wpAny_List_spliced (jE (h pos pins s σ H _ I hq) λus s1 #[xs,H1,I1,r,z,q]=>#[by rw[<-r.length];exact z,?_]);have hf:=I1.hok.fresh<|yh _;refine#[.ref s1.heap.objs.size,_,I1.laid (λb u e=>yg _ e) (yh _) ?_,rfl,q _ hf];exact#[z,us,0,r,yB _ rfl]
end
abbrev Sp:=List V->Hp->VK->XK->Prop
abbrev M9:=List Env->Hp->Shared->XK->Value->Shared->Prop
structure vD (P:Ee) (w:World) (K:DS) (mg:DV) (base:Heap) (A:Around) (outer:List Env) (s:Shared) (H:Hp):Prop where
 frames:A.frames=some outer
 mod:Mod K mg base
 bs:∀b o,base.get? b=some o->s.heap.get? b=some o/\H b=none
 bsz:base.objs.size<=s.heap.objs.size
 funs:s.heap.FunFrames base outer
 frf:∀b∈uo outer,H b=none
 hok:Jh P w H s.heap
 bare:AllBare s.gens
 hn:nM A H
def CE (outer:List Env) (P:Ee) (w:World) (H:Hp) (s:Shared) (Q:VK) (u:Value) (s':Shared):Prop :=
 ∃v H',s'.os=s.os/\AllBare s'.gens/\Un (uo outer) [] H H' s.heap s'.heap/\Jh P w H' s'.heap/\jI v u/\Q v H'
def CR (CX:M9) (outer:List Env) (P:Ee) (w:World) (H:Hp) (s:Shared) (Q:VK) (E:XK) (r:Result) (s':Shared):Prop :=
 match r with
 | .ok (.ret u)=>CE outer P w H s Q u s'
 | .ok _=>False
 | .error e=>CX outer H s E e s'
structure Ui (P:Ee) (w:World) (K:DS) (mg:DV) (base:Heap) (CX:M9) (k:Nat) (f:Addr) (fd:FuncData) (ps:D8) (sp:Sp) (c:Bool:=true):Prop where
 len:∀vs H Q E,sp vs H Q E->vs.length=ps.length
 run:∀(A:Around) (outer:List Env) (s:Shared) (H:Hp) (args:Args) (us:DY) (vs:List V) (Q:VK) (E:XK),Jf c k A->vD P w K mg base A outer s H->BindsTo s fd args (ps.zip us)->jG vs us->sp vs H Q E ->
  codeAny (model P w) A (.call (.ref f) args) (CR CX outer P w H s Q E) s
theorem vD.make {w:World}{K:DS}{mg:DV}{base:Heap}{A:Around}{outer:List Env} (e:vD P w K mg base A outer s H) (C:Addr) (us:DY) (kw:List (Str×Value)) :
  vD P w K mg base (A.under<|.builtin "type.__call__" #[.ref C::us,kw]) outer s H:=#[by first|exact e.frames,e.mod,e.bs,e.bsz,e.funs,e.frf,e.hok,e.bare,e.hn]
section
variable {X:Cx}{pins:DW}{σ:St}{H:Hp}{s s':Shared}
theorem jo.env0 (I:jo X pins σ H s):vD X.prog X.w X.K X.mg X.base X.A X.stack s H :=
 #[I.ok.frames,I.ok.mod,I.bs,ym I.ok.bsz I.sz,I.stack,I.stkFree,I.hok,I.bare,I.hn]
theorem jo.after {u:Value} (I:jo X pins σ H s) (h:CE X.stack X.prog X.w H s Q u s'):EP X pins σ Q u s':=by
 obtain⟨v,H',os,bare,un,hok,r,q⟩:=h;obtain⟨hh,g,d,t,os'⟩:=s';obtain rfl:os'=s.os:=os;exact#[v,H',I.call un hok bare (λb z=>absurd z (by simp)),r,q]
end
def sK (sp:Sp) (dvs:List V) (E:XK) (t:TA):TE:=λσ H Q=>t σ H λvs H1=>sp (vs++dvs) H1 Q E
inductive oF (C:Addr) (m:Str) (sp:Sp) (dvs:List V) (E:XK) (t:TA) (σ:St) (Q:VK) (x:V) (H1:Hp):Prop
 | mk (a:_) (dx:_) (fs:_) (h0:x=.ref a) (h1:H1 a=some (.ins C dx fs)) (h2:fs.lookup m=none) (h3:t σ H1 λvs H2=>sp (x::(vs++dvs)) H2 Q E):oF C m sp dvs E t σ Q x H1
def sP (C:Addr) (m:Str) (sp:Sp) (dvs:List V) (E:XK) (ta:TE) (t:TA):TE:=λσ H Q=>ta σ H λx H1=>oF C m sp dvs E t σ Q x H1
def sO (C:Addr) (sp:Sp) (dvs:List V) (E:XK) (t:TA):TE:=λσ H Q=>t σ H λvs H1=>∀x dx,H1 x=none->H1 dx=none->dx≠x ->
 sp (.ref x::(vs++dvs)) (upd (upd H1 dx<|.own x) x<|.ins C dx []) (λv H2=>v=.non/\Q (.ref x) H2) E
def JZ (K:DS) (fd:FuncData) (ps:D8) (ds:DY):Prop :=
 ∀(s:Shared) (us:DY),K.In s.heap->(us++ds).length=ps.length->BindsTo s fd #[us,[]] (ps.zip<|us++ds)
theorem JZ.all {K:DS}{fd:FuncData} (h:∀us:List Value,us.length=ps.length->bindArgs fd ⟨us,[]⟩=pure (ps.zip us)):JZ K fd ps []:=λs us _ hl=>by
 rw[yK] at hl ⊢;exact .of_eq (h us hl)
def UD (CX:M9) (X:Cx) (E:XK):Prop:=∀(pins:DW) (σ:St) (H:Hp) (s:Shared) (e:Value) (s':Shared),jo X pins σ H s->CX X.stack H s E e s'->X.xe e s'
section
variable {X:Cx}{CX:M9}{k:Nat}{f C:Addr}{fd:FuncData}{ps:D8}{sp:Sp}{dvs:List V}{ds:DY}{E:XK}{x m:Str}{p pos apos:Pos}{e o:Expr}{es:Ea}{ta:TE}{t:TA}
theorem Kz (F:Ui X.prog X.w X.K X.mg X.base CX k f fd ps sp cm) (hr:Jf cm k X.A) (hb:JZ X.K fd ps ds) (hd:jG dvs ds) (hx:UD CX X E)
  (I:jo X pins σ H s) (r:jG vs us) (h:sp (vs++dvs) H Q E):wpAny (model X.prog X.w) X.A (call (.ref f) us) (EP X pins σ Q) X.xe s:=by
 have r2:=r.append hd;have hl:(us++ds).length=ps.length:=by rw[<-r2.length];exact F.len _ _ _ _ h
 refine wpAny_call (codeAny_mono (F.run X.A X.stack s H _ _ _ Q E hr I.env0 (hb s us I.kIn hl) r2 h) λr s' hq=>?_);cases r with
 | error e=>exact hx pins σ H s e s' I hq
 | ok fl =>
  cases fl with
  | ret u=>exact I.after hq
  | next=>exact Yf hq
  | brk=>exact Yf hq
  | cont=>exact Yf hq
theorem wb (F:Ui X.prog X.w X.K X.mg X.base CX k f fd ps sp cm) (hr:Jf cm k X.A) (hg:Gl X x) (hm:X.mg x=some (.ref f)) (hk:keepIn X.K (.ref f)=true) (hb:JZ X.K fd ps ds) (hd:jG dvs ds) (hx:UD CX X E)
  (ha:PA X (e::es) t) (HB:autoParam ((x==("__debug__":Str))=false) gt) (he:autoParam (starEach (e::es) X.env=(false,eval e X.env)::starEach es X.env) ac) (EE:autoParam ((backTo pos<|starEach es X.env).any (·.1)=false) ac) :
  PE X (.Call (.Name x p) (e::es) [] pos) (sK sp dvs E t):=by
 intro pins s σ H Q I h;refine wpAny_Call_Name_kw<|gY I hg hm ?_ HB;refine callWith_K I.ok.mod.kin hk (jE (ha pos pins s σ H _ I h) λus s1 #[vs,H1,I1,r,q]=>#[I1.kIn,?_]) he EE;exact Kz F hr hb hd hx I1 r q
theorem wg {pl:Sem Bool} (he:PE X o ta) (c:Vi X.K C) (hm:ZX X.K C m f) (F:Ui X.prog X.w X.K X.mg X.base CX k f fd ps sp cm) (hr:Jf cm k X.A) (hb:JZ X.K fd ps ds) (hd:jG dvs ds) (hx:UD CX X E) (ha:PA X (e::es) t)
  (Fp:autoParam (starEach (e::es) X.env=(false,eval e X.env)::starEach es X.env) ac) (EE:autoParam ((backTo pos<|starEach es X.env).any (·.1)=false) ac)
  (ht:autoParam (eval (.Call (.Attribute o m apos) (e::es) [] pos) X.env=(do
   let ov <-eval o X.env
   standAt apos.atName
   let (f,first) <-holding [ov] (getMethod ov m pl)
   callWith pos f first (backTo pos<|starEach (e::es) X.env) (backToKw pos<|keywordEach [] X.env))) ac) :
  PE X (.Call (.Attribute o m apos) (e::es) [] pos) (sP C m sp dvs E ta t):=by
 intro pins s σ H Q I h;refine methodCall_KW (jE (he pins s σ H _ I h) λu s1 hh=>?_) ht;obtain⟨x,H1,I1,rx,a,dx,fs,ex,ea,l,q⟩:=hh;subst ex;obtain rfl:u=Value.ref a:=rx;refine vK I1 ea c hm l ?_;refine callWith_K I.ok.mod.kin hm.kp (jE (ha pos pins s1 σ H1 _ I1 q) λus s2 #[vs,H2,I2,r,q2]=>#[I2.kIn,?_]) Fp EE;exact Kz (vs:=.ref a::vs) F hr hb hd hx I2 (.cons rfl r) q2
structure Mk (K:DS) (C f:Addr):Prop where
 makes:makesIn K C=true
 init:findIn K (.ref C) "__init__"=some (some<|.ref f)
 fn:isFn K (.ref f)=true
 kp:keepIn K (.ref C)=true
theorem qK (M:Mk X.K C f) (F:Ui X.prog X.w X.K X.mg X.base CX k f fd ps sp) (hr:UM (k+1) X.A) (hb:JZ X.K fd ps ds) (hd:jG dvs ds)
  (hx:UD CX X E) (I:jo X pins σ H s) (r:jG vs us)
  (h:∀x dx,H x=none->H dx=none->dx≠x->sp (.ref x::(vs++dvs)) (upd (upd H dx<|.own x) x<|.ins C dx []) (λv H2=>v=.non/\Q (.ref x) H2) E) :
  wpAny (model X.prog X.w) X.A (call (.ref C) us) (EP X pins σ Q) X.xe s:=by
 have hq:=h _ s.heap.objs.size (I.hok.fresh<|Nat.le_succ _) (I.hok.fresh<|yh _)<|yJ<|aas _;have I2:=jo.made (C:=C) I;have r2:jG (V.ref (s.heap.objs.size+1)::(vs++dvs)) _:=.cons rfl<|r.append hd;have hl:=by
  have e:=r2.length;rw[F.len _ _ _ _ hq] at e;exact e.symm
 refine wpAny_call (qh I.kIn M.makes M.init (beq_iff_eq.mp M.fn) (codeAny_mono (F.run _ X.stack _ _ _ _ _ _ E (hr.make C us _)
  (I2.env0.make C us _) (hb _ _ I2.kIn hl) r2 hq) λr s' IX=>?_))
 cases r with
 | error e=>exact hx pins σ _ _ e s' I2 IX
 | ok fl =>
  cases fl with
  | ret u =>
   obtain⟨v,H',I3,rv,ev,q3⟩:=I2.after IX;subst ev;exact#[rv,#[V.ref _,H',I3,rfl,q3]]
  | next=>exact Yf IX
  | brk=>exact Yf IX
  | cont=>exact Yf IX
theorem wc (M:Mk X.K C f) (F:Ui X.prog X.w X.K X.mg X.base CX k f fd ps sp) (hr:UM (k+1) X.A) (hg:Gl X x) (hm:X.mg x=some (.ref C)) (hb:JZ X.K fd ps ds) (hd:jG dvs ds) (hx:UD CX X E)
  (ha:PA X (e::es) t) (HB:autoParam ((x==("__debug__":Str))=false) gt) (he:autoParam (starEach (e::es) X.env=(false,eval e X.env)::starEach es X.env) ac) (EE:autoParam ((backTo pos<|starEach es X.env).any (·.1)=false) ac) :
  PE X (.Call (.Name x p) (e::es) [] pos) (sO C sp dvs E t):=by
 intro pins s σ H Q I h;refine wpAny_Call_Name_kw<|gY I hg hm ?_ HB;refine callWith_K I.ok.mod.kin M.kp (jE (ha pos pins s σ H _ I h) λus s1 #[vs,H1,I1,r,q]=>#[I1.kIn,?_]) he EE;exact qK M F hr hb hd hx I1 r q
end
structure uG (N P:D8) (sc:Scope):Prop where
 kind:sc.kind=.function
 co:sc.isCoroutine=false
 gen:sc.isGenerator=false
 nd:N.Nodup
 pre:N.take P.length=P
 par:∀x∈P,sc.names.lookup x=some .local\/sc.names.lookup x=some .cell
 nofree:∀y∈sc.names,y.2≠.free
theorem pV {N P:D8}{sc:Scope} (a:autoParam (sc.kind=.function) ac) (b:autoParam (sc.isCoroutine=false) ac) (c:autoParam (sc.isGenerator=false) ac) (d:N.Nodup:=by decide +kernel) (e:autoParam (N.take P.length=P) ac) (f:∀x∈P,sc.names.lookup x=some .local\/sc.names.lookup x=some .cell:=by decide +kernel) (g:∀y∈sc.names,y.2≠.free:=by decide +kernel):uG N P sc:=#[a,b,c,d,e,f,g]
theorem mE {x:Str}:∀{binds:List (Str×Value)} {m:DV},(∀v,(x,v) ∉ binds)->bindL kindOf binds m x=m x
 | [],_,_=>rfl
 | (n,v)::r,m,h=>by
  unfold bindL;rw[mE λw hw=>h w<|yH _ hw];split
  ·grind
  ·rfl
theorem mC {x:Str}:∀{binds:List (Str×Value)} {m:DV},(∀v,(x,v) ∉ binds)->bindC kindOf binds m x=m x
 | [],_,_=>rfl
 | (n,v)::r,m,h=>by
  unfold bindC;rw[mC λw hw=>h w<|yH _ hw];split
  ·rfl
  ·grind
theorem mD {x:Str}{v:Value}:∀{P:D8} {vs:DY} {i:Nat} {m:DV},P.Nodup->P[i]?=some x->vs[i]?=some v->kindOf x=some .local ->
  bindL kindOf (P.zip vs) m x=some v
 | [],_,_,_,_,h,_,_=>by simp at h
 | _::_,[],_,_,_,_,h,_=>by simp at h
 | p::P,w::vs,0,m,nd,h1,h2,hk=>by
  simp at h1 h2;subst h1;subst h2;show bindL kindOf ((p,w)::P.zip vs) m p=_;unfold bindL;rw[mE λv hv=>(Qo.mp nd).1 (Q0 hv).1,if_pos hk];simp
 | p::P,w::vs,i+1,m,nd,h1,h2,hk=>by
  unfold bindL;exact mD (Qo.mp nd).2 (by simpa using h1) (by simpa using h2) hk
theorem mB {x:Str}{v:Value}:∀{P:D8} {vs:DY} {i:Nat} {m:DV},P.Nodup->P[i]?=some x->vs[i]?=some v->kindOf x≠some .local ->
  bindC kindOf (P.zip vs) m x=some v
 | [],_,_,_,_,h,_,_=>by simp at h
 | _::_,[],_,_,_,_,h,_=>by simp at h
 | p::P,w::vs,0,m,nd,h1,h2,hk=>by
  simp at h1 h2;subst h1;subst h2;show bindC kindOf ((p,w)::P.zip vs) m p=_;unfold bindC;rw[mC λv hv=>(Qo.mp nd).1 (Q0 hv).1,if_neg hk];simp
 | p::P,w::vs,i+1,m,nd,h1,h2,hk=>by
  unfold bindC;exact mB (Qo.mp nd).2 (by simpa using h1) (by simpa using h2) hk
def start (N:D8) (vs:List V):St:=vs.map some++Yd (N.length - vs.length) none
def GV (CX:M9) (P:Ee) (w:World) (K:DS) (mg:DV) (base:Heap) (N:D8) (qual:Str) (scope:Scope) (f:Addr) (cd:Value) (A:Around) (outer:List Env) (s:Shared) (H:Hp) (E:XK) (c:Bool:=true):Cx where
 prog:=P
 w:=w
 K:=K
 mg:=mg
 base:=base
 A:=A.deeper (envOfC qual scope s.heap.objs.size f cd)
 N:=N
 s₀:=s
 H₀:=H
 env:=envOfC qual scope s.heap.objs.size f cd
 outer:=outer
 stack:=envOfC qual scope s.heap.objs.size f cd::outer
 ex:=[]
 calm:=c
 fn:=λ_=>true
 pn:=[]
 xe:=λe s'=>wpAny (model P w) (A.deeper<|envOfC qual scope s.heap.objs.size f cd) (leaving (envOfC qual scope s.heap.objs.size f cd) e) (λ_ TJ=>CX outer H s E e TJ) (λe' TJ=>CX outer H s E e' TJ) s'
theorem nZ {sc:Scope}{n:Nat}{x:Str} (h:sc.names.lookup x=some .cell):∃c,(cellsFrom n sc.names []).lookup x=some c:=by
 have q:=cellsFrom_some sc.names n []<|.inl h;exact Qk.mp q
theorem iO {w:World}{K:DS}{mg:DV}{base:Heap}{N:D8}{f:Addr}{cd:Value}{A:Around}{outer:List Env}{s1:Shared}{E:XK}
  {c:Bool} (S:uG N ps scope) (hd:c=true->A.handled=none) (e0:vD P w K mg base A outer s H) (hl:vs.length=ps.length) (r:jG vs us)
  (x:InCallC s s.heap.objs.size (bindL (envOfC qual scope s.heap.objs.size f cd).kindOf (ps.zip us) λ_=>none) (cellsFrom (s.heap.objs.size+1) scope.names []) (bindC (envOfC qual scope s.heap.objs.size f cd).kindOf (ps.zip us) λ_=>none) s1) :
  jo (GV CX P w K mg base N qual scope f cd A outer s H E c) [] (start N vs) H s1:=by
 have EE:ps.length<=N.length:=by have:=congrArg Yl S.pre;rw[yM] at this;lia
 obtain⟨h1,tk,rfl,hk⟩:=x.done;have Hq:∀b:Addr,b ∉ (GV CX P w K mg base N qual scope f cd A outer s H E c).ex:=λb z=>absurd (show b∈([]:DZ) from z) (by simp);refine#[#[e0.mod,S.kind,rfl,rfl,yh _,λy z c h1 h2=>?_,λy hy=>?_,λy c' _ h=>?_,hd,Around.frames_deeper e0.frames,.inr #[rfl,rfl],λb z=>absurd z<|Hq b,e0.bs,e0.bsz,λb _ _=>Hq b,λb z=>absurd z<|Hq b,e0.funs,e0.frf],
  rfl,e0.bare,Un.kept hk,#[_,x.toInCall.ns,λi y v h1 h2 h3=>?_],λy c h=>#[_,x.cell y c h],e0.hok.fresh<|yh _,λy c h=>?_,λp hp=>absurd (show p∈([]:DW) from hp) (by simp),e0.hok.kept hk,?_,e0.hn]
 ·exact name_of_addr x.apart (Yt h1) (Yt h2)
 ·have hy:scope.names.lookup y=some .cell\/scope.names.lookup y=some .free:=hy;rcases hy with hy|hy
  ·exact nZ hy
  ·exact absurd rfl (S.nofree _<|Yt hy)
 ·exact aaa (x.above y c'<|Yt h)
 ·have hi:i<vs.length:=by
   unfold start at h2;by_cases hi:i<vs.length
   ·exact hi
   ·rw[yl (by simpa using hi)] at h2;rw[aap] at h2
    split at h2<;>cases h2
  have ha:vs[i]?=some v:=by
   unfold start at h2;rw[yn (by simpa using hi),yo] at h2;cases e:vs[i]? with
   | none=>rw[e] at h2;cases h2
   | some a=>rw[e] at h2;cases h2;rfl
  obtain⟨u,hu,rv⟩:=r.get ha;have hp:ps[i]?=some y:=by
   rw[<-S.pre,List.getElem?_take_of_lt (by lia)];exact h1
  have j₂:ps.Nodup:=by rw[<-S.pre];exact S.nd.sublist (List.take_sublist _ _)
  refine#[u,rv,?_];rcases S.par y (yp hp) with k|k
  ·exact .inl #[k,mD j₂ hp hu k]
  ·obtain⟨c,e⟩:=nZ (n:=s.heap.objs.size+1) k;refine .inr #[.inl k,c,e,?_];have q:=x.cell y c e;rw[mB j₂ hp hu (by show scope.names.lookup y≠_;rw[k];decide)] at q;exact q
 ·exact e0.hok.fresh (aaa<|x.above y c<|Yt h)
 ·unfold start;show _=N.length;rw[ye,yb,aax]
  lia
theorem rR {w:World}{K:DS}{mg:DV}{base:Heap}{f:Addr}{name:Str}{params:Arguments}{dV kV doc pm Em ct oc:Value}{an od:Ed}
  {Hr:D7} {N ps:D8} {sp:Sp} {c:Bool} (lk:K.lookup f=some #[oc,od,.func<|fnOf name qual params body scope dV kV doc pm an Em ct,Hr]) (FE:codeIn K Em qual=true) (S:uG N ps scope)
  (len:∀vs H Q E,sp vs H Q E->vs.length=ps.length)
  (EH:∀(A:Around) (outer:List Env) (s:Shared) (H:Hp) (vs:List V) (Q:VK) (E:XK),Jf c k (A.deeper<|envOfC qual scope s.heap.objs.size f Em)->sp vs H Q E ->
   ∃t,zO (GV CX P w K mg base N qual scope f Em A outer s H E c) body t/\t { nx:=λ_ H'=>Q .non H',rt:=Q } (start N vs) H) :
  Ui P w K mg base CX (k+1) f (fnOf name qual params body scope dV kV doc pm an Em ct) ps sp c:=by
 refine#[len,λA outer s H args us vs Q E hr e0 hb r HC=>?_];have hl:=len _ _ _ _ HC;have KX:=e0.mod.kin.keeps λb o e=>(e0.bs b o e).1;have lim:=e0.mod.nolimit.keeps λb o e=>(e0.bs b o e).1;have Q3:∀y∈ps.zip us,scope.names.lookup y.1=some _\/(scope.names.lookup y.1=some _/\((cellsFrom (s.heap.objs.size+1) scope.names []).lookup y.1).isSome=true):=λ⟨n,v⟩ hy=>by
  rcases S.par n (Q0 hy).1 with q|q
  ·exact .inl q
  ·exact .inr #[q,cellsFrom_some _ _ _<|.inl q]
 refine codeAny_call_function hr.depth (KX _ _ lk) rfl S.co S.gen rfl (PySem.W.codeRec_of KX FE)<|hb _ _ _ _ ?_;refine wpAny_newFunctionEnv_cells S.kind Q3 λenv he s1 x=>?_;subst he;refine#[lim.keeps x.toInCall.keep,codeAny_func ?_];obtain⟨t,ht,hq⟩:=EH A outer s H vs Q E (hr.deeper _) HC;have I:jo (GV CX P w K mg base N qual scope f Em A outer s H E c) _ _ H s1:=iO S hr.hd e0 hl r x;refine wpAny_mono (ht _ s1 _ H _ I hq) (λfl s' hs=>?_) λe s' hs=>hs;have fin:∀{σ':St} {H':Hp} {v:V} {u:Value},jo (GV CX P w K mg base N qual scope f Em A outer s H E c) [] σ' H' s'->jI v u->Q v H'->CE outer P w H s Q u s' :=
  λ{σ' H' v u} J rv q=>#[v,H',J.os,J.bare,J.base,J.hok,rv,q]
 cases fl with
 | ret u =>
  obtain⟨v,σ',H',J,rv,q⟩:=hs;exact fin J rv q
 | next =>
  obtain⟨σ',H',J,q⟩:=hs;exact fin (v:=V.non) J rfl q
 | brk =>
  obtain⟨_,_,_,q⟩:=hs;exact Yf q
 | cont =>
  obtain⟨_,_,_,q⟩:=hs;exact Yf q
section
variable {X:Cx}{x:Str}{p pos:Pos}{e:Expr}{es:Ea}{t:TA}{id T:String}{r:List V->Hp->VK->Prop}
def CA (r:List V->Hp->VK->Prop) (t:TA):TE:=λσ H Q=>t σ H λvs H1=>r vs H1 Q
theorem jU (hc:u4 X (.builtin id) r) (hg:Gl X x) (hm:X.mg x=none) (hv:bootBuiltins x=some (.builtin id)) (ha:PA X (e::es) t) (hn:autoParam (x≠"__name__") gt) (HB:autoParam ((x==("__debug__":Str))=false) gt)
  (he:autoParam (starEach (e::es) X.env=(false,eval e X.env)::starEach es X.env) ac) (EE:autoParam ((backTo pos<|starEach es X.env).any (·.1)=false) ac):PE X (.Call (.Name x p) (e::es) [] pos) (CA r t):=by
 intro pins s σ H Q I h;refine wpAny_Call_Name_kw<|zT I hg hm hv ?_ hn HB;exact PyProof.Rows.callWith_builtin1 (jE (ha pos pins s σ H _ I h) λus s1 #[vs,H1,I1,r1,q1]=>hc pins s1 σ H1 vs us Q I1 r1 q1) he EE
theorem zB (hc:u4 X (.type T) r) (hg:Gl X x) (hm:X.mg x=none) (hv:bootBuiltins x=some (.type T)) (ha:PA X (e::es) t) (hn:autoParam (x≠"__name__") gt) (HB:autoParam ((x==("__debug__":Str))=false) gt)
  (he:autoParam (starEach (e::es) X.env=(false,eval e X.env)::starEach es X.env) ac) (EE:autoParam ((backTo pos<|starEach es X.env).any (·.1)=false) ac):PE X (.Call (.Name x p) (e::es) [] pos) (CA r t):=by
 intro pins s σ H Q I h;refine wpAny_Call_Name_kw<|zT I hg hm hv ?_ hn HB;exact Yp (jE (ha pos pins s σ H _ I h) λus s1 #[vs,H1,I1,r1,q1]=>hc pins s1 σ H1 vs us Q I1 r1 q1) he EE
end
end L2
namespace HT
open PySem PyProof.Rows
variable {Q:DO}{sl:Addr}{vl vu:Value}{lo hi:Option Int}
section
variable {prog:Ee}{w:World}{A:Around}{E:DO}{s:Shared}
theorem cat_tup {t b:Addr}{vs ws:DY} (ht:IsTup s.heap t vs.toArray) (hb:IsTup s.heap b ws.toArray) (hv:vs≠[])
  (h1:ws=[]->Q (.ref t) s) (h2:ws≠[]->Q (.ref s.heap.objs.size) { s with heap:=s.heap.push { cls:=.type "tuple",data:=.seq (vs++ws).toArray } })
  (hsz:vs.length+ws.length<=sizeLine):wpAny (model prog w) A (binaryOp .Add (.ref t)<|.ref b) Q E s:=by
 obtain⟨⟨cls,dd,data,sl⟩,ho,hc,n,hd⟩:=id ht;obtain⟨⟨LY,FG,data2,FH⟩,EI,FV,n2,hd2⟩:=id hb;subst hc hd FV hd2;have e:vs.toArray++ws.toArray=(vs++ws).toArray:=by simp
 by_cases hw:ws=[]
 ·exact concat_meets #[_,ho,rfl] #[_,EI,rfl] noFill_tuple_add seq_tuple_add aa9 aa2 (aaZ _ _)
   (tuple_addW1 t b vs.toArray ws.toArray n n2 dd FG sl FH (by simpa using hv) (by simp [hw])) #[ho,EI,h1 hw]
 ·refine concat_meets #[_,ho,rfl] #[_,EI,rfl] noFill_tuple_add seq_tuple_add aa9 aa2 (aaZ _ _)
   (tuple_addW2 t b vs.toArray ws.toArray n n2 dd FG sl FH (by simpa using hv) (by simpa using hw) (by omega)) #[ho,EI,?_]
  rw[e];exact h2 hw
def sIx (n d:Nat):Option Int->Nat
 | none=>d
 | some v=>if v<0 then (v+(n:Int)).toNat else min v.toNat n
theorem AG (n d:Nat) (hd:d<=n) (o:Option Int):sIx n d o<=n:=by
 cases o with
 | none=>exact hd
 | some v =>
  show (if v<0 then (v+(n:Int)).toNat else min v.toNat n)<=n;by_cases hv:v<0
  ·rw[if_pos hv];lia
  ·rw[if_neg hv];exact aar _ _
theorem bT (v:Int) (n d:Nat):(if v<0 then max (v+(n:Int)) 0 else min v (n:Int))=((sIx n d (some v):Nat):Int):=by
 show (if v<0 then max (v+(n:Int)) 0 else min v (n:Int))=(((if v<0 then (v+(n:Int)).toNat else min v.toNat n):Nat):Int);by_cases hv:v<0
 ·simp only[if_pos hv];lia
 ·simp only[if_neg hv];lia
theorem dB (lo hi:Option Int) (n:Nat):Builtin.Slice.sliceAdjust lo hi 1 (n:Int)=(((sIx n 0 lo:Nat):Int),((sIx n n hi:Nat):Int)):=by
 have h1:¬((1:Int)<0):=by lia
 unfold Builtin.Slice.sliceAdjust;simp only[h1,if_false];refine QQ ?_ ?_
 ·cases lo with
  | none=>rfl
  | some v=>exact bT v n 0
 ·cases hi with
  | none=>rfl
  | some v=>exact bT v n n
theorem eQ (i j:Nat):Builtin.Slice.slicePlaces (i:Int) (j:Int) 1=j - i:=by
 unfold Builtin.Slice.slicePlaces;have h1:(1:Int) > 0:=by lia
 simp only[h1,if_true,Int.ediv_one]
 split<;>lia
theorem KC {v:Value}{o:Option Int}{Q:Option Int->Shared->Prop} (p:IsPart v o) (h:Q o s):wpAny (model prog w) A (Builtin.Slice.slicePartIndex v) Q E s:=by
 cases p with
 | none=>exact slicePart_none h
 | int i t=>exact slicePart_int h
theorem kg {n:Nat}{Q:Int×Int×Nat->Shared->Prop} (hs:s.heap.IsSliceOf sl vl vu .none) (pl:IsPart vl lo) (pu:IsPart vu hi)
  (h:Q (((sIx n 0 lo:Nat):Int),1,sIx n n hi - sIx n 0 lo) s):wpAny (model prog w) A (Builtin.Slice.sliceApplied (.ref sl)<|pure (n:Int)) Q E s:=by
 obtain⟨os,Q4,HQ,O5⟩:=id hs;unfold Builtin.Slice.sliceApplied Builtin.Slice.sliceFields;refine Ef<|Ef<|wpAny_field Q4 O5 (x:=vl) rfl<|Ef<|wpAny_field Q4 O5 (x:=vu) rfl<|Ef<|wpAny_field Q4 O5 (x:=.none) rfl<|Eg ?_;refine Ef<|slicePart_none ?_;show wpAny _ _ (if ((1:Int)==0)=true then _ else _) _ _ s;rw[if_neg (by decide)];refine Ef<|KC pl<|Ef<|KC pu<|Ef<|Eg ?_;show wpAny _ _ (match Builtin.Slice.sliceAdjust lo hi 1 (n:Int) with|(lo,hi)=>pure (lo,(1:Int),Builtin.Slice.slicePlaces lo hi 1)) _ _ s;rw[dB lo hi n];show wpAny _ _ (pure (((sIx n 0 lo:Nat):Int),(1:Int),Builtin.Slice.slicePlaces ((sIx n 0 lo:Nat):Int) ((sIx n n hi:Nat):Int) 1)) _ _ s;rw[eQ];exact Eg h
theorem qy (xs:D9) (i k:Nat):((Yk k).filterMap λ(m:Nat)=>xs[((i:Int)+(m:Int)*1).toNat]?).toArray=((xs.toList.drop i).take k).toArray:=by
 have e:(λ(m:Nat)=>xs[((i:Int)+(m:Int)*1).toNat]?)=λm=>xs[i+m]?:=by
  funext m;have:((i:Int)+(m:Int)*1).toNat=i+m:=by lia
  rw[this]
 rw[e];have:=pick_run xs i k;rw[aaG] at this;have e2:((λx=>xs[x]?)∘λx=>i+x)=λm=>xs[i+m]?:=rfl;rw[e2] at this;rw[this]
theorem getItem_tuple_cut {t:Addr}{items:D9} (ht:IsTup s.heap t items) (hs:s.heap.IsSliceOf sl vl vu .none) (pl:IsPart vl lo) (pu:IsPart vu hi)
  (hw:¬(sIx items.size 0 lo=0/\sIx items.size items.size hi=items.size))
  (h:Q (.ref s.heap.objs.size) { s with heap:=s.heap.push { cls:=.type "tuple",data:=.seq ((items.toList.drop<|sIx items.size 0 lo).take<|sIx items.size items.size hi - sIx items.size 0 lo).toArray } })
  (hsz:items.size<=sizeLine):wpAny (model prog w) A (getItem (.ref t)<|.ref sl) Q E s:=by
 have Hs:sizeOk (.seq ((items.toList.drop<|sIx items.size 0 lo).take<|sIx items.size items.size hi - sIx items.size 0 lo).toArray):=by
  show ((items.toList.drop<|sIx items.size 0 lo).take<|sIx items.size items.size hi - sIx items.size 0 lo).toArray.size<=sizeLine;rw[yt,yM,Ql,yD];omega
 have hj:sIx items.size items.size hi<=items.size:=AG _ _ (yh _) hi;obtain⟨os,Q4,HQ,O5⟩:=id hs;have hTs:s.TypeIs (.ref sl) "slice":=#[os,Q4,HQ];unfold getItem
 try with_reducible refine wpAny_holding ?_
 first|refine Ef (Eg ?_)|skip
 refine Ef (wpAny_sequenceKey ht.typeIs (by decide) ?_);refine Ef (wpAny_callSpecial?_slot (name:=Str.ofString "__getitem__") ht.typeIs aay
  (wpAny_call_entry aay ht.typeIs entry_tuple_getitem ?_<|args_tuple_getitem _ _))
 show wpAny _ _ (Builtin.Tuple.tupleItemsOf (.ref t)>>=_) _ _ s;refine Ef<|tupleItemsOf_ ht ?_;refine Ef<|wpAny_typeOf hTs ?_;rw[if_pos (by decide)];refine Ef<|kg hs pl pu ?_;have Q5:¬((((sIx items.size 0 lo:Nat):Int)==0&&(1:Int)==1&&(sIx items.size items.size hi - sIx items.size 0 lo)==items.size)=true):=by
  intro q;rw[yU,yU] at q;have q1:((sIx items.size 0 lo:Nat):Int)=0:=eq_of_beq q.1.1;have q2:sIx items.size items.size hi - sIx items.size 0 lo=items.size:=eq_of_beq q.2;exact hw #[by lia,by omega]
 show wpAny _ _ (if (((sIx items.size 0 lo:Nat):Int)==0&&(1:Int)==1&&(sIx items.size items.size hi - sIx items.size 0 lo)==items.size)=true then _ else _) _ _ s;rw[if_neg Q5,qy]
 first
  | exact Ef (m:=Builtin.Tuple.tupleExact _) (wpAny_newObj_type (Eg ⟨_,rfl,Eg h⟩) Hs)
  | exact Ef (m:=Builtin.Tuple.tupleExact _) (wpAny_newObj_type (Ef<|Eg<|Eg ⟨_,rfl,Eg h⟩) Hs)
  | exact Ef (Ef (m:=Builtin.Tuple.tupleExact _)<|wpAny_newObj_type (Eg<|Eg ⟨_,rfl,Eg h⟩) Hs)
  | exact Ef (Ef (m:=Builtin.Tuple.tupleExact _)<|wpAny_newObj_type (Eg ⟨_,rfl,Eg h⟩) Hs)
end
end HT
namespace L2
open PySem PySem.Spec PyProof.Rows
variable {xs:List V}{us:DY}{i:Int}{j:Nat}{x y:V}{H:Hp}{Q:VK}
abbrev TO:=St->Hp->(Option Int->Hp->Prop)->Prop
def PO (X:Cx) (e:Option Expr) (t:TO):Prop :=
 ∀(pins:DW) (s:Shared) (σ:St) (H:Hp) (Q:Option Int->Hp->Prop),jo X pins σ H s->t σ H Q ->
  wpAny (model X.prog X.w) X.A (evalPart e X.env) (λu s'=>∃o H',jo X pins σ H' s'/\IsPart u o/\Q o H') X.xe s
def wW:TO:=λ_ H Q=>Q none H
inductive oH (Q:Option Int->Hp->Prop) (x:V) (H1:Hp):Prop
 | mk (i:_) (h0:x=.int i) (h1:Q (some i) H1):oH Q x H1
def BW (t:TE):TO:=λσ H Q=>t σ H λx H1=>oH Q x H1
theorem dY {ns:List Int}:∀{us:DY},jG (ns.map V.int) us->IntsAre us ns:=by
 induction ns with
 | nil=>intro us r;cases r;exact .nil
 | cons n ns ih =>
  intro us r;cases r with
  | cons r1 r2 =>
   obtain⟨t,e⟩:=r1;subst e;exact .cons n t (ih r2)
section
variable {X:Cx}{e:Expr}{te:TE}{lo hi:Option Expr}{tl th:TO}{pos p2:Pos}
theorem cN:PO X none wW:=by
 intro pins s σ H Q I h;rw[evalPart_none];exact Eg #[none,H,I,.none,h]
theorem cO (h:PE X e te):PO X (some e) (BW te):=by
 intro pins s σ H Q I hw;rw[evalPart_some];refine jE (h pins s σ H _ I hw) λu s1 #[x,H1,I1,r1,q1]=>?_;obtain⟨i,rfl,q⟩:=q1;obtain⟨t,rfl⟩:=r1;exact#[some i,H1,I1,.int i t,q]
def xk (X:Cx) (r:V->Option Int->Option Int->Hp->VK->Prop):Prop :=
 ∀(pins:DW) (s:Shared) (σ:St) (H:Hp) (x:V) (v vl vu:Value) (lo hi:Option Int) (sl:Addr) (Q:VK),jo X pins σ H s->jI x v->s.heap.IsSliceOf sl vl vu .none->IsPart vl lo->IsPart vu hi->r x lo hi H Q ->
  ∃T id,typeLookup (.type T) "__getitem__"=pure (some<|.builtin id)/\s.TypeIs v T/\wpAny (model X.prog X.w) X.A (getItem v<|.ref sl) (EP X pins σ Q) X.xe s
def DJ (r:V->Option Int->Option Int->Hp->VK->Prop) (te:TE) (tl th:TO):TE:=λσ H Q=>te σ H λx H1=>tl σ H1 λl H2=>th σ H2 λu H3=>r x l u H3 Q
theorem N6 {r:V->Option Int->Option Int->Hp->VK->Prop} (hr:xk X r) (he:PE X e te) (hl:PO X lo tl) (hu:PO X hi th):PE X (.Subscript e (.Slice lo hi none p2) pos) (DJ r te tl th):=by
 intro pins s σ H Q I h;refine Subscript_ (jE (he pins s σ H _ I h) λv s1 #[x,H1,I1,r1,q1]=>?_);refine wpAny_Slice (jE (hl pins s1 σ H1 _ I1 q1) λvl s2 #[l,H2,I2,pl,q2]=>jE (hu pins s2 σ H2 _ I2 q2) λvu s3 #[u,H3,I3,pu,q3]=>?_);rw[evalPart_none];refine Eg ?_;have I4:jo X pins σ H3 { s3 with heap:=s3.heap.push { cls:=.type "slice",data:=.fields (Ya [vl,vu,.none]) } }:=I3.kept (t':=s3.toks) λb ob q=>yg _ q;obtain⟨T,id,hT,ht,hg⟩:=hr pins { s3 with heap:=s3.heap.push { cls:=.type "slice",data:=.fields (Ya [vl,vu,.none]) } } σ H3 x v vl vu l u s3.heap.objs.size Q I4 r1 (Heap.IsSliceOf.new ..) pl pu q3;show wpAny (model X.prog X.w) X.A (subscriptTail e (.Slice lo hi none p2) v<|.ref s3.heap.objs.size) (EP X pins σ Q) X.xe { s3 with heap:=s3.heap.push { cls:=.type "slice",data:=.fields (Ya [vl,vu,.none]) } };exact tail_any (ops:=[.ref s3.heap.objs.size,v]) ht hT hg (by with_unfolding_all rfl)
def vI (xs:List V) (lo hi:Option Int):List V:=(xs.drop<|HT.sIx xs.length 0 lo).take (HT.sIx xs.length xs.length hi - HT.sIx xs.length 0 lo)
theorem Gy (xs:List V) (lo hi:Option Int):(vI xs lo hi).length<=xs.length:=by
 unfold vI;rw[yM,Ql]
 lia
inductive sC (K:DS) (x:V) (lo:Option Int) (hi:Option Int) (H:Hp) (Q:VK):Prop
 | mk (a:_) (xs:_) (h0:x=.ref a) (h1:jx K H a xs) (h2:¬(HT.sIx xs.length 0 lo=0/\HT.sIx xs.length xs.length hi=xs.length)) (h3:∀p,H p=none->Q (.ref p) (upd H p<|.tup<|vI xs lo hi)):sC K x lo hi H Q
def CW (K:DS):V->Option Int->Option Int->Hp->VK->Prop:=λx lo hi H Q=>sC K x lo hi H Q
theorem oh:xk X (CW X.K):=by
 intro pins s σ H x v vl vu lo hi sl Q I rx hs pl pu h;obtain⟨a,xs,rfl,hx,hw,q⟩:=h;cases rx;obtain⟨Ek,r,ht,hz⟩:=I.tuple hx;have hlen:Ek.toArray.size=xs.length:=by rw[yt];exact r.length.symm
 refine#["tuple",_,PyProof.Rows.slot_tuple_getitem.lookup,ht.typeIs,?_];refine HT.getItem_tuple_cut ht hs pl pu (by rw[hlen];exact hw) ?_ (by rw[hlen];exact hz);rw[hlen];refine#[.ref s.heap.objs.size,_,I.laid (t':=s.toks) (o:=.tup<|vI xs lo hi) (λb ob q=>yg _ q) (yh _) ?_,rfl,q _<|I.hok.fresh<|yh _];exact#[ym (Gy xs lo hi) hz,_,(r.drop<|HT.sIx xs.length 0 lo).take<|HT.sIx xs.length xs.length hi - HT.sIx xs.length 0 lo,IsTup.new _ _]
def so (K:DS):R2:=λx y H Q=>∃a b xs ys,x=.ref a/\y=.ref b/\jx K H a xs/\jx K H b ys/\xs≠[]/\xs.length+ys.length<=sizeLine /\
 (ys=[]->Q (.ref a) H)/\(ys≠[]->∀p,H p=none->Q (.ref p) (upd H p<|.tup<|xs++ys))
theorem jG.nil_iff (r:jG xs us):us=[]↔xs=[]:=by
 cases r with
 | nil=>simp
 | cons _ _=>simp
theorem z7:uC X (binaryOp .Add) (so X.K):=by
 intro pins s σ H x y v u Q I rx ry h;obtain⟨a,b,xs,ys,rfl,rfl,ha,hb,hx,hz,q1,q2⟩:=h;cases rx;cases ry;obtain⟨Ek,r1,p1,_⟩:=I.tuple ha;obtain⟨Er,r2,p2,_⟩:=I.tuple hb;refine HT.cat_tup p1 p2 (λz=>hx<|r1.nil_iff.mp z) (λz=>#[.ref a,H,I,rfl,q1<|r2.nil_iff.mp z]) (λz=>?_) (by rw[<-r1.length,<-r2.length];exact hz);refine#[.ref s.heap.objs.size,_,I.laid (t':=s.toks) (o:=.tup<|xs++ys) (λb ob q=>yg _ q) (yh _) ?_,rfl,q2 (λw=>z<|r2.nil_iff.mpr w) _<|I.hok.fresh<|yh _];exact#[by rw[ye];exact hz,_,r1.append r2,IsTup.new _ _]
end
def mO (n:Nat) (i:Int):Option Nat:=if 0<=i then (if i<n then some i.toNat else none) else if -(n:Int)<=i then some (i+n).toNat else none
def vF {α:Type} (xs:List α) (i:Int):Option α:=(mO xs.length i).bind λj=>xs[j]?
theorem tW {n:Nat} (h:mO n i=some j):seqIndex? i n=some j/\j<n/\-(n:Int)<=i/\i<n:=by
 unfold mO at h;by_cases h0:0<=i
 ·rw[if_pos h0] at h;by_cases h1:i<n
  ·rw[if_pos h1] at h;have e:=Yb h;exact#[by rw[seqIndex_of h0 h1,e],by lia,by lia,h1]
  ·rw[if_neg h1] at h;cases h
 ·rw[if_neg h0] at h;by_cases h1:-(n)<=i
  ·rw[if_pos h1] at h;have e:=Yb h;exact#[by rw[seqIndex_neg (by lia) h1,e],by lia,h1,by lia]
  ·rw[if_neg h1] at h;cases h
theorem bQ {α:Type}{xs:List α}{v:α} (h:vF xs i=some v):∃j,seqIndex? i xs.length=some j/\xs[j]?=some v/\j<xs.length/\-(xs.length:Int)<=i/\i<xs.length:=by
 unfold vF at h;cases e:mO xs.length i with
 | none=>rw[e] at h;cases h
 | some j =>
  rw[e] at h;obtain⟨h1,h2,h3,h4⟩:=tW e;exact#[j,h1,h,h2,h3,h4]
theorem UI {α:Type}{xs:List α}{v:α} (h:xs[j]?=some v):vF xs (j:Int)=some v:=by
 have hj:=(yd.mp h).1;have e:mO xs.length (j)=some j:=by
  unfold mO;rw[if_pos (by lia),if_pos (by lia)];simp
 unfold vF;rw[e];exact h
theorem pC {α:Type} (xs:List α) (v:α):vF (xs++[v]) (-1)=some v:=by
 have hl:(xs++[v]).length=xs.length+1:=by simp
 have e:mO (xs++[v]).length (-1)=some xs.length:=by
  unfold mO;rw[hl,if_neg (by decide),if_pos (by lia)];congr 1
  lia
 unfold vF;rw[e];show (xs++[v])[xs.length]?=some v;simp
def tq (b:Expr):Prop:=∀o i,subscripted b false o i=operate [o,i] (getItem o i)
def xf (X:Cx) (r:R2):Prop :=
 ∀(value slice:Expr) (pins:DW) (s:Shared) (σ:St) (H:Hp) (x y:V) (v u:Value) (Q:VK),jo X pins σ H s->jI x v->jI y u->r x y H Q ->
  subscripted slice false v u=operate [v,u] (getItem v u)->wpAny (model X.prog X.w) X.A (subscriptTail value slice v u) (EP X pins σ Q) X.xe s
def Cg (X:Cx) (id:String) (r:V->List V->Hp->VK->Prop):Prop :=
 ∀(pins:DW) (s:Shared) (σ:St) (H:Hp) (x:V) (xs:List V) (v:Value) (us:DY) (Q:VK),jo X pins σ H s->jI x v->jG xs us->r x xs H Q ->
  wpAny (model X.prog X.w) X.A (call (.builtin id) (v::us)) (EP X pins σ Q) X.xe s
section
variable {X:Cx}{a b:Expr}{ta tb:TE}{pos:Pos}
theorem ju {r:R2} (hr:xf X r) (ha:PE X a ta) (hb:PE X b tb) (hs:tq b:=by exact λ_ _=>rfl):PE X (.Subscript a b pos) (sQ r ta tb):=by
 intro pins s σ H Q I h;exact Subscript_ (pD ha hb I h λv u s2 x y H2 I2 rx ry q=>hr a b pins s2 σ H2 x y v u Q I2 rx ry q<|hs _ _)
inductive sr (K:DS) (x:V) (y:V) (H:Hp) (Q:VK):Prop
 | mk (p:_) (xs:_) (i:_) (v:_) (h0:x=.ref p) (h1:y=.int i) (h2:jt K H p xs) (h3:vF xs i=some v) (h4:Q v H):sr K x y H Q
inductive ss (K:DS) (p:Addr) (i:Int) (H:Hp) (Q:VK):Prop
 | mk (xs:_) (v:_) (h2:jt K H p xs) (h3:vF xs i=some v) (h4:Q v H):ss K p i H Q
def ah (K:DS):R2:=λx y H Q=>match x,y with|.ref p,.int i=>ss K p i H Q|_,_=>False
theorem ah.out {K:DS} (h:ah K x y H Q):sr K x y H Q:=by
 unfold ah at h
 split at h
 ·obtain⟨xs,v,h2,h3,h4⟩:=h;exact#[_,xs,_,v,rfl,rfl,h2,h3,h4]
 ·cases h
inductive sw (K:DS) (x:V) (y:V) (H:Hp) (Q:VK):Prop
 | mk (p:_) (xs:_) (i:_) (v:_) (h0:x=.ref p) (h1:y=.int i) (h2:jx K H p xs) (h3:vF xs i=some v) (h4:Q v H):sw K x y H Q
inductive sA (K:DS) (p:Addr) (i:Int) (H:Hp) (Q:VK):Prop
 | mk (xs:_) (v:_) (h2:jx K H p xs) (h3:vF xs i=some v) (h4:Q v H):sA K p i H Q
def ai (K:DS):R2:=λx y H Q=>match x,y with|.ref p,.int i=>sA K p i H Q|_,_=>False
theorem ai.out {K:DS} (h:ai K x y H Q):sw K x y H Q:=by
 unfold ai at h
 split at h
 ·obtain⟨xs,v,h2,h3,h4⟩:=h;exact#[_,xs,_,v,rfl,rfl,h2,h3,h4]
 ·cases h
theorem uW {K:DS} (hK:autoParam (X.K=K) zzd):xf X (ah K):=by
 subst hK;intro value slice pins s σ H x y v u Q I rx ry h hs;obtain⟨p,xs,i,z,rfl,rfl,hq,he,q⟩:=ah.out h;cases rx;obtain⟨t,rfl⟩:=ry;obtain⟨Ek,r,pl,hz⟩:=I.list hq;obtain⟨j,h1,h2,h3,h4,h5⟩:=bQ he;obtain⟨w,ew,F5⟩:=r.get h2;have hl:=r.length;have hn:=Kf;have fin:EP X pins σ Q w s:=#[z,H,I,F5,q];by_cases h0:0<=i
 ·have hj:=by
   rw[seqIndex_of h0 h5] at h1;exact Yb h1
  exact item_listR pl.isList h0 (by lia) (by rw[hj];simpa using ew) fin hs
 ·have hj:(i+(Ek.toArray.size)).toNat=j:=by
   rw[seqIndex_neg (by lia) h4] at h1;rw[yt,<-hl];exact Yb h1
  exact subscriptTail_builtinR pl.isList.typeIs slot_list_getitem.lookup
   (wpAny_getItem_list_neg pl.isList (by lia) (by grind) (by lia) (by rw[hj];simpa using ew) #[rfl,fin]) hs
theorem jr {K:DS} (hK:autoParam (X.K=K) zzd):xf X (ai K):=by
 subst hK;intro value slice pins s σ H x y v u Q I rx ry h hs;obtain⟨p,xs,i,z,rfl,rfl,hq,he,q⟩:=ai.out h;cases rx;obtain⟨t,rfl⟩:=ry;obtain⟨Ek,r,pl,hz⟩:=I.tuple hq;obtain⟨j,h1,h2,h3,h4,h5⟩:=bQ he;obtain⟨w,ew,F5⟩:=r.get h2;have hl:=r.length;have hn:=Kf;have fin:EP X pins σ Q w s:=#[z,H,I,F5,q];exact subscriptTail_builtinR pl.typeIs slot_tuple_getitem.lookup
  (getItem_tuple (j:=j) pl (by lia) (by lia) (by grind) (by simpa using ew) #[rfl,fin]) hs
theorem ak (lo hi:Option Int) (n:Nat):(sliceBounds lo hi none n).1=((HT.sIx n 0 lo:Nat):Int)/\(sliceBounds lo hi none n).2.1=((HT.sIx n n hi:Nat):Int)/\(sliceBounds lo hi none n).2.2=1:=by
 refine#[?_,?_,rfl]
 ·cases lo with
  | none=>simp [sliceBounds,HT.sIx]
  | some i =>
   simp only[sliceBounds,HT.sIx,if_true];by_cases h:i<0
   ·grind
   ·grind
 ·cases hi with
  | none=>simp [sliceBounds,HT.sIx]
  | some i =>
   simp only[sliceBounds,HT.sIx,if_true];by_cases h:i<0
   ·grind
   ·grind
theorem MV (Ek:DY) (lo hi:Option Int):slicePick Ek.toArray lo hi none=((Ek.drop<|HT.sIx Ek.length 0 lo).take<|HT.sIx Ek.length Ek.length hi - HT.sIx Ek.length 0 lo).toArray:=by
 obtain⟨h1,h2,h3⟩:=ak lo hi Ek.toArray.size;unfold slicePick;rw[h1,h2,h3];simp only[sliceRange_one,pick_run,yt]<;>rfl
inductive sB (K:DS) (x:V) (lo:Option Int) (hi:Option Int) (H:Hp) (Q:VK):Prop
 | mk (a:_) (xs:_) (h0:x=.ref a) (h1:jt K H a xs) (h2:∀p,H p=none->Q (.ref p) (upd H p<|.lst<|vI xs lo hi)):sB K x lo hi H Q
def CV (K:DS):V->Option Int->Option Int->Hp->VK->Prop:=λx lo hi H Q=>sB K x lo hi H Q
theorem Dq {K:DS} (hK:autoParam (X.K=K) zzd):xk X (CV K):=by
 subst hK;intro pins s σ H x v vl vu lo hi sl Q I rx hs pl pu h;obtain⟨a,xs,rfl,hx,q⟩:=h;cases rx;obtain⟨Ek,r,ht,hz⟩:=I.list hx;have hlen:=r.length;refine#["list",_,slot_list_getitem.lookup,ht.isList.typeIs,?_];refine wpAny_getItem_list_slice ht.isList hs pl pu .none (by simp) ?_ (by grind);rw[MV,<-hlen];refine#[.ref s.heap.objs.size,_,I.laid (λb ob q=>yg _ q) (yh _) ?_,rfl,q _<|I.hok.fresh<|yh _];exact#[ym (Gy xs lo hi) hz,_,0,(r.drop _).take _,yB _ rfl]
theorem Js {K:DS} (hK:autoParam (X.K=K) zzd):u4 X (.builtin "len") (λxs H Q=>E2 λp ys=>A3 (xs=[.ref p]) (jt K H p ys\/jx K H p ys)<|Q (.int ys.length) H):=by
 subst hK;intro pins s σ H xs us Q I r h;obtain⟨p,ys,rfl,hq,q⟩:=h;obtain⟨u,rfl,rx⟩:=UV r;cases rx;have hn:=Kf;rcases hq with hq|hq
 ·obtain⟨Ek,r',pl,hz⟩:=I.list hq;have hlen:=r'.length;exact Calls.call_len_list pl.isList (by grind) #[.int ys.length,H,I.tok _,#[_,by rw[yt,hlen]],q]
 ·obtain⟨Ek,r',pl,hz⟩:=I.tuple hq;have hlen:=r'.length;exact len_tuple pl (by grind) #[.int ys.length,H,I.tok _,#[_,by rw[yt,hlen]],q]
theorem nY:u4 X (.type "list") (λxs H Q=>E2 λp ys=>A3 (xs=[.ref p]) (jt X.K H p ys\/jx X.K H p ys) (∀l,H l=none->Q (.ref l) (upd H l<|.lst ys))):=by
 intro pins s σ H xs us Q I r h;obtain⟨p,ys,rfl,hq,q⟩:=h;obtain⟨u,rfl,rx⟩:=UV r;cases rx;have fin:∀(Ek:DY),jG ys Ek->ys.length<=sizeLine->∀(h':Heap) (c':Nat),(∀b o',s.heap.get? b=some o'->h'.get? b=some o') ->
   h'.get? s.heap.objs.size=some _->EP X pins σ Q _ _:=λEk r' hz h' c' kp e =>
  #[.ref s.heap.objs.size,_,I.laid (t':=s.toks) kp (yh _) (show Jz X.prog X.w _ h' _ (.lst ys) from#[hz,Ek,c',r',e]),rfl,q _<|I.hok.fresh<|yh _]
 rcases hq with hq|hq
 ·obtain⟨Ek,r',pl,hz⟩:=I.list hq;have hlen:=r'.length;obtain⟨o,ho,hc,n,hd⟩:=pl.isList;exact call_list_seq p (.inl rfl) ho hc hd (λh' c' kp e=>fin Ek r' hz h' c' kp e) (by grind)
 ·obtain⟨Ek,r',pl,hz⟩:=I.tuple hq;have hlen:=r'.length;obtain⟨o,ho,hc,n,hd⟩:=pl;exact call_list_seq p (.inr rfl) ho hc hd (λh' c' kp e=>fin Ek r' hz h' c' kp e) (by grind)
theorem ZB:u4 X (.type "tuple") (λxs H Q=>E2 λp ys=>xs=[.ref p]/\((jt X.K H p ys/\∀l,H l=none->Q (.ref l) (upd H l<|.tup ys))\/(jx X.K H p ys/\Q (.ref p) H))):=by
 intro pins s σ H xs us Q I r h;obtain⟨p,ys,rfl,h⟩:=h;obtain⟨u,rfl,rx⟩:=UV r;cases rx;rcases h with ⟨hq,q⟩|⟨hq,q⟩
 ·obtain⟨Ek,r',pl,hz⟩:=I.list hq;have hlen:=r'.length;refine call_tuple_list pl.isList (λh' kp=>?_) (by grind);have I1:=I.kept (t':=s.toks) kp;have I2 :=
   I1.laid (t':=s.toks) (λb o e=>yg _ e) (yh _) (show Jz X.prog X.w _ _ _ (.tup ys) from#[hz,Ek,r',IsTup.new _ _])
  exact#[.ref h'.objs.size,_,I2,rfl,q _<|I1.hok.fresh<|yh _]
 ·obtain⟨Ek,r',pl,hz⟩:=I.tuple hq;exact call_tuple_same pl #[.ref p,H,I,rfl,q]
def Bi (K:DS) (T:String) (x:V) (H:Hp):Prop:=match x with
 | .str _=>T="str"
 | .int _=>T="int"
 | .ref p=>(T="list"/\∃xs,jt K H p xs)\/(T="tuple"/\∃o,K.lookup p=some o/\o.cls=.type "tuple"/\o.dict=none) \/
   (T="dict"/\((∃Ei,H p=some (.dK Ei))\/∃Ei,H p=some (.dT Ei)))\/(T="set"/\∃S n,H p=some (.set S n))
 | _=>False
theorem oP {pins:DW}{σ:St}{s:Shared}{T:String}{v:Value} (I:jo X pins σ H s) (r:jI x v) (ty:Bi X.K T x H) :
  s.TypeIs v T/\∀a,v=.ref a->∃ob,s.heap.get? a=some ob/\ob.dict=none:=by
 cases x with
 | str z =>
  obtain⟨t,rfl⟩:=r;cases (ty);exact#[typeIs_str s z t,λ_ e=>nomatch e]
 | int i =>
  obtain⟨t,rfl⟩:=r;cases (ty);exact#[typeIs_int s i t,λ_ e=>nomatch e]
 | ref p =>
  cases r;rcases ty with ⟨rfl,xs,hq⟩|⟨rfl,o,hk,hc,hd⟩|⟨rfl,hk⟩|⟨rfl,S,n,hk⟩
  ·obtain⟨Ek,_,pl,_⟩:=I.list hq;refine#[pl.isList.typeIs,λa e=>?_];cases e;obtain⟨o,n,e,c,hd,_⟩:=pl;exact#[o,e,hd]
  ·refine#[#[o,I.kIn p o hk,hc],λa e=>?_];cases e;exact#[o,I.kIn _ o hk,hd]
  ·have z:∃o,s.heap.get? p=some o/\o.ExactDict:=by
    rcases hk with ⟨Ei,hk⟩|⟨Ei,hk⟩
    ·obtain⟨_,_,_,_,o,_,_,e,ex,_⟩:=I.hok p _ hk;exact#[o,e,ex]
    ·obtain⟨_,_,_,_,o,_,_,e,ex,_⟩:=I.hok p _ hk;exact#[o,e,ex]
   obtain⟨o,e,ex⟩:=z;refine#[#[o,e,ex.1],λa e2=>?_];cases e2;exact#[o,e,ex.2.1]
  ·obtain⟨o,_,_,_,e,ex,_⟩:=I.hok p _ hk;refine#[#[o,e,ex.1],λa e2=>?_];cases e2;exact#[o,e,ex.2.1]
 | _=>exact Yf ty
inductive sJ (K:DS) (T:String) (r:V->List V->Hp->VK->Prop) (Q:VK) (x:V) (H1:Hp):Prop
 | mk  (h0:Bi K T x H1) (h1:r x [] H1 Q):sJ K T r Q x H1
def Db (K:DS) (T:String) (r:V->List V->Hp->VK->Prop) (to:TE):TE:=λσ H Q=>to σ H λx H1=>sJ K T r Q x H1
inductive AX (K:DS) (T:String) (r:V->List V->Hp->VK->Prop) (t:TA) (σ:St) (Q:VK) (x:V) (H1:Hp):Prop
 | mk  (h0:Bi K T x H1) (h1:t σ H1 λxs H2=>r x xs H2 Q):AX K T r t σ Q x H1
def DG (K:DS) (T:String) (r:V->List V->Hp->VK->Prop) (to:TE) (t:TA):TE:=λσ H Q=>to σ H λx H1=>AX K T r t σ Q x H1
variable {o e:Expr}{es:Ea}{to:TE}{t:TA}{name:Str}{apos Fq:Pos}{T id:String}{r:V->List V->Hp->VK->Prop}
theorem lU {K:DS} (pa:PlainAttrs T) (slot:Slot T name id) (TK:typeOf (.builtin id)=pure (.type "method_descriptor")) (hm:Cg X id r) (ho:PE X o to)
  (HZ:autoParam (attributeBase o name X.env (eval o X.env)=eval o X.env) ac) (Ia:autoParam ((apos.endLine==Fq.line)=true) ac) (hK:autoParam (X.K=K) zzd):PE X (.Call (.Attribute o name apos) [] [] Fq) (Db K T r to):=by
 subst hK;intro pins s σ H Q I h;refine wpAny_Call_method0_late HZ Ia (jE (ho pins s σ H _ I h) λv s1 hh=>?_);obtain⟨x,H1,I1,r1,ty,q1⟩:=hh;obtain⟨h1,h2⟩:=oP I1 r1 ty;exact#[T,id,pa,slot,TK,h1,h2,Calls.callWith_builtin rfl<|PySem.evalArgs_none<|hm pins s1 σ H1 x _ v _ Q I1 r1 .nil q1]
theorem UA {K:DS} (pa:PlainAttrs T) (slot:Slot T name id) (TK:typeOf (.builtin id)=pure (.type "method_descriptor")) (hm:Cg X id r) (ho:PE X o to) (ha:PA X (e::es) t)
  (HZ:autoParam (attributeBase o name X.env (eval o X.env)=eval o X.env) ac)
  (TL:autoParam (((backTo Fq<|starEach (e::es) X.env).all (λx=>!x.1)&&(backToKw Fq<|keywordEach [] X.env).all (λx=>x.1.isSome)
   && decide ((e::es).length+([]:List Keyword).length+(if ([]:List Keyword).isEmpty then 0 else 1)<30))=true) ac)
  (Ia:autoParam ((apos.endLine==Fq.line)=true) ac) (hs:autoParam (starEach (e::es) X.env=(false,eval e X.env)::starEach es X.env) ac) (LZ:autoParam ((backTo Fq<|starEach es X.env).any (·.1)=false) ac) (hK:autoParam (X.K=K) zzd) :
  PE X (.Call (.Attribute o name apos) (e::es) [] Fq) (DG K T r to t):=by
 subst hK;intro pins s σ H Q I h;refine wpAny_Call_method_late HZ TL Ia rfl (jE (ho pins s σ H _ I h) λv s1 hh=>?_);obtain⟨x,H1,I1,r1,ty,q1⟩:=hh;obtain⟨h1,h2⟩:=oP I1 r1 ty;refine#[T,id,pa,slot,TK,h1,h2,?_];have hA:=ha Fq pins s1 σ H1 _ I1 q1;rw[hs] at hA ⊢;refine Calls.callWith_builtin (by show (false||(backTo Fq<|starEach es X.env).any (·.1))=false;rw[LZ]<;>rfl)<|Calls.evalArgs_plain ?_;exact jE hA λus s2 #[vs,H2,I2,r2,q2]=>hm pins s2 σ H2 x vs v us Q I2 r1 r2 q2
end
def fN (X:Cx) (id:String) (r:V->List V->Hp->VK->Prop):Prop :=
 ∀(pins:DW) (s:Shared) (σ:St) (H:Hp) (x:V) (xs:List V) (v:Value) (us:DY) (Q:VK),jo X pins σ H s->jI x v->jG xs us->r x xs H Q ->
  wpAny (model X.prog X.w) X.A (call (.builtin id) (v::us)) (EP X pins σ Q) X.xe s
theorem jG.one:∀{x:V} {us:DY},jG [x] us->∃u,us=[u]/\jI x u:=λ{_ _} h=>by
 cases h with
 | cons r t=>cases t;exact#[_,rfl,r]
theorem jG.zero:∀{us:DY},jG [] us->us=[]
 | _,.nil=>rfl
theorem jG.dropLast (h:jG xs us):jG xs.dropLast us.dropLast:=by
 induction h with
 | nil=>exact .nil
 | cons r t ih =>
  cases t with
  | nil=>exact .nil
  | cons q t'=>exact .cons r ih
theorem jG.reverse (h:jG xs us):jG xs.reverse us.reverse:=by
 induction h with
 | nil=>exact .nil
 | cons r t ih=>rw[aai,aai];exact jG.append ih (.cons r .nil)
theorem dH {α:Type} (l:List α):l.eraseIdx (l.length - 1)=l.dropLast:=by
 induction l with
 | nil=>rfl
 | cons a r ih =>
  cases r with
  | nil=>rfl
  | cons b r =>
   have e:(a::b::r).length - 1=((b::r).length - 1)+1:=by
    have h1:(a::b::r).length=r.length+2:=rfl;have h2:(b::r).length=r.length+1:=rfl
    lia
   rw[e,List.eraseIdx_cons_succ,ih]
   all_goals rfl
section
variable {X:Cx}{pins:DW}{σ:St}{H:Hp}{s:Shared}{l b:Addr}{xs ys zs:List V}
theorem jo.lset {Ek its':DY}{n:Nat}{f:Array Value->Array Value}{t':Nat} (I:jo X pins σ H s) (hH:H l=some (.lst xs))
  (e:s.heap.get? l=some { cls:=.type "list",data:=.seq Ek.toArray n }) (hf:f Ek.toArray=its'.toArray) (hv:jG ys its') (hz:ys.length<=sizeLine) :
  jo X pins σ (upd H l<|.lst ys) { s with heap:=s.heap.update l<|Obj.mapSeq f,toks:=t' }:=by
 have q:=PySem.IsL.update e f;rw[hf] at q;refine I.write (by rw[hH];exact trivial) (.inl rfl) (λb' u hb hu=>(yF s.heap _<|yG hb).trans hu) #[_,q] ?_;exact#[hz,its',_,hv,q]
theorem jo.fresh (I:jo X pins σ H s):H s.heap.objs.size=none:=I.hok.fresh (yh _)
theorem jo.lstM (I:jo X pins σ H s) (hH:H l=some (.lst xs)):xs.length<=sizeLine/\∃(Ek:DY) (n:Nat),jG xs Ek/\xs.length=Ek.length/\s.heap.get? l=some { cls:=.type "list",data:=.seq Ek.toArray n }:=by
 obtain⟨z,Ek,n,r,e⟩:=I.hok l _ hH;exact#[z,Ek,n,r,r.length,e]
theorem qj {n:Nat} (h:n<=sizeLine):Builtin.List.listTooLong n=false:=by
 exact decide_eq_false (by lia)
end
section
variable {X:Cx}
inductive ag (x:V) (vs:List V) (H:Hp) (Q:VK):Prop
 | mk (l:_) (xs:_) (y:_) (h0:x=.ref l) (h1:vs=[y]) (h2:H l=some (.lst xs)) (h3:xs.length<sizeLine) (h4:Q .non (upd H l<|.lst<|xs++[y])):ag x vs H Q
def wp:V->List V->Hp->VK->Prop:=λx vs H Q=>ag x vs H Q
theorem Uq:fN X "list.append" wp:=by
 intro pins s σ H x vs v us Q I rx rv h;obtain⟨l,xs,y,rfl,rfl,hH,hz,q⟩:=h;cases rx;obtain⟨u,rfl,ru⟩:=rv.one;obtain⟨z,Ek,n,r,hl,e⟩:=I.lstM hH;refine call_meets F.slot_list_append #[_,e,rfl] F.entry_list_append (F.args_list_append_2 _ _) (PySem.list_append l Ek.toArray n u (by rw[yt];lia)) #[e,?_];refine#[.non,_,I.lset hH e (by simp) (r.append<|.cons ru .nil) ?_,rfl,q];rw[ye,abq]
 lia
def wq:V->List V->Hp->VK->Prop:=λx vs H Q=>∃l b xs zs,x=.ref l/\vs=[.ref b]/\H l=some (.lst xs)/\H b=some (.lst zs)/\xs.length+zs.length<=sizeLine/\Q .non (upd H l<|.lst<|xs++zs)
theorem U3:fN X "list.extend" wq:=by
 intro pins s σ H x vs v us Q I rx rv h;obtain⟨l,b,xs,zs,rfl,rfl,hH,hB,hz,q⟩:=h;cases rx;obtain⟨u,rfl,ru⟩:=rv.one;cases ru;obtain⟨z,Ek,n,r,hl,e⟩:=I.lstM hH;obtain⟨z2,Er,n2,r2,hl2,e2⟩:=I.lstM hB;have hsz:Ek.toArray.size+Er.toArray.size<=sizeLine:=by grind
 have Q6:¬(!Ek.toArray.isEmpty&&Builtin.List.listTooLong (Ek.toArray.size+Er.toArray.size))=true:=by
  rw[qj hsz,Y0];exact yA
 refine call_meets F.slot_list_extend #[_,e,rfl] F.entry_list_extend (F.args_list_extend_2 _ _)
  (AutoSeq1.list_extend_list_list_0 l Ek.toArray n b Er.toArray n2 Q6 (by lia) (by lia)) #[e,e2,?_]
 refine#[.non,_,I.lset hH e (by simp) (r.append r2) ?_,rfl,q];rw[ye];omega
def CU:V->List V->Hp->VK->Prop:=λx vs H Q=>∃l xs y,x=.ref l/\vs=[]/\H l=some (.lst xs)/\xs[xs.length - 1]?=some y/\Q y (upd H l<|.lst xs.dropLast)
theorem Ao:fN X "list.pop" CU:=by
 intro pins s σ H x vs v us Q I rx rv h;obtain⟨l,xs,y,rfl,rfl,hH,hy,q⟩:=h;cases rx;have TQ:=rv.zero;subst TQ;obtain⟨z,Ek,n,r,hl,e⟩:=I.lstM hH;obtain⟨u,hu,ru⟩:=r.get hy;have SX:Ek.toArray[Ek.toArray.size - 1]?=some u:=by
  show Ek.toArray[Ek.length - 1]?=some u;rw[<-Qc,<-hl];exact hu
 refine call_meets F.slot_list_pop #[_,e,rfl] F.entry_list_pop (F.args_list_pop_1 _) (MeetsSeq.list_pop_last l Ek.toArray n u SX (by rw[yt];lia)) #[e,?_];refine#[y,_,I.lset (its':=Ek.dropLast) hH e ?_ r.dropLast ?_,ru,q]
 ·show Ek.toArray.eraseIdxIfInBounds (Ek.toArray.size - 1)=Ek.dropLast.toArray;rw[yt,List.eraseIdxIfInBounds_toArray,dH]
 ·rw[List.length_dropLast]
  lia
def qB:V->List V->Hp->VK->Prop:=λx vs H Q=>∃l xs,x=.ref l/\vs=[]/\H l=some (.lst xs)/\Q .non (upd H l<|.lst xs.reverse)
theorem eB:fN X "list.reverse" qB:=by
 intro pins s σ H x vs v us Q I rx rv h;obtain⟨l,xs,rfl,rfl,hH,q⟩:=h;cases rx;have TQ:=rv.zero;subst TQ;obtain⟨z,Ek,n,r,hl,e⟩:=I.lstM hH;refine call_meets F.slot_list_reverse #[_,e,rfl] F.entry_list_reverse (F.args_list_reverse_1 _) (AutoSeq1.list_reverse_list_0 l Ek.toArray n (by rw[yt];lia)) #[e,?_];refine#[.non,_,I.lset (its':=Ek.reverse) hH e (by simp) r.reverse ?_,rfl,q];rw[List.length_reverse];omega
end
end L2
namespace Att
open PySem PySem.W PySem.Calls PyProof.Rows
variable {P:Params}{h:Heap}{l:OpenLaw}
theorem kY:∀(ns:List Int) (vs:DY),WellAll P h vs (ns.map WData.int)->IntsAre vs ns:=by
 intro ns
 induction ns with
 | nil =>
  intro vs w;rw[aaK] at w;cases w;exact .nil
 | cons n ns ih =>
  intro vs w;rw[yR] at w;cases w with
  | cons a b =>
   cases a;exact .cons _ _ (ih _ b)
theorem l9 {n:Nat} (hn:l.most=some n) {args:List WData} {vals:DY}
  (HD:l.row.toRowW.claim.pre args=true) (TR:WellAll P h vals args) :
  ∃a vs ns,vals=[Value.ref a]/\args=[WData.list<|ns.map WData.int]/\h.get? a=some { cls:=.type "list",data:=.seq vs.toArray }/\IntsAre vs ns/\ns.length<=n:=by
 have hsh:WShape.hasAll [] args [.list .int]=true:=(pre_splitW HD).1;have hc:l.pre.holds [] { args:=args }=true:=(pre_splitW HD).2;obtain⟨d,r,rfl,h1,h2⟩:=hasAllW_cons hsh;obtain rfl:=hasAllW_nil h2;obtain⟨xs,rfl,h3⟩:=hasW_list h1;obtain⟨ns,rfl⟩:=items_int h3;have hlen:ns.length<=n:=by
  unfold OpenLaw.pre at hc;have h4:(WTm.not<|.lt (.lit<|.int (n:Int))<|.len<|.arg 0).holds [] { args:=[.list<|ns.map .int] }=true:=by
   have h4:=(holds_andW hc).1;rw[hn] at h4;exact h4
  have h5:=condW_of h4<|w_not<|w_lt w_lit<|w_len_list<|w_arg rfl;rw[yb] at h5;refine Nat.le_of_not_lt λq=>?_;have q':(n:Int)<((ns.length:Nat):Int):=by omega
  first
   | (rw[decide_eq_true q'] at h5;exact absurd h5 (by decide))
   | (simp at h5;omega)
 cases TR with
 | cons w1 w2 =>
  cases w2;cases w1 with
  | list ho HE=>exact⟨_,_,ns,rfl,rfl,ho,kY ns _ HE,hlen⟩
theorem lW (l:OpenLaw) (args:List WData):l.row.toRowW.claim.post args (.bool true) args=true :=
 postW_of (r:=l.row.toRowW) (X:=(true==true))
  (show WShape.has [] (.bool true) .bool=true by first|rfl|decide|simp [WShape.has,WShape.arms,WShape.armsAll])
  (show (WTm.eq .res<|.lit<|.bool true).value [] { args:=args,res:=some<|.bool true,after:=args }=some (.bool<|true==true) from w_eq_bool (w_res rfl) w_lit) rfl
theorem attach_call {n:Nat}{q:Ee}{loose:D8}{XP:(Str->Option Value)->Heap->Prop}{YP:World->Heap->Prop}{d:DefRec}
  (hn:l.most=some n) (Q7:d.params.defaults=[])
  (call:∀(w:World) (s₀ s₁:Shared) (mg mb:DV) (fa:Addr) (o:Obj) (pm cd doc:Value) (a:Addr) (vs:DY) (ns:List Int),
   Ground q loose [] XP w s₀ mg mb s₁.heap->YP w s₁.heap ->
   s₁.heap.get? fa=some o->o.data=.func (docDef d.name d.params d.body d.scope pm cd doc)->s₁.heap.CodeRec cd d.name->mg d.name=some (.ref fa) ->
   s₁.heap.get? a=some { cls:=.type "list",data:=.seq vs.toArray }->IntsAre vs ns->ns.length<=n->s₁.gens=(Ya []) ->
   codeAny (model l.prog w) callerA (.call (.ref fa) #[[.ref a],[]]) (λr s'=>r=.ok (.ret<|.bool true)/\OldK s₁.heap s'.heap/\s'.os=s₁.os/\AllBare s'.gens) s₁) :
  WalkO q loose XP YP l.row.toRowW d [] (λf vs=>abw f vs):=by
 intro w s₀ s₁ mg mb G Y fa o pm cd doc dV kV ho hd FE hD TU hg args vals as HD hlay hrd TR TV;obtain rfl:dV=.none:=Dflts.none hD Q7;obtain rfl:kV=.none:=Dflts.noKw hD;obtain⟨a,vs,ns,rfl,rfl,Ib,hints,hlen⟩:=l9 hn HD TR;refine enter_call (codeAny_mono (call w s₀ s₁ mg mb fa o pm cd doc a vs ns G Y ho (fd_plain hd) FE TU Ib hints hlen hg) λr s' hq=>?_);obtain⟨rfl,h2,h3,h4⟩:=hq;exact#[.inl #[.bool true,.bool true,[],rfl,λ_=>rfl,.bool true,lW l _,λ_=>#[aa6,λ_ hm=>(nomatch hm)]],h2,h3,h4]
end Att
namespace L2
open PySem PySem.Spec PyProof.Rows
variable {h h':Heap}{A:Around}{k:Nat}{x:Str}{pos:Pos}{H H1 H2 H':Hp}{a C:Addr}{xs:List V}{P:Ee}{w:World}{o:HO}{ch:DZ}{c:Bool}{pins:DW}{σ:St}{s:Shared}{env:Env}{X:Cx}{pl:Sem Bool}
theorem Mi:∀{vs:DY} {ns:List Int},IntsAre vs ns->jG (ns.map V.int) vs
 | _,_,.nil=>.nil
 | _,_,.cons n t h=>.cons #[t,rfl] (Mi h)
abbrev KOf {K:DS} (_:K.In h):Frag:=K
def JB (s:Stmt) (j:Nat):Stmt:=match s with
 | .ClassDef _ _ _ body _ _ _ _ _ _ _=>body.getD j (.Pass #[0,0,0,0])
 | _=>.Pass #[0,0,0,0]
def JU (s:Stmt):Arguments:=match s with
 | .FunctionDef _ a _ _ _ _ _ _ _ _=>a
 | _=>{ posonlyargs:=[],args:=[],vararg:=none,kwonlyargs:=[],kw_defaults:=[],kwarg:=none,defaults:=[] }
def Jo (s:Stmt):List Stmt:=match s with
 | .FunctionDef _ _ b _ _ _ _ _ _ _=>b
 | _=>[]
def jR (s:Stmt):Scope:=match s with
 | .FunctionDef _ _ _ _ _ _ sc _ _ _=>sc
 | _=>{ kind:=.function,names:=[],isGenerator:=false,isCoroutine:=false }
theorem vL (hr:UM k A):A.units+1<cLine:=yP (Nat.add_le_add_left (by decide) _) hr.units
section
variable {X:Cx}
theorem pv (i:Nat) {pos:Pos} (hN:autoParam (X.N[i]?=some x) ac) (hv:xp X.env.scope x:=by first|exact Or.inl rfl|exact Or.inr (Or.inl rfl)|exact Or.inr (Or.inr rfl)) (hd:autoParam ((x==("__debug__":Str))=false) gt)
  (FE:autoParam ((x==("__classdict__":Str))=false) gt):PE X (.Name x pos) (mn i):=Ay hN hv hd FE
end
def Same (H H':Hp):Prop:=∀b o,H b=some o->H' b=some o
theorem Same.refl (H:Hp):Same H H:=λ_ _ h=>h
theorem Same.trans (a:Same H H1) (b:Same H1 H2):Same H H2:=λc o h=>b c o (a c o h)
theorem Same.seq {K:DS} (e:Same H H') (h:jt K H a xs):jt K H' a xs:=by
 rcases h with (h|⟨o,h⟩)|h
 ·exact .inl (.inl<|e _ _ h)
 ·exact .inl (.inr #[o,e _ _ h])
 ·exact .inr h
theorem Jz.there (x:Jz P w H h a o):∃u,h.get? a=some u:=by
 cases o with
 | lst xs=>obtain⟨_,_,_,_,e⟩:=x;exact#[_,e]
 | tup xs=>obtain⟨_,_,_,ob,e,_⟩:=x;exact#[_,e]
 | dK Ei=>obtain⟨_,_,_,_,ob,_,_,e,_⟩:=x;exact#[_,e]
 | dT Ei=>obtain⟨_,_,_,_,ob,_,_,e,_⟩:=x;exact#[_,e]
 | set S n=>obtain⟨ob,_,_,_,e,_⟩:=x;exact#[_,e]
 | ins C dx fs=>obtain⟨_,_,_,e,_⟩:=x;exact#[_,e]
 | own y=>exact x
 | xd fs=>obtain⟨_,⟨_,_,_,e,_⟩,_⟩:=x;exact#[_,e]
 | rng lo hi=>obtain⟨_,_,_,e⟩:=x;exact#[_,e]
 | frz ob u=>obtain⟨e,_⟩:=x;exact#[_,e]
 | tbl ps=>exact#[_,(x)]
 | met f y=>exact#[_,(x)]
 | ext φ=>obtain⟨_,e,_⟩:=x;exact e
theorem Jh.free_of (x:Jh P w H h) (e:h.get? a=none):H a=none:=by
 cases q:H a with
 | none=>rfl
 | some o=>obtain⟨u,z⟩:=(x a o q).there;rw[e] at z;cases z
structure gO (h0 h:Heap) (H:Hp) (e C:Addr):Prop where
 ex:∃oe vs T oT ts,∃a0:Value×Value,h.get? e=some oe/\oe.cls=.ref C/\vs[0]?=some a0.1/\oe.data=.fields vs/\vs[1]?=some (.ref T)/\T≠e/\h.get? T=some oT/\oT.data=.fields ts/\ts[3]?=some .none/\h0.get? T=none/\H T=none/\vs[2]?=some a0.2/\ZP H a0.2
 new:h0.get? e=none
 free:H e=none
def XC (P:Ee) (w:World):M9:=λouter H s E e s'=>∃(ea C:Addr) (H':Hp),e=.ref ea/\s'.os=s.os/\AllBare s'.gens/\Un (uo outer) [] H H' s.heap s'.heap/\Jh P w H' s'.heap/\gO s.heap s'.heap H' ea C/\E (.ref C) none H'
theorem Un.late {fs ex:DZ}{h1 h2:Heap} (u:Un fs ex H H' h h1) (fresh:∀b∈ch,h.get? b=none)
  (k:∀b o,b ∉ fs->b ∉ ch->h1.get? b=some o->h2.get? b=some o) (ks:∀b o,b∈fs->h1.get? b=some o->∃sl,h2.get? b=some { o with slots:=sl }):Un fs ex H H' h h2:=by
 have Lx:∀b o,h.get? b=some o->b ∉ ch:=λb o q z=>by have:=fresh b z;rw[q] at this;cases this
 refine#[λb o q n hb hx=>k b o hb (Lx b o q)<|u.keep b o q n hb hx,λb o q n hb hx=>?_,u.free,λb o q hx=>?_,u.tups,u.frzs,u.tbls]
 ·obtain⟨sl,e1⟩:=u.slot b o q n hb hx;obtain⟨Tu,e2⟩:=ks b _ hb e1;exact#[Tu,e2]
 ·obtain⟨o',e1⟩:=u.there b o q hx;by_cases hb:b∈fs
  ·obtain⟨sl,e2⟩:=ks b o' hb e1;exact#[_,e2]
  ·exact#[o',k b o' hb (Lx b o q) e1]
section
variable {X:Cx}{pins:DW}{σ:St}{H H':Hp}{s s':Shared}{ea C:Addr}{a0:Value×Value}{h':Heap}{ch:DZ}
theorem iB (I:jo X pins σ H s) (Fp:X.stack=X.env::X.outer) (os:s'.os=s.os) (bare:AllBare s'.gens) (un:Un (uo X.stack) [] H H' s.heap s'.heap) (hok:Jh X.prog X.w H' s'.heap)
  (Fn:∀b∈ch,s.heap.get? b=none/\H' b=none) (J':ea∈ch) (TX:ZP H' a0.2) (L:kz (hideAll s'.heap<|ch++uo X.stack) (X.env::X.outer) ea (.ref C) a0 .none s'.heap h') :
  jo X pins σ H' { s' with heap:=h' }/\gO s.heap h' H' ea C:=by
 have I1:jo X pins σ H' s':=I.call' (ch:=[]) os un hok bare (λb z=>absurd z (by simp));obtain⟨st,ff,tr,up⟩:=L;have FF:s'.heap.FunFrames X.base X.stack:=I1.stack;have keep:∀b o,b ∉ uo X.stack->b ∉ ch->s'.heap.get? b=some o->h'.get? b=some o:=λb o hb hc e=>st b o (hideAll_get _ e λz=>(yj.mp z).elim hc hb);have slots:∀b o,b∈uo X.stack->s'.heap.get? b=some o->∃sl,h'.get? b=some { o with slots:=sl }:=λb o hb e=>by
  obtain⟨_,o',EG,hd⟩:=FF.mem hb;rw[e] at EG;cases EG;exact up b o e hd
 have gK:Un (uo X.stack) [] H H' s.heap h':=un.late (ch:=ch) (λb hb=>(Fn b hb).1) keep slots;have free:∀b,H' b≠none->b ∉ uo X.stack/\b ∉ ch:=λb n=>#[λz=>n<|I1.stkFree b z,λz=>n (Fn b z).2];have Ic:Jh X.prog X.w H' h':=λb o e=>(hok b o e).stay (λc u hc q=>by
  have n:H' c≠none:=by
   rcases hc with z|z
   ·rw[z,e];simp
   ·rw[z];simp
  exact keep c u (free c n).1 (free c n).2 q) (λ_ q=>q) λ_ _ q=>q
 refine#[I.call' (s':={ s' with heap:=h' }) (ch:=[]) os gK Ic bare (λb z=>absurd z (by simp)),#[?_,(Fn ea J').1,(Fn ea J').2]];obtain⟨oe,vs,T,oT,ts,e1,⟨e2,e3,c3⟩,e4,e5,e6,e7,e8,e9,Q8⟩:=tr;have hT:s.heap.get? T=none/\H' T=none:=by
  cases q:s'.heap.get? T with
  | none =>
   refine#[?_,hok.free_of q];cases q2:s.heap.get? T with
   | none=>rfl
   | some o=>obtain⟨o',z⟩:=un.there T o q2 (by simp);rw[q] at z;cases z
  | some o =>
   by_cases hc:T∈ch
   ·exact Fn T hc
   ·by_cases hf:T∈uo X.stack
    ·have TY:T∈uo (X.env::X.outer):=Fp▸hf;obtain⟨_,o',EG,hd⟩:=ff.mem TY;rw[e8] at EG;cases EG;exact absurd e9 (hd ts)
    ·rw[hideAll_get _ q λz=>(yj.mp z).elim hc hf] at e6;cases e6
 exact#[oe,vs,T,oT,ts,a0,e1,e2,e3,e4,e5,e7,e8,e9,Q8,hT.1,hT.2,c3,TX]
theorem dP (I:jo X pins σ H' s') (Fp:X.stack=X.env::X.outer) (ch:DZ):s'.heap.FunFrames (hideAll s'.heap<|ch++uo X.stack) (X.env::X.outer):=by
 have FF:=I.stack;rw[<-Fp];exact PySem.W.funFrames_hide FF λenv he a hf=>yr _ (Qu.mpr #[env,he,hf])
theorem qd (I:jo X pins σ H s) (Fp:X.stack=X.env::X.outer) (hf:X.env.frame=some X.env.locals) (os:s'.os=s.os) (bare:AllBare s'.gens) (un:Un (uo X.stack) [] H H' s.heap s'.heap) (hok:Jh X.prog X.w H' s'.heap)
  (fl:gO s.heap s'.heap H' ea C) {M:Model} {E:DO} {Q:DP} (h:∀h',jo X pins σ H' { s' with heap:=h' }->gO s.heap h' H' ea C->Q () { s' with heap:=h' }) :
  wpAny M X.A (leaving X.env<|.ref ea) Q E s':=by
 have I1:jo X pins σ H' s':=I.call' (ch:=[]) os un hok bare (λb z=>absurd z (by simp));obtain⟨oe,vs,T,oT,ts,a0,e1,e2,e3,e4,e5,e7,e8,e9,Q8,TZ,Ht,c3,cx⟩:=fl.ex;have LO:X.A.frames=some (X.env::X.outer):=by rw[<-Fp];exact I.ok.frames
 refine d6 (base:=hideAll s'.heap<|[ea,T]++uo X.stack) (cls:=.ref C) (a0:=a0) LO (dP I1 Fp [ea,T]) hf
  #[oe,vs,T,oT,ts,e1,#[e2,e3,c3],e4,e5,hideAll_none _ (by simp),e7,e8,e9,Q8] (λb o q=>of_hideAll _ q) (hideAll_none _ (by simp)) λh' L=>?_
 obtain⟨J,F⟩:=iB (ch:=[ea,T]) I Fp os bare un hok (λb hb=>by
  rcases yz.mp hb with rfl|hb
  ·exact#[fl.new,fl.free]
  ·obtain rfl:b=T:=by simpa using hb
   exact#[TZ,Ht]) (by simp) cx L
 exact h h' J F
end
section
variable {P:Ee}{w:World}{K:DS}{mg:DV}{base:Heap}{N ps:D8}{qual:Str}{scope:Scope}{f:Addr}{cd:Value}{A:Around}{outer:List Env}{s:Shared}{H:Hp}{E:XK}
abbrev mG (P:Ee) (w:World) (K:DS) (mg:DV) (base:Heap) (N:D8) (qual:Str) (scope:Scope) (f:Addr) (cd:Value) (A:Around) (outer:List Env) (s:Shared) (H:Hp) (E:XK) (c:Bool:=true):Cx :=
 GV (XC P w) P w K mg base N qual scope f cd A outer s H E c
theorem bi {s1:Shared}{ea:Addr} (I:jo (mG P w K mg base N qual scope f cd A outer s H E c) pins σ H1 s1) (F:gO s1.heap h' H' ea C):gO s.heap h' H' ea C:=by
 have z:∀b,s1.heap.get? b=none->s.heap.get? b=none:=λb q=>by
  cases q2:s.heap.get? b with
  | none=>rfl
  | some o=>obtain⟨o',e⟩:=I.base.there b o q2 (by simp [GV]);rw[q] at e;cases e
 obtain⟨oe,vs,T,oT,ts,a0,e1,e2,e3,e4,e5,e7,e8,e9,Q8,TZ,Ht,c3,cx⟩:=F.ex;exact#[#[oe,vs,T,oT,ts,a0,e1,e2,e3,e4,e5,e7,e8,e9,Q8,z _ TZ,Ht,c3,cx],z _ F.new,F.free]
theorem Vn:UD (XC P w) (mG P w K mg base N qual scope f cd A outer s H E c) E:=by
 intro pins σ H1 s1 e s' I h;obtain⟨ea,C',H',rfl,os,bare,un,hok,fl,q⟩:=h;refine qd I rfl rfl os bare un hok fl λh' J F=>?_;exact#[ea,C',H',rfl,J.os,J.bare,J.base,J.hok,bi I F,q]
theorem jO:PassesOwn (model P w) (mG P w K mg base N qual scope f cd A outer s H E c).A (mG P w K mg base N qual scope f cd A outer s H E c).env (mG P w K mg base N qual scope f cd A outer s H E c).xe:=PassesOwn.leaving
end
theorem dF {prog:Ee}{R:Result->Shared->Prop}{elt tg iter:Expr}{ifs:Ea}{scope:Scope}{pos:Pos}{it acc:Value}{env:Env} (J:Nat->Shared->Prop)
  (turn:∀n s,J n s->wpAny (model prog w) A (pyNext it) (λr s1=>match r with
   | none=>R (.ok .next) s1
   | some v=>wpAny (model prog w) A (letOwnedTupleGo tg it v) (λ_ s2=>wpAny (model prog w) A (assign tg env v) (λ_ s3 =>
     wpAny (model prog w) A (forIn ifs true λc r=>if r=true then do let ok <-isTrue c env (eval c env);pure (Yq ok) else pure (Yq r)) (λok s4 =>
      if ok=true then wpAny (model prog w) A (eval elt env) (λx s5=>wpAny (model prog w) A (call (.builtin "list.append") [acc,x]) (λ_ s6=>∃m,m<n/\J m s6) (λ_ _=>False) s5) (λ_ _=>False) s4
      else ∃m,m<n/\J m s4) (λ_ _=>False) s3) (λ_ _=>False) s2) (λ_ _=>False) s1) (λ_ _=>False) s)
  (n:Nat) (h:J n s):codeAny (model prog w) A (.compLoop (.ListComp elt [#[tg,iter,ifs,0]] scope pos) 0 it acc env) R s:=by
 refine codeAny_loop rfl J (λn s hJ=>?_) n h;show wpAny _ A ((compTurn (.ListComp elt [#[tg,iter,ifs,0]] scope pos) 0 it acc env).onRaise _) _ _ s;refine wpAny_noted<|wpAny_noRaise ?_;rw[compTurn_list];refine Ef (wpAny_standAt (Ef (jE (turn n s hJ) λr s1 h1=>?_)));cases r with
 | none=>exact Eg h1
 | some v =>
  refine Ef (jE h1 λ_ s2 h2=>Ef (jE h2 λ_ s3 h3=>Ef (jE h3 λok s4 h4=>?_)));cases ok with
  | false=>exact Eg #[rfl,h4]
  | true=>exact Ef (Ef (jE h4 λx s5 h5=>Ef (jE h5 λ_ s6 h6=>Eg<|Eg #[rfl,h6])))
abbrev Cx.blk (X:Cx) (scope:Scope) (cl:D0) (C:Addr) (own:D8) (s:Shared) (H:Hp) (fp:DZ) (pins:DW):Cx :=
 { X with N:=X.N++own,env:=compEnvC scope cl C X.env,s₀:=s,H₀:=H,outer:=X.stack,ex:=fp,fn:=λ_=>false,pn:=X.pn++pins,xe:=λ_ _=>False }
theorem gp {env:Env}{x:Str}:∀{names:List (Str×NameKind)},(names.map λ(n,k)=>if (k==NameKind.free&&env.scope.kind==.function&&env.kindOf n==some .cell) then (n,NameKind.cell) else (n,k)).lookup x =
  (names.lookup x).map λk=>if (k==NameKind.free&&env.scope.kind==.function&&env.kindOf x==some .cell) then NameKind.cell else k
 | []=>rfl
 | (n,k)::r=>by
  have ih:=@gp env x r;show Ys x ((if (k==NameKind.free&&env.scope.kind==.function&&env.kindOf n==some _)=true then (n,NameKind.cell) else (n,k))::_)=_;have e:(if (k==NameKind.free&&env.scope.kind==.function&&env.kindOf n==some .cell)=true then (n,NameKind.cell) else (n,k))=(n,if (k==NameKind.free&&env.scope.kind==.function&&env.kindOf n==some .cell)=true then NameKind.cell else k):=by
   split<;>rfl
  rw[e];cases q:x==n with
  | true =>
   obtain rfl:x=n:=by simpa using q
   simp [Y4]
  | false=>simp only[Y4,q];exact ih
theorem uy {α β:Type} [BEq α] [LawfulBEq α] {l:List (α×β)} {x:α} {b:β} (h:l.lookup x=some b):(x,b)∈l:=by
 induction l with
 | nil=>simp at h
 | cons p r ih =>
  rw[Y4] at h
  split at h
  ·grind
  ·exact .tail _ (ih h)
section
variable {X:Cx}{scope:Scope}{cl:D0}{own:D8}{pins:DW}{σ:St}{H2 H3:Hp}{s2:Shared}{fp:DZ}{C:Addr}{h1:Heap}
theorem au {b:Addr} (I2:jo X pins σ H2 s2) (n1:b≠X.env.locals) (n2:b ∉ X.fs):b ∉ uo X.stack:=λz=>(yz.mp<|I2.stkSub b z).elim n1 n2
end
def PF (X:Cx) (ifs:Ea) (t:TT):Prop :=
 ∀(pins:DW) (s:Shared) (σ:St) (H:Hp) (Q:Bool->Hp->Prop),jo X pins σ H s->t σ H Q ->
  wpAny (model X.prog X.w) X.A (forIn ifs true λc r=>if r=true then do let ok <-isTrue c X.env (eval c X.env);pure (Yq ok) else pure (Yq r)) (TP X pins σ Q) X.xe s
theorem UF:PF X [] (λ_ H Q=>Q true H):=λ_ _ _ H _ I h=>wpAny_tests_nil #[H,I,h]
theorem UG {c:Expr}{t:TT} (h:PT X c t):PF X [c] t:=λpins s σ H Q I q=>wpAny_tests_one (h pins s σ H Q I q)
def vm (k:Nat) (g:TG) (tc:TT) (te:TE) (σ:St) (Q:VK):It->Hp->Prop:=λJ H1=>∀D,H1 D=none->∃W:Nat->Nat->List V->Hp->Prop,(∃m,W 0 m []<|upd H1 D<|.lst [])/\∀i m ys H,W i m ys H ->
 H D=some (.lst ys)/\((J.stop i H/\Q (.ref D) H)\/(J.go i H/\ys.length<sizeLine/\∀x H',J.yld i H x H'->g x (σ++Yd k none) H' λσ2 H2=>(∃zs,σ2=σ++zs/\zs.length=k)/\tc σ2 H2 λb H3 =>
  if b=true then te σ2 H3 λy H4=>H4 D=some (.lst ys)/\∃m',m'<m/\W (i+1) m' (ys++[y]) (upd H4 D<|.lst<|ys++[y]) else ∃m',m'<m/\W (i+1) m' ys H3))
def KD (wi:TI) (k:Nat) (g:TG) (tc:TT) (te:TE):TE:=λσ H Q=>wi σ H (vm k g tc te σ Q)
section
variable {X:Cx}{tg elt iter:Expr}{ifs:Ea}{scope:Scope}{cl:D0}{own:D8}{wi:TI}{g:TG}{tc:TT}{te:TE}{pos:Pos}
theorem jo.let_go {σ2:St}{s2:Shared} (I:jo X pins σ H s) (I2:jo X pins σ2 H2 s2) (hC:s2.heap.objs.size<=C) (hf:H C=none) (sb:Heap.SameBut C s.heap h'):jo X pins σ H { s with heap:=h' }:=by
 have nC:=QK hC;have CF:C ∉ uo X.stack:=λz=>by
  obtain⟨_,o,ho,_⟩:=I2.stack.mem z;rw[nC] at ho;cases ho
 have off:∀b o,s2.heap.get? b=some o->b≠C:=λb o e z=>by rw[z,nC] at e;cases e
 have un:Un _ [C] H H s.heap h':=#[λb o q _ _ hx=>(sb.2 b λz=>hx (by simp [z])).trans q,λb o q _ hb _=>#[o.slots,(sb.2 b λz=>CF<|z▸hb).trans q],λ_ _ _ n _=>n,λb o q hx=>#[o,(sb.2 b λz=>hx (by simp [z])).trans q],λ_ _ q=>q,λ_ _ _ q=>q,λb ps q=>#[(Ya []),by grind]];have hok:=λb o e=>(I.hok b o e).stay (λc u hc q=>(sb.2 c λz=>by
  grind).trans q) (λ_ q=>q) λ_ _ q=>q
 refine I.call' rfl un hok I.bare λb hb=>?_;obtain rfl:b=C:=by simpa using hb
 obtain⟨_,hn,_⟩:=I2.loc;obtain⟨_,_,_,hL,_⟩:=hn;refine#[.inr<|ym I2.sz hC,λz=>off _ _ hL z.symm,λx c e=>?_,λp hp=>off _ _ (I2.pin p hp).1];obtain⟨_,_,hc,_⟩:=I2.cell x c e;exact off _ _ hc
end
theorem jo.track (I:jo X pins σ H s) (hn:H a=none) (h0:X.s₀.heap.get? a=none) (hL:a≠X.env.locals)
  (hc:∀x c,X.env.cells.lookup x=some c->c≠a) (hp:∀p∈X.pn++pins,p.1≠a) (new:Jz X.prog X.w (upd H a o) s.heap a o):jo X pins σ (upd H a o) s:=by
 have ne:∀b u,H b=some u->b≠a:=λb u e z=>by rw[z,hn] at e;cases e
 refine#[I.ok,I.os,I.bare,#[I.base.keep,I.base.slot,λb u e n hx=>?_,I.base.there,λb xs e=>?_,λb u v e=>?_,λb ps e=>?_],I.loc,I.cell,?_,λx c e=>?_,λp h=>?_,λb u e=>?_,I.len,I.hn.mono λb u v e=>jB (ne b _ e) e]
 ·rw[jj (λz=>by rw[z,h0] at e;cases e)];exact I.base.free b u e n hx
 ·have q:=I.base.tups b xs e;rw[jj<|ne b _ q];exact q
 ·have q:=I.base.frzs b u v e;rw[jj<|ne b _ q];exact q
 ·obtain⟨m,q⟩:=I.base.tbls b ps e;exact#[m,jB (ne b _ q) q]
 ·rw[jj<|yG hL];exact I.free
 ·rw[jj<|hc x c e];exact I.freeC x c e
 ·obtain⟨q1,q2,q3⟩:=I.pin p h;exact#[q1,jB (hp p h) q2,q3]
 ·by_cases hb:b=a
  ·subst hb;rw[jd] at e;cases e;exact new
  ·rw[jj hb] at e;exact (I.hok b u e).stay (λ_ _ _ q=>q) (λc q=>jB (ne c _ q) q) λc xs q=>by rw[jj<|ne c _ q];exact q
section
variable {P:Ee}{w:World}{K:DS}{mg:DV}{base:Heap}{k:Nat}{x m:Str}{C:Addr}{ps:D8}{sp:Sp}
structure jS (P:Ee) (w:World) (K:DS) (mg:DV) (base:Heap) (k:Nat) (x:Str) (ps:D8) (sp:Sp) (c:Bool:=true):Prop where
 ex:∃f fd,Ui P w K mg base (XC P w) k f fd ps sp c/\JZ K fd ps []/\keepIn K (.ref f)=true/\mg x=some (.ref f)
structure kn (P:Ee) (w:World) (K:DS) (mg:DV) (base:Heap) (k:Nat) (x:Str) (C:Addr) (ps:D8) (sp:Sp):Prop where
 ex:∃f fd,Mk K C f/\Ui P w K mg base (XC P w) k f fd ps sp/\JZ K fd ps []/\mg x=some (.ref C)
structure uQ (P:Ee) (w:World) (K:DS) (mg:DV) (base:Heap) (k:Nat) (C:Addr) (m:Str) (ps:D8) (sp:Sp):Prop where
 cl:Vi K C
 ex:∃f fd,ZX K C m f/\Ui P w K mg base (XC P w) k f fd ps sp/\JZ K fd ps []
end
section
variable {X:Cx}{k:Nat}{x m:Str}{C:Addr}{ps:D8}{sp:Sp}{E:XK}{p pos apos:Pos}{e o:Expr}{es:Ea}{ta:TE}{t:TA}
theorem jn {cm:Bool} (G:jS X.prog X.w X.K X.mg X.base k x ps sp cm) (ha:PA X (e::es) t) (hr:autoParam (Jf cm k X.A) zzl) (hx:autoParam (UD (XC X.prog X.w) X E) zzn) (hg:autoParam (Gl X x) ac)
  (HB:autoParam ((x==("__debug__":Str))=false) gt) (he:autoParam (starEach (e::es) X.env=(false,eval e X.env)::starEach es X.env) ac) (EE:autoParam ((backTo pos<|starEach es X.env).any (·.1)=false) ac) :
  PE X (.Call (.Name x p) (e::es) [] pos) (sK sp [] E t):=by
 obtain⟨f,fd,F,b,kp,Q9⟩:=G.ex;exact wb F hr hg Q9 kp b .nil hx ha HB he EE
theorem za (G:kn X.prog X.w X.K X.mg X.base k x C ps sp) (ha:PA X (e::es) t) (hr:autoParam (UM (k+1) X.A) zzl) (hx:autoParam (UD (XC X.prog X.w) X E) zzn) (hg:autoParam (Gl X x) ac)
  (HB:autoParam ((x==("__debug__":Str))=false) gt) (he:autoParam (starEach (e::es) X.env=(false,eval e X.env)::starEach es X.env) ac) (EE:autoParam ((backTo pos<|starEach es X.env).any (·.1)=false) ac) :
  PE X (.Call (.Name x p) (e::es) [] pos) (sO C sp [] E t):=by
 obtain⟨f,fd,M,F,b,Q9⟩:=G.ex;exact wc M F hr hg Q9 b .nil hx ha HB he EE
theorem Jy {pl:Sem Bool} (ho:PE X o ta) (G:uQ X.prog X.w X.K X.mg X.base k C m ps sp) (ha:PA X (e::es) t) (hr:autoParam (UM k X.A) zzl) (hx:autoParam (UD (XC X.prog X.w) X E) zzn)
  (Fp:autoParam (starEach (e::es) X.env=(false,eval e X.env)::starEach es X.env) ac) (EE:autoParam ((backTo pos<|starEach es X.env).any (·.1)=false) ac)
  (ht:autoParam (eval (.Call (.Attribute o m apos) (e::es) [] pos) X.env=(do
   let ov <-eval o X.env
   standAt apos.atName
   let (f,first) <-holding [ov] (getMethod ov m pl)
   callWith pos f first (backTo pos<|starEach (e::es) X.env) (backToKw pos<|keywordEach [] X.env))) ac) :
  PE X (.Call (.Attribute o m apos) (e::es) [] pos) (sP C m sp [] E ta t):=by
 obtain⟨f,fd,M,F,b⟩:=G.ex;exact wg ho G.cl M F hr b .nil hx ha Fp EE ht
inductive cR (C:Addr) (m:Str) (sp:Sp) (E:XK) (x:V) (H:Hp) (Q:VK):Prop
 | mk (a:_) (dx:_) (fs:_) (h0:x=.ref a) (h1:H a=some (.ins C dx fs)) (h2:fs.lookup m=none) (h3:sp [x] H Q E):cR C m sp E x H Q
def AD (C:Addr) (m:Str) (sp:Sp) (E:XK):V->Hp->VK->Prop:=λx H Q=>cR C m sp E x H Q
def xh (X:Cx) (m:Str) (r:V->Hp->VK->Prop):Prop:=∀(pins:DW) (s:Shared) (σ:St) (H:Hp) (x:V) (u:Value) (Q:VK) (pl:Sem Bool) (pos:Pos),jo X pins σ H s->jI x u->r x H Q ->
 wpAny (model X.prog X.w) X.A (holding [u]<|getMethod u m pl) (λfm s1=>wpAny (model X.prog X.w) X.A (callWith pos fm.1 fm.2 (backTo pos<|starEach [] X.env)<|backToKw pos<|keywordEach [] X.env) (EP X pins σ Q) X.xe s1) X.xe s
theorem Kj (G:uQ X.prog X.w X.K X.mg X.base k C m ps sp) (hr:autoParam (UM k X.A) zzl) (hx:autoParam (UD (XC X.prog X.w) X E) zzn):xh X m (AD C m sp E):=by
 intro pins s σ H x u Q pl pos I r h;obtain⟨f,fd,M,F,b⟩:=G.ex;obtain⟨a,dx,fs,rfl,ea,l,q⟩:=h;obtain rfl:u=Value.ref a:=r;refine wpAny_holding<|vK I ea G.cl M l ?_;exact callWith_K0 I.kIn M.kp (Kz (vs:=[.ref a]) F hr b .nil hx I (.cons rfl .nil) q)
def DH (r:V->Hp->VK->Prop) (ta:TE):TE:=λσ H Q=>ta σ H λx H1=>r x H1 Q
theorem uk {r:V->Hp->VK->Prop} (hr:xh X m r) (ho:PE X o ta)
  (ht:autoParam (eval (.Call (.Attribute o m apos) [] [] pos) X.env=(do
   let ov <-eval o X.env
   standAt apos.atName
   let (f,first) <-holding [ov] (getMethod ov m pl)
   callWith pos f first (backTo pos<|starEach [] X.env) (backToKw pos<|keywordEach [] X.env))) ac):PE X (.Call (.Attribute o m apos) [] [] pos) (DH r ta):=by
 intro pins s σ H Q I h;rw[ht];refine Ef (jE (ho pins s σ H _ I h) λu s1 #[x,H1,I1,rx,q]=>Ef<|wpAny_standAt<|Ef ?_);exact hr pins s1 σ H1 x u Q pl pos I1 rx q
end
inductive ng:V->Value->Prop where
 | ty (n:String):ng (.ty n) (.type n)
 | ref (a:Addr):ng (.ref a) (.ref a)
theorem ng.val {c:V}{cv u:Value} (h:ng c cv) (r:jI c u):u=cv:=by cases h<;>exact r
section
variable {X:Cx}
theorem VS:u4 X (.builtin "isinstance") (λxs H Q=>E5 λx c t cv b=>A5 (xs=[x,c]) (vX X.K H x t) (ng c cv) (kitOne X.K t cv=some b)<|Q (.bl b) H):=by
 intro pins s σ H xs us Q I r h;obtain⟨x,c,t,cv,b,rfl,ty,hc,e,q⟩:=h;obtain⟨u,w,rfl,ru,rc⟩:=BX r;obtain rfl:=hc.val rc;exact iP I ru ty e λtk=>#[.bl b,H,I.tok tk,rfl,q]
end
theorem jo.turnedL {t':Nat} (I:jo X pins σ H s) (fp:∀c∈ch,zE X pins H c) (keep:∀c o,c ∉ ch->s.heap.get? c=some o->h'.get? c=some o) :
  jo X pins σ H { s with heap:=h',toks:=t' }:=by
 have J₁:∀c o,H c=some o->c ∉ ch:=λc o e hc=>by have:=(fp c hc).1;rw[e] at this;cases this
 refine I.step (λc hc=>#[(fp c hc).2.2.2.1,(fp c hc).2.1,(fp c hc).2.2.2.2.1,(fp c hc).2.2.2.2.2])
  (λc o _ _ hc e _=>keep c o hc e) (λc o _ _ hc e _=>#[o.slots,keep c o hc e]) (λ_ _ _ _ n=>n) (λc o hc e=>#[o,keep c o hc e]) (λ_ _ e=>e) (λ_ _ _ e=>e) (λc ps e=>#[(Ya []),by rw[e];simp]) (λm hm=>?_) (λc o e=>?_) I.bare
 ·obtain⟨o,es,ep,ho,r⟩:=hm;exact#[o,es,ep,keep _ o (λhc=>(fp _ hc).2.1 rfl) ho,r]
 ·refine (I.hok c o e).stay (λd u hd q=>keep d u ?_ q) (λ_ q=>q) λ_ _ q=>q;rcases hd with z|z
  ·rw[z];exact J₁ c o e
  ·exact J₁ d _ z
theorem rM:bootBuiltins "int"=some (.type "int"):=by decide +kernel
theorem xt:bootBuiltins "bool"=some (.type "bool"):=by decide +kernel
theorem fV:bootBuiltins "list"=some (.type "list"):=by decide +kernel
theorem gR:bootBuiltins "tuple"=some (.type "tuple"):=by decide +kernel
theorem UZ:bootBuiltins "isinstance"=some (.builtin "isinstance"):=by decide +kernel
theorem rN:bootBuiltins "min"=some (.builtin "min"):=by decide +kernel
theorem Bo:bootBuiltins "abs"=some (.builtin "abs"):=by decide +kernel
theorem vG:bootBuiltins "len"=some (.builtin "len"):=by decide +kernel
theorem gC:UD (XC X.prog X.w) X (λ_ _ _=>False):=by
 intro pins σ H s e s' I h;obtain⟨_,_,_,_,_,_,_,_,_,q⟩:=h;exact q.elim
section
variable {X:Cx}
theorem Mw:u4 X (.builtin "min") (λxs H Q=>E2 λ(p:Addr) (ns:List Int)=>A4 (xs=[.ref p]) (jt X.K H p<|ns.map V.int) (0<ns.length) (∀M,M∈ns->(∀a∈ns,M<=a)->Q (.int M) H)):=by
 intro pins s σ H xs us Q I r h;obtain⟨p,ns,rfl,hq,Ey,q⟩:=h;obtain⟨u,rfl,ru⟩:=UV r;cases ru;obtain⟨Ek,rv,pl,_⟩:=I.list hq;have hi:=dY rv;obtain⟨zs,e⟩:=hi.allInts.items;have FW:ns=zs.toList.map (·.1):=by rw[<-hi.numsOf,<-nums_intItems,<-e]
 have hsz:0<zs.size:=by rw[FW,yb,yD] at Ey;exact Ey
 have hl:s.heap.IsList p (intItems zs):=e▸pl.isList;refine An (I.hn.now I.hok) hl hsz λv h' tk hv hk=>?_;obtain⟨t,rfl⟩:=intItems_at hv;obtain⟨h1,h2⟩:=argBest_lt (numAt zs)<|zs.size - 1;refine#[.int _,H,I.kept hk,#[t,rfl],q _ ?_ λa ha=>?_]
 ·rw[FW,numAt_eq];exact getD_mem (by rw[yb,yD];omega)
 ·rw[FW] at ha;obtain⟨j,hj,rfl⟩:=mem_getD ha;rw[yb,yD] at hj;rw[<-numAt_eq];exact h2 j (by lia)
theorem lQ {K:DS} (hu:X.A.units<cLine) (hK:autoParam (X.K=K) zzd):uC X (compareOp .NotEq) (λx y H Q=>E3 λa b xs=>A5 (x=.ref a) (y=.ref b) (jt K H a xs) (jt K H b [])<|Q (.bl<|!xs.isEmpty) H):=by
 subst hK;intro pins s σ H x y v u Q I rx ry h;obtain⟨a,b,xs,rfl,rfl,ha,hb,q⟩:=h;cases rx;cases ry;obtain⟨Ek,rv,p,_⟩:=I.list ha;obtain⟨jts,F5,p',_⟩:=I.list hb;cases F5;cases rv with
 | nil=>exact EqBoolInt.of_rcne (SeqAt.RcNeAt.lists (e:=λ_=>true) p.isList p'.isList rfl hu (λj h1=>absurd h1 (by simp))) #[.bl false,H,I,rfl,q]
 | cons r t=>exact EqBoolInt.of_rcne (SeqAt.RcNeAt.lists_lengths p.isList p'.isList (by simp) hu) #[.bl true,H,I,rfl,q]
end
theorem ia {K:DS}{g:TG}{tc:TT}{te:TE}{Q:VK} (p:V->Bool) (f:V->V) (hl:jt K H a xs) (hz:xs.length<=sizeLine)
  (step:∀x∈xs,∀(H':Hp) (Qy:VK) (Qn:Hp->Prop),Same H H'->(p x=true->Qy (f x) H')->(p x=false->Qn H')->g x (σ++Yd k none) H' λσ2 H2=>(∃zs,σ2=σ++zs/\zs.length=k)/\tc σ2 H2 λb H3=>if b=true then te σ2 H3 Qy else Qn H3)
  (q:∀D,H D=none->Q (.ref D) (upd H D<|.lst<|(xs.filter p).map f)) :
  vm k g tc te σ Q (ZU K a) H:=by
 intro D hD;have sm:∀ys,Same H (upd H D<|.lst ys):=λys b o e=>by rw[jj<|jh e hD];exact e
 refine#[λi m ys H'=>m=xs.length - i/\i<=xs.length/\ys=((xs.take i).filter p).map f/\H'=upd H D (.lst ys),#[xs.length,by simp,yL _,by simp,rfl],?_];rintro i m ys H' ⟨rfl,hi,rfl,rfl⟩;refine#[jd,?_];have q1:jt K (upd H D<|.lst<|((xs.take i).filter p).map f) a xs:=(sm _).seq hl;by_cases El:i<xs.length
 ·refine .inr #[#[xs,xs[i],q1,by simp [El]],?_,λx H2 y=>?_]
  ·grind
  ·obtain⟨rfl,y⟩:=y;have hx:=y xs q1;have hm:=yp hx;have et:=take_succ_filter p xs i x hx;refine step x hm _ _ _ (sm _) (λhp=>#[jd,_,by omega,rfl,El,?_,?_]) λhp=>#[_,by omega,rfl,El,?_,rfl]
   ·rw[et,hp];simp
   ·rw[wY]
   ·rw[et,hp];simp
 ·obtain rfl:i=xs.length:=by lia
  refine .inl #[#[xs,q1,yh _],?_];rw[yW];exact q D hD
end L2
namespace L2
open PySem PySem.Spec PyProof.Rows PySem.W
section
variable {X:Cx}
theorem VN:∀{cs:DZ} {us:DY},jG (cs.map V.ref) us->us=cs.map Value.ref
 | [],_,.nil=>rfl
 | _::_,_,.cons r t=>by cases r;rw[VN t];rfl
end
section
variable {X:Cx}{e:Expr}{te:TE}{pos p2 q1 q2:Pos}{j1 j2:Nat}
theorem fQ {bs:List Bool}:(Yk bs.length).all (λj=>bs.getD j true)=bs.all id:=by
 rw[y4,y6,y6];constructor
 ·intro h b hb;obtain⟨j,hj,rfl⟩:=yO hb;have:=h j<|Qs.mpr hj;rwa [y7,yc hj] at this
 ·intro h j hj;have hj:=Qs.mp hj;rw[y7,yc hj];exact h _ (yV hj)
theorem KN (hc:X.calm=true):u4 X (.builtin "all") (λxs H Q=>E2 λ(p:Addr) (bs:List Bool)=>A3 (xs=[.ref p]) (jt X.K H p<|bs.map V.bl)<|Q (.bl<|bs.all id) H):=by
 intro pins s σ H xs us Q I r h;obtain⟨p,bs,rfl,hq,q⟩:=h;obtain⟨u,rfl,ru⟩:=UV r;cases ru;obtain⟨Ek,rv,pl,_⟩:=I.list hq;have hlen:Ek.length=bs.length:=by rw[<-rv.length,yb]
 have T7:∀(i:Nat) (v:Value),Ek.toArray[i]?=some v->v=.bool (bs.getD i true):=λi v e=>by
  have e':Ek[i]?=some v:=by simpa using e
  have hi:i<bs.length:=by rw[<-hlen];exact (yd.mp e').1
  obtain⟨u,hu,ru⟩:=rv.get (i:=i) (x:=V.bl bs[i]) (by simp [hi]);rw[e'] at hu;cases hu;obtain rfl:=ru;rw[y7,yc hi];rfl
 have El:p<s.heap.objs.size:=by obtain⟨_,e,_⟩:=pl.isList;exact yq e
 refine call_all_walk<|wpAny_pyIter_list pl.isList ?_;refine#[_,_,_,_,_,_,λj=>bs.getD j true,rfl,Walks.list (A:=X.A.in1) (I.ok.hd hc) s.heap.objs.size p (yJ El) Ek.toArray,#[#[_,yB _ rfl,rfl,rfl],pl.isList.push _],?_,λh' tk hk=>?_]
 ·intro i v s' Q' E' hP IX;obtain rfl:=T7 i v hP;exact wpAny_of_eq rfl IX
 ·rw[yt,hlen,fQ];exact#[.bl _,H,I.kept λb o e=>hk b o (λhm=>by simp at hm;exact absurd (hm▸yq e)<|QB _)<|yg _ e,rfl,q]
end
end L2
namespace L2
open PySem PySem.Spec PyProof.Rows
theorem Bp:bootBuiltins "all"=some (.builtin "all"):=by decide +kernel
theorem NL {H H':Hp}{D:Addr}{o:HO} (hD:H D=none) (s:Same H H'):Same H (upd H' D o):=λb u e=>by rw[jj<|jh e hD];exact s b u e
end L2
namespace L2
open PySem PySem.Spec PyProof.Rows PySem.W
variable {H:Hp}{a:Addr}{xs:List V}{Ek Er:DY}{ns ms:List Int}{g:TG}{tc:TT}{te:TE}{k:Nat}{σ:St}{Q:VK}
theorem pA {α:Type} [DecidableEq α] (d:α) (xs ys:List α):((Yk<|min xs.length ys.length).all (λj=>decide (xs.getD j d=ys.getD j d))&&xs.length==ys.length)=decide (xs=ys):=by
 rw[y4,yU,y6,decide_eq_true_iff,beq_iff_eq];constructor
 ·rintro⟨h,hl⟩;refine QF hl λj h1 h2=>?_;have:=of_decide_eq_true (h j (Qs.mpr (by lia)));rwa [y7,y7,yc h1,yc h2] at this
 ·rintro rfl;exact#[λj _=>decide_eq_true rfl,rfl]
theorem Same.sqT {K:DS}{H':Hp} (e:Same H H') (h:jx K H a xs):jx K H' a xs:=by
 rcases h with (h|⟨o,h⟩)|h
 ·exact .inl (.inl<|e _ _ h)
 ·exact .inl (.inr #[o,e _ _ h])
 ·exact .inr h
section
variable {X:Cx}{pins:DW}{σ:St}{H:Hp}{s:Shared}
theorem iu {A:Around} (r1:jG (ns.map V.int) Ek) (r2:jG (ms.map V.int) Er) (j:Nat) (h1:j<Ek.toArray.size) (h2:j<Er.toArray.size) :
  SeqAt.EqAt A s Ek.toArray[j] Er.toArray[j] (decide (ns.getD j 0=ms.getD j 0)):=by
 have l1:=r1.length;have l2:=r2.length;rw[yb] at l1 l2;rw[yt] at h1 h2;have g1:j<ns.length:=by lia
 have g2:j<ms.length:=by lia
 obtain⟨u,hu,ru⟩:=r1.get (i:=j) (x:=V.int ns[j]) (by simp [g1]);obtain⟨v,hv,rv⟩:=r2.get (i:=j) (x:=V.int ms[j]) (by simp [g2]);obtain⟨t,rfl⟩:=ru;obtain⟨t2,rfl⟩:=rv;have e1:Ek.toArray[j]=.int ns[j] t:=by
  rw[Qv];exact Yb ((yc h1).symm.trans hu)
 have e2:Er.toArray[j]=.int ms[j] t2:=by
  rw[Qv];exact Yb ((yc h2).symm.trans hv)
 rw[e1,e2];have e3:(ns[j]==ms[j])=decide (ns.getD j 0=ms.getD j 0):=by
  rw[y7,y7,yc g1,yc g2];rw[y4,beq_iff_eq,decide_eq_true_iff];rfl
 rw[<-e3];exact SeqAt.EqAt.int_int _ _ _ _
theorem oK (r1:jG (ns.map V.int) Ek) (r2:jG (ms.map V.int) Er) :
  ((Yk<|min Ek.toArray.size Er.toArray.size).all (λj=>decide (ns.getD j 0=ms.getD j 0))&&Ek.toArray.size==Er.toArray.size)=decide (ns=ms):=by
 have l1:=r1.length;have l2:=r2.length;rw[yb] at l1 l2;rw[yt,yt,<-l1,<-l2];exact pA 0 ns ms
theorem lP (hu:X.A.units<cLine):uC X (compareOp .NotEq) (λx y H Q=>E4 λ(a b:Addr) (ns ms:List Int)=>A5 (x=.ref a) (y=.ref b) (jx X.K H a<|ns.map V.int) (jx X.K H b<|ms.map V.int)<|Q (.bl<|!decide (ns=ms)) H):=by
 intro pins s σ H x y v u Q I rx ry h;obtain⟨a,b,ns,ms,rfl,rfl,ha,hb,q⟩:=h;cases rx;cases ry;obtain⟨Ek,r1,p1,_⟩:=I.tuple ha;obtain⟨Er,r2,p2,_⟩:=I.tuple hb;rw[<-oK r1 r2] at q;exact EqBoolInt.of_rcne (SeqAt.RcNeAt.tuples p1 p2 hu λj h1 h2=>iu r1 r2 j h1 h2) #[.bl _,H,I,rfl,q]
end
theorem dD {K:DS} (p:V->Bool) (f:V->V) (hl:jx K H a xs) (hz:xs.length<=sizeLine)
  (step:∀x∈xs,∀(H':Hp) (Qy:VK) (Qn:Hp->Prop),Same H H'->(p x=true->∀Ra,Same H' Ra->Qy (f x) Ra)->(p x=false->∀Ra,Same H' Ra->Qn Ra)->g x (σ++Yd k none) H' λσ2 H2=>(∃zs,σ2=σ++zs/\zs.length=k)/\tc σ2 H2 λb H3=>if b=true then te σ2 H3 Qy else Qn H3)
  (q:∀D H',H D=none->Same H H'->H' D=some (.lst<|(xs.filter p).map f)->Q (.ref D) H'):vm k g tc te σ Q (nQ K a) H:=by
 intro D hD;refine#[λi m ys H'=>m=xs.length - i/\i<=xs.length/\ys=((xs.take i).filter p).map f/\Same H H'/\H' D=some (.lst ys),#[xs.length,by simp,yL _,by simp,NL hD<|Same.refl H,jd],?_];rintro i m ys H' ⟨rfl,hi,rfl,sm,eD⟩;refine#[eD,?_];have q1:=sm.sqT hl;by_cases El:i<xs.length
 ·refine .inr #[#[xs,xs[i],q1,by simp [El]],?_,λx H2 y=>?_]
  ·grind
  ·obtain⟨rfl,y⟩:=y;have hx:=y xs q1;have et:=take_succ_filter p xs i x hx;refine step x (yp hx) _ _ _ sm (λhp H4 s4=>#[s4 _ _ eD,_,by omega,rfl,El,?_,NL hD<|Same.trans sm s4,jd]) λhp H4 s4=>#[_,by omega,rfl,El,?_,Same.trans sm s4,s4 _ _ eD]
   ·rw[et,hp];simp
   ·rw[et,hp];simp
 ·obtain rfl:i=xs.length:=by lia
  refine .inl #[#[xs,q1,yh _],?_];rw[yW] at eD;exact q D H' hD sm eD
theorem dE {lo:Int}{n:Nat} (Pv:Addr->Nat->List V->Hp->Prop) (hn:n<=sizeLine)
  (h0:∀D,H D=none->Pv D 0 [] (upd H D<|.lst [])) (hD:∀D i ys H',Pv D i ys H'->H' D=some (.lst ys)/\ys.length=i)
  (step:∀D i ys H' (Qy:VK) (Qn:Hp->Prop),i<n->Pv D i ys H'->(∀y H4,H4 D=some (.lst ys)->Pv D (i+1) (ys++[y]) (upd H4 D<|.lst<|ys++[y])->Qy y H4) ->
   g (.int<|lo+i) (σ++Yd k none) H' λσ2 H2=>(∃zs,σ2=σ++zs/\zs.length=k)/\tc σ2 H2 λb H3=>if b=true then te σ2 H3 Qy else Qn H3)
  (q:∀D ys H',H D=none->Pv D n ys H'->Q (.ref D) H'):vm k g tc te σ Q (ZV lo n) H:=by
 intro D Hu;refine#[λi m ys H'=>m=n - i/\i<=n/\Pv D i ys H',#[n,by simp,yL _,h0 D Hu],?_];rintro i m ys H' ⟨rfl,hi,p⟩;obtain⟨e,hl⟩:=hD D i ys H' p;refine#[e,?_];by_cases El:i<n
 ·refine .inr #[El,by lia,λx H2 y=>?_];obtain⟨rfl,rfl⟩:=y;exact step D i ys H2 _ _ El p λy H4 e4 p4=>#[e4,_,by lia,rfl,El,p4]
 ·obtain rfl:i=n:=by lia
  exact .inl #[yh _,q D ys H' Hu p]
theorem uj {K:DS} (Pv:Addr->Nat->List V->Hp->Prop) (hz:xs.length<=sizeLine)
  (h0:∀D,H D=none->Pv D 0 [] (upd H D<|.lst [])) (hD:∀D i ys H',Pv D i ys H'->H' D=some (.lst ys)/\ys.length<=i/\jt K H' a xs)
  (step:∀D i x ys H' (Qy:VK) (Qn:Hp->Prop),xs[i]?=some x->Pv D i ys H'->(∀y H4,H4 D=some (.lst ys)->Pv D (i+1) (ys++[y]) (upd H4 D<|.lst<|ys++[y])->Qy y H4)->(∀H4,Pv D (i+1) ys H4->Qn H4) ->
   g x (σ++Yd k none) H' λσ2 H2=>(∃zs,σ2=σ++zs/\zs.length=k)/\tc σ2 H2 λb H3=>if b=true then te σ2 H3 Qy else Qn H3)
  (q:∀D ys H',H D=none->Pv D xs.length ys H'->Q (.ref D) H'):vm k g tc te σ Q (ZU K a) H:=by
 intro D Hu;refine#[λi m ys H'=>m=xs.length - i/\i<=xs.length/\Pv D i ys H',#[xs.length,by simp,yL _,h0 D Hu],?_];rintro i m ys H' ⟨rfl,hi,p⟩;obtain⟨e,hl,q1⟩:=hD D i ys H' p;refine#[e,?_];by_cases El:i<xs.length
 ·refine .inr #[#[xs,xs[i],q1,by simp [El]],by lia,λx H2 y=>?_];obtain⟨rfl,y⟩:=y;exact step D i x ys H2 _ _ (y xs q1) p (λy H4 e4 p4=>#[e4,_,by lia,rfl,El,p4]) λH4 p4=>#[_,by lia,rfl,El,p4]
 ·obtain rfl:i=xs.length:=by lia
  exact .inl #[#[xs,q1,yh _],q D ys H' Hu p]
section
variable {X:Cx}{K:DS}
theorem Mv (h:X.K=K):u4 X (.builtin "len") (λxs H Q=>E2 λp ys=>A3 (xs=[.ref p]) (jt K H p ys\/jx K H p ys)<|Q (.int ys.length) H):=by
 subst h;exact Js
end
end L2
namespace L2
open PySem PySem.Spec PyProof.Rows
variable {h':Heap}{pins:DW}{s:Shared}{σ:St}{H H':Hp}{Q:DO}{x qual:Str}{u:Value}{y:V}{P:Ee}{w:World}{k:List Key}{Ei:List (List Key×V)}{xs:List (List Key×Addr×Value)}{b a f:Addr}{pos:Pos}{st:Stmt}{fd:FuncData}{ps:D8}
section
variable {X:Cx}
def wu:V->List V->Hp->VK->Prop:=λx vs H Q=>∃l xs y,∃i:Int,x=.ref l/\vs=[.int i,y]/\H l=some (.lst xs)/\xs.length<sizeLine/\0<=i/\i<2^63/\Q .non (upd H l<|.lst<|xs.take (min i.toNat xs.length)++[y]++xs.drop (min i.toNat xs.length))
theorem lB:fN X "list.insert" wu:=by
 intro pins s σ H x vs v us Q I rx rv h;obtain⟨l,xs,y,i,rfl,rfl,hH,hz,h0,hi,q⟩:=h;cases rx;cases rv with
 | cons ra rr =>
  cases rr with
  | cons rb rr =>
   cases rr;obtain⟨t,rfl⟩:=ra;rename_i yv;obtain⟨z,Ek,n,r,hl,e⟩:=I.lstM hH;have T8:¬(!Builtin.List.listFitsIndex i)=true:=by rw[fitsIndex_both (by lia) hi];decide
   have hm:=AutoListH.list_insert_list_int_val_1 l Ek.toArray n i t yv T8 (by rw[yt];lia);refine call_meets F.slot_list_insert #[_,e,rfl] F.entry_list_insert (F.args_list_insert_3 _ _ _) hm #[e,?_];refine#[.non,_,I.lset hH e ?_ (((r.take _).append<|.cons rb .nil).append<|r.drop _) ?_,rfl,q]
   ·grind
   ·grind
end
abbrev Cx.blkN (X:Cx) (N0:D8) (scope:Scope) (cl:D0) (C:Addr) (own:D8) (s:Shared) (H:Hp) (fp:DZ) (pins:DW):Cx :=
 { X.blk scope cl C own s H fp pins with N:=N0++own }
structure Us (X:Cx) (N0:D8) (scope:Scope) (cl:D0):Prop where
 clos:closureFor scope X.env=pure cl
 kind:scope.kind=.function
 nocell:∀y∈scope.names,y.2≠.cell
 names:∀y∈scope.names,y.2=.local->scope.names.lookup y.1=some .local
 sub:∀x c,cl.lookup x=some c->X.env.cells.lookup x=some c
 has:∀x,scope.names.lookup x=some .free->∃c,cl.lookup x=some c
 outer:∀x,scope.names.lookup x=some .free->X.env.kindOf x=some .cell\/X.env.kindOf x=some .free
 lenN:N0.length=X.N.length
 nm:∀(i:Nat) (x:Str),N0[i]?=some x->(X.N[i]?=some x/\scope.names.lookup x≠some .local)\/scope.names.lookup x=none
section
variable {X:Cx}{scope:Scope}{cl:D0}{own N0:D8}{pins:DW}{σ:St}{H2 H3:Hp}{s2:Shared}{fp:DZ}{C:Addr}{h1:Heap}
theorem tz (S:Us X N0 scope cl) (I2:jo X pins σ H2 s2) (f2:∀b∈fp,zE X pins H2 b) (El:∀b∈fp,b<s2.heap.objs.size) (hC:s2.heap.objs.size<=C) {m:DV} (FW:h1.Ns C m)
  (keep:∀b o,s2.heap.get? b=some o->h1.get? b=some o) (hH:∀b o,s2.heap.get? b=some o->H2 b=none->H3 b=none) (un:Un (uo X.stack) fp H2 H3 s2.heap h1) (hok:Jh X.prog X.w H3 h1) (hCf:H3 C=none) {tk:Nat} :
  jo (X.blkN N0 scope cl C own s2 H2 fp pins) [] (σ++Yd own.length none) H3 { s2 with heap:=h1,toks:=tk }:=by
 have O2:∀b o,s2.heap.get? b=some o->b≠C:=λb o e=>yJ<|yw (yq e) hC;have Rb:∀x,(compEnvC scope cl C X.env).kindOf x=(scope.names.lookup x).map λk=>if (k==NameKind.free&&X.env.scope.kind==.function&&X.env.kindOf x==some .cell) then NameKind.cell else k:=λx=>gp
 have F6:∀x,((compEnvC scope cl C X.env).kindOf x=some .cell\/(compEnvC scope cl C X.env).kindOf x=some .free)->scope.names.lookup x=some .free:=λx hx=>by
  rw[Rb x] at hx;cases q:scope.names.lookup x with
  | none=>rw[q] at hx;rcases hx with z|z<;>cases z
  | some k =>
   rw[q] at hx;have nc:=S.nocell _<|uy q;cases k<;>simp_all
 refine#[#[I2.ok.mod,S.kind,I2.ok.glob,I2.ok.blt,hC,λx y c e1 e2=>I2.ok.inj x y c (S.sub x c e1)<|S.sub y c e2,λx hx=>S.has x<|F6 x hx,λx c z _=>(by cases z),I2.ok.hd,I2.ok.frames,.inl rfl,
  λb hb=>#[yJ<|yw (El b hb) hC,λx c e=>(f2 b hb).2.2.2.2.1 x c<|S.sub x c e],λb o e=>#[(I2.bs b o e).1,(I2.bs b o e).2],ym I2.ok.bsz I2.sz,λb o e hb=>?_,λb hb=>au I2 (f2 b hb).2.1 (f2 b hb).2.2.1,I2.stack,I2.stkFree],
  rfl,I2.bare,un,#[m,FW,λi x v e1 e2 e3=>?_],λx c e=>?_,hCf,λx c e=>?_,λp hp=>?_,hok,?_,I2.hn.mono un.frzs]
 ·rcases (f2 b hb).2.2.2.1 with z|z
  ·exact I2.ok.noex b o e z
  ·exact absurd (yw (yw (yq e) I2.ok.bsz) z) (QB _)
 ·
  have hi:i<σ.length:=by
   apply Classical.byContradiction
   intro hn;rw[yl (by lia),aap] at e2
   split at e2<;>cases e2
  rw[yn hi] at e2;have Uf:i<N0.length:=by rw[S.lenN,<-I2.len];exact hi
  have e0':N0[i]?=some x:=by rw[<-yn (l₂:=own) Uf];exact e1
  have SY:=S.nm i x e0';have J₂:(compEnvC scope cl C X.env).kindOf x=some .local\/(compEnvC scope cl C X.env).kindOf x=some .cell\/(compEnvC scope cl C X.env).kindOf x=some .free:=e3;have SY:X.N[i]?=some x/\scope.names.lookup x≠some .local:=SY.resolve_right λz=>by
   have k0:=Rb x;rw[z] at k0;rcases J₂ with q|q|q<;>(rw[k0] at q;cases q)
  have Rc:X.N[i]?=some x:=SY.1;have nl:(compEnvC scope cl C X.env).kindOf x≠some .local:=λz=>by
   rw[Rb x] at z;cases q:scope.names.lookup x with
   | none=>rw[q] at z;cases z
   | some k =>
    rw[q,Y6] at z;have na:=SY.2;rw[q] at na;cases k<;>first
     | exact na rfl
     | (have z':=Yb z;split at z'<;>cases z')
  have T9:(compEnvC scope cl C X.env).kindOf x=some .cell\/(compEnvC scope cl C X.env).kindOf x=some .free:=J₂.resolve_left nl;obtain⟨c,hc⟩:=S.has x<|F6 x T9;obtain⟨m0,Lz,hl0⟩:=I2.loc;have hcX:=S.sub x c hc;have ho:=S.outer x<|F6 x T9;obtain⟨u,r,l⟩:=hl0 i x v Rc e2<|.inr ho;refine⟨u,r,.inr ⟨T9,c,hc,?_⟩⟩;rcases l with ⟨z,_⟩|⟨_,c',Fo,oc,EO,O6⟩
  ·rcases ho with y|y<;>(rw[y] at z;cases z)
  ·rw[hcX] at Fo;cases Fo;exact⟨oc,keep _ _ EO,O6⟩
 ·obtain⟨v,⟨oc,EO,O6⟩⟩:=I2.cell x c<|S.sub x c e;exact⟨v,oc,keep _ _ EO,O6⟩
 ·obtain⟨v,⟨oc,EO,O6⟩⟩:=I2.cell x c<|S.sub x c e;exact hH c oc EO (I2.freeC x c<|S.sub x c e)
 ·obtain⟨q1,q2,q3,q4,q5⟩:=I2.pin p (by simpa using hp);exact⟨keep _ _ q1,hH _ _ q1 q2,O2 _ _ q1,au I2 q3 q4,q5⟩
 ·show (σ++Yd own.length none).length=(N0++own).length;rw[ye,ye,aax,I2.len,S.lenN]
theorem pE (I2:jo X pins σ H2 s2) (f2:∀b∈fp,zE X pins H2 b) (hC:s2.heap.objs.size<=C) {pl:DW} {σ':St} {s4:Shared} (I4:jo (X.blkN N0 scope cl C own s2 H2 fp pins) pl σ' H3 s4) (sb:Heap.SameBut C s4.heap h') :
  jo X pins σ H3 { s4 with heap:=h' }:=by
 have un:=I4.base;have nC:=QK hC;have CF:C ∉ uo X.stack:=λz=>by
  obtain⟨_,o,ho,_⟩:=I2.stack.mem z;rw[nC] at ho;cases ho
 have gK:=un.late (ch:=[C]) (λb hb=>by
  grind) (λb o _ hb e=>(sb.2 b (by simpa using hb)).trans e) λb o hb e=>#[o.slots,(sb.2 b λz=>CF<|z▸hb).trans e]
 have hf:H3 C=none:=I4.free;have hok:=λb o e=>(I4.hok b o e).stay (λc u hc q=>(sb.2 c λz=>by
  grind).trans q) (λ_ q=>q) λ_ _ q=>q
 exact I2.call' I4.os gK hok I4.bare λb hb=>#[(f2 b hb).2.2.2.1,(f2 b hb).2.1,(f2 b hb).2.2.2.2.1,(f2 b hb).2.2.2.2.2]
end
section
variable {X:Cx}{tg elt iter:Expr}{ifs:Ea}{scope:Scope}{cl:D0}{own N0:D8}{wi:TI}{g:TG}{tc:TT}{te:TE}{pos:Pos}
theorem kH {p2:Pos}{use:Option (Value->Sem Unit)}{QV:DO}{Q:VK} (S:Us X N0 scope cl) (hi:PI X tg iter wi)
  (hg:∀C s H fp pins,PG (X.blkN N0 scope cl C own s H fp pins) tg g) (ht:∀C s H fp pins,PF (X.blkN N0 scope cl C own s H fp pins) ifs tc) (he:∀C s H fp pins,PE (X.blkN N0 scope cl C own s H fp pins) elt te)
  (hs:∀x,foldedSetIterable iter X.env x=pure x) (I:jo X pins σ H s) (h:KD wi own.length g tc te σ H Q)
  (fin:∀D C s2 H2 H3 s4,jo X pins σ H2 s2->s2.heap.objs.size<=C->H3 C=none->(∃m,s4.heap.Ns C m)->(∀h',Heap.SameBut C s4.heap h'->jo X pins σ H3 { s4 with heap:=h' })->Q (.ref D) H3->compPost (model X.prog X.w) X.A X.xe use QV (.ref D) C (.ok .next) s4) :
  wpAny (model X.prog X.w) X.A (comprehension (.ListComp elt [#[tg,iter,ifs,0]] scope pos) scope X.env p2 (newList []) false (eval iter X.env) use) QV X.xe s:=by
 refine wpAny_comprehension_free (use:=use) rfl hs S.clos S.kind S.names (jE (hi pins s σ H _ I h) λv s1 h1=>jE h1 λTB s2 h2=>?_);obtain⟨it,fp,tn,J,H2,e,I2,T,Ho,f2,R⟩:=h2;subst e;obtain⟨nm,T,hc⟩:=T;refine wpAny_newObj_type (wpAny_newFunctionEnv S.nocell (by intro y hy;simp at hy) (λh1 FW LA=>?_) S.kind);dsimp only at FW LA ⊢;have El:∀b∈fp,b<s2.heap.objs.size:=λb hb=>by
  obtain⟨o,ho,_⟩:=T.obj 0 _ Ho b hb;exact yq ho
 generalize hp:s2.heap.push { cls:=.type "list",dict:=none,data:=.seq ([]:DY).toArray }=hl at FW LA ⊢;have hC:hl.objs.size=s2.heap.objs.size+1:=by rw[<-hp,QT]
 have Ie:s2.heap.objs.size<=hl.objs.size:=by rw[hC];exact Nat.le_succ _
 have hDC:s2.heap.objs.size≠hl.objs.size:=by rw[hC];exact yJ (aas _)
 have old:∀b o,hl.get? b=some o->h1.get? b=some o:=λb o e=>LA.extBut b o (yJ<|yq e)<|yg _ e;have Ig:∀b o,s2.heap.get? b=some o->h1.get? b=some o:=λb o e=>old b o<|hp▸yg _ e;have Dn:H2 s2.heap.objs.size=none:=I2.fresh;have Cn:H2 hl.objs.size=none:=I2.hok.fresh Ie;obtain⟨W,⟨m0,w0⟩,step⟩:=R s2.heap.objs.size Dn;have Ib:h1.get? s2.heap.objs.size=some { cls:=.type "list",data:=.seq ([]:DY).toArray }:=old _ _<|hp▸yB _ rfl;have I3:jo (X.blkN N0 scope cl hl.objs.size own s2 H2 fp pins) [] (σ++Yd own.length none) (upd H2 s2.heap.objs.size<|.lst []) { s2 with heap:=h1,toks:=s2.toks+([]:List (Str×Value)).length } :=
  tz S I2 f2 El Ie FW Ig (λb o e n=>jB (yJ<|yq e) n) (Un.laid Ig (yh _) Dn) (I2.hok.laid Ig (yh _) (show Jz X.prog X.w (upd H2 s2.heap.objs.size<|.lst []) h1 s2.heap.objs.size (.lst []) from#[yL _,[],0,.nil,Ib])) (jB (yG hDC) Cn)
 have fpn:∀b∈fp,upd H2 s2.heap.objs.size (.lst []) b=none:=λb hb=>by rw[jj<|yJ<|El b hb];exact (f2 b hb).1
 have F4:∀{H':Hp},(∀b∈fp,H' b=none)->∀b∈fp,zE (X.blkN N0 scope cl hl.objs.size own s2 H2 fp pins) [] H' b:=λhn b hb =>
  #[hn b hb,yJ<|yw (El b hb) Ie,au I2 (f2 b hb).2.1 (f2 b hb).2.2.1,.inl hb,λx c e=>(f2 b hb).2.2.2.2.1 x c<|S.sub x c e,λp hp=>(f2 b hb).2.2.2.2.2 p (by simpa using hp)]
 have loop:∀s3:Shared,s3={ s2 with heap:=h1,toks:=s2.toks+([]:List (Str×Value)).length } ->
   codeAny (model X.prog X.w) X.A (.compLoop (.ListComp elt [#[tg,iter,ifs,0]] scope pos) 0 (.ref it) (.ref s2.heap.objs.size)<|compEnvC scope cl hl.objs.size X.env) (compPost (model X.prog X.w) X.A X.xe use QV (.ref s2.heap.objs.size) hl.objs.size) s3:=by
  rintro s3 rfl;refine dF (λn s'=>∃i ys H',jo (X.blkN N0 scope cl hl.objs.size own s2 H2 fp pins) [] (σ++Yd own.length none) H' s'/\tn i s'.heap/\(∀b∈fp,H' b=none)/\W i n ys H') ?_ m0
   #[0,[],_,I3,T.keep 0 _ _ Ho (λb _ o e=>Ig b o e),fpn,w0]
  rintro n s3 ⟨i,ys,H3,J3,P9,Q1,w3⟩;obtain⟨hD,⟨stop,q⟩|⟨go,hlen,turn⟩⟩:=step i n ys H3 w3
  ·refine jE (T.done (X.blkN N0 scope cl hl.objs.size own s2 H2 fp pins) rfl rfl rfl hc i [] s3 _ H3 _ J3 (F4 Q1) P9 stop) λr s4 #[hr,J4]=>?_;subst hr;obtain⟨m4,hn4,_⟩:=J4.loc;exact fin _ _ s2 H2 H3 s4 I2 Ie J4.free #[m4,hn4] (λh' sb=>pE I2 f2 Ie J4 sb) q
  ·refine jE (T.item (X.blkN N0 scope cl hl.objs.size own s2 H2 fp pins) rfl rfl rfl hc i [] s3 _ H3 _ J3 (F4 Q1) P9 go) λr s4 #[u,hr,h4]=>?_;subst hr;refine jE h4 λ_ s5 hh=>?_;obtain⟨x,H5,J5,r5,y5,LX,TC⟩:=hh;have J5':=J5.pinned (F4 TC)<|T.obj _ _ LX;refine jE (hg _ _ _ _ _ _ s5 _ H5 x u _ J5' r5<|turn x H5 y5) λ_ s6 hh=>?_;obtain⟨σ6,H6,J6,⟨ts,e6,hts⟩,q6⟩:=hh;subst e6;refine jE (ht _ _ _ _ _ _ s6 _ H6 _ J6 q6) λok s7 #[H7,J7,q7]=>?_;have again:∀{s8:Shared} {H8:Hp} {zs:List V},jo (X.blkN N0 scope cl hl.objs.size own s2 H2 fp pins) ([]++Ky fp s5.heap) (σ++ts) H8 s8->(∃m',m'<n/\W (i+1) m' zs H8) ->
     ∃m,m<n/\∃i ys H',jo (X.blkN N0 scope cl hl.objs.size own s2 H2 fp pins) [] (σ++Yd own.length none) H' s8/\tn i s8.heap/\(∀b∈fp,H' b=none)/\W i m ys H':=λ{s8 H8 zs} J8 ⟨m',hm,w8⟩=>by
    refine#[m',hm,i+1,zs,H8,?_,T.keep _ _ _ LX λb hb o e=>(J8.pin (b,o)<|yr _<|yr _<|VB hb e).1,λb hb=>?_,w8]
    ·refine J8.unpinned.weak (by rw[ye,ye,aax,hts]) λj v ej=>?_;by_cases hj:j<σ.length
     ·rw[yn hj] at ej ⊢;exact ej
     ·rw[yl (by lia),aap] at ej
      split at ej<;>cases ej
    ·obtain⟨o,e,d⟩:=T.obj _ _ LX b hb;exact (J8.pin (b,o)<|yr _<|yr _<|VB hb e).2.1
   cases ok with
   | false=>exact again J7 q7
   | true =>
    refine jE (he _ _ _ _ _ _ s7 _ H7 _ J7 q7) λz s8 hh=>?_;obtain⟨y,H8,J8,r8,hD8,q8⟩:=hh;refine jE (Uq _ s8 _ H8 (.ref s2.heap.objs.size) [y] _ [z] (λ_ H9=>∃m',m'<n/\W (i+1) m' (ys++[y]) H9) J8 rfl (.cons r8 .nil) #[_,ys,y,rfl,rfl,hD8,hlen,q8]) λ_ s9 #[_,H9,J9,_,q9]=>again J9 q9
 exact codeAny_compStart_list (loop _ rfl) (T.self _ 0 _ _ _ (T.keep 0 _ _ Ho λb _ o e=>Ig b o e)<|loop _ rfl)
theorem V9 (S:Us X N0 scope cl) (hi:PI X tg iter wi)
  (hg:∀C s H fp pins,PG (X.blkN N0 scope cl C own s H fp pins) tg g) (ht:∀C s H fp pins,PF (X.blkN N0 scope cl C own s H fp pins) ifs tc) (he:∀C s H fp pins,PE (X.blkN N0 scope cl C own s H fp pins) elt te)
  (hs:autoParam (∀x,foldedSetIterable iter X.env x=pure x) zzh):PE X (.ListComp elt [#[tg,iter,ifs,0]] scope pos) (KD wi own.length g tc te):=by
 intro pins s σ H Q I h;exact kH S hi hg ht he hs I h λD C s2 H2 H3 s4 _ _ _ hn inv q=>hn.elim λm hn=>#[m,hn,λh' sb=>#[.ref D,H3,inv h' sb,rfl,q]]
theorem GM (i:Nat) {pos' Ih:Pos} (S:Us X N0 scope cl) (hi:PI X tg iter wi)
  (hg:∀C s H fp pins,PG (X.blkN N0 scope cl C own s H fp pins) tg g) (ht:∀C s H fp pins,PF (X.blkN N0 scope cl C own s H fp pins) ifs tc) (he:∀C s H fp pins,PE (X.blkN N0 scope cl C own s H fp pins) elt te)
  (hN:autoParam (X.N.Nodup) zzr) (Wa:autoParam (X.N[i]?=some x) ac) (hx:autoParam (nR X.env.scope x) zzt) (hs:autoParam (∀x,foldedSetIterable iter X.env x=pure x) zzh) (Wb:autoParam (swapsWith (.ListComp elt [#[tg,iter,ifs,0]] scope pos) (some<|.Name x pos') Ih.line X.env=pure true) ac)
  (hf:autoParam (X.fn x=true\/X.env.scope.names.lookup x=some .local) zzf) :
  PS X (.Assign [.Name x pos'] (.ListComp elt [#[tg,iter,ifs,0]] scope pos) Ih) (fg (KD wi own.length g tc te)<|vo i):=by
 intro pins s σ H D I h;rw[exec_Assign_Name_used _ _ _ _ Wb];refine Ef<|wpAny_standAt<|Ef ?_;refine Ef (wpAny_mono (kH S hi hg ht he hs I h λDa C s2 H2 H3 s4 I2 hC Hm hn inv q=>?_) (λ_ s' hq=>Eg<|Eg hq) λ_ _ e=>e);obtain⟨m,hn⟩:=hn;have I4:=inv s4.heap<|Heap.SameBut.refl _ _;have nC:=QK hC;refine wpAny_assign_Name (Md I4 hN Wa hx (show jI (.ref Da) _ from rfl) (λs5 I5 #[a,sb,ha]=>#[m,hn.sameBut sb ?_,λh' sb'=>#[_,H3,I5.let_go I2 hC Hm sb',q]]) hf);rintro rfl;rcases ha with z|z
 ·obtain⟨_,O4,_⟩:=I2.loc;obtain⟨_,_,_,hL,_⟩:=O4;rw[<-z,nC] at hL;cases hL
 ·obtain⟨_,_,hc,_⟩:=I2.cell x _ z;rw[nC] at hc;cases hc
end
section
variable {κ:Type} [DecidableEq κ]
def jD (Ei:List (κ×V)) (k:κ):Option V:=(Ei.find? λkv=>decide (kv.1=k)).map (·.2)
def jZ (Ei:List (κ×V)) (k:κ) (v:V):List (κ×V) :=
 if (Ei.any λkv=>decide (kv.1=k))=true then Ei.map (λkv=>if kv.1=k then (kv.1,v) else kv) else Ei++[(k,v)]
theorem Ju {p:κ×V}{r:List (κ×V)}{k:κ} (e:p.1=k):jD (p::r) k=some p.2:=by simp [jD,e]
theorem Jg {p:κ×V}{r:List (κ×V)}{k:κ} (e:¬p.1=k):jD (p::r) k=jD r k:=by simp [jD,e]
theorem Ud (k:κ):∀Ei:List (κ×V),(Ei.any λkv=>decide (kv.1=k))=(jD Ei k).isSome
 | []=>rfl
 | p::r=>by
  rw[abd];by_cases e:p.1=k
  ·simp only[Ju e,decide_eq_true e,Bool.true_or,Option.isSome_some]
  ·rw[Jg e,decide_eq_false e,abf];exact Ud k r
theorem aH (k j:κ) (y:V):∀Ei:List (κ×V),jD (Ei.map λkv=>if kv.1=k then (kv.1,y) else kv) j=(jD Ei j).map λx=>if j=k then y else x
 | []=>rfl
 | p::r=>by
  have ih:=aH k j y r;rw[yR];by_cases h:p.1=k
  ·rw[if_pos h];by_cases e:p.1=j
   ·rw[Ju (p:=(p.1,y)) e,Ju e,Y6,if_pos<|e.symm.trans h]
   ·rw[Jg (p:=(p.1,y)) e,Jg e,ih]
  ·rw[if_neg h];by_cases e:p.1=j
   ·rw[Ju (p:=p) e,Ju e,Y6,if_neg (λz=>h<|e.trans z)]
   ·rw[Jg (p:=p) e,Jg e,ih]
theorem Mh (k j:κ) (y:V):∀Ei:List (κ×V),jD Ei k=none->jD (Ei++[(k,y)]) j=if j=k then some y else jD Ei j
 | [],_=>by
  by_cases e:k=j
  ·rw[if_pos e.symm];exact Ju (p:=(k,y)) e
  ·rw[if_neg (λz=>e z.symm)];exact Jg (p:=(k,y)) e
 | p::r,hn=>by
  rw[aaq];have hk:¬p.1=k:=λz=>by rw[Ju z] at hn;cases hn
  rw[Jg hk] at hn;have ih:=Mh k j y r hn;by_cases e:p.1=j
  ·rw[Ju e,Ju e,if_neg (λz=>hk<|e.trans z)]
  ·rw[Jg e,Jg e,ih]
theorem uP (Ei:List (κ×V)) (k j:κ) (y:V):jD (jZ Ei k y) j=if j=k then some y else jD Ei j:=by
 unfold jZ;by_cases a:(Ei.any λkv=>decide (kv.1=k))=true
 ·rw[if_pos a,aH];rw[Ud] at a;by_cases e:j=k
  ·obtain⟨x,hx⟩:=Qk.mp a;rw[if_pos e,e,hx,Y6,if_pos rfl]
  ·rw[if_neg e];cases jD Ei j with
   | none=>rfl
   | some x=>rw[Y6,if_neg e]
 ·rw[if_neg a];refine Mh k j y Ei ?_;rw[Ud] at a;cases q:jD Ei k with
  | none=>rfl
  | some x=>rw[q] at a;exact (a rfl).elim
theorem J2 (Ei:List (κ×V)) (k:κ) (v:V):(jZ Ei k v).length<=Ei.length+1:=by
 unfold jZ;split
 ·rw[yb];lia
 ·rw[ye,Qa,abK];lia
theorem U8 {Ei:List (κ×V)}{k:κ} (v:V) (h:jD Ei k=none):jZ Ei k v=Ei++[(k,v)]:=by
 unfold jZ;rw[Ud,h];exact if_neg (by decide)
theorem vg.isSome_eq {o:Option V}{u:Option Value} (r:vg o u):o.isSome=u.isSome:=by
 cases o with
 | none=>cases u with
  | none=>rfl
  | some _=>exact (r).elim
 | some _=>cases u with
  | none=>exact (r).elim
  | some _=>rfl
theorem KV.val {Ei:List (κ×V)}{vs:List (κ×Value)} (r:KV Ei vs) (k:κ):vg (jD Ei k) (valueAt vs k):=by
 induction r with
 | nil=>exact Yo
 | @cons p q ps qs h t ih =>
  obtain⟨h1,h2⟩:=h;by_cases e:p.1=k
  ·have e':=h1.symm.trans e;have b:valueAt (q::qs) k=some q.2:=by simp [valueAt,e']
   rw[Ju e,b];exact h2
  ·have e':¬q.1=k:=λz=>e<|h1.trans z;have b:valueAt (q::qs) k=valueAt qs k:=by simp [valueAt,e']
   rw[Jg e,b];exact ih
theorem KV.any {Ei:List (κ×V)}{vs:List (κ×Value)} (r:KV Ei vs) (k:κ):(Ei.any λkv=>decide (kv.1=k))=vs.any λkv=>decide (kv.1=k):=by
 induction r with
 | nil=>rfl
 | cons h t ih=>rw[abd,abd,ih,h.1]
theorem KV.repl {Ei:List (κ×V)}{vs:List (κ×Value)} (r:KV Ei vs) (k:κ) (ry:jI y u) :
  KV (Ei.map λkv=>if kv.1=k then (kv.1,y) else kv) (vs.map λkv=>if kv.1=k then (kv.1,u) else kv):=by
 unfold KV at r ⊢
 induction r with
 | nil=>exact .nil
 | @cons p q ps qs h t ih =>
  rw[yR,yR];refine .cons ?_ ih;obtain⟨h1,h2⟩:=h;by_cases e:p.1=k
  ·rw[if_pos e,if_pos<|h1.symm.trans e];exact#[h1,ry]
  ·rw[if_neg e,if_neg (λz=>e<|h1.trans z)];exact#[h1,h2]
theorem KV.put {Ei:List (κ×V)}{vs:List (κ×Value)} (r:KV Ei vs) (k:κ) (ry:jI y u):KV (jZ Ei k y) (stored vs k u):=by
 unfold jZ stored;rw[r.any k];by_cases e:(vs.any λkv=>decide (kv.1=k))=true
 ·rw[if_pos e,if_pos e];exact r.repl k ry
 ·rw[if_neg e,if_neg e];exact Paired.snoc r #[rfl,ry]
theorem KV.length {Ei:List (κ×V)}{vs:List (κ×Value)} (r:KV Ei vs):Ei.length=vs.length:=Paired.length r
end
theorem Kb {k:Key} (r:jI (kV k) u):(Jp P w).is k u=true:=by
 cases k with
 | inl i=>obtain⟨t,e⟩:=(r);subst e;exact bu P w i t
 | inr x=>obtain⟨t,e⟩:=(r);subst e;exact bv P w x t
theorem mN:∀{ks:List Key} {us:DY},jG (ks.map kV) us->ItemsAre (Jp P w) ks us
 | [],_,r=>by cases r;exact .nil
 | k::ks,_,r=>by
  cases r with
  | cons h t=>exact .cons (Kb h) (mN t)
abbrev KT (H:Hp):List (List Key×V)->List (List Key×Addr×Value)->Prop:=Paired λp q=>p.1=q.1/\H q.2.1=some (.tup<|p.1.map kV)/\jI p.2 q.2.2
theorem KT.val (r:KT H Ei xs) (k:List Key):vg (jD Ei k) ((atKey xs k).map (·.2)):=by
 induction r with
 | nil=>exact Yo
 | @cons p q ps qs h t ih =>
  obtain⟨h1,_,h2⟩:=h;by_cases e:p.1=k
  ·have e':=h1.symm.trans e;have b:atKey (q::qs) k=some q.2:=by simp [atKey,e']
   rw[Ju e,b];exact h2
  ·have e':¬q.1=k:=λz=>e<|h1.trans z;have b:atKey (q::qs) k=atKey qs k:=by simp [atKey,e']
   rw[Jg e,b];exact ih
theorem KT.repl (r:KT H Ei xs) (k:List Key) (ry:jI y u) :
  KT H (Ei.map λkv=>if kv.1=k then (kv.1,y) else kv) (xs.map<|putAt k u):=by
 induction r with
 | nil=>exact .nil
 | @cons p q ps qs h t ih =>
  rw[yR,yR];refine .cons ?_ ih;obtain⟨h1,h2,h3⟩:=h;unfold putAt;by_cases e:p.1=k
  ·rw[if_pos e,if_pos<|h1.symm.trans e];exact#[h1,h2,ry]
  ·rw[if_neg e,if_neg (λz=>e<|h1.trans z)];exact#[h1,h2,h3]
theorem KT.put (r:KT H Ei xs) (k:List Key) (hb:H b=some (.tup<|k.map kV)) (ry:jI y u) :
  KT H (jZ Ei k y) (storedH xs k b u):=by
 have e:(Ei.any λkv=>decide (kv.1=k))=(atKey xs k).isSome:=by
  rw[Ud,(r.val k).isSome_eq,aaf]
 unfold jZ storedH;rw[e];by_cases q:(atKey xs k).isSome=true
 ·rw[if_pos q,if_pos q];exact r.repl k ry
 ·rw[if_neg q,if_neg q];exact Paired.snoc r #[rfl,hb,ry]
theorem KT.keeps (r:KT H Ei xs) (ht:∀b ys,H b=some (.tup ys)->H' b=some (.tup ys)):KT H' Ei xs :=
 Paired.mapP r λ_ _ z=>#[z.1,ht _ _ z.2.1,z.2.2]
section
variable {P:Ee}{w:World}{H:Hp}{h:Heap}{a:Addr}
theorem sD {u:HO} (ok:Jh P w H h) (e:Rd H a u):Jz P w H h a u:=e.ok ok
theorem kK {Ei:List (Key×V)} (ok:Jh P w H h) (e:Rd H a (.dK Ei)):Ei.length<=sizeLine/\(a==sysModules)=false/\∃vs,KV Ei vs/\h.DictOf (Jp P w) a vs :=
 sD ok e
theorem Bs {Ei:List (Key×V)} (ok:Jh P w H h) (e:H a=some (.dK Ei)):Ei.length<=sizeLine/\(a==sysModules)=false/\∃vs,KV Ei vs/\h.DictOf (Jp P w) a vs:=kK ok (.inl e)
theorem vM {ks:List Key} (ok:Jh P w H h) (e:H a=some (.tup<|ks.map kV)):(tupleKind<|Jp P w).is h ks a:=by
 obtain⟨_,Ek,r,o,h1,h2,n,h3⟩:=(ok a _ e);exact#[o,Ek.toArray,n,h1,h2,h3,by simpa using mN r]
theorem kN (ok:Jh P w H h) (e:Rd H a (.dT Ei)):Ei.length<=sizeLine/\(a==sysModules)=false /\
  ∃xs,KT H Ei xs/\h.DictOfH (tupleKind<|Jp P w) a xs:=by
 obtain⟨z,y,xs,r,o,es,ep,h1,h2,h3,h4,h5⟩:=(sD ok e);refine#[z,y,xs,r,o,es,ep,h1,h2,h3,h4,λx hx=>?_,h5];have all:∀{l:List _} {m:List _},KT H l m->∀x∈m,(tupleKind<|Jp P w).is h x.1 x.2.1:=by
  intro l m q
  induction q with
  | nil=>intro x hx;exact nomatch hx
  | @cons p q ps qs hq t ih =>
   intro x hx;rcases yz.mp hx with e|hx
   ·subst e;exact vM ok (by rw[<-hq.1];exact hq.2.1)
   ·exact ih x hx
 exact all r x hx
theorem gS (ok:Jh P w H h) (e:H a=some (.dT Ei)):Ei.length<=sizeLine/\(a==sysModules)=false /\
  ∃xs,KT H Ei xs/\h.DictOfH (tupleKind<|Jp P w) a xs:=kN ok (.inl e)
end
def ug (H:Hp) (a:Addr) (y:V) (r:Option V):Prop :=
 (∃Ei k,Rd H a (.dK Ei)/\y=kV k/\r=jD Ei k)\/∃Ei k b,Rd H a (.dT Ei)/\y=.ref b/\H b=some (.tup<|k.map kV)/\r=jD Ei k
def UL (H:Hp) (a:Addr) (y v:V) (H':Hp):Prop :=
 (∃Ei k,H a=some (.dK Ei)/\y=kV k/\Ei.length<sizeLine/\H'=upd H a (.dK<|jZ Ei k v)) \/
 ∃Ei k b,H a=some (.dT Ei)/\y=.ref b/\H b=some (.tup<|k.map kV)/\Ei.length<sizeLine/\H'=upd H a (.dT<|jZ Ei k v)
theorem ug.t (e:H a=some (.dT Ei)) (eb:H b=some (.tup<|k.map kV)):ug H a (.ref b) (jD Ei k):=.inr #[Ei,k,b,.inl e,rfl,eb,rfl]
theorem UL.t {v:V} (e:H a=some (.dT Ei)) (eb:H b=some (.tup<|k.map kV)) (hl:Ei.length<sizeLine) :
  UL H a (.ref b) v (upd H a<|.dT<|jZ Ei k v):=.inr #[Ei,k,b,e,rfl,eb,hl,rfl]
section
variable {X:Cx}{pins:DW}{σ:St}{H:Hp}{s:Shared}{a:Addr}{y v:V}{u r:Value}{o:Option V}{A:Around}{E:DO}
theorem jo.big (I:jo X pins σ H s):sysModules<s.heap.objs.size:=by
 have h:=(I.mod.glob.keeps I.bk).lt;exact Y2 (by decide) h
theorem mH (hu:A.units+1<cLine) (I:jo X pins σ H s) (g:ug H a y (some v)) (ry:jI y u) (h:∀w' s',jo X pins σ H s'->jI v w'->Q w' s') :
  wpAny (model X.prog X.w) A (getItem (.ref a) u) Q E s:=by
 rcases g with ⟨Ei,k,e,ey,l⟩|⟨Ei,k,b,e,ey,eb,l⟩
 ·subst ey;obtain⟨z,hd,vs,rel,dd⟩:=kK I.hok e;obtain⟨w',hw,F5⟩:=vg.some_of (by rw[l];exact rel.val k);exact wpAny_getItem_of (Kb ry) dd.mapOf hw (h w' _ (I.tok _) F5)
 ·subst ey;cases (ry);obtain⟨z,hd,xs,rel,dd⟩:=kN I.hok e;obtain⟨w',hw,F5⟩:=vg.some_of (by rw[l];exact rel.val k);obtain⟨p,hp,Fe⟩:=yI.mp hw;refine wpAny_getItem_heap (tupleKind_room_in1 hu) (vM I.hok eb) dd hp ?_;rw[Fe];exact h w' _ (I.tok _) F5
theorem xD (hu:A.units+1<cLine) (I:jo X pins σ H s) (g:ug H a y o) (ry:jI y u) (h:∀s',jo X pins σ H s'->Q (.bool o.isSome) s') :
  wpAny (model X.prog X.w) A (compareOp .In u<|.ref a) Q E s:=by
 rcases g with ⟨Ei,k,e,ey,l⟩|⟨Ei,k,b,e,ey,eb,l⟩
 ·subst ey;obtain⟨z,hd,vs,rel,dd⟩:=kK I.hok e;refine wpAny_in_of (Kb ry) hd dd.mapOf ?_;rw[<-(rel.val k).isSome_eq,<-l];exact h _ (I.tok _)
 ·subst ey;cases (ry);obtain⟨z,hd,xs,rel,dd⟩:=kN I.hok e;refine wpAny_in_heap (tupleKind_room_in1 hu) (vM I.hok eb) hd dd ?_;have q:=(rel.val k).isSome_eq;rw[aaf] at q;rw[<-q,<-l];exact h _ (I.tok _)
theorem tI (hu:A.units+1<cLine) (I:jo X pins σ H s) (g:ug H a y o) (ry:jI y u) (h:∀s',jo X pins σ H s'->Q (.bool<|!o.isSome) s') :
  wpAny (model X.prog X.w) A (compareOp .NotIn u<|.ref a) Q E s:=by
 rcases g with ⟨Ei,k,e,ey,l⟩|⟨Ei,k,b,e,ey,eb,l⟩
 ·subst ey;obtain⟨z,hd,vs,rel,dd⟩:=kK I.hok e;refine wpAny_notIn_of (Kb ry) hd dd.mapOf ?_;rw[<-(rel.val k).isSome_eq,<-l];exact h _ (I.tok _)
 ·subst ey;cases (show u=Value.ref b from ry);obtain⟨z,hd,xs,rel,dd⟩:=kN I.hok e;refine wpAny_notIn_heap (tupleKind_room_in1 hu) (vM I.hok eb) hd dd ?_;have q:=(rel.val k).isSome_eq;rw[aaf] at q;rw[<-q,<-l];exact h _ (I.tok _)
theorem KP {t':Nat}{ob:HO} (I:jo X pins σ H s) (mu:fO (H a)) (hs:Heap.SameBut a s.heap h') (he:∃q,h'.get? a=some q) (new:Jz X.prog X.w (upd H a ob) h' a ob) :
  jo X pins σ (upd H a ob) { s with heap:=h',toks:=t' } :=
 I.write mu (.inl rfl) (λb q hb z=>(hs.2 b hb).trans z) he new
theorem xE {Ei:List (Key×V)}{vs:List (Key×Value)} (z:Ei.length<=sizeLine) (hd:(a==sysModules)=false) (rel:KV Ei vs) (dd:h'.DictOf (Jp P w) a vs) :
  Jz P w H' h' a (.dK Ei):=#[z,hd,vs,rel,dd]
theorem ie {Q:DP} (hu:A.units+1<cLine) (I:jo X pins σ H s) (g:UL H a y v H') (ry:jI y u) (rv:jI v r) (h:∀s',jo X pins σ H' s'->Q () s') :
  wpAny (model X.prog X.w) A (setItem (.ref a) u r) Q E s:=by
 rcases g with ⟨Ei,k,e,ey,l,eH⟩|⟨Ei,k,b,e,ey,eb,l,eH⟩
 ·subst ey eH;obtain⟨z,hd,vs,rel,dd⟩:=Bs I.hok e;have hz:vs.length<=sizeLine:=by rw[<-rel.length];exact z
  have hl:(jZ Ei k v).length<=sizeLine:=by have:=J2 Ei k v;lia
  refine wpAny_setItem_pairs (hsz:=hz) (Kb ry) dd λh' O7 hs=>h _ ?_;have he:∃q,h'.get? a=some q:=let ⟨q,_,_,hq,_⟩:=O7;#[q,hq]
  exact KP I (by rw[e];exact Yo) hs he (xE hl hd (rel.put k rv) O7)
 ·subst ey eH;cases (ry);obtain⟨z,hd,xs,rel,dd⟩:=gS I.hok e;have hz:xs.length<=sizeLine:=by rw[<-Paired.length rel];exact z
  have hl:(jZ Ei k v).length<=sizeLine:=by have:=J2 Ei k v;lia
  refine wpAny_setItem_heap (tupleKind_room_in1 hu) (vM I.hok eb) dd λh' O7 hs=>h _ ?_;obtain⟨q,es,ep,hq,h2,h3,h4,_,h5⟩:=O7;refine KP I (by rw[e];exact Yo) hs #[q,hq] #[hl,hd,_,(rel.put k eb rv).keeps λc ys ec=>?_,q,es,ep,hq,h2,h3,h4,h5];rw[jj<|jA ec e];exact ec
end
def dA (i:Expr):Prop:=∀ov iv,subscripted i false ov iv=operate [ov,iv] (getItem ov iv)
theorem c8 {prog:Ee}{A:Around}{E:DO}{env:Env}{value slice:Expr}{T id:String}
  (hl:typeLookup (.type T) "__getitem__"=pure (some<|.builtin id)) (hs:dA slice)
  (h:wpAny (model prog w) A (eval value env) (λo s₁=>wpAny (model prog w) A (eval slice env) (λi s₂=>s₂.TypeIs o T/\wpAny (model prog w) A (getItem o i) Q E s₂) E s₁) E s) :
  wpAny (model prog w) A (eval (.Subscript value slice pos) env) Q E s:=by
 refine Subscript_ (wpAny_mono h (λo s₁ h₁=>wpAny_mono h₁ (λi s₂ h₂=>?_) λ_ _ x=>x) λ_ _ x=>x);obtain⟨hT,h₂⟩:=h₂;refine Ef ?_;refine Ef<|wpAny_specialOf hT hl ?_;have fin:wpAny (model prog w) A (subscripted slice false o i) (λr s₃=>wpAny (model prog w) A (letTemporaryGo value o r>>=λ_=>pure r) Q E s₃) E s₂:=by
  rw[hs o i];exact wpAny_operating (wpAny_mono h₂ (λr s₃ h₃=>Ef<|wpAny_letTemporaryGo<|Eg h₃) λ_ _ x=>x)
 first
  | exact Eg (Ef fin)
  | exact Ef fin
theorem Gz {X:Cx}{o:Option V} (I:jo X pins σ H s) (g:ug H a y o):s.TypeIs (.ref a) "dict":=by
 rcases g with ⟨Ei,k,e,_,_⟩|⟨Ei,k,b,e,_,_,_⟩
 ·obtain⟨_,_,vs,_,dd⟩:=kK I.hok e;exact dd.typeIs
 ·obtain⟨_,_,xs,_,dd⟩:=kN I.hok e;exact dd.typeIs
def BS (td ty:TE):TE:=λσ H Q=>td σ H λx H1=>ty σ H1 λy H2=>∃a v,x=.ref a/\ug H2 a y (some v)/\Q v H2
def Dc (ty td:TE):TE:=λσ H Q=>ty σ H λy H1=>td σ H1 λx H2=>∃a o,x=.ref a/\ug H2 a y o/\Q (.bl o.isSome) H2
def wV (ty td:TE):TE:=λσ H Q=>ty σ H λy H1=>td σ H1 λx H2=>∃a o,x=.ref a/\ug H2 a y o/\Q (.bl<|!o.isSome) H2
def BK (td ty tv:TE):TS:=λD σ H=>tv σ H λv H1=>td σ H1 λx H2=>ty σ H2 λy H3=>∃a H4,x=.ref a/\UL H3 a y v H4/\D.nx σ H4
section
variable {X:Cx}{o i e value:Expr}{pos pos' HA:Pos}{td ty tv:TE}
theorem Ga (ho:PE X o td) (hi:PE X i ty) (hu:autoParam (X.A.units+1<cLine) zzj) (hs:dA i:=by exact λ_ _=>rfl):PE X (.Subscript o i pos) (BS td ty):=by
 intro pins s σ H Q I h;refine c8 PySem.F.slot_dict_getitem.lookup hs (jE (ho pins s σ H _ I h) λu s1 #[x,H1,I1,rx,q1]=>jE (hi pins s1 σ H1 _ I1 q1) λiv s2 hh=>?_);obtain⟨y,H2,I2,ry,a,v,ex,g,q2⟩:=hh;subst ex;obtain rfl:u=Value.ref a:=rx;exact#[Gz I2 g,mH hu I2 g ry λw' s3 I3 F5=>#[v,H2,I3,F5,q2]]
theorem gD (hi:PE X i ty) (ho:PE X o td) (hu:autoParam (X.A.units+1<cLine) zzj):PC X .In i o (Dc ty td):=by
 intro pins s σ H Q I h;refine jE (hi pins s σ H _ I h) λiv s1 #[y,H1,I1,ry,q1]=>jE (ho pins s1 σ H1 _ I1 q1) λu s2 hh=>?_;obtain⟨x,H2,I2,rx,a,ov,ex,g,q2⟩:=hh;subst ex;obtain rfl:u=Value.ref a:=rx;exact xD hu I2 g ry λs3 I3=>#[.bl ov.isSome,H2,I3,rfl,q2]
theorem vx (hi:PE X i ty) (ho:PE X o td) (hu:autoParam (X.A.units+1<cLine) zzj):PC X .NotIn i o (wV ty td):=by
 intro pins s σ H Q I h;refine jE (hi pins s σ H _ I h) λiv s1 #[y,H1,I1,ry,q1]=>jE (ho pins s1 σ H1 _ I1 q1) λu s2 hh=>?_;obtain⟨x,H2,I2,rx,a,ov,ex,g,q2⟩:=hh;subst ex;obtain rfl:u=Value.ref a:=rx;exact tI hu I2 g ry λs3 I3=>#[.bl<|!ov.isSome,H2,I3,rfl,q2]
theorem uJ (ho:PE X o td) (hi:PE X i ty) (hv:PE X value tv) (hu:autoParam (X.A.units+1<cLine) zzj) (hs:autoParam (swapsWith value (some<|.Subscript o i pos') pos.line X.env=pure false) ac) :
  PS X (.Assign [.Subscript o i pos'] value pos) (BK td ty tv):=by
 intro pins s σ H D I h;refine wpAny_Assign_Subscript (jE (hv pins s σ H _ I h) λr s1 #[v,H1,I1,rv,q1]=>jE (ho pins s1 σ H1 _ I1 q1) λu s2 #[x,H2,I2,rx,q2]=>jE (hi pins s2 σ H2 _ I2 q2) λiv s3 hh=>?_) hs;obtain⟨y,H3,I3,ry,a,H4,ex,g,q3⟩:=hh;subst ex;obtain rfl:u=Value.ref a:=rx;exact ie hu I3 g ry rv λs4 I4=>#[σ,H4,I4,q3]
end
theorem n6 (h:Heap) (hb:sysModules<h.objs.size):Jz P w H (h.push { cls:=.type "dict",data:=.dict (Ya []) }) h.objs.size (.dT []) :=
 #[yL _,beq_eq_false_iff_ne.mpr<|yG<|yJ hb,_,.nil,_,_,0,yB _ rfl,#[rfl,rfl,rfl],rfl,rfl,YX]
def A0:TE:=λ_ H Q=>∀p,H p=none->Q (.ref p) (upd H p<|.dT [])
section
variable {X:Cx}{pos:Pos}
theorem Uc:PE X (.Dict [] [] pos) A0:=λpins s σ H Q I h =>
 wpAny_Dict_empty #[.ref s.heap.objs.size,_,I.laid (λ_ _ q=>yg _ q) (yh _)<|n6 s.heap I.big,rfl,h _<|I.hok.fresh<|yh _]
end
def nP (K:DS) (a:Addr):It :=
 #[λi H=>∃xs x,jt K H a xs/\xs[i]?=some x,
  λi H v H'=>∃t x,H t=none/\v=.ref t/\H'=upd H t (.tup [.int i,x])/\∀xs,jt K H a xs->xs[i]?=some x,
  λi H=>∃xs,jt K H a xs/\xs.length<=i]
theorem fi {K:DS}{elts:Ea}{kk:Nat}{HA:Pos} (e it l:Addr) (u₁:e≠it) (hle:l≠e) (hli:l≠it) :
  Z1 P w K (.Tuple elts kk HA) (nP K l) [e,it] e (λi h=>(∃old,IsEnum h e it i old)/\h.IsListIter it l i) true where
 mem:=by simp
 obj:=λi h st b hb=>by
  obtain⟨⟨old,q1⟩,⟨o4,q4,_,d4⟩⟩:=st;simp only[yz,Qq,or_false] at hb;rcases hb with rfl|rfl
  ·exact#[_,q1,λv e=>by cases e]
  ·exact#[_,q4,λv e=>by rw[d4] at e;cases e]
 keep:=λi h h' st k=>by
  obtain⟨⟨old,q1⟩,q4⟩:=st;exact#[#[old,k e (by simp) _ q1],q4.at λo x=>k it (by simp) o x]
 item:=by
  intro X hP hw hK hc i pins s σ H E I hf st hg;subst hP hw hK;obtain⟨xs,x,hx,ex⟩:=hg;obtain⟨Ek,r1,p1,_⟩:=I.list hx;obtain⟨v1,hv1,rv1⟩:=r1.get ex;obtain⟨⟨old,q1⟩,q4⟩:=st;refine wpAny_pyNext_enum_item q1 q4 p1.isList (x:=v1) (by simpa using hv1) u₁ λh1 z1 z2 z3 z4 z5=>?_;refine#[_,rfl,wpAny_letOwnedTupleGo_enum (s:={ s with heap:=h1,toks:=s.toks+1 }) z1 λh2 z1' sb=>?_];have keep:∀c o,c ∉ [e,it]->s.heap.get? c=some o->h2.get? c=some o:=λc o hc y=>by
   simp only[yz,Qq,or_false,not_or] at hc;exact (sb.2 c hc.1).trans (z5 c o hc.1 hc.2 y)
  have El:∀{c o},s.heap.get? c=some o->c≠s.heap.objs.size:=λe=>yJ<|yq e;obtain⟨o4,e4,_,_⟩:=id q4;have I1:jo X pins σ H { s with heap:=h2,toks:=s.toks+1 }:=I.turnedL (t':=s.toks+1) hf keep;have hp:H s.heap.objs.size=none:=I.fresh;have tp:h2.get? s.heap.objs.size=some { cls:=.type "tuple",data:=.seq (Ya [.int i s.toks,v1]) }:=(sb.2 _<|yG<|El q1).trans z3;have I2:jo X pins σ (upd H s.heap.objs.size<|.tup [.int i,x]) { s with heap:=h2,toks:=s.toks+1 }:=I1.track hp (QK I.sz) (QC I.lt)
   (λn c e zz=>by obtain⟨v0,o0,h0,_⟩:=I.cell n c e;exact El h0 zz) (λq hq zz=>El (I.pin q hq).1 zz) #[by show 2<=sizeLine;decide,[.int i s.toks,v1],.cons #[_,rfl]<|.cons rv1 .nil,_,tp,rfl,_,rfl]
  refine#[.ref s.heap.objs.size,_,I2,rfl,#[_,x,hp,rfl,rfl,λxs' Wc=>?_],#[#[_,by simpa using z1'],z2.extBut sb.extBut<|yG u₁],λc hc=>?_]
  ·rw[I.list_inj Wc hx];exact ex
  ·have IY:=(hf c hc).1;rw[jj ?_]
   ·exact IY
   ·simp only[yz,Qq,or_false] at hc;rcases hc with rfl|rfl
    ·exact El q1
    ·exact El e4
 done:=by
  intro X hP hw hK hc i pins s σ H E I hf st hg;subst hP hw hK;obtain⟨xs,hx,hend⟩:=hg;obtain⟨Ek,rv,p,_⟩:=I.list hx;obtain⟨⟨old,q1⟩,q4⟩:=st;have hl:=rv.length;refine wpAny_pyNext_enum_end (I.ok.hd<|hc rfl) q1 q4 p.isList (by simp;lia) λh1 k=>#[rfl,?_];refine I.turnedL (t':=s.toks) (ch:=[it]) (λc hc=>hf c ?_) λc o hc y=>?_
  ·simp only[yz,Qq,or_false] at hc ⊢;exact .inr hc
  ·simp only[yz,Qq,or_false,not_or] at hc;exact k c o hc y
 self:=λ_ _ _ _ _ st h=>let ⟨_,q⟩:=st.1;wpAny_pyIter_enum q h
section
variable {X:Cx}{elts:Ea}{kk:Nat}{HA:Pos}
def xS (K:DS) (ta:TA):TI:=λσ H R=>ta σ H λvs H1=>∃a,vs=[.ref a]/\(∃xs,jt K H1 a xs)/\R (nP K a) H1
theorem N7 {a:Expr}{ta:TA}{p:Pos} (Rf:X.calm=true) (hg:Gl X "enumerate") (hm:X.mg "enumerate"=none) (ha:PA X [a] ta) (hs:autoParam (starEach [a] X.env=(false,eval a X.env)::starEach [] X.env) ac) (EE:autoParam ((backTo pos<|starEach [] X.env).any (·.1)=false) ac) :
  PI X (.Tuple elts kk HA) (.Call (.Name "enumerate" p) [a] [] pos) (xS X.K ta):=by
 intro pins s σ H R I h;refine Call_ (zT I hg hm boot_enumerate (Yp (jE (ha pos pins s σ H _ I h) λus s1 #[vs,H1,I1,r1,q1]=>?_) hs EE));obtain⟨l1,e,⟨xs,hx⟩,q⟩:=q1;subst e;cases r1 with
 | cons ra rr =>
  cases rr;cases ra;obtain⟨Ek,_,p1,_⟩:=I1.list hx;have a1:l1<s1.heap.objs.size:=by obtain⟨_,e,_⟩:=p1.isList;exact yq e
  refine call_enumerate_list p1.isList λh' z1 z2 z3 k=>wpAny_pyIter_enum z1 ?_;have I2:=I1.kept (t':=s1.toks) k;refine#[_,_,_,_,H1,rfl,I2,#[true,fi _ _ l1 (Nat.succ_ne_self _) (yJ<|aaP a1)<|yJ a1,λ_=>Rf],#[#[_,z1],z2],λc hc=>?_,q];have le:s1.heap.objs.size<=c:=by
   grind
  exact I1.fpOk le (I1.hok.fresh le)
theorem mJ {K:DS}{xs:List V}{g:TG}{tb:TS}{D:zD} (Pv:Nat->St->Hp->Prop) (h0:Pv 0 σ H) (hl:∀i σ H,i<=xs.length->Pv i σ H->jt K H a xs)
  (hs:∀(i:Nat) x p σ H,xs[i]?=some x->H p=none->Pv i σ H->g (.ref p) σ (upd H p<|.tup [.int i,x]) λσ2 H2=>tb { D with nx:=Pv<|i+1,ct:=Pv<|i+1,bk:=D.nx } σ2 H2) (hd:∀σ H,Pv xs.length σ H->D.nx σ H) :
  ∃W:Nat->Nat->St->Hp->Prop,(∃m,W 0 m σ H)/\∀i m σ H,W i m σ H ->
   ((nP K a).stop i H/\D.nx σ H)\/((nP K a).go i H/\∃N:St->Hp->Prop,(∀σ' H',N σ' H'->∃m',m'<m/\W (i+1) m' σ' H')/\∀x H',(nP K a).yld i H x H'->g x σ H' λσ2 H2=>tb { D with nx:=N,ct:=N,bk:=D.nx } σ2 H2):=by
 refine#[λi m σ H=>m=xs.length - i/\i<=xs.length/\Pv i σ H,#[xs.length,by simp,yL _,h0],?_];rintro i m σ H ⟨rfl,hi,p⟩;have qa:=hl i σ H hi p;by_cases El:i<xs.length
 ·refine .inr #[#[xs,xs[i],qa,by simp [El]],_,λσ' H' p'=>#[_,by omega,rfl,El,p'],λv H' yy=>?_];obtain⟨t,x,ht,rfl,rfl,e⟩:=yy;exact hs i x t σ H (e xs qa) ht p
 ·obtain rfl:i=xs.length:=by lia
  exact .inl #[#[xs,qa,yh _],hd σ H p]
end
structure ZS (K:DS) (x qual:Str) (st:Stmt) (f:Addr) (fd:FuncData):Prop where
 ex:∃(oc:Value) (od:Ed) (dV kV doc pm:Value) (an:Ed) (Em ct:Value) (Hr:D7),
  fd=fnOf x qual (JU st) (Jo st) (jR st) dV kV doc pm an Em ct/\K.lookup f=some #[oc,od,.func fd,Hr]/\codeIn K Em qual=true
 kp:keepIn K (.ref f)=true
section
variable {P:Ee}{w:World}{K:DS}{mg:DV}{base:Heap}
theorem ZS.okX {N:D8}{k:Nat}{sp:Sp}{c:Bool} (F:ZS K x qual st f fd) (S:uG N ps (jR st)) (len:∀vs H Q E,sp vs H Q E->vs.length=ps.length)
  (EH:∀(Em:Value) (A:Around) (outer:List Env) (s:Shared) (H:Hp) (vs:List V) (Q:VK) (E:XK),Jf c k (A.deeper<|envOfC qual (jR st) s.heap.objs.size f Em)->sp vs H Q E ->
   ∃t,zO (mG P w K mg base N qual (jR st) f Em A outer s H E c) (Jo st) t/\t { nx:=λ_ H'=>Q .non H',rt:=Q } (start N vs) H):Ui P w K mg base (XC P w) (k+1) f fd ps sp c:=by
 obtain⟨oc,od,dV,kV,doc,pm,an,Em,ct,Hr,rfl,lk,FE⟩:=F.ex;exact rR lk FE S len λA outer s H vs Q E hr HC=>EH Em A outer s H vs Q E hr HC
theorem xv {D:Addr}{od:Obj}{items:D9}{n:Nat} (hf:fd.defaults=.ref D) (dl:K.lookup D=some od) (hd:od.data=.seq items n)
  (h:∀us:List Value,us.length=ps.length->∃k:Option (Array Value)->Sem (List<|Str×Value),bindArgs fd ⟨us,[]⟩=seqItems? fd.defaults>>=k/\k (some items)=pure (ps.zip us)):JZ K fd ps []:=by
 intro s us KX hl;rw[yK] at hl ⊢;obtain⟨k,h1,h2⟩:=h us hl;exact BindsTo.of_defaults hf (KX D od dl) hd h1 h2
theorem gU {oc:Value}{od an:Ed}{Hr:D7}{dV kV doc pm Em ct:Value} (l:K.lookup f=some #[oc,od,.func<|fnOf x qual (JU st) (Jo st) (jR st) dV kV doc pm an Em ct,Hr])
  (c:codeIn K Em qual=true) (k:keepIn K (.ref f)=true):ZS K x qual st f (fnOf x qual (JU st) (Jo st) (jR st) dV kV doc pm an Em ct):=#[#[oc,od,dV,kV,doc,pm,an,Em,ct,Hr,rfl,l,c],k]
end
end L2
set_option maxHeartbeats 4000000
namespace TS
open PySem PyProof.Rows L2
variable {a b xs ys:DX}{c:L2.Key}{x y:Nat×Nat×Nat}{u:Tok}{Q:DQ}{d:List Bool}{cs:List L2.Key}{ps:Array (Nat×Nat×Nat)}{o:KeyKind}{kc:Value->List L2.Key}{lf:Bool}{ky:Keyed}{h0 i j mg ca cb g lo pw:Nat}{B:Nat->Bool}{l1 l2:List (Nat×Nat×Nat)}{h h':Heap}
def gf:L2.Key->L2.Key->Bool
 | .inl a,.inl b=>decide (a<b)
 | .inr a,.inr b=>decide (a.cps.toList<b.cps.toList)
 | .inl _,.inr _=>true
 | .inr _,.inl _=>false
def lx:List L2.Key->List L2.Key->Bool
 | [],[]=>false
 | [],_::_=>true
 | _::_,[]=>false
 | a::r,b::q=>if a=b then lx r q else gf a b
theorem KZ (a:L2.Key):gf a a=false:=by
 cases a with
 | inl n=>exact decide_eq_false (Int.lt_irrefl n)
 | inr x=>exact decide_eq_false (List.lt_irrefl _)
theorem gh {a b:L2.Key} (h1:gf a b=true) (h2:gf b c=true):gf a c=true:=by
 cases a with
 | inl n=>cases b with
  | inl m=>cases c with
   | inl k=>exact decide_eq_true (Int.lt_trans (of_decide_eq_true h1)<|of_decide_eq_true h2)
   | inr k=>rfl
  | inr m=>cases c with
   | inl k=>cases h2
   | inr k=>rfl
 | inr n=>cases b with
  | inl m=>cases h1
  | inr m=>cases c with
   | inl k=>cases h2
   | inr k=>exact decide_eq_true (List.lt_trans (of_decide_eq_true h1)<|of_decide_eq_true h2)
theorem fe {x y:Str} (h:x.cps.toList=y.cps.toList):x=y:=Str.ext' (Array.toList_inj.mp h)
theorem K0 {a b:L2.Key} (h1:gf a b=false) (h2:gf b a=false):a=b:=by
 cases a with
 | inl n=>cases b with
  | inl m =>
   have:=of_decide_eq_false h1;have:=of_decide_eq_false h2;congr 1;lia
  | inr m=>cases h1
 | inr n=>cases b with
  | inl m=>cases h2
  | inr m=>exact congrArg aam (fe<|List.le_antisymm (List.not_lt.mp<|of_decide_eq_false h2)<|List.not_lt.mp<|of_decide_eq_false h1)
theorem xT {a b:L2.Key} (h:gf a b=true):a≠b:=λe=>by rw[e,KZ] at h;cases h
theorem gr:∀a:List L2.Key,lx a a=false
 | []=>rfl
 | a::r=>by unfold lx;rw[if_pos rfl];exact gr r
theorem Ki:∀{a b:List L2.Key},lx a b=false->lx b a=false->a=b
 | [],[],_,_=>rfl
 | [],_::_,h,_=>by cases h
 | _::_,[],_,h=>by cases h
 | a::r,b::q,h1,h2=>by
  unfold lx at h1 h2;by_cases e:a=b
  ·rw[if_pos e] at h1;rw[if_pos e.symm] at h2;rw[e,Ki h1 h2]
  ·rw[if_neg e] at h1;rw[if_neg (λz=>e z.symm)] at h2;exact absurd (K0 h1 h2) e
theorem V5:∀{a b c:List L2.Key},lx a b=true->lx b c=true->lx a c=true
 | [],[],_,h,_=>by cases h
 | [],_::_,[],_,h=>by cases h
 | [],_::_,_::_,_,_=>rfl
 | _::_,[],_,h,_=>by cases h
 | _::_,_::_,[],_,h=>by cases h
 | a::r,b::q,c::p,h1,h2=>by
  unfold lx at h1 h2 ⊢;by_cases e1:a=b
  ·subst e1;rw[if_pos rfl] at h1;by_cases e2:a=c
   ·rw[if_pos e2] at h2 ⊢;exact V5 h1 h2
   ·grind
  ·rw[if_neg e1] at h1;by_cases e2:b=c
   ·simp_all
   ·rw[if_neg e2] at h2;have h3:=gh h1 h2;rw[if_neg<|xT h3];exact h3
theorem lm {a b c:List L2.Key} (h:lx a c=true):lx a b=true\/lx b c=true:=by
 cases h1:lx a b
 ·right
  cases h2:lx b a
  ·rw[<-Ki h1 h2];exact h
  ·exact V5 h2 h
 ·exact .inl rfl
def kind (kc:Value->List L2.Key):KeyKind where
 α:=List L2.Key
 blt:=lx
 irrefl:=gr
 trans:=λ_ _ _=>V5
 negTrans:=λ_ _ _=>lm
 total:=λ_ _=>Ki
 keyOf:=λv=>some (kc v)
 dflt:=[]
def Uj:L2.Key->Value->Prop
 | .inl n,v=>∃t,v=.int n t
 | .inr x,v=>∃t,v=.str x t
inductive vE:List L2.Key->List Value->Prop
 | nil:vE [] []
 | cons {k v ks vs}:Uj k v->vE ks vs->vE (k::ks) (v::vs)
def sd (ks:List L2.Key):List Bool:=ks.map Sum.isLeft
theorem CS (f:Bool) (x y:Value):keyLt' (tuples' f) x y=(do
  let p <-Builtin.List.listItems x
  let q <-Builtin.List.listItems y
  for ((u,v),i) in (p.toList.zip q.toList).zipIdx do
   if !(<-eqBool u v) then return <-oneLt' (f&&i==0) u v
  return p.size<q.size):=rfl
section
variable {prog:Ee}{w:World}{A:Around}{E:DO}{s:Shared}
theorem t8 (f:Bool) {a b:Int} {t:Tok} (h:Q (decide (a<b)) s):wpAny (model prog w) A (oneLt' f (.int a t)<|.int b u) Q E s:=by
 cases f with
 | true=>exact oneLt_int h
 | false =>
  exact Ef (richCompare_gives (typeIs_int s a t) (typeIs_int s b u) F.slot_int_lt F.entry_int_lt (F.args_int_lt_2 _ _) (gives_int_lt a b t u) (λz=>nomatch z)<|wpAny_truthy_bool h)
theorem t9 (f:Bool) {a b:Str} {t:Tok} (h:Q (decide (a.cps.toList<b.cps.toList)) s):wpAny (model prog w) A (oneLt' f (.str a t)<|.str b u) Q E s:=by
 cases f with
 | true=>exact oneLt_str h
 | false =>
  exact Ef (richCompare_gives (typeIs_str s a t) (typeIs_str s b u) F.slot_str_lt F.entry_str_lt (F.args_str_lt_2 _ _) (gives_str_lt a b t u) (λz=>nomatch z)<|wpAny_truthy_bool h)
theorem xF {d:L2.Key}{u v:Value} (hs:c.isLeft=d.isLeft) (hc:Uj c u) (hd:Uj d v) (h:Q (decide (c=d)) s):wpAny (model prog w) A (eqBool u v) Q E s:=by
 cases c with
 | inl n=>cases d with
  | inl m =>
   obtain⟨t,rfl⟩:=hc;obtain⟨t',rfl⟩:=hd;refine wpAny_eqBool_int ?_;rw[show (n==m)=decide ((Y5 n:L2.Key)=Y5 m) by rw[y4,beq_iff_eq,decide_eq_true_iff];exact#[λe=>e▸rfl,λe=>aad e]];exact h
  | inr m=>cases hs
 | inr n=>cases d with
  | inl m=>cases hs
  | inr m =>
   obtain⟨t,rfl⟩:=hc;obtain⟨t',rfl⟩:=hd;refine wpAny_eqBool_str ?_;rw[show decide _=decide ((aam n:L2.Key)=aam m) by rw[y4,decide_eq_true_iff,decide_eq_true_iff];exact#[λe=>e▸rfl,λe=>aaJ e]];exact h
theorem cJ (f:Bool) {d:L2.Key} {u v:Value} (hs:c.isLeft=d.isLeft) (hc:Uj c u) (hd:Uj d v) (h:Q (gf c d) s):wpAny (model prog w) A (oneLt' f u v) Q E s:=by
 cases c with
 | inl n=>cases d with
  | inl m =>
   obtain⟨t,rfl⟩:=hc;obtain⟨t',rfl⟩:=hd;exact t8 f h
  | inr m=>cases hs
 | inr n=>cases d with
  | inl m=>cases hs
  | inr m =>
   obtain⟨t,rfl⟩:=hc;obtain⟨t',rfl⟩:=hd;exact t9 f h
theorem ND (f:Bool):∀{cs ds:List L2.Key} {ps qs:DY} (k:Nat),sd cs=sd ds->vE cs ps->vE ds qs->∀{R:Option Bool×Unit->Shared->Prop},(cs≠ds->R (some<|lx cs ds,()) s)->(cs=ds->R (none,()) s) ->
  wpAny (model prog w) A (forIn ((ps.zip qs).zipIdx k) ((none,()):Option Bool×Unit) λx _ =>
   match x with
   | ((u,v),i)=>do
    let r <-eqBool u v
    if (!r)=true then do
      let r <-oneLt' (f&&i==0) u v
      pure (abx (some r,()))
     else pure (Yq (none,()))) R E s
 | [],[],_,_,k,_,.nil,.nil,R,_,h=>by
  show wpAny _ _ _ _ _ _;exact Eg (h rfl)
 | [],_::_,_,_,_,hs,_,_,_,_,_=>by cases hs
 | _::_,[],_,_,_,hs,_,_,_,_,_=>by cases hs
 | c::cs,d::ds,_,_,k,hs,.cons hc HQ,.cons hd O5,R,h1,h2=>by
  obtain⟨e1,e2⟩:=aab hs;rw[Yy,aao,Y9];refine Ef<|Ef<|xF e1 hc hd ?_;by_cases e:c=d
  ·rw[decide_eq_true e];refine Eg (ND f _ e2 HQ O5 (λn=>?_) λz=>h2 (by rw[e,z]));have:=h1 (λz=>n (aab z).2);unfold lx at this;rw[if_pos e] at this;exact this
  ·rw[decide_eq_false e];refine Ef<|cJ _ e1 hc hd<|Eg<|Eg ?_;have:=h1 (λz=>e (aab z).1);unfold lx at this;rw[if_neg e] at this;exact this
theorem vE.len {ps:DY} (h:vE cs ps):ps.length=cs.length:=by
 induction h with
 | nil=>rfl
 | cons _ _ ih=>rw[Qa,Qa,ih]
theorem xX (f:Bool) {a b:Addr} {o o':Obj} {ps qs:DY} {n m:Nat} {ds:List L2.Key} (ha:s.heap.get? a=some o) (hd:o.data=.seq ps.toArray n) (hb:s.heap.get? b=some o') (P7:o'.data=.seq qs.toArray m)
  (hs:sd cs=sd ds) (hc:vE cs ps) (hq:vE ds qs) {Q:DQ} (h:Q (lx cs ds) s):wpAny (model prog w) A (keyLt' (tuples' f) (.ref a)<|.ref b) Q E s:=by
 refine Ef<|listItems_at ha hd ?_;refine Ef<|listItems_at hb P7 ?_;refine Ef (ND f 0 hs hc hq (λ_=>Eg h) λe=>Eg ?_);have l1:=hc.len;have l2:=hq.len;rw[e] at l1 h;rw[gr] at h;rw[show decide _=false by rw[yt,yt];exact decide_eq_false (by lia)];exact h
variable {f:SortKind}{z:DX}{o:KeyKind}
def kv (o:KeyKind) (p:Keyed):o.α:=(o.keyOf p.1).getD o.dflt
def UY (prog:Ee) (w:World) (A:Around) (s:Shared) (f:SortKind) (o:KeyKind) (z:DX):Prop:=∀(E:DO) (p q:Keyed) (Q:DQ),p∈z.toList->q∈z.toList->Q (o.blt (kv o p)<|kv o q) s->wpAny (model prog w) A (keyLt' f p.1 q.1) Q E s
end
section
variable {prog:Ee}{w:World}{A:Around}{E:DO}{s:Shared}
theorem zV {α β:Type}{g:α->Sem β}{r:α->β}{M:Model}:∀{l:List α} {R:List β->Shared->Prop},(∀x∈l,∀R:β->Shared->Prop,R (r x) s->wpAny M A (g x) R E s)->R (l.map r) s->wpAny M A (l.mapM g) R E s
 | [],R,_,h=>by exact Eg h
 | a::l,R,f,h=>by
  rw[List.mapM_cons];exact Ef (f a (yE ..) _ (Ef (zV (λx hx=>f x<|yH _ hx)<|Eg h)))
def TupAt (h:Heap) (v:Value) (ks:List L2.Key):Prop:=∃a ob vs n,v=.ref a/\h.get? a=some ob/\ob.cls=.type "tuple"/\ob.data=.seq vs.toArray n/\vE ks vs
theorem Nm (v:Value):firstOfTuple' v=(do
  if (<-typeOf v) != .type "tuple" then return none
  return (<-Builtin.List.listItems v)[0]?):=rfl
theorem da {k:L2.Key}{v:Value} (h:Uj k v) {R:DO} (q:R (.type (if k.isLeft then "int" else "str")) s):wpAny (model prog w) A (typeOf v) R E s:=by
 cases k with
 | inl n=>obtain⟨t,rfl⟩:=h;exact wpAny_typeOf (typeIs_int s n t) q
 | inr x=>obtain⟨t,rfl⟩:=h;exact wpAny_typeOf (typeIs_str s x t) q
theorem qc {vs:DY} (h2:2<=vs.length) (ht:∀v∈vs,TupAt s.heap v<|kc v) (hs:∀v∈vs,sd (kc v)=d) (hd:d≠[]) {R:SortKind->Shared->Prop} (q:R (tuples' true) s):wpAny (model prog w) A (keyKind' vs.toArray) R E s:=by
 have fx:∃fv:Value->Value,∀v∈vs,∃k r,kc v=k::r/\k.isLeft=d.headD true/\Uj k (fv v)/\∀R:Option Value->Shared->Prop,R (some<|fv v) s->wpAny (model prog w) A (firstOfTuple' v) R E s:=by
  have one:∀v∈vs,∃x:Value,∃k r,kc v=k::r/\k.isLeft=d.headD true/\Uj k x/\∀R:Option Value->Shared->Prop,R (some x) s->wpAny (model prog w) A (firstOfTuple' v) R E s:=λv hv=>by
   obtain⟨a,ob,us,n,rfl,ho,hc,Rg,hk⟩:=ht v hv;have e:=hs _ hv;cases u₂:kc (.ref a) with
   | nil=>rw[u₂] at e;exact absurd e.symm hd
   | cons k r =>
    rw[u₂] at hk e;cases hk with
    | @cons _ x _ xs hx O8 =>
     refine#[x,k,r,rfl,by rw[<-e];rfl,hx,λR hR=>?_];rw[Nm];refine Ef<|wpAny_typeOf (T:="tuple") #[ob,ho,hc] ?_;rw[if_neg (by decide)];exact Ef (listItems_at ho Rg<|Eg hR)
  refine#[λv=>if hv:v∈vs then (one v hv).choose else .none,λv hv=>?_];simp only[dif_pos hv];exact (one v hv).choose_spec
 obtain⟨fv,Rh⟩:=fx;rw[keyKind'_eq,aaj,<-bind_pure_comp];refine Ef (Ef (zV (r:=λv=>some<|fv v) (λv hv R hR=>by obtain⟨_,_,_,_,_,f⟩:=Rh v hv;exact f R hR)<|Eg ?_));rw[if_pos (by simp)];refine Ef<|wpAny_rule<|Ef ?_;rw[show (vs.map λv=>some<|fv v).toArray.filterMap id=(vs.map fv).toArray by simp [aaG,abt]];rw[oneTypeOnly'_eq,aaj,<-bind_pure_comp];refine Ef (Ef (zV (r:=λ_=>Value.type (if d.headD true then "int" else "str")) (λx hx R hR=>?_)<|Eg ?_))
 ·obtain⟨v,hv,rfl⟩:=yf.mp hx;obtain⟨k,r,_,e,hk,_⟩:=Rh v hv;rw[<-e] at hR;exact da hk hR
 ·match vs,h2 with
  | a::b::r,_ =>
   have e0:((Yv fv (a::b::r)).map λ_=>Value.type (if d.headD true then "int" else "str")).toArray[0]?=some (Value.type (if d.headD true then "int" else "str")):=by simp
   rw[e0];have ea:(((Yv fv (a::b::r)).map λ_=>Value.type (if d.headD true then "int" else "str")).toArray.all λx=>x==Value.type (if d.headD true then "int" else "str"))=true:=by
    simp only[abJ,abm,y6];intro _ _;cases d.headD true<;>rfl
   show wpAny _ _ (pure (if (((Yv fv (a::b::r)).map λ_=>Value.type (if d.headD true then "int" else "str")).toArray.all λx=>x==Value.type (if d.headD true then "int" else "str"))=true then some (Value.type (if d.headD true then "int" else "str")) else none)) _ _ _;rw[if_pos ea];refine Eg<|Eg ?_;have en:((some<|Value.type (if d.headD true then "int" else "str")).any λx=>x != Value.type "tuple")=true:=by cases d.headD true<;>rfl
   rw[en];exact q
theorem vw {vs:DY}{p:Keyed} (h:p∈(pairsOf vs).toList):p.1=p.2/\p.1∈vs:=mem_zip_self (pairsOf_toList vs▸h)
theorem Au {vs:DY} (ht:∀v∈vs,TupAt s.heap v<|kc v) (hs:∀v∈vs,sd (kc v)=d) (f:Bool):UY prog w A s (tuples' f) (kind kc) (pairsOf vs):=λE p q Q hp hq h=>by
 have m1:=(vw hp).2;have m2:=(vw hq).2;have h1:Q (lx (kc p.1)<|kc q.1) s:=h;obtain⟨a,o1,us,n,e1,ho,_,hd,hk⟩:=ht _ m1;obtain⟨b,o2,ws,m,e2,EI,_,hd2,Ri⟩:=ht _ m2;rw[e1,e2] at h1;rw[e1] at hk;rw[e2] at Ri;have s1:=(hs _ m1).trans (hs _ m2).symm;rw[e1,e2] at s1;rw[e1,e2];exact xX f ho hd EI hd2 s1 hk Ri h1
end
def zq:Bool->Keyed->Array Keyed->Nat->Nat->Nat->StateT SortSt Sem (Option Nat):=sortPriv% PySem.Builtin.gallop
def nV (lf:Bool) (ky:Keyed) (xs:DX) (bs i:Nat):StateT SortSt Sem (Option Bool):=do
 let x <-elem' xs (bs+i)
 if lf then lt' x ky else return (<-lt' ky x).map (!·)
theorem xQ (lf:Bool) (ky:Keyed) (xs:DX) (bs n Es:Nat):zq lf ky xs bs n Es=(do
  let mut la:=0
  let mut of:=1
  let mut l:=0
  let mut h:=0
  let some r <-nV lf ky xs bs Es|return none
  if r then
   let mx:=n - Es
   for _ in [0:n] do
    if of>=mx then break
    let some m <-nV lf ky xs bs (Es+of)|return none
    if !m then break
    la:=of
    of:=2*of+1
   l:=Es+la+1
   h:=Es+min of mx
  else
   let mx:=Es+1
   for _ in [0:n] do
    if of>=mx then break
    let some m <-nV lf ky xs bs (Es - of)|return none
    if m then break
    la:=of
    of:=2*of+1
   l:=Es+1 - min of mx
   h:=Es - la
  for _ in [0:n] do
   if l>=h then break
   let m:=l+(h - l) / 2
   let some v <-nV lf ky xs bs m|return none
   if v then l:=m+1 else h:=m
  return some h):=rfl
section
variable {prog:Ee}{w:World}{A:Around}{E:DO}{s:Shared}{f:SortKind}{z:DX}{o:KeyKind}
def xP (lf:Bool) (ky:Keyed) (xs:DX) (bs n l0 h0:Nat):StateT SortSt Sem (Option Nat):=do
 let mut l:=l0
 let mut h:=h0
 for _ in [0:n] do
  if l>=h then break
  let m:=l+(h - l) / 2
  let some v <-nV lf ky xs bs m|return none
  if v then l:=m+1 else h:=m
 return some h
theorem mK {st:SortSt}{bs n l0:Nat}{Q:Option Nat->SortSt->Prop} (hb:∀i,i<n->∀R:Option Bool->SortSt->Prop,R (some<|B i) st->wpS (model prog w) A E s (nV lf ky xs bs i) R st)
  (F7:∀i j,i<=j->j<n->B j=true->B i=true) (Ff:∀i j,i<=j->j<n->B i=false->B j=false) (lh:l0<=h0) (hn:h0<=n) (bl:∀i,i<l0->B i=true) (bh:∀i,h0<=i->i<n->B i=false)
  (q:∀k,k<=n->(∀i,i<k->B i=true)->(∀i,k<=i->i<n->B i=false)->Q (some k) st):wpS (model prog w) A E s (xP lf ky xs bs n l0 h0) Q st:=by
 refine wpS_bind (wpS_mono (wpS_forRange (I:=λi c y=>y=st/\∃l h,c=(none,l,h)/\l<=h/\h<=n/\h - l<=n - i/\(∀g,g<l->B g=true)/\∀g,h<=g->g<n->B g=false) (Q:=λc y=>y=st/\∃h,c=(none,h,h)/\h<=n/\(∀g,g<h->B g=true)/\∀g,h<=g->g<n->B g=false) (λi c y i1 i2 hy=>?_) (λc y hy=>?_) #[rfl,l0,h0,rfl,lh,hn,by lia,bl,bh]) λc y hy=>?_)
 ·obtain⟨rfl,l,h,rfl,h1,h2,h3,h4,h5⟩:=hy;show wpS _ _ _ _ (if l>=h then _ else _) _ _;rcases yx l h with U'|U'
  ·rw[if_neg (by lia)];have hm:l+(h - l) / 2<n:=by lia
   refine wpS_bind<|hb _ hm _ ?_;show wpS _ _ _ _ (if B (l+(h - l) / 2)=true then _ else _) _ _;cases hv:B (l+(h - l) / 2) with
   | true=>rw[if_pos rfl];exact wpS_pure #[rfl,l+(h - l) / 2+1,h,rfl,by lia,h2,by omega,λg hg=>F7 g (l+(h - l) / 2) (by lia) hm hv,h5]
   | false=>rw[if_neg yA];exact wpS_pure #[rfl,l,l+(h - l) / 2,rfl,by lia,by lia,by omega,h4,λg g1 g2=>Ff _ g g1 g2 hv]
  ·rw[if_pos U'];obtain rfl:l=h:=by lia
   exact wpS_pure #[rfl,l,rfl,h2,h4,h5]
 ·obtain⟨rfl,l,h,rfl,h1,h2,h3,h4,h5⟩:=hy;obtain rfl:l=h:=by lia
  exact#[rfl,l,rfl,h2,h4,h5]
 ·obtain⟨rfl,h,rfl,h2,h4,h5⟩:=hy;exact wpS_pure (q h h2 h4 h5)
theorem iD {st:SortSt}{bs n Es:Nat}{Q:Option Nat->SortSt->Prop} (hb:∀i,i<n->∀R:Option Bool->SortSt->Prop,R (some<|B i) st->wpS (model prog w) A E s (nV lf ky xs bs i) R st)
  (F7:∀i j,i<=j->j<n->B j=true->B i=true) (hh:Es<n) (q:∀k,k<=n->(∀i,i<k->B i=true)->(∀i,k<=i->i<n->B i=false)->Q (some k) st):wpS (model prog w) A E s (zq lf ky xs bs n Es) Q st:=by
 have Ff:∀i j,i<=j->j<n->B i=false->B j=false:=λi j EF hj hi=>by
  cases IZ:B j with
  | false=>rfl
  | true=>rw[F7 i j EF hj IZ] at hi;cases hi
 rw[xQ];refine wpS_bind<|hb Es hh _ ?_;cases hr:B Es with
 | true =>
  refine wpS_bind (wpS_mono (wpS_forRange (I:=λi c y=>y=st/\∃la k,c=(none,la,k)/\la<k/\i+1<=k/\(Es+la<n->B (Es+la)=true)/\Es+la<n) (Q:=λc y=>y=st/\∃la k,c=(none,la,k)/\la<k/\Es+la<n/\B (Es+la)=true/\(n - Es<=k\/(Es+k<n/\B (Es+k)=false))) (λi c y i1 i2 hy=>?_) (λc y hy=>?_) #[rfl,0,1,rfl,by lia,by lia,λ_=>hr,by omega]) λc y hy=>?_)
  ·obtain⟨rfl,la,k,rfl,h1,h2,h3,h4⟩:=hy;show wpS _ _ _ _ (if k>=n - Es then _ else _) _ _;rcases yx k (n - Es) with hk|hk
   ·rw[if_neg (by lia)];refine wpS_bind (hb (Es+k) (by lia) _ ?_);show wpS _ _ _ _ (if (!B (Es+k))=true then _ else _) _ _;cases hv:B (Es+k) with
    | true=>exact wpS_pure #[rfl,k,2*k+1,rfl,by lia,by lia,λ_=>hv,by lia]
    | false=>exact wpS_pure #[rfl,la,k,rfl,h1,h4,h3 h4,.inr #[by lia,hv]]
   ·rw[if_pos hk];exact wpS_pure #[rfl,la,k,rfl,h1,h4,h3 h4,.inl hk]
  ·obtain⟨rfl,la,k,rfl,h1,h2,h3,h4⟩:=hy;exact#[rfl,la,k,rfl,h1,h4,h3 h4,.inl (by lia)]
  ·obtain⟨rfl,la,k,rfl,h1,h4,h3,h5⟩:=hy;refine mK (l0:=Es+la+1) (h0:=Es+min k (n - Es)) hb F7 Ff ?_ ?_ (λi hi=>F7 i _ (by lia) h4 h3) (λi h6 h7=>?_) q
   ·rcases h5 with h5|h5
    ·rw[QW h5];lia
    ·rw[Qz (by lia)];lia
   ·omega
   ·rcases h5 with h5|h5
    ·rw[QW h5] at h6;lia
    ·rw[Qz (by lia)] at h6;exact Ff _ i h6 h7 h5.2
 | false =>
  refine wpS_bind (wpS_mono (wpS_forRange (I:=λi c y=>y=st/\∃la k,c=(none,la,k)/\la<k/\i+1<=k/\la<=Es/\B (Es - la)=false) (Q:=λc y=>y=st/\∃la k,c=(none,la,k)/\la<k/\la<=Es/\B (Es - la)=false/\(Es+1<=k\/(k<=Es/\B (Es - k)=true))) (λi c y i1 i2 hy=>?_) (λc y hy=>?_) #[rfl,0,1,rfl,by lia,by lia,by lia,hr]) λc y hy=>?_)
  ·obtain⟨rfl,la,k,rfl,h1,h2,h3,h4⟩:=hy;show wpS _ _ _ _ (if k>=Es+1 then _ else _) _ _;rcases yx k (Es+1) with hk|hk
   ·rw[if_neg (by lia)];refine wpS_bind (hb (Es - k) (by omega) _ ?_);show wpS _ _ _ _ (if B (Es - k)=true then _ else _) _ _;cases hv:B (Es - k) with
    | true=>rw[if_pos rfl];exact wpS_pure #[rfl,la,k,rfl,h1,h3,h4,.inr #[by lia,hv]]
    | false=>rw[if_neg yA];exact wpS_pure #[rfl,k,2*k+1,rfl,by lia,by lia,by lia,hv]
   ·rw[if_pos hk];exact wpS_pure #[rfl,la,k,rfl,h1,h3,h4,.inl hk]
  ·obtain⟨rfl,la,k,rfl,h1,h2,h3,h4⟩:=hy;exact#[rfl,la,k,rfl,h1,h3,h4,.inl (by lia)]
  ·obtain⟨rfl,la,k,rfl,h1,h3,h4,h5⟩:=hy;refine mK (l0:=Es+1 - min k (Es+1)) (h0:=Es - la) hb F7 Ff ?_ (by omega) (λi hi=>?_) (λi h6 h7=>Ff _ i h6 h7 h4) q
   ·rcases h5 with h5|h5
    ·rw[QW h5];lia
    ·rw[Qz (by lia)];omega
   ·rcases h5 with h5|h5
    ·rw[QW h5] at hi;lia
    ·rw[Qz (by lia)] at hi;exact F7 i (Es - k) (by omega) (by omega) h5.2
end
def rY:Array Keyed->Array Keyed->StateT SortSt Sem (Array Keyed):=sortPriv% PySem.Builtin.mergeLo
def rX:Array Keyed->Array Keyed->StateT SortSt Sem (Array Keyed):=sortPriv% PySem.Builtin.mergeHi
def kf:Nat->StateT SortSt Sem Unit:=sortPriv% PySem.Builtin.setMinGallop
def Vu (a b out:DX) (i j:Nat):Array Keyed:=out++a.extract i a.size++b.extract j b.size
def kL (a b out:DX) (i j:Nat):Array Keyed:=out++b.extract j b.size++a.extract i a.size
theorem Ak (a b:DX):rY a b=(do
  liftM (rule "list.sort.merge-lo")
  let tt:=a.size+b.size
  let mut out:Array Keyed:=(Ya [<-elem' b 0])
  let mut i:=0
  let mut j:=1
  if j==b.size then return Vu a b out i j
  if i+1==a.size then return kL a b out i j
  let mut mg:=gallopOf (<-get)
  for _ in [0:tt] do
   let mut ca:=0
   let mut cb:=0
   for _ in [0:tt] do
    let some bw <-lt' (<-elem' b j) (<-elem' a i)|return Vu a b out i j
    if bw then
     out:=out.push<|<-elem' b j;j:=j+1;cb:=cb+1;ca:=0
     if j==b.size then return Vu a b out i j
     if cb>=mg then break
    else
     out:=out.push<|<-elem' a i;i:=i+1;ca:=ca+1;cb:=0
     if i+1==a.size then return kL a b out i j
     if ca>=mg then break
   liftM (rule "list.sort.gallop")
   mg:=mg+1
   for _ in [0:tt] do
    if mg > 1 then mg:=mg - 1
    kf mg
    let some k <-zq false (<-elem' b j) a i (a.size - i) 0|return Vu a b out i j
    ca:=k
    if k > 0 then
     out:=out++a.extract i (i+k);i:=i+k
     if i+1==a.size then return kL a b out i j
     if i==a.size then return Vu a b out i j
    out:=out.push<|<-elem' b j;j:=j+1
    if j==b.size then return Vu a b out i j
    let some k <-zq true (<-elem' a i) b j (b.size - j) 0|return Vu a b out i j
    cb:=k
    if k > 0 then
     out:=out++b.extract j (j+k);j:=j+k
     if j==b.size then return Vu a b out i j
    out:=out.push<|<-elem' a i;i:=i+1
    if i+1==a.size then return kL a b out i j
    if ca<7&&cb<7 then break
   mg:=mg+1
   kf mg
  unsupported "internal:list.sort.merge-bound"):=rfl
section
variable {prog:Ee}{w:World}{A:Around}{E:DO}{s:Shared}{f:SortKind}{z:DX}{o:KeyKind}
structure Sm (x y:SortSt):Prop where
 ar:arrOf y=arrOf x
 kd:kindOf y=kindOf x
 fl:failedOf y=failedOf x
 pd:pendingOf y=pendingOf x
theorem Sm.refl (x:SortSt):Sm x x:=#[rfl,rfl,rfl,rfl]
def JQ (o:KeyKind) (p q:Keyed):Prop:=o.kle (kv o p) (kv o q)
def Up (o:KeyKind) (l:List Keyed):Prop:=l.Pairwise (JQ o)
theorem uD {p q r:Keyed} (h1:JQ o p q) (h2:JQ o q r):JQ o p r:=KeyOrd.kle_trans h1 h2
theorem Kg {st:SortSt}{p q:Keyed}{Q:Option Bool->SortSt->Prop} (O:UY prog w A s f o z) (kd:kindOf st=f) (hp:p∈z.toList) (hq:q∈z.toList) (h:Q (some<|o.blt (kv o p)<|kv o q) st):wpS (model prog w) A E s (lt' p q) Q st:=by
 rw[lt'_eq];refine wpS_bind<|wpS_get ?_;rw[kd];exact wpS_bind (wpS_lift<|wpAny_attempt<|O _ p q _ hp hq #[rfl,wpS_pure h])
theorem JI {st:SortSt}{Q:Keyed->SortSt->Prop} (hi:i<xs.size) (h:Q xs[i] st):wpS (model prog w) A E s (elem' xs i) Q st:=by
 rw[elem'_eq,getElem?_pos xs i hi];exact wpS_pure h
theorem u5 (hi:i<xs.size):xs[i]∈xs.toList:=Array.getElem_mem_toList hi
theorem Up.at_ (u:Up o xs.toList) (EF:i<=j) (hj:j<xs.size):JQ o (xs[i]'(yP EF hj)) xs[j]:=by
 rcases yx i j with h|h
 ·have:=(QJ.mp u) i j (by simpa using yP EF hj) (by simpa using hj) h;simpa using this
 ·obtain rfl:i=j:=by lia
  exact KeyOrd.kle_refl _
theorem G0 {st:SortSt}{bs n:Nat}{Q:Option Nat->SortSt->Prop} (O:UY prog w A s f o z) (kd:kindOf st=f) (hx:∀p∈xs.toList,p∈z.toList) (hk:ky∈z.toList) (hn:bs+n<=xs.size) (hh:h0<n) (up:∀i j (EF:i<=j) (hj:bs+j<xs.size),j<n->JQ o (xs[bs+i]'(by omega)) xs[bs+j])
  (q:∀k,k<=n->(∀i (hi:bs+i<xs.size),i<k->o.klt (kv o xs[bs+i]) (kv o ky))->(∀i (hi:bs+i<xs.size),k<=i->i<n->JQ o ky xs[bs+i])->Q (some k) st):wpS (model prog w) A E s (zq true ky xs bs n h0) Q st:=by
 refine iD (B:=λi=>if hi:bs+i<xs.size then o.blt (kv o xs[bs+i]) (kv o ky) else false) (λi hi R hR=>?_) (λi j EF hj h=>?_) hh λk I0 h1 h2=>q k I0 (λi hi L0=>?_) (λi hi L0 EK=>?_)
 ·rw[dif_pos (by lia)] at hR;refine wpS_bind (JI (by lia) ?_);rw[if_pos rfl];exact Kg O kd (hx _<|u5 _) hk hR
 ·have IZ:bs+j<xs.size:=by lia
  have Uf:bs+i<xs.size:=by lia
  simp only[dif_pos IZ,dif_pos Uf] at h ⊢;exact KeyOrd.klt_of_kle_of_klt (up i j EF IZ hj) h
 ·have:=h1 i L0;rw[dif_pos hi] at this;exact this
 ·have:=h2 i L0 EK;rw[dif_pos hi] at this;exact this
theorem gb {st:SortSt}{bs n:Nat}{Q:Option Nat->SortSt->Prop} (O:UY prog w A s f o z) (kd:kindOf st=f) (hx:∀p∈xs.toList,p∈z.toList) (hk:ky∈z.toList) (hn:bs+n<=xs.size) (hh:h0<n) (up:∀i j (EF:i<=j) (hj:bs+j<xs.size),j<n->JQ o (xs[bs+i]'(by omega)) xs[bs+j])
  (q:∀k,k<=n->(∀i (hi:bs+i<xs.size),i<k->JQ o xs[bs+i] ky)->(∀i (hi:bs+i<xs.size),k<=i->i<n->o.klt (kv o ky) (kv o xs[bs+i]))->Q (some k) st):wpS (model prog w) A E s (zq false ky xs bs n h0) Q st:=by
 refine iD (B:=λi=>if hi:bs+i<xs.size then !o.blt (kv o ky) (kv o xs[bs+i]) else false) (λi hi R hR=>?_) (λi j EF hj h=>?_) hh λk I0 h1 h2=>q k I0 (λi hi L0=>?_) (λi hi L0 EK=>?_)
 ·rw[dif_pos (by lia)] at hR;refine wpS_bind (JI (by lia) ?_);rw[if_neg yA];exact wpS_bind (Kg O kd hk (hx _<|u5 _)<|wpS_pure hR)
 ·have IZ:bs+j<xs.size:=by lia
  have Uf:bs+i<xs.size:=by lia
  simp only[dif_pos IZ,dif_pos Uf,aal] at h ⊢;exact KeyOrd.kle_trans (up i j EF IZ hj) h
 ·have:=h1 i L0;rw[dif_pos hi,aal] at this;exact this
 ·have:=h2 i L0 EK;rw[dif_pos hi,Bool.not_eq_false'] at this;exact this
structure ML (o:KeyKind) (a b out:DX) (i j:Nat):Prop where
 pm:(out.toList++(a.toList.drop i++b.toList.drop j)).Perm (a.toList++b.toList)
 up:Up o out.toList
 le:∀p∈out.toList,∀q∈a.toList.drop i++b.toList.drop j,JQ o p q
theorem ML.mvA {out:DX}{k:Nat} (m:ML o a b out i j) (ua:Up o a.toList) (hk:i+k<=a.size) (h:∀p∈(a.toList.drop i).take k,∀q∈b.toList.drop j,JQ o p q):ML o a b (out++a.extract i (i+k)) (i+k) j:=by
 have e:(out++a.extract i (i+k)).toList=out.toList++(a.toList.drop i).take k:=by
  rw[Qg,Qi,Ye,YV]
 have e2:a.toList.drop i=(a.toList.drop i).take k++a.toList.drop (i+k):=by rw[<-aae,yX]
 have ud:Up o (a.toList.drop i):=ua.drop;refine#[?_,?_,?_]
 ·rw[e,yQ,<-yQ (List.take _ _),<-e2];exact m.pm
 ·rw[e];refine yC.mpr #[m.up,ud.take,λp hp q hq=>m.le p hp q<|yu _<|Qp hq]
 ·rw[e];intro p hp q hq;rcases yj.mp hp with hp|hp
  ·rcases yj.mp hq with hq|hq
   ·exact m.le p hp q (yu _ (by rw[e2];exact yr _ hq))
   ·exact m.le p hp q (yr _ hq)
  ·rcases yj.mp hq with hq|hq
   ·rw[e2] at ud;exact (yC.mp ud).2.2 p hp q hq
   ·exact h p hp q hq
theorem ML.mvB {out:DX}{k:Nat} (m:ML o a b out i j) (ub:Up o b.toList) (hk:j+k<=b.size) (h:∀p∈(b.toList.drop j).take k,∀q∈a.toList.drop i,JQ o p q):ML o a b (out++b.extract j (j+k)) i (j+k):=by
 have e:(out++b.extract j (j+k)).toList=out.toList++(b.toList.drop j).take k:=by
  rw[Qg,Qi,Ye,YV]
 have e2:b.toList.drop j=(b.toList.drop j).take k++b.toList.drop (j+k):=by rw[<-aae,yX]
 have ud:Up o (b.toList.drop j):=ub.drop;refine#[?_,?_,?_]
 ·rw[e];refine Yn ?_ m.pm;rw[yQ];refine Yr _ ?_
  conv=>rhs;rw[e2]
  exact (List.perm_append_comm_assoc _ _ _)
 ·rw[e];refine yC.mpr #[m.up,ud.take,λp hp q hq=>m.le p hp q<|yr _<|Qp hq]
 ·rw[e];intro p hp q hq;rcases yj.mp hp with hp|hp
  ·rcases yj.mp hq with hq|hq
   ·exact m.le p hp q (yu _ hq)
   ·exact m.le p hp q (yr _ (by rw[e2];exact yr _ hq))
  ·rcases yj.mp hq with hq|hq
   ·exact h p hp q hq
   ·rw[e2] at ud;exact (yC.mp ud).2.2 p hp q hq
theorem xG (hi:i<xs.size):xs.extract i (i+1)=(Ya [xs[i]]):=by
 apply Array.toList_inj.mp
 rw[Qi,Ye,YV,yN (by simpa using hi)];simp
theorem Zt {out:DX} (hi:i<xs.size):out.push xs[i]=out++xs.extract i (i+1):=by
 rw[xG hi,abu]
theorem vY {p:Keyed} (h:p∈xs.toList.drop i):∃k,∃hk:i+k<xs.size,p=xs[i+k]:=by
 obtain⟨k,hk,e⟩:=QS.mp h;rw[Ql,yD] at hk;refine#[k,by omega,?_];rw[<-e,YZ,QL]
theorem V6 {n:Nat}{p:Keyed} (h:p∈(xs.toList.drop i).take n):∃k,∃hk:i+k<xs.size,k<n/\p=xs[i+k]:=by
 obtain⟨k,hk,e⟩:=QS.mp h;rw[yM,Ql,yD] at hk;refine#[k,by omega,by lia,?_];rw[<-e,YY,YZ,QL]
structure Mg (o:KeyKind) (a b m:DX):Prop where
 pm:m.toList.Perm (a.toList++b.toList)
 up:Up o m.toList
theorem ML.endA {out:DX} (m:ML o a b out i j) (ua:Up o a.toList) (ub:Up o b.toList) (h:j=b.size\/i=a.size):Mg o a b (Vu a b out i j):=by
 have e:(Vu a b out i j).toList=out.toList++(a.toList.drop i++b.toList.drop j):=by
  unfold Vu;rw[Qg,Qg,Qi,Qi,Ye,Ye,yQ];congr 2<;>exact QD (by simp)
 have z0:a.toList.drop i=[]\/b.toList.drop j=[]:=by
  rcases h with h|h
  ·exact .inr (QE (by simp [h]))
  ·exact .inl (QE (by simp [h]))
 refine#[by rw[e];exact m.pm,?_];rw[e];refine yC.mpr #[m.up,?_,m.le];rcases z0 with z0|z0<;>rw[z0]
 ·exact ub.drop
 ·rw[yK];exact ua.drop
theorem ML.endB {out:DX} (m:ML o a b out i j) (ub:Up o b.toList) (h:i+1=a.size) (hl:∀p∈b.toList,∀hi:i<a.size,JQ o p a[i]):Mg o a b (kL a b out i j):=by
 have hi:i<a.size:=by lia
 have e1:a.toList.drop i=[a[i]]:=by
  rw[yN (by simpa using hi),QE (by simp;lia)];simp
 have e:(kL a b out i j).toList=out.toList++(b.toList.drop j++a.toList.drop i):=by
  unfold kL;rw[Qg,Qg,Qi,Qi,Ye,Ye,yQ];congr 2<;>exact QD (by simp)
 refine#[?_,?_]
 ·rw[e];exact Yn (Yr _ Y3) m.pm
 ·rw[e];refine yC.mpr #[m.up,yC.mpr #[ub.drop,by rw[e1];exact QN _ _,λp hp q hq=>?_],λp hp q hq=>m.le p hp q ?_]
  ·rw[e1,yi] at hq;rw[hq];exact hl p (Y7 hp) hi
  ·rcases yj.mp hq with hq|hq
   ·exact yr _ hq
   ·exact yu _ hq
end
abbrev LS:=Option (Array Keyed)×Array Keyed×Nat×Nat×Nat×Nat×Nat
def Ae (a b:DX) (i mg ca cb:Nat) (out:DX) (j:Nat):StateT SortSt Sem (ForInStep LS):=do
 let x <-elem' a i
 if (i+1+1==a.size)=true then pure (.done (some<|kL a b (out.push x) (i+1) j,out.push x,i+1,j,mg,ca,cb))
 else if (decide (ca<7)&&decide (cb<7))=true then pure (.done (none,out.push x,i+1,j,mg,ca,cb))
 else pure (.yield (none,out.push x,i+1,j,mg,ca,cb))
def Ad (a b:DX) (j mg ca cb:Nat) (out:DX) (i:Nat):StateT SortSt Sem (ForInStep LS):=do
 let x <-elem' b j
 if (j+1==b.size)=true then pure (.done (some<|Vu a b (out.push x) i<|j+1,out.push x,i,j+1,mg,ca,cb))
 else
  let y <-elem' a i
  let some k <-zq true y b (j+1) (b.size - (j+1)) 0|pure (.done (some<|Vu a b (out.push x) i<|j+1,out.push x,i,j+1,mg,ca,cb))
  if k > 0 then
   if (j+1+k==b.size)=true then pure (.done (some<|Vu a b (out.push x++b.extract (j+1) (j+1+k)) i<|j+1+k,out.push x++b.extract (j+1) (j+1+k),i,j+1+k,mg,ca,k))
   else Ae a b i mg ca k (out.push x++b.extract (j+1) (j+1+k)) (j+1+k)
  else Ae a b i mg ca k (out.push x) (j+1)
def Ac (a b out:DX) (i j ca cb mg:Nat):StateT SortSt Sem (ForInStep LS):=do
 kf mg
 let x <-elem' b j
 let some k <-zq false x a i (a.size - i) 0|pure (.done (some<|Vu a b out i j,out,i,j,mg,ca,cb))
 if k > 0 then
  if (i+k+1==a.size)=true then pure (.done (some<|kL a b (out++a.extract i (i+k)) (i+k) j,out++a.extract i (i+k),i+k,j,mg,k,cb))
  else if (i+k==a.size)=true then pure (.done (some<|Vu a b (out++a.extract i (i+k)) (i+k) j,out++a.extract i (i+k),i+k,j,mg,k,cb))
  else Ad a b j mg k cb (out++a.extract i (i+k)) (i+k)
 else Ad a b j mg k cb out i
section
variable {prog:Ee}{w:World}{A:Around}{E:DO}{s:Shared}{f:SortKind}{z:DX}{o:KeyKind}
structure LI (o:KeyKind) (a b:DX) (st:SortSt) (t:Nat) (out:DX) (i j:Nat) (y:SortSt):Prop where
 sm:Sm st y
 ml:ML o a b out i j
 hi:i+1<a.size
 hj:j<b.size
 tt:t<=i+j
def xg (o:KeyKind) (a b:DX) (st:SortSt) (t:Nat) (c:LS) (y:SortSt):Prop:=(∃m,c.1=some m/\Sm st y/\Mg o a b m)\/(c.1=none/\LI o a b st t c.2.1 c.2.2.1 c.2.2.2.1 y)
def dy (o:KeyKind) (a b:DX) (st:SortSt) (t:Nat):ForInStep LS->SortSt->Prop:=λr y=>match r with|.done c=>xg o a b st t c y|.yield c=>c.1=none/\LI o a b st t c.2.1 c.2.2.1 c.2.2.2.1 y
structure Z2 (o:KeyKind) (f:SortKind) (z a b:DX) (st:SortSt):Prop where
 kd:kindOf st=f
 ma:∀p∈a.toList,p∈z.toList
 mb:∀p∈b.toList,p∈z.toList
 ua:Up o a.toList
 ub:Up o b.toList
 hl:∀p∈b.toList,∀hi:a.size - 1<a.size,JQ o p a[a.size - 1]
 h0:∀p∈a.toList,∀hi:0<b.size,JQ o b[0] p
theorem Sm.trans {x y u:SortSt} (h:Sm x y) (g:Sm y u):Sm x u:=#[g.ar.trans h.ar,g.kd.trans h.kd,g.fl.trans h.fl,g.pd.trans h.pd]
theorem Z2.last {st:SortSt} (T:Z2 o f z a b st) (h:i+1=a.size):∀p∈b.toList,∀hi:i<a.size,JQ o p a[i]:=λp hp hi=>by
 have e:a.size - 1=i:=by lia
 have:=T.hl p hp (by lia);simp only[e] at this;exact this
theorem i4 {st y:SortSt}{t:Nat}{out:DX} (T:Z2 o f z a b st) (sm:Sm st y) (ml:ML o a b out i j) (hi:i+1<a.size) (hj:j<b.size) (tt:t<=i+j+1) (h:∀q∈b.toList.drop j,JQ o a[i] q) :
  wpS (model prog w) A E s (Ae a b i mg ca cb out j) (dy o a b st t) y:=by
 refine wpS_bind (JI (by omega) ?_);have m2:ML o a b (out.push a[i]) (i+1) j:=by
  rw[Zt (by omega)];refine ml.mvA T.ua (by lia) λp hp q hq=>?_;obtain⟨k,hk,k1,rfl⟩:=V6 hp;obtain rfl:k=0:=by lia
  exact h q hq
 rcases yx (i+1+1) a.size with h1|h1
 ·rw[if_neg (by rw[beq_iff_eq];lia)];have li:LI o a b st t (out.push a[i]) (i+1) j y:=#[sm,m2,h1,hj,by lia];split
  ·exact wpS_pure (.inr #[rfl,li])
  ·exact wpS_pure #[rfl,li]
 ·rw[if_pos (by rw[beq_iff_eq];lia)];exact wpS_pure (.inl #[_,rfl,sm,m2.endB T.ub (by lia) (T.last (by lia))])
theorem b7 {k:Nat}{q:Keyed} (h:q∈xs.toList.drop (j+k)):∃g,∃hg:j+g<xs.size,k<=g/\q=xs[j+g]:=by
 obtain⟨g,hg,rfl⟩:=vY h;exact#[k+g,by lia,by lia,by congr 1;lia]
theorem i3 {st y:SortSt}{t:Nat}{out:DX} (O:UY prog w A s f o z) (T:Z2 o f z a b st) (sm:Sm st y) (ml:ML o a b out i j) (hi:i+1<a.size) (hj:j<b.size) (tt:t<=i+j) (h:∀q∈a.toList.drop i,JQ o b[j] q) :
  wpS (model prog w) A E s (Ad a b j mg ca cb out i) (dy o a b st t) y:=by
 refine wpS_bind<|JI hj ?_;have m2:ML o a b (out.push b[j]) i (j+1):=by
  rw[Zt hj];refine ml.mvB T.ub (by lia) λp hp q hq=>?_;obtain⟨k,hk,k1,rfl⟩:=V6 hp;obtain rfl:k=0:=by lia
  exact h q hq
 rcases yx (j+1) b.size with h1|h1
 ·rw[if_neg (by rw[beq_iff_eq];lia)];refine wpS_bind (JI (by omega) (wpS_bind (G0 O (sm.kd.trans T.kd) T.mb (T.ma _<|u5 _) (by omega) (by omega) (λg k L3 hk _=>T.ub.at_ (by lia) hk) λk hk less rest=>?_)));show wpS _ _ _ _ (if k > 0 then _ else _) _ _;have ER:∀q∈b.toList.drop (j+1+k),JQ o a[i] q:=λq hq=>by
   obtain⟨g,hg,We,rfl⟩:=b7 hq;exact rest g hg We (by omega)
  rcases yx 0 k with h2|h2
  ·rw[if_pos h2];have m3:ML o a b (out.push b[j]++b.extract (j+1) (j+1+k)) i (j+1+k):=m2.mvB T.ub (by omega) λp hp q hq=>by
    obtain⟨g,hg,g1,rfl⟩:=V6 hp;obtain⟨g',Wf,rfl⟩:=vY hq;exact uD (KeyOrd.kle_of_klt<|less g hg g1) (T.ua.at_ (by lia) Wf)
   rcases yx (j+1+k) b.size with h3|h3
   ·rw[if_neg (by rw[beq_iff_eq];lia)];exact i4 T sm m3 hi h3 (by lia) ER
   ·rw[if_pos (by rw[beq_iff_eq];omega)];exact wpS_pure (.inl #[_,rfl,sm,m3.endA T.ua T.ub (.inl (by omega))])
  ·rw[if_neg (by lia)];obtain rfl:k=0:=by lia
   exact i4 T sm m2 hi h1 (by lia) ER
 ·rw[if_pos (by rw[beq_iff_eq];lia)];exact wpS_pure (.inl #[_,rfl,sm,m2.endA T.ua T.ub (.inl (by lia))])
theorem Ge {y:SortSt}{Q:Unit->SortSt->Prop} (h:∀y',Sm y y'->Q () y'):wpS (model prog w) A E s (kf mg) Q y:=wpS_modify (h _ #[rfl,rfl,rfl,rfl])
theorem iZ {st y:SortSt}{t:Nat}{out:DX} (O:UY prog w A s f o z) (T:Z2 o f z a b st) (li:LI o a b st t out i j y) :
  wpS (model prog w) A E s (Ac a b out i j ca cb mg) (dy o a b st t) y:=by
 obtain⟨Wg,ml,hi,hj,tt⟩:=li;refine wpS_bind (Ge λy' s'=>?_);have sm:=Wg.trans s';refine wpS_bind (JI hj (wpS_bind (gb O (sm.kd.trans T.kd) T.ma (T.mb _<|u5 _) (by lia) (by lia) (λg k L3 hk _=>T.ua.at_ (by lia) hk) λk hk less rest=>?_)));show wpS _ _ _ _ (if k > 0 then _ else _) _ _;have ER:∀q∈a.toList.drop (i+k),JQ o b[j] q:=λq hq=>by
  obtain⟨g,hg,We,rfl⟩:=b7 hq;exact KeyOrd.kle_of_klt (rest g hg We (by lia))
 rcases yx 0 k with h2|h2
 ·rw[if_pos h2];have m2:ML o a b (out++a.extract i (i+k)) (i+k) j:=ml.mvA T.ua (by lia) λp hp q hq=>by
   obtain⟨g,hg,g1,rfl⟩:=V6 hp;obtain⟨g',Wf,rfl⟩:=vY hq;exact uD (less g hg g1) (T.ub.at_ (by lia) Wf)
  rcases yx (i+k+1) a.size with h3|h3
  ·rw[if_neg (by rw[beq_iff_eq];lia),if_neg (by rw[beq_iff_eq];lia)];exact i3 O T sm m2 h3 hj (by lia) ER
  ·rcases yx a.size (i+k+1) with h4|h4
   ·rw[if_neg (by rw[beq_iff_eq];lia),if_pos (by rw[beq_iff_eq];lia)];exact wpS_pure (.inl #[_,rfl,sm,m2.endA T.ua T.ub (.inr (by lia))])
   ·rw[if_pos (by rw[beq_iff_eq];lia)];exact wpS_pure (.inl #[_,rfl,sm,m2.endB T.ub (by lia) (T.last (by lia))])
 ·rw[if_neg (by lia)];obtain rfl:k=0:=by lia
  exact i3 O T sm ml hi hj tt ER
theorem si {α β γ δ ε:Type}{G:α×β×γ×δ×ε->Prop} (h:∀a b c d e,G (a,b,c,d,e)):∀x,G x:=λ(a,b,c,d,e)=>h a b c d e
theorem sj {α β γ δ ε ζ:Type}{G:α×β×γ×δ×ε×ζ->Prop} (h:∀a b c d e f,G (a,b,c,d,e,f)):∀x,G x:=λ(a,b,c,d,e,f)=>h a b c d e f
theorem sk {α β γ δ ε ζ η:Type}{G:α×β×γ×δ×ε×ζ×η->Prop} (h:∀a b c d e f g,G (a,b,c,d,e,f,g)):∀x,G x:=λ(a,b,c,d,e,f,g)=>h a b c d e f g
theorem Al {st:SortSt}{Q:Array Keyed->SortSt->Prop} (O:UY prog w A s f o z) (T:Z2 o f z a b st) (ha:0<a.size) (hb:0<b.size) (q:∀m y,Sm st y->Mg o a b m->Q m y):wpS (model prog w) A E s (rY a b) Q st:=by
 rw[Ak];refine wpS_bind<|wpS_lift<|wpAny_rule #[rfl,wpS_bind<|JI hb ?_];have m1:ML o a b (Ya [b[0]]) 0 1:=by
  refine#[?_,QN _ _,λp hp q hq=>?_]
  ·have e:b.toList=b[0]::b.toList.drop 1:=by
    have:=yN (l:=b.toList) (i:=0) (by simpa using hb);simpa using this
   show (b[0]::(a.toList++b.toList.drop 1)).Perm _
   conv=>rhs;rw[e]
   exact List.perm_middle.symm
  ·obtain rfl:=yi.mp hp;rcases yj.mp hq with hq|hq
   ·exact T.h0 q hq hb
   ·obtain⟨k,hk,rfl⟩:=vY hq;exact T.ub.at_ (yL _) hk
 rcases yx 1 b.size with FI|FI
 rotate_left
 ·rw[if_pos (by rw[beq_iff_eq];lia)];exact wpS_pure (q _ _ (Sm.refl _) (m1.endA T.ua T.ub (.inl (by lia))))
 rw[if_neg (by rw[beq_iff_eq];lia)];rcases yx 1 a.size with L4|L4
 rotate_left
 ·rw[if_pos (by rw[beq_iff_eq];lia)];exact wpS_pure (q _ _ (Sm.refl _) (m1.endB T.ub (by lia) (T.last (by lia))))
 rw[if_neg (by rw[beq_iff_eq];lia)];refine wpS_bind (wpS_get (wpS_bind (wpS_mono (wpS_forRange (I:=λx c y=>c.1=none/\LI o a b st (1+x) c.2.1 c.2.2.1 c.2.2.2.1 y) (Q:=λc y=>∃m,c.1=some m/\Sm st y/\Mg o a b m) (λx c y _ _ hy=>?_) (λc y hy=>?_) #[rfl,Sm.refl _,m1,by show 0+1<_;omega,FI,by show 1+0<=0+1;lia]) λc y hy=>?_)))
 ·revert c
  refine si λc1 out i j mg=>?_;intro hy;obtain⟨e1,li⟩:=hy;refine wpS_bind (wpS_mono (wpS_forRange (I:=λx' c y=>c.1=none/\LI o a b st (1+x+x') c.2.1 c.2.2.1 c.2.2.2.1 y) (Q:=λc y=>(∃m,c.1=some m/\Sm st y/\Mg o a b m)\/(c.1=none/\LI o a b st (1+x+1) c.2.1 c.2.2.1 c.2.2.2.1 y)) (λx' c y _ _ hy=>?_) (λc y hy=>?_) #[rfl,li]) λc y hy=>?_)
  ·revert c
   refine sj λc1 out i j ca cb=>?_;intro hy;obtain⟨e1,sm,ml,hi,hj,tt⟩:=hy;change i+1<a.size at hi;change j<b.size at hj;change 1+x+x'<=i+j at tt;change ML o a b out i j at ml;refine wpS_bind (JI hj (wpS_bind (JI (show i<a.size by lia)<|wpS_bind<|Kg O (sm.kd.trans T.kd) (T.mb _<|u5 _) (T.ma _<|u5 _) ?_)));show wpS _ _ _ _ (if o.blt (kv o b[j]) (kv o a[i])=true then _ else _) _ _;cases hv:o.blt (kv o b[j]) (kv o a[i]) with
   | true =>
    rw[if_pos rfl];refine wpS_bind<|JI hj ?_;have m2:ML o a b (out.push b[j]) i (j+1):=by
     rw[Zt hj];refine ml.mvB T.ub (by lia) λp hp q hq=>?_;obtain⟨k,hk,k1,rfl⟩:=V6 hp;obtain rfl:k=0:=by lia
     obtain⟨g,hg,rfl⟩:=vY hq;exact uD (KeyOrd.kle_of_klt hv) (T.ua.at_ (by lia) hg)
    show wpS _ _ _ _ (if (j+1==b.size)=true then _ else _) _ _;rcases yx (j+1) b.size with h1|h1
    ·rw[if_neg (by rw[beq_iff_eq];lia)];have li:∀t,t<=i+(j+1)->LI o a b st t (out.push b[j]) i (j+1) y:=λt ht=>#[sm,m2,hi,h1,ht];show wpS _ _ _ _ (if cb+1>=mg then _ else _) _ _;split
     ·exact wpS_pure (.inr #[rfl,li _ (by lia)])
     ·exact wpS_pure #[rfl,li _ (by lia)]
    ·rw[if_pos (by rw[beq_iff_eq];lia)];exact wpS_pure (.inl #[_,rfl,sm,m2.endA T.ua T.ub (.inl (by lia))])
   | false =>
    rw[if_neg yA];refine wpS_bind (JI (show i<a.size by lia) ?_);have m2:ML o a b (out.push a[i]) (i+1) j:=by
     rw[Zt (show i<a.size by lia)];refine ml.mvA T.ua (by lia) λp hp q hq=>?_;obtain⟨k,hk,k1,rfl⟩:=V6 hp;obtain rfl:k=0:=by lia
     obtain⟨g,hg,rfl⟩:=vY hq;exact uD (show JQ o a[i] b[j] from hv) (T.ub.at_ (by lia) hg)
    show wpS _ _ _ _ (if (i+1+1==a.size)=true then _ else _) _ _;rcases yx (i+1+1) a.size with h1|h1
    ·rw[if_neg (by rw[beq_iff_eq];lia)];have li:∀t,t<=i+1+j->LI o a b st t (out.push a[i]) (i+1) j y:=λt ht=>#[sm,m2,h1,hj,ht];show wpS _ _ _ _ (if ca+1>=mg then _ else _) _ _;split
     ·exact wpS_pure (.inr #[rfl,li _ (by lia)])
     ·exact wpS_pure #[rfl,li _ (by lia)]
    ·rw[if_pos (by rw[beq_iff_eq];lia)];exact wpS_pure (.inl #[_,rfl,sm,m2.endB T.ub (by lia) (T.last (by lia))])
  ·obtain⟨e1,li⟩:=hy;have h1:=li.hi;have h2:=li.hj;exact .inr #[e1,li.sm,li.ml,li.hi,li.hj,ym (by lia) li.tt]
  ·revert c
   refine sj λc1 out i j ca cb=>?_;intro hy;rcases hy with ⟨m,rfl,sm,mm⟩|⟨rfl,li⟩
   ·exact wpS_pure #[m,rfl,sm,mm]
   ·refine wpS_bind (wpS_lift (wpAny_rule #[rfl,wpS_bind (wpS_mono (wpS_forRange (I:=λx' c y=>c.1=none/\LI o a b st (1+x+1) c.2.1 c.2.2.1 c.2.2.2.1 y) (Q:=xg o a b st<|1+x+1) (λx' c y _ _ hy=>?_) (λc y hy=>.inr hy) #[rfl,li]) λc y hy=>?_)]))
    ·revert c
     refine sk λc1 out i j mg ca cb=>?_;intro hy;obtain⟨e1,li⟩:=hy;show wpS _ _ _ _ (if mg > 1 then Ac a b out i j ca cb (mg - 1) else Ac a b out i j ca cb mg) _ _;change LI o a b st (1+x+1) out i j y at li;split
     ·exact wpS_mono (iZ O T li) λr y h=>by cases r<;>exact h
     ·exact wpS_mono (iZ O T li) λr y h=>by cases r<;>exact h
    ·revert c
     refine sk λc1 out i j mg ca cb=>?_;intro hy;rcases hy with ⟨m,rfl,sm,mm⟩|⟨rfl,li⟩
     ·exact wpS_pure #[m,rfl,sm,mm]
     ·exact wpS_bind (Ge λy' s'=>wpS_pure #[rfl,li.sm.trans s',li.ml,li.hi,li.hj,by have:=li.tt;omega])
 ·obtain⟨e1,li⟩:=hy;have h1:=li.hi;have h2:=li.hj;have h3:=li.tt
  lia
 ·revert c
  refine si λc1 out i j mg=>?_;intro hy;obtain⟨m,rfl,sm,mm⟩:=hy;exact wpS_pure (q m y sm mm)
end
def Vv (a b out:DX) (m n:Nat):Array Keyed:=a.extract 0 m++b.extract 0 n++out.reverse
def kM (a b out:DX) (m n:Nat):Array Keyed:=b.extract 0 n++a.extract 0 m++out.reverse
theorem Ai (a b:DX):rX a b=(do
  liftM (rule "list.sort.merge-hi")
  let tt:=a.size+b.size
  let mut m:=a.size - 1
  let mut n:=b.size
  let mut out:Array Keyed:=(Ya [<-elem' a m])
  if m==0 then return Vv a b out m n
  if n==1 then return kM a b out m n
  let mut mg:=gallopOf (<-get)
  for _ in [0:tt] do
   let mut ca:=0
   let mut cb:=0
   for _ in [0:tt] do
    let some aw <-lt' (<-elem' b (n - 1)) (<-elem' a (m - 1))|return Vv a b out m n
    if aw then
     m:=m - 1;out:=out.push<|<-elem' a m;ca:=ca+1;cb:=0
     if m==0 then return Vv a b out m n
     if ca>=mg then break
    else
     n:=n - 1;out:=out.push<|<-elem' b n;cb:=cb+1;ca:=0
     if n==1 then return kM a b out m n
     if cb>=mg then break
   liftM (rule "list.sort.gallop")
   mg:=mg+1
   for _ in [0:tt] do
    if mg > 1 then mg:=mg - 1
    kf mg
    let some g <-zq false (<-elem' b (n - 1)) a 0 m (m - 1)|return Vv a b out m n
    let k:=m - g
    ca:=k
    if k > 0 then
     out:=out++(a.extract g m).reverse;m:=g
     if m==0 then return Vv a b out m n
    n:=n - 1;out:=out.push (<-elem' b n)
    if n==1 then return kM a b out m n
    let some g <-zq true (<-elem' a (m - 1)) b 0 n (n - 1)|return Vv a b out m n
    let k:=n - g
    cb:=k
    if k > 0 then
     out:=out++(b.extract g n).reverse;n:=g
     if n==1 then return kM a b out m n
     if n==0 then return Vv a b out m n
    m:=m - 1;out:=out.push (<-elem' a m)
    if m==0 then return Vv a b out m n
    if ca<7&&cb<7 then break
   mg:=mg+1
   kf mg
  unsupported "internal:list.sort.merge-bound"):=rfl
abbrev HS:=Option (Array Keyed)×Nat×Nat×Array Keyed×Nat×Nat×Nat
def xR (a b:DX) (m mg ca cb:Nat) (out:DX) (n:Nat):StateT SortSt Sem (ForInStep HS):=do
 let x <-elem' a (m - 1)
 if (m - 1==0)=true then pure (.done (some<|Vv a b (out.push x) (m - 1) n,m - 1,n,out.push x,mg,ca,cb))
 else if (decide (ca<7)&&decide (cb<7))=true then pure (.done (none,m - 1,n,out.push x,mg,ca,cb))
 else pure (.yield (none,m - 1,n,out.push x,mg,ca,cb))
def Uf (a b:DX) (n mg ca cb:Nat) (out:DX) (m:Nat):StateT SortSt Sem (ForInStep HS):=do
 let x <-elem' b (n - 1)
 if (n - 1==1)=true then pure (.done (some<|kM a b (out.push x) m<|n - 1,m,n - 1,out.push x,mg,ca,cb))
 else
  let y <-elem' a (m - 1)
  let some g <-zq true y b 0 (n - 1) (n - 1 - 1)|pure (.done (some<|Vv a b (out.push x) m<|n - 1,m,n - 1,out.push x,mg,ca,cb))
  if n - 1 - g > 0 then
   if (g==1)=true then pure (.done (some<|kM a b (out.push x++(b.extract g<|n - 1).reverse) m g,m,g,out.push x++(b.extract g<|n - 1).reverse,mg,ca,n - 1 - g))
   else if (g==0)=true then pure (.done (some<|Vv a b (out.push x++(b.extract g<|n - 1).reverse) m g,m,g,out.push x++(b.extract g<|n - 1).reverse,mg,ca,n - 1 - g))
   else xR a b m mg ca (n - 1 - g) (out.push x++(b.extract g<|n - 1).reverse) g
  else xR a b m mg ca (n - 1 - g) (out.push x) (n - 1)
def GC (a b out:DX) (m n ca cb mg:Nat):StateT SortSt Sem (ForInStep HS):=do
 kf mg
 let x <-elem' b (n - 1)
 let some g <-zq false x a 0 m (m - 1)|pure (.done (some<|Vv a b out m n,m,n,out,mg,ca,cb))
 if m - g > 0 then
  if (g==0)=true then pure (.done (some<|Vv a b (out++(a.extract g m).reverse) g n,g,n,out++(a.extract g m).reverse,mg,m - g,cb))
  else Uf a b n mg (m - g) cb (out++(a.extract g m).reverse) g
 else Uf a b n mg (m - g) cb out m
section
variable {prog:Ee}{w:World}{A:Around}{E:DO}{s:Shared}{f:SortKind}{z:DX}{o:KeyKind}
structure MH (o:KeyKind) (a b out:DX) (m n:Nat):Prop where
 pm:((a.toList.take m++b.toList.take n)++out.toList.reverse).Perm (a.toList++b.toList)
 up:Up o out.toList.reverse
 le:∀p∈a.toList.take m++b.toList.take n,∀q∈out.toList,JQ o p q
theorem VJ {out:DX}{m:Nat}:(out++(xs.extract g m).reverse).toList.reverse=(xs.toList.take m).drop g++out.toList.reverse:=by
 rw[Qg,aaz,Qi,List.reverse_append,List.reverse_reverse,Ye,<-aa5]
theorem aD {l:List Keyed}{m:Nat} (h:g<=m):l.take m=l.take g++(l.take m).drop g:=by
 have:=(yX g<|l.take m).symm;rwa [aa3,Qz h] at this
theorem MH.mvA {out:DX}{m n:Nat} (x:MH o a b out m n) (ua:Up o a.toList) (hg:g<=m) (h:∀p∈(a.toList.take m).drop g,∀q∈b.toList.take n,JQ o q p):MH o a b (out++(a.extract g m).reverse) g n:=by
 have ut:Up o (a.toList.take m):=ua.take;have e2:=aD (l:=a.toList) hg;have mo:∀q,q∈(out++(a.extract g m).reverse).toList↔q∈(a.toList.take m).drop g\/q∈out.toList:=λq=>by
  rw[<-QA,VJ,yj,QA]
 refine#[?_,?_,λp hp q hq=>?_]
 ·rw[VJ];refine Yn ?_ x.pm;rw[<-yQ];refine Yw _ ?_
  conv=>rhs;rw[e2]
  rw[yQ,yQ];exact Yr _ Y3
 ·rw[VJ];refine yC.mpr #[ut.drop,x.up,λp hp q hq=>x.le p (yu _<|Y7 hp) q<|QA.mp hq]
 ·rcases (mo q).mp hq with hq|hq
  ·rcases yj.mp hp with hp|hp
   ·rw[e2] at ut;exact (yC.mp ut).2.2 p hp q hq
   ·exact h q hq p hp
  ·refine x.le p ?_ q hq;rcases yj.mp hp with hp|hp
   ·exact yu _ (by rw[e2];exact yu _ hp)
   ·exact yr _ hp
theorem MH.mvB {out:DX}{m n:Nat} (x:MH o a b out m n) (ub:Up o b.toList) (hg:g<=n) (h:∀p∈(b.toList.take n).drop g,∀q∈a.toList.take m,JQ o q p):MH o a b (out++(b.extract g n).reverse) m g:=by
 have ut:Up o (b.toList.take n):=ub.take;have e2:=aD (l:=b.toList) hg;have mo:∀q,q∈(out++(b.extract g n).reverse).toList↔q∈(b.toList.take n).drop g\/q∈out.toList:=λq=>by
  rw[<-QA,VJ,yj,QA]
 refine#[?_,?_,λp hp q hq=>?_]
 ·rw[VJ];refine Yn ?_ x.pm;rw[<-yQ];refine Yw _ ?_
  conv=>rhs;rw[e2]
  rw[yQ]
 ·rw[VJ];refine yC.mpr #[ut.drop,x.up,λp hp q hq=>x.le p (yr _<|Y7 hp) q<|QA.mp hq]
 ·rcases (mo q).mp hq with hq|hq
  ·rcases yj.mp hp with hp|hp
   ·exact h q hq p hp
   ·rw[e2] at ut;exact (yC.mp ut).2.2 p hp q hq
  ·refine x.le p ?_ q hq;rcases yj.mp hp with hp|hp
   ·exact yu _ hp
   ·exact yr _ (by rw[e2];exact yu _ hp)
theorem kP {m:Nat}:(xs.extract 0 m).toList=xs.toList.take m:=by
 rw[Qi,Ye,aa4,Nat.sub_zero]
theorem MH.endC {out:DX}{m n:Nat} (x:MH o a b out m n) (ua:Up o a.toList) (ub:Up o b.toList) (h:m=0\/n=0):Mg o a b (Vv a b out m n):=by
 have e:(Vv a b out m n).toList=(a.toList.take m++b.toList.take n)++out.toList.reverse:=by
  unfold Vv;rw[Qg,Qg,kP,kP,aaz]
 refine#[by rw[e];exact x.pm,?_];rw[e];refine yC.mpr #[?_,x.up,λp hp q hq=>x.le p hp q<|QA.mp hq];rcases h with rfl|rfl
 ·rw[aaA,QP];exact ub.take
 ·rw[aaA,yK];exact ua.take
theorem MH.endD {out:DX}{m n:Nat} (x:MH o a b out m n) (ua:Up o a.toList) (hn:n=1) (hb:0<b.size) (h0:∀p∈a.toList,JQ o b[0] p):Mg o a b (kM a b out m n):=by
 have e1:b.toList.take n=[b[0]]:=by
  rw[hn,List.take_one];have:b.toList.head?=some b[0]:=by rw[List.head?_eq_getElem?];simp [hb]
  rw[this];rfl
 have e:(kM a b out m n).toList=(b.toList.take n++a.toList.take m)++out.toList.reverse:=by
  unfold kM;rw[Qg,Qg,kP,kP,aaz]
 refine#[?_,?_]
 ·rw[e];exact Yn (Yw _ Y3) x.pm
 ·rw[e];refine yC.mpr #[yC.mpr #[by rw[e1];exact QN _ _,ua.take,λp hp q hq=>?_],x.up,λp hp q hq=>x.le p ?_ q<|QA.mp hq]
  ·rw[e1,yi] at hp;rw[hp];exact h0 q (Qp hq)
  ·rcases yj.mp hp with hp|hp
   ·exact yr _ hp
   ·exact yu _ hp
theorem Zu {out:DX}{m:Nat} (h1:1<=m) (hm:m<=xs.size):out.push (xs[m - 1]'(by omega))=out++(xs.extract (m - 1) m).reverse:=by
 have:=xG (xs:=xs) (i:=m - 1) (by omega);rw[show m - 1+1=m by lia] at this;rw[this,abu]
 rfl
theorem zW {m:Nat}{p:Keyed} (h:p∈(xs.toList.take m).drop g):∃k,∃hk:k<xs.size,g<=k/\k<m/\p=xs[k]:=by
 obtain⟨k,hk,e⟩:=QS.mp h;rw[Ql,yM,yD] at hk;refine#[g+k,by omega,by lia,by omega,?_];rw[<-e,YZ,YY,QL]
theorem Zo {m:Nat}{p:Keyed} (h:p∈xs.toList.take m):∃k,∃hk:k<xs.size,k<m/\p=xs[k]:=by
 obtain⟨k,hk,e⟩:=QS.mp h;rw[yM,yD] at hk;refine#[k,by lia,by lia,?_];rw[<-e,YY,QL]
structure HI (o:KeyKind) (a b:DX) (st:SortSt) (t:Nat) (out:DX) (m n:Nat) (y:SortSt):Prop where
 sm:Sm st y
 mh:MH o a b out m n
 m1:1<=m
 ma:m<=a.size
 n2:2<=n
 nb:n<=b.size
 tt:m+n+t<=a.size+b.size
def xc (o:KeyKind) (a b:DX) (st:SortSt) (t:Nat) (c:HS) (y:SortSt):Prop:=(∃r,c.1=some r/\Sm st y/\Mg o a b r)\/(c.1=none/\HI o a b st t c.2.2.2.1 c.2.1 c.2.2.1 y)
def dw (o:KeyKind) (a b:DX) (st:SortSt) (t:Nat):ForInStep HS->SortSt->Prop:=λr y=>match r with|.done c=>xc o a b st t c y|.yield c=>c.1=none/\HI o a b st t c.2.2.2.1 c.2.1 c.2.2.1 y
theorem iI {st y:SortSt}{t m n:Nat}{out:DX} (T:Z2 o f z a b st) (sm:Sm st y) (mh:MH o a b out m n) (m1:1<=m) (ma:m<=a.size) (n2:2<=n) (nb:n<=b.size) (tt:m+n+t<=a.size+b.size+1) (h:∀q∈b.toList.take n,∀hm:m - 1<a.size,JQ o q a[m - 1]) :
  wpS (model prog w) A E s (xR a b m mg ca cb out n) (dw o a b st t) y:=by
 refine wpS_bind (JI (show m - 1<a.size by lia) ?_);have m2:MH o a b (out.push a[m - 1]) (m - 1) n:=by
  rw[Zu m1 ma];refine mh.mvA T.ua (by lia) λp hp q hq=>?_;obtain⟨k,hk,k1,k2,rfl⟩:=zW hp;obtain rfl:k=m - 1:=by lia
  exact h q hq hk
 rcases yx 0 (m - 1) with h1|h1
 ·rw[if_neg (by rw[beq_iff_eq];lia)];have hi:HI o a b st t (out.push a[m - 1]) (m - 1) n y:=#[sm,m2,h1,by lia,n2,nb,by lia];split
  ·exact wpS_pure (.inr #[rfl,hi])
  ·exact wpS_pure #[rfl,hi]
 ·rw[if_pos (by rw[beq_iff_eq];lia)];exact wpS_pure (.inl #[_,rfl,sm,m2.endC T.ua T.ub (.inl (by lia))])
theorem iH {st y:SortSt}{t m n:Nat}{out:DX} (O:UY prog w A s f o z) (T:Z2 o f z a b st) (sm:Sm st y) (mh:MH o a b out m n) (m1:1<=m) (ma:m<=a.size) (n2:2<=n) (nb:n<=b.size) (tt:m+n+t<=a.size+b.size) (h:∀q∈a.toList.take m,∀hn:n - 1<b.size,JQ o q b[n - 1]) :
  wpS (model prog w) A E s (Uf a b n mg ca cb out m) (dw o a b st t) y:=by
 refine wpS_bind (JI (show n - 1<b.size by lia) ?_);have m2:MH o a b (out.push b[n - 1]) m (n - 1):=by
  rw[Zu (by lia) nb];refine mh.mvB T.ub (by lia) λp hp q hq=>?_;obtain⟨k,hk,k1,k2,rfl⟩:=zW hp;obtain rfl:k=n - 1:=by lia
  exact h q hq hk
 have h0:∀p∈a.toList,JQ o b[0] p:=λp hp=>T.h0 p hp (by omega);rcases yx 1 (n - 1) with h1|h1
 ·rw[if_neg (by rw[beq_iff_eq];lia)];refine wpS_bind (JI (show m - 1<a.size by lia) (wpS_bind (G0 O (sm.kd.trans T.kd) T.mb (T.ma _<|u5 _) (by lia) (by omega) (λg k L3 hk _=>T.ub.at_ (by lia) hk) λg hg less rest=>?_)));simp only[Nat.zero_add] at less rest;show wpS _ _ _ _ (if n - 1 - g > 0 then _ else _) _ _;have below:∀q∈b.toList.take g,∀hm:m - 1<a.size,JQ o q a[m - 1]:=λq hq hm=>by
   obtain⟨k,hk,k1,rfl⟩:=Zo hq;exact KeyOrd.kle_of_klt (less k hk k1)
  rcases yx g (n - 1) with h2|h2
  ·rw[if_pos (by omega)];have m3:MH o a b (out.push b[n - 1]++(b.extract g<|n - 1).reverse) m g:=m2.mvB T.ub (by omega) λp hp q hq=>by
    obtain⟨k,hk,k1,k2,rfl⟩:=zW hp;obtain⟨k',Rj,k3,rfl⟩:=Zo hq;exact uD (T.ua.at_ (by lia) (show m - 1<a.size by lia)) (rest k hk k1 (by omega))
   rcases yx 1 g with h3|h3
   ·rw[if_neg (by rw[beq_iff_eq];lia),if_neg (by rw[beq_iff_eq];lia)];exact iI T sm m3 m1 ma h3 (by lia) (by lia) below
   ·rcases yx 0 g with h4|h4
    ·rw[if_pos (by rw[beq_iff_eq];lia)];exact wpS_pure (.inl #[_,rfl,sm,m3.endD T.ua (by lia) (by lia) h0])
    ·rw[if_neg (by rw[beq_iff_eq];lia),if_pos (by rw[beq_iff_eq];lia)];exact wpS_pure (.inl #[_,rfl,sm,m3.endC T.ua T.ub (.inr (by lia))])
  ·rw[if_neg (by omega)];obtain rfl:g=n - 1:=by lia
   exact iI T sm m2 m1 ma h1 (by lia) (by lia) below
 ·rw[if_pos (by rw[beq_iff_eq];lia)];exact wpS_pure (.inl #[_,rfl,sm,m2.endD T.ua (by lia) (by lia) h0])
theorem iG {st y:SortSt}{t m n:Nat}{out:DX} (O:UY prog w A s f o z) (T:Z2 o f z a b st) (hi:HI o a b st t out m n y) :
  wpS (model prog w) A E s (GC a b out m n ca cb mg) (dw o a b st t) y:=by
 obtain⟨Wg,mh,m1,ma,n2,nb,tt⟩:=hi;refine wpS_bind (Ge λy' s'=>?_);have sm:=Wg.trans s';refine wpS_bind (JI (show n - 1<b.size by lia) (wpS_bind (gb O (sm.kd.trans T.kd) T.ma (T.mb _<|u5 _) (by lia) (by omega) (λg k L3 hk _=>T.ua.at_ (by lia) hk) λg hg less rest=>?_)));simp only[Nat.zero_add] at less rest;show wpS _ _ _ _ (if m - g > 0 then _ else _) _ _;have below:∀q∈a.toList.take g,∀hn:n - 1<b.size,JQ o q b[n - 1]:=λq hq hn=>by
  obtain⟨k,hk,k1,rfl⟩:=Zo hq;exact less k hk k1
 rcases yx g m with h2|h2
 ·rw[if_pos (by lia)];have m2:MH o a b (out++(a.extract g m).reverse) g n:=mh.mvA T.ua (by omega) λp hp q hq=>by
   obtain⟨k,hk,k1,k2,rfl⟩:=zW hp;obtain⟨k',Rj,k3,rfl⟩:=Zo hq;exact uD (T.ub.at_ (by lia) (show n - 1<b.size by lia)) (KeyOrd.kle_of_klt (rest k hk k1 (by omega)))
  rcases yx 0 g with h3|h3
  ·rw[if_neg (by rw[beq_iff_eq];lia)];exact iH O T sm m2 h3 (by lia) n2 nb (by lia) below
  ·rw[if_pos (by rw[beq_iff_eq];lia)];exact wpS_pure (.inl #[_,rfl,sm,m2.endC T.ua T.ub (.inl (by lia))])
 ·rw[if_neg (by lia)];obtain rfl:g=m:=by lia
  exact iH O T sm mh m1 ma n2 nb tt below
theorem Aj {st:SortSt}{Q:Array Keyed->SortSt->Prop} (O:UY prog w A s f o z) (T:Z2 o f z a b st) (ha:0<a.size) (hb:0<b.size) (q:∀m y,Sm st y->Mg o a b m->Q m y):wpS (model prog w) A E s (rX a b) Q st:=by
 rw[Ai];have S0:a.size - 1<a.size:=by omega
 have h0:∀p∈a.toList,JQ o b[0] p:=λp hp=>T.h0 p hp hb;refine wpS_bind<|wpS_lift<|wpAny_rule #[rfl,wpS_bind<|JI S0 ?_];have m1:MH o a b (Ya [a[a.size - 1]]) (a.size - 1) b.size:=by
  have e:a.toList=a.toList.take (a.size - 1)++[a[a.size - 1]]:=by
   have:=(yX (a.size - 1) a.toList).symm;rw[yN (by simpa using S0),QE (by simp;omega)] at this;simpa using this
  have eb:b.toList.take b.size=b.toList:=QD (by simp);refine#[?_,QN _ _,λp hp q hq=>?_]
  ·rw[eb];show ((a.toList.take (a.size - 1)++b.toList)++[a[a.size - 1]]).Perm _
   conv=>rhs;rw[e]
   rw[yQ,yQ];exact Yr _ Y3
  ·obtain rfl:=yi.mp hq;rcases yj.mp hp with hp|hp
   ·obtain⟨k,hk,k1,rfl⟩:=Zo hp;exact T.ua.at_ (by lia) S0
   ·exact T.hl p (Qp hp) S0
 rcases yx 1 a.size with L4|L4
 rotate_left
 ·rw[if_pos (by rw[beq_iff_eq];lia)];exact wpS_pure (q _ _ (Sm.refl _) (m1.endC T.ua T.ub (.inl (by lia))))
 rw[if_neg (by rw[beq_iff_eq];omega)];rcases yx 1 b.size with FI|FI
 rotate_left
 ·rw[if_pos (by rw[beq_iff_eq];lia)];exact wpS_pure (q _ _ (Sm.refl _) (m1.endD T.ua (by lia) hb h0))
 rw[if_neg (by rw[beq_iff_eq];lia)];refine wpS_bind (wpS_get (wpS_bind (wpS_mono (wpS_forRange (I:=λx c y=>c.1=none/\HI o a b st (1+x) c.2.2.2.1 c.2.1 c.2.2.1 y) (Q:=λc y=>∃m,c.1=some m/\Sm st y/\Mg o a b m) (λx c y _ _ hy=>?_) (λc y hy=>?_) #[rfl,Sm.refl _,m1,by show 1<=a.size - 1;omega,by show a.size - 1<=_;lia,FI,yh _,by show a.size - 1+b.size+(1+0)<=_;lia]) λc y hy=>?_)))
 ·revert c
  refine si λc1 m n out mg=>?_;intro hy;obtain⟨e1,li⟩:=hy;refine wpS_bind (wpS_mono (wpS_forRange (I:=λx' c y=>c.1=none/\HI o a b st (1+x+x') c.2.2.2.1 c.2.1 c.2.2.1 y) (Q:=λc y=>(∃m,c.1=some m/\Sm st y/\Mg o a b m)\/(c.1=none/\HI o a b st (1+x+1) c.2.2.2.1 c.2.1 c.2.2.1 y)) (λx' c y _ _ hy=>?_) (λc y hy=>?_) #[rfl,li]) λc y hy=>?_)
  ·revert c
   refine sj λc1 m n out ca cb=>?_;intro hy;obtain⟨e1,sm,mh,m1,ma,n2,nb,tt⟩:=hy;change 1<=m at m1;change m<=a.size at ma;change 2<=n at n2;change n<=b.size at nb;change m+n+(1+x+x')<=a.size+b.size at tt;change MH o a b out m n at mh;refine wpS_bind (JI (show n - 1<b.size by lia) (wpS_bind (JI (show m - 1<a.size by lia)<|wpS_bind<|Kg O (sm.kd.trans T.kd) (T.mb _<|u5 _) (T.ma _<|u5 _) ?_)));show wpS _ _ _ _ (if o.blt (kv o (b[n - 1]'(by lia))) (kv o (a[m - 1]'(by lia)))=true then _ else _) _ _;cases hv:o.blt (kv o (b[n - 1]'(by lia))) (kv o (a[m - 1]'(by lia))) with
   | true =>
    rw[if_pos rfl];refine wpS_bind (JI (show m - 1<a.size by lia) ?_);have m2:MH o a b (out.push (a[m - 1]'(by lia))) (m - 1) n:=by
     rw[Zu m1 ma];refine mh.mvA T.ua (by lia) λp hp q hq=>?_;obtain⟨k,hk,k1,k2,rfl⟩:=zW hp;obtain rfl:k=m - 1:=by lia
     obtain⟨g,hg,g1,rfl⟩:=Zo hq;exact uD (T.ub.at_ (show g<=n - 1 by lia) (show n - 1<b.size by lia)) (KeyOrd.kle_of_klt hv)
    show wpS _ _ _ _ (if (m - 1==0)=true then _ else _) _ _;rcases yx 0 (m - 1) with h1|h1
    ·rw[if_neg (by rw[beq_iff_eq];lia)];have li:∀t,m - 1+n+t<=a.size+b.size->HI o a b st t (out.push (a[m - 1]'(by lia))) (m - 1) n y:=λt ht=>#[sm,m2,h1,by lia,n2,nb,ht];show wpS _ _ _ _ (if ca+1>=mg then _ else _) _ _;split
     ·exact wpS_pure (.inr #[rfl,li _ (by lia)])
     ·exact wpS_pure #[rfl,li _ (by lia)]
    ·rw[if_pos (by rw[beq_iff_eq];lia)];exact wpS_pure (.inl #[_,rfl,sm,m2.endC T.ua T.ub (.inl (by lia))])
   | false =>
    rw[if_neg yA];refine wpS_bind (JI (show n - 1<b.size by lia) ?_);have m2:MH o a b (out.push (b[n - 1]'(by lia))) m (n - 1):=by
     rw[Zu (show 1<=n by lia) nb];refine mh.mvB T.ub (by lia) λp hp q hq=>?_;obtain⟨k,hk,k1,k2,rfl⟩:=zW hp;obtain rfl:k=n - 1:=by lia
     obtain⟨g,hg,g1,rfl⟩:=Zo hq;exact uD (T.ua.at_ (show g<=m - 1 by lia) (show m - 1<a.size by lia)) hv
    show wpS _ _ _ _ (if (n - 1==1)=true then _ else _) _ _;rcases yx 1 (n - 1) with h1|h1
    ·rw[if_neg (by rw[beq_iff_eq];lia)];have li:∀t,m+(n - 1)+t<=a.size+b.size->HI o a b st t (out.push (b[n - 1]'(by lia))) m (n - 1) y:=λt ht=>#[sm,m2,m1,ma,h1,by lia,ht];show wpS _ _ _ _ (if cb+1>=mg then _ else _) _ _;split
     ·exact wpS_pure (.inr #[rfl,li _ (by lia)])
     ·exact wpS_pure #[rfl,li _ (by lia)]
    ·rw[if_pos (by rw[beq_iff_eq];lia)];exact wpS_pure (.inl #[_,rfl,sm,m2.endD T.ua (by lia) hb h0])
  ·obtain⟨e1,li⟩:=hy;exact .inr #[e1,li.sm,li.mh,li.m1,li.ma,li.n2,li.nb,ym (by lia) li.tt]
  ·revert c
   refine sj λc1 m n out ca cb=>?_;intro hy;rcases hy with ⟨m,rfl,sm,mm⟩|⟨rfl,li⟩
   ·exact wpS_pure #[m,rfl,sm,mm]
   ·refine wpS_bind (wpS_lift (wpAny_rule #[rfl,wpS_bind (wpS_mono (wpS_forRange (I:=λx' c y=>c.1=none/\HI o a b st (1+x+1) c.2.2.2.1 c.2.1 c.2.2.1 y) (Q:=xc o a b st<|1+x+1) (λx' c y _ _ hy=>?_) (λc y hy=>.inr hy) #[rfl,li]) λc y hy=>?_)]))
    ·revert c
     refine sk λc1 m n out mg ca cb=>?_;intro hy;obtain⟨e1,li⟩:=hy;show wpS _ _ _ _ (if mg > 1 then GC a b out m n ca cb (mg - 1) else GC a b out m n ca cb mg) _ _;change HI o a b st (1+x+1) out m n y at li;split
     ·exact wpS_mono (iG O T li) λr y h=>by cases r<;>exact h
     ·exact wpS_mono (iG O T li) λr y h=>by cases r<;>exact h
    ·revert c
     refine sk λc1 m n out mg ca cb=>?_;intro hy;rcases hy with ⟨m,rfl,sm,mm⟩|⟨rfl,li⟩
     ·exact wpS_pure #[m,rfl,sm,mm]
     ·exact wpS_bind (Ge λy' s'=>wpS_pure #[rfl,li.sm.trans s',li.mh,li.m1,li.ma,li.n2,li.nb,by have:=li.tt;omega])
 ·obtain⟨e1,li⟩:=hy;have h1:=li.m1;have h2:=li.n2;have h3:=li.tt
  lia
 ·revert c
  refine si λc1 m n out mg=>?_;intro hy;obtain⟨m,rfl,sm,mm⟩:=hy;exact wpS_pure (q m y sm mm)
end
theorem Ag (i:Nat):mergeAt' i=(do
  let t <-get
  let (some (sa,na,pw),some (sb,nb,_)):=((pendingOf t)[i]?,(pendingOf t)[i+1]?)|unsupported "internal:list.sort.pending"
  set (setPending t<|((pendingOf t).setIfInBounds i (sa,na+nb,pw)).eraseIdxIfInBounds<|i+1)
  let some k <-zq false (<-elem' (arrOf t) sb) (arrOf t) sa na 0|return false
  let (sa,na):=(sa+k,na - k)
  if na==0 then return true
  let some nb <-zq true (<-elem' (arrOf t) (sa+na - 1)) (arrOf t) sb nb (nb - 1)|return false
  if nb==0 then return true
  let x:=(arrOf t).extract sa sb
  let y:=(arrOf t).extract sb (sb+nb)
  let m <-if na<=nb then rY x y else rX x y
  modify λt=>setArr t (m.toList.zipIdx.foldl (λu (p,j)=>u.setIfInBounds (sa+j) p)<|arrOf t)
  return (failedOf<|<-get).isNone):=rfl
def j3 (xs:DX) (lo n:Nat):List Keyed:=(xs.toList.drop lo).take n
theorem cW {n:Nat}:(xs.extract lo<|lo+n).toList=j3 xs lo n:=by
 rw[Qi,Ye,YV];rfl
theorem vA (xs:DX) (lo k n:Nat) (h:k<=n):j3 xs lo n=j3 xs lo k++j3 xs (lo+k) (n - k):=by
 unfold j3;have:=(yX k<|(xs.toList.drop lo).take n).symm;rw[aa3,Qz h,aa5,aae] at this;exact this
theorem VO {n:Nat}{p:Keyed} (h:p∈j3 xs lo n):∃k,∃hk:lo+k<xs.size,k<n/\p=xs[lo+k]:=V6 h
theorem cX {n:Nat}{p:Keyed} (h:p∈j3 xs lo n):p∈xs.toList:=Y7 (Qp h)
theorem wz {n:Nat} (h:lo+n<=xs.size):(j3 xs lo n).length=n:=by
 unfold j3;rw[yM,Ql,yD];lia
theorem Gf {n:Nat} (h:i<(j3 xs lo n).length) (h2:lo+i<xs.size):(j3 xs lo n)[i]=xs[lo+i]:=by
 simp only[j3,YY,YZ,QL]
section
variable {prog:Ee}{w:World}{A:Around}{E:DO}{s:Shared}{f:SortKind}{z:DX}{o:KeyKind}
theorem KB {n:Nat} (u:Up o (j3 xs lo n)) (EF:i<=j) (hj:j<n) (h:lo+j<xs.size):JQ o (xs[lo+i]'(by omega)) xs[lo+j]:=by
 rcases yx i j with hl|hl
 ·have hlen:lo+j<xs.size->j<(j3 xs lo n).length:=λh=>by unfold j3;rw[yM,Ql,yD];lia
  have:=(QJ.mp u) i j (by have:=hlen h;lia) (hlen h) hl;rw[Gf _ (by lia),Gf _ h] at this;exact this
 ·obtain rfl:i=j:=by lia
  exact KeyOrd.kle_refl _
theorem No:∀(l:List Keyed) (xs:DX) (at_ k:Nat),at_+k+l.length<=xs.size->((l.zipIdx k).foldl (λ(u:DX) (x:Keyed×Nat)=>match x with|(p,j)=>u.setIfInBounds (at_+j) p) xs).toList=xs.toList.take (at_+k)++l++xs.toList.drop (at_+k+l.length)
 | [],xs,at_,k,_=>by
  show xs.toList=_;rw[yK,abK,abp,yX]
 | p::r,xs,at_,k,h=>by
  rw[Qa] at h;rw[aao,List.foldl_cons];have e1:(xs.setIfInBounds (at_+k) p).toList=xs.toList.set (at_+k) p:=aa1 ..;have hl:at_+k<xs.toList.length:=by rw[yD];lia
  have e2:=List.set_eq_take_append_cons_drop (l:=xs.toList) (i:=at_+k) (a:=p);rw[if_pos hl] at e2;have ih:=No r (xs.setIfInBounds (at_+k) p) at_ (k+1) (by rw[Array.size_setIfInBounds];lia);refine ih.trans ?_;have lt:(xs.toList.take<|at_+k).length=at_+k:=by rw[yM];lia
  have t1:(xs.toList.set (at_+k) p).take (at_+(k+1))=xs.toList.take (at_+k)++[p]:=by
   rw[e2,List.take_append,lt,show at_+(k+1) - (at_+k)=1 by lia,QD (by rw[lt];lia)]
   rfl
  have t2:(xs.toList.set (at_+k) p).drop (at_+(k+1)+r.length)=xs.toList.drop (at_+k+(r.length+1)):=by
   rw[List.drop_set_of_lt (by lia)];congr 1;lia
  rw[e1,t1,t2,Qa];simp
theorem wo {at_:Nat}{m:List Keyed} (h:at_+m.length<=xs.size) (e:ys.toList=xs.toList.take at_++m++xs.toList.drop (at_+m.length)) :
  (∀k n,k+n<=at_->j3 ys k n=j3 xs k n)/\(∀k n,at_+m.length<=k->j3 ys k n=j3 xs k n)/\j3 ys at_ m.length=m:=by
 have lt:(xs.toList.take at_).length=at_:=by rw[yM,yD];lia
 refine#[λk n hk=>?_,λk n hk=>?_,?_]
 ·unfold j3;rw[e,yQ,List.drop_append_of_le_length (by rw[lt];lia),List.take_append_of_le_length (by rw[Ql,lt];lia),aa5,aa3,Qz (by lia)]
 ·unfold j3;rw[e,abI,ye,lt,QE (by rw[ye,lt];exact hk),QP,aae];congr 2;lia
 ·unfold j3;rw[e,yQ,abI,lt,QE (by rw[lt];lia),QP,Y1,aa4,List.take_left']
  rfl
structure Gd (f:SortKind) (z:DX) (y:SortSt):Prop where
 pm:(arrOf y).Perm z
 kd:kindOf y=f
 fl:failedOf y=none
theorem Gd.sz {y:SortSt} (g:Gd f z y):(arrOf y).size=z.size:=g.pm.size_eq
theorem Gd.mem {y:SortSt} (g:Gd f z y):∀p∈(arrOf y).toList,p∈z.toList:=λp hp=>(Array.perm_iff_toList_perm.mp g.pm).mem_iff.mp hp
theorem eP {v:Nat×Nat×Nat} (h:ps.toList=l1++x::y::l2):((ps.setIfInBounds l1.length v).eraseIdxIfInBounds<|l1.length+1).toList=l1++v::l2:=by
 rw[Array.toList_eraseIdxIfInBounds,aa1,h]
 induction l1 generalizing ps with
 | nil=>rfl
 | cons a r ih=>exact congrArg (a::·) (ih (ps:=(r++x::y::l2).toArray) rfl)
theorem wj (h:ps.toList=l1++x::y::l2):ps[l1.length]?=some x/\ps[l1.length+1]?=some y:=by
 rw[<-Qc,<-Qc,h];constructor
 ·simp
 ·rw[yl (by lia)];simp
theorem rA {a1 a2 b1 b2 m:List Keyed} (ua:Up o (a1++a2)) (ub:Up o (b1++b2)) (um:Up o m) (pm:m.Perm (a2++b1)) (h1:∀p∈a1,∀q∈b1++b2,JQ o p q) (h2:∀p∈a2,∀q∈b2,JQ o p q):Up o (a1++m++b2):=by
 obtain⟨u1,_,c1⟩:=yC.mp ua;obtain⟨_,u2,c2⟩:=yC.mp ub;refine yC.mpr #[yC.mpr #[u1,um,λp hp q hq=>?_],u2,λp hp q hq=>?_]
 ·rcases yj.mp (pm.mem_iff.mp hq) with hq|hq
  ·exact c1 p hp q hq
  ·exact h1 p hp q (yu _ hq)
 ·rcases yj.mp hp with hp|hp
  ·exact h1 p hp q (yr _ hq)
  ·rcases yj.mp (pm.mem_iff.mp hp) with hp|hp
   ·exact h2 p hp q hq
   ·exact c2 p hp q hq
theorem AI {v y:SortSt}{Q:PUnit->SortSt->Prop} (h:Q #[] v):wpS (model prog w) A E s (set v:StateT SortSt Sem PUnit) Q y:=wpS_modify (f:=λ_=>v) h
theorem Ah {st:SortSt}{sa na pa sb nb pb:Nat}{Q:Bool->SortSt->Prop} (O:UY prog w A s f o z) (g:Gd f z st) (hp:(pendingOf st).toList=l1++(sa,na,pa)::(sb,nb,pb)::l2) (LA:sb=sa+na) (n1:1<=na) (n2:1<=nb) (hsz:sb+nb<=z.size) (u1:Up o (j3 (arrOf st) sa na)) (u2:Up o (j3 (arrOf st) sb nb))
  (q:∀y,Gd f z y->(pendingOf y).toList=l1++(sa,na+nb,pa)::l2->Up o (j3 (arrOf y) sa<|na+nb)->(∀k n,k+n<=sa->j3 (arrOf y) k n=j3 (arrOf st) k n)->(∀k n,sb+nb<=k->j3 (arrOf y) k n=j3 (arrOf st) k n)->Q true y):wpS (model prog w) A E s (mergeAt' l1.length) Q st:=by
 have gz:=g.sz;have gm:=g.mem;generalize O8:arrOf st=xs at gz gm u1 u2 q;obtain⟨p1,p2⟩:=wj hp;rw[Ag];refine wpS_bind<|wpS_get ?_;rw[p1,p2,O8];have hP:=eP (v:=(sa,na+nb,pa)) hp;show wpS _ _ _ _ ((set (setPending st<|((pendingOf st).setIfInBounds l1.length (sa,na+nb,pa)).eraseIdxIfInBounds<|l1.length+1):StateT SortSt Sem PUnit)>>=_) _ _;generalize IH:((pendingOf st).setIfInBounds l1.length (sa,na+nb,pa)).eraseIdxIfInBounds (l1.length+1)=ps at hP;refine wpS_bind<|AI ?_;have g1:Gd f z (setPending st ps):=#[g.pm,g.kd,g.fl];have Wh:sb<xs.size:=by lia
 have eu:∀y:SortSt,arrOf y=xs->Up o (j3 xs sa<|na+nb)->Gd f z y->(pendingOf y).toList=l1++(sa,na+nb,pa)::l2->Q true y:=λy ey u gy py=>q y gy py (by rw[ey];exact u) (λk n _=>by rw[ey]) (λk n _=>by rw[ey]);have whole:j3 xs sa (na+nb)=j3 xs sa na++j3 xs sb nb:=by
  have:=vA xs sa na (na+nb) (by lia);rw[this,show na+nb - na=nb by lia,<-LA]
 refine wpS_bind (JI Wh (wpS_bind (gb O g1.kd gm (gm _<|u5 _) (by lia) (by lia) (λi j EF hj Wj=>KB u1 EF Wj hj) λk hk less rest=>?_)));have b0:∀q∈j3 xs sb nb,JQ o xs[sb] q:=λq hq=>by
  obtain⟨j,hj,j1,rfl⟩:=VO hq;exact KB u2 (i:=0) (yL _) j1 hj
 have Wl:∀p∈j3 xs sa k,∀q∈j3 xs sb nb,JQ o p q:=λp hp q hq=>by
  obtain⟨j,hj,j1,rfl⟩:=VO hp;exact uD (less j hj j1) (b0 q hq)
 have ea:=vA xs sa k na hk;show wpS _ _ _ _ (if (na - k==0)=true then _ else _) _ _;rcases yx k na with hkn|hkn
 rotate_left
 ·rw[if_pos (by rw[beq_iff_eq];lia)];obtain rfl:k=na:=by lia
  refine wpS_pure<|eu _ O8 ?_ g1 hP;rw[whole];exact yC.mpr #[u1,u2,Wl]
 rw[if_neg (by rw[beq_iff_eq];lia)];have hla:sa+k+(na - k) - 1<xs.size:=by omega
 have eix:sa+k+(na - k) - 1=sa+(na - 1):=by omega
 refine wpS_bind (JI hla (wpS_bind (G0 O g1.kd gm (gm _<|u5 _) (by lia) (by omega) (λi j EF hj Wj=>KB u2 EF Wj hj) λEL hnb LB ER=>?_)));simp only[eix] at LB ER;have eb:=vA xs sb EL nb hnb;have Rk:∀p∈j3 xs (sa+k) (na - k),∀q∈j3 xs (sb+EL) (nb - EL),JQ o p q:=λp hp q hq=>by
  obtain⟨i,hi,i1,rfl⟩:=VO hp;obtain⟨j,hj,j1,rfl⟩:=VO hq;have h1:=KB u1 (i:=k+i) (j:=na - 1) (by lia) (by lia) (by lia);have h2:=ER (EL+j) (by lia) (by lia) (by lia);have e1:sa+(k+i)=sa+k+i:=by lia
  have e2:sb+(EL+j)=sb+EL+j:=by lia
  simp only[e1] at h1;simp only[e2] at h2;exact uD h1 h2
 show wpS _ _ _ _ (if (EL==0)=true then _ else _) _ _;rcases abD EL with h0|h0
 ·subst h0;rw[if_pos (by rw[beq_iff_eq])];refine wpS_pure<|eu _ O8 ?_ g1 hP;rw[whole];refine yC.mpr #[u1,u2,λp hp q hq=>?_];rw[ea] at hp;rcases yj.mp hp with hp|hp
  ·exact Wl p hp q hq
  ·exact Rk p hp q hq
 rw[if_neg (by rw[beq_iff_eq];lia)];have ex:(xs.extract (sa+k) sb).toList=j3 xs (sa+k) (na - k):=by
  rw[show sb=sa+k+(na - k) by omega];exact cW
 have ey:(xs.extract sb<|sb+EL).toList=j3 xs sb EL:=cW;have sx:(xs.extract (sa+k) sb).size=na - k:=by rw[aby];lia
 have sy:(xs.extract sb<|sb+EL).size=EL:=by rw[aby];lia
 have T:Z2 o f z (xs.extract (sa+k) sb) (xs.extract sb<|sb+EL) (setPending st ps):=by
  refine#[g1.kd,λp hp=>?_,λp hp=>?_,?_,?_,λp hp hi=>?_,λp hp hi=>?_]
  ·rw[ex] at hp;exact gm p (cX hp)
  ·rw[ey] at hp;exact gm p (cX hp)
  ·rw[ex];rw[ea] at u1;exact (yC.mp u1).2.1
  ·rw[ey];rw[eb] at u2;exact (yC.mp u2).1
  ·rw[ey] at hp;obtain⟨j,hj,j1,rfl⟩:=VO hp;have h:=KeyOrd.kle_of_klt<|LB j hj j1;rw[abn];have e1:sa+k+((xs.extract (sa+k) sb).size - 1)=sa+(na - 1):=by rw[sx];lia
   simp only[e1];exact h
  ·rw[ex] at hp;obtain⟨j,hj,j1,rfl⟩:=VO hp;rw[abn];have h:=KeyOrd.kle_of_klt (rest (k+j) (by lia) (by lia) (by omega));have e1:sa+(k+j)=sa+k+j:=by lia
   simp only[e1] at h;exact h
 have fin:∀m y,Sm (setPending st ps) y->Mg o (xs.extract (sa+k) sb) (xs.extract sb<|sb+EL) m->wpS (model prog w) A E s (do
   modify λt=>setArr t (m.toList.zipIdx.foldl (λu (p,j)=>u.setIfInBounds (sa+k+j) p)<|arrOf t)
   return (failedOf<|<-get).isNone) Q y:=λm y sm mg=>by
  have ya:arrOf y=xs:=sm.ar.trans O8;have ml:m.toList.length=na - k+EL:=by
   have:=mg.pm.length_eq;rw[ye,yD,yD,yD,sx,sy] at this;rw[yD];exact this
  refine wpS_bind<|wpS_modify<|wpS_bind<|wpS_get<|wpS_pure ?_;have e:=No m.toList xs (sa+k) 0 (by omega);rw[abp] at e;show Q (failedOf y).isNone (setArr y (m.toList.zipIdx.foldl (λu (p,j)=>u.setIfInBounds (sa+k+j) p)<|arrOf y));rw[ya,sm.fl,show failedOf (setPending st ps)=none from g.fl];generalize m.toList.zipIdx.foldl (λ(u:DX) (x:Keyed×Nat)=>match x with|(p,j)=>u.setIfInBounds (sa+k+j) p) xs=ys at e;obtain⟨lo,hi,mid⟩:=wo (by omega) e;have ends:sa+k+m.toList.length=sb+EL:=by omega
  have U₁:m.toList.Perm (j3 xs (sa+k) (na - k)++j3 xs sb EL):=by rw[<-ex,<-ey];exact mg.pm
  refine q (setArr y ys) #[?_,sm.kd.trans g1.kd,sm.fl.trans g1.fl] ((congrArg Array.toList sm.pd).trans hP) ?_ (λk' n Rj=>lo k' n (by lia)) (λk' n Rj=>hi k' n (by lia))
  ·show ys.Perm z;refine Array.Perm.trans (Array.perm_iff_toList_perm.mpr ?_)<|O8▸g.pm;rw[e];have e3:xs.toList=xs.toList.take (sa+k)++(j3 xs (sa+k) (na - k)++j3 xs sb EL)++xs.toList.drop (sa+k+m.toList.length):=by
    have h1:=(yX (sa+k) xs.toList).symm;have h2:=(yX m.toList.length<|xs.toList.drop<|sa+k).symm;rw[aae] at h2;have h3:(xs.toList.drop<|sa+k).take m.toList.length=j3 xs (sa+k) (na - k)++j3 xs sb EL:=by
     have:=vA xs (sa+k) (na - k) (na - k+EL) (by lia);rw[show na - k+EL - (na - k)=EL by lia,show sa+k+(na - k)=sb by lia] at this;rw[ml];exact this
    rw[h3] at h2;rw[h2,<-yQ] at h1;exact h1
   conv=>rhs;rw[e3]
   exact Yw _ (Yr _ U₁)
  ·show Up o (j3 ys sa<|na+nb);have s1:=vA ys sa k (na+nb) (by lia);have s2:=vA ys (sa+k) m.toList.length (na+nb - k) (by lia);rw[s1,s2,mid,lo sa k (by lia),hi _ _ (by lia),ends,show na+nb - k - m.toList.length=nb - EL by lia,<-yQ];refine rA (a2:=j3 xs (sa+k)<|na - k) (b1:=j3 xs sb EL) (by rw[<-ea];exact u1) (by rw[<-eb];exact u2) mg.up U₁ (λp hp q hq=>Wl p hp q (by rw[eb];exact hq)) Rk
 show wpS _ _ _ _ (if na - k<=EL then rY (xs.extract (sa+k) sb) (xs.extract sb<|sb+EL)>>=_ else rX (xs.extract (sa+k) sb) (xs.extract sb<|sb+EL)>>=_) _ _;split
 ·exact wpS_bind (Al O T (by omega) (by lia) fin)
 ·exact wpS_bind (Aj O T (by lia) (by lia) fin)
end
def rP (lo a n:Nat):StateT SortSt Sem AscSt :=
 forIn [a:n] ((none,a):AscSt) λ_ c=>do
  let some r <-ltAt' (lo+c.2) (lo+c.2 - 1)|pure (.done (some none,c.2))
  if r then pure (.done (none,c.2)) else pure (.yield (none,c.2+1))
def rO (lo a n:Nat):StateT SortSt Sem DescSt :=
 forIn [a:n] ((none,a,0):DescSt) λ_ c=>do
  let some r <-ltAt' (lo+c.2.1) (lo+c.2.1 - 1)|pure (.done (some none,c.2.1,c.2.2))
  if r then
   if c.2.2 > 0 then
    reverseSlice' (lo+c.2.1 - (c.2.2+1)) (lo+c.2.1)
    pure (.yield (none,c.2.1+1,0))
   else pure (.yield (none,c.2.1+1,0))
  else
   let some r <-ltAt' (lo+c.2.1 - 1) (lo+c.2.1)|pure (.done (some none,c.2.1,c.2.2))
   if r then pure (.done (none,c.2.1,c.2.2)) else pure (.yield (none,c.2.1+1,c.2.2+1))
section
variable {prog:Ee}{w:World}{A:Around}{E:DO}{s:Shared}{f:SortKind}{z:DX}{o:KeyKind}
theorem NG {st:SortSt}{Q:Option Bool->SortSt->Prop} (O:UY prog w A s f o z) (g:Gd f z st) (hi:i<z.size) (hj:j<z.size) (h:Q (some<|o.blt (KK o (arrOf st) i)<|KK o (arrOf st) j) st):wpS (model prog w) A E s (ltAt' i j) Q st:=by
 have kk:∀{k} (hk:k<(arrOf st).size),KK o _ k=kv o _:=λ{k} hk=>by unfold KK;rw[getElem?_pos _ k hk];rfl
 have h1:=g.sz▸hi;have h2:=g.sz▸hj;rw[kk h1,kk h2] at h;exact wpS_bind (wpS_get<|wpS_bind<|JI h1<|wpS_bind<|JI h2<|Kg O g.kd (g.mem _<|u5 h1) (g.mem _<|u5 h2) h)
structure Rn (f:SortKind) (z:DX) (x:SortSt) (lo:Nat) (y:SortSt):Prop where
 gd:Gd f z y
 pd:pendingOf y=pendingOf x
 low:∀k,k<lo->(arrOf y)[k]?=(arrOf x)[k]?
theorem Rn.refl {x:SortSt} (g:Gd f z x) (lo:Nat):Rn f z x lo x:=#[g,rfl,λ_ _=>rfl]
theorem Rn.mir {x y:SortSt} (r:Rn f z x lo y) (hi:lo<=i) (hj:j<=z.size):Rn f z x lo (setArr y<|mirror (arrOf y) i j<|(j - i) / 2):=by
 refine#[#[(mirror_perm _ _ _ _).trans r.gd.pm,r.gd.kd,r.gd.fl],r.pd,λk hk=>?_];rw[getElem?_mirror_all (by rw[r.gd.sz];exact hj),if_neg (by lia)];exact r.low k hk
def SU (o:KeyKind) (xs:DX) (lo m:Nat):Prop:=∀i j,i<=j->j<m->o.kle (KK o xs<|lo+i) (KK o xs<|lo+j)
def SD (o:KeyKind) (xs:DX) (lo m:Nat):Prop:=∀i j,i<=j->j<m->o.kle (KK o xs<|lo+j) (KK o xs<|lo+i)
theorem SU.more (u:SU o xs lo i) (h:1<=i) (hl:o.kle (KK o xs<|lo+(i - 1)) (KK o xs<|lo+i)):SU o xs lo (i+1):=λg k L3 hk=>by
 rcases yx k i with Rl|Rl
 ·exact u g k L3 Rl
 ·obtain rfl:k=i:=by lia
  rcases yx g k with hg|hg
  ·exact KeyOrd.kle_trans (u g _ (by omega) (by omega)) hl
  ·obtain rfl:g=k:=by lia
   exact KeyOrd.kle_refl _
theorem SD.more (hk:∀k,KK o ys k=KK o xs k) (u:SD o xs lo i) (h:1<=i) (hl:o.kle (KK o xs<|lo+i) (KK o xs<|lo+(i - 1))):SD o ys lo (i+1):=λg k L3 Ri=>by
 rw[hk,hk];rcases yx k i with Rl|Rl
 ·exact u g k L3 Rl
 ·obtain rfl:k=i:=by lia
  rcases yx g k with hg|hg
  ·exact KeyOrd.kle_trans hl (u g _ (by omega) (by omega))
  ·obtain rfl:g=k:=by lia
   exact KeyOrd.kle_refl _
theorem fW {x st:SortSt}{a n:Nat}{Q:AscSt->SortSt->Prop} (O:UY prog w A s f o z) (hn:lo+n<=z.size) (ha:1<=a) (L7:a<=n) (r:Rn f z x lo st) (u:SU o (arrOf st) lo a)
  (q:∀m,a<=m->m<=n->SU o (arrOf st) lo m->(m=n\/o.klt (KK o (arrOf st)<|lo+m) (KK o (arrOf st)<|lo+(m - 1)))->Q (none,m) st):wpS (model prog w) A E s (rP lo a n) Q st:=by
 refine wpS_forRange (I:=λi c y=>y=st/\c=(none,i)/\SU o _ lo i) (λi c y h1 h2 hy=>?_) (λc y hy=>?_) #[rfl,rfl,u]
 ·obtain⟨rfl,rfl,up⟩:=hy;refine wpS_bind (NG O r.gd (by lia) (by lia) ?_);show wpS _ _ _ _ (if o.blt _ _=true then _ else _) _ _;rw[show lo+i - 1=lo+(i - 1) by lia];cases hl:o.blt _ _ with
  | true=>exact wpS_pure (q i h1 (by lia) up<|.inr hl)
  | false=>exact wpS_pure #[rfl,rfl,up.more (by lia) hl]
 ·grind
def xb (k:AscSt->StateT SortSt Sem (Option Nat)):Prop:=∀m,k (none,m)=pure (some m)
theorem bS {k:AscSt->StateT SortSt Sem (Option Nat)} (hk:xb k) {x st:SortSt} {a n:Nat} {Q:Option Nat->SortSt->Prop} (O:UY prog w A s f o z) (hn:lo+n<=z.size) (ha:1<=a) (L7:a<=n) (r:Rn f z x lo st) (d:SD o (arrOf st) lo a)
  (q:∀m y,Rn f z x lo y->1<=m->m<=n->SU o (arrOf y) lo m->Q (some m) y):wpS (model prog w) A E s (reverseSlice' lo (lo+a)>>=λ_=>rP lo a n>>=k) Q st:=by
 have hz:lo+a<=(arrOf st).size:=by rw[r.gd.sz];lia
 have r2:=r.mir (j:=lo+a) (yh _) (by lia);refine wpS_bind (wpS_reverse (wpS_bind (fW O hn ha L7 r2 (λi j EF hj=>?_) λm h1 h2 up _=>by rw[hk];exact wpS_pure (q m _ r2 (by lia) h2 up))));rw[KK_mirror hz,KK_mirror hz,if_pos #[by lia,by lia],if_pos #[by lia,by lia]];have:=d (a - 1 - j) (a - 1 - i) (by omega) (by omega);rw[show lo+(lo+a) - 1 - (lo+i)=lo+(a - 1 - i) by lia,show lo+(lo+a) - 1 - (lo+j)=lo+(a - 1 - j) by lia];exact this
theorem pH {x st:SortSt}{a n:Nat}{Q:DescSt->SortSt->Prop} (O:UY prog w A s f o z) (hn:lo+n<=z.size) (ha:1<=a) (L7:a<=n) (r:Rn f z x lo st) (d:SD o (arrOf st) lo a)
  (q:∀m e y,Rn f z x lo y->a<=m->m<=n->SD o (arrOf y) lo m->e+1<=m->(∀i,lo+m - (e+1)<=i->i<lo+m->KK o (arrOf y) i=KK o (arrOf y) (lo+m - 1))->Q (none,m,e) y):wpS (model prog w) A E s (rO lo a n) Q st:=by
 refine wpS_forRange (I:=λi c y=>∃e,c=(none,i,e)/\Rn f z x lo y/\SD o (arrOf y) lo i/\e+1<=i/\∀k,lo+i - (e+1)<=k->k<lo+i->KK o (arrOf y) k=KK o (arrOf y) (lo+i - 1)) (λi c y h1 h2 hy=>?_) (λc y hy=>?_) #[0,rfl,r,d,by omega,λk p1 p2=>congrArg _ (by lia)]
 ·obtain⟨e,rfl,r2,dn,he,eqs⟩:=hy;have hz:lo+i<=(arrOf y).size:=by rw[r2.gd.sz];lia
  refine wpS_bind (NG O r2.gd (show lo+i<_ by lia) (show lo+i - 1<_ by lia) ?_);show wpS _ _ _ _ (if o.blt (KK o (arrOf y)<|lo+i) (KK o (arrOf y)<|lo+i - 1)=true then _ else _) _ _;have ei:lo+i - 1=lo+(i - 1):=by lia
  cases hl:o.blt (KK o (arrOf y)<|lo+i) (KK o (arrOf y)<|lo+i - 1) with
  | true =>
   rw[if_pos rfl];have hle:o.kle (KK o (arrOf y)<|lo+i) (KK o (arrOf y)<|lo+(i - 1)):=by rw[<-ei];exact KeyOrd.kle_of_klt (O:=o.toKeyOrd) hl
   show wpS _ _ _ _ (if e > 0 then _ else _) _ _;by_cases h0:e > 0
   ·rw[if_pos h0];exact wpS_bind (wpS_reverse (wpS_pure #[0,rfl,r2.mir (show lo<=lo+i - (e+1) by lia) (show lo+i<=_ by lia),SD.more (KK_mirror_equal hz eqs) dn (by lia) hle,by lia,λk p1 p2=>congrArg _ (by lia)]))
   ·rw[if_neg h0];exact wpS_pure #[0,rfl,r2,SD.more (λ_=>rfl) dn (by lia) hle,by lia,λk p1 p2=>congrArg _ (by lia)]
  | false =>
   rw[if_neg yA];refine wpS_bind (NG O r2.gd (show lo+i - 1<_ by lia) (show lo+i<_ by lia) ?_);show wpS _ _ _ _ (if o.blt (KK o (arrOf y)<|lo+i - 1) (KK o (arrOf y)<|lo+i)=true then _ else _) _ _;cases hg:o.blt (KK o (arrOf y)<|lo+i - 1) (KK o (arrOf y)<|lo+i) with
   | true=>rw[if_pos rfl];exact wpS_pure (q i e y r2 h1 (by lia) dn he eqs)
   | false =>
    rw[if_neg yA];have same:KK o (arrOf y) (lo+i)=KK o (arrOf y) (lo+i - 1):=o.total _ _ hl hg;refine wpS_pure #[e+1,rfl,r2,SD.more (λ_=>rfl) dn (by lia) (by rw[<-ei];exact hg),by lia,λk p1 p2=>?_];rw[show lo+(i+1) - 1=lo+i by lia];rcases yx k (lo+i) with hk|hk
    ·rw[same];exact eqs k (by lia) hk
    ·exact congrArg _ (by lia)
 ·obtain⟨e,rfl,r2,dn,he,eqs⟩:=hy;have em:max a n=n:=by lia
  rw[em] at dn he eqs ⊢;exact q n e y r2 L7 (yh _) dn he eqs
def Bn (lo n:Nat) (k:DescSt->StateT SortSt Sem (Option Nat)):Prop:=∃k1,xb k1/\∀m e,k (none,m,e)=if e > 0 then reverseSlice' (lo+m - (e+1)) (lo+m)>>=λ_=>reverseSlice' lo (lo+m)>>=λ_=>rP lo m n>>=k1 else reverseSlice' lo (lo+m)>>=λ_=>rP lo m n>>=k1
theorem nX {k2:DescSt->StateT SortSt Sem (Option Nat)}{x st:SortSt}{a n:Nat}{Q:Option Nat->SortSt->Prop} (hk:Bn lo n k2) (O:UY prog w A s f o z) (hn:lo+n<=z.size) (L7:a+1<=n) (r:Rn f z x lo st) (d:SD o (arrOf st) lo (a+1))
  (q:∀m y,Rn f z x lo y->1<=m->m<=n->SU o (arrOf y) lo m->Q (some m) y):wpS (model prog w) A E s (liftM (rule "list.sort.descending-run")>>=λ_=>rO lo (a+1) n>>=k2) Q st:=by
 obtain⟨k1,I0,Ri⟩:=hk;refine wpS_bind (wpS_lift (wpAny_rule #[rfl,wpS_bind (pH O hn (by lia) L7 r d λm e y r2 h1 h2 dn he eqs=>?_)]));have hz:lo+m<=(arrOf y).size:=by rw[r2.gd.sz];lia
 rw[Ri];by_cases h0:e > 0
 ·rw[if_pos h0];refine wpS_bind (wpS_reverse (bS I0 O hn (by lia) h2 (r2.mir (by lia) (by lia)) (λi j EF hj=>?_) q));have ek:=KK_mirror_equal hz eqs;rw[ek,ek];exact dn i j EF hj
 ·rw[if_neg h0];exact bS I0 O hn (by lia) h2 r2 dn q
theorem xB {st:SortSt}{n:Nat}{Q:Option Nat->SortSt->Prop} (O:UY prog w A s f o z) (hn:lo+n<=z.size) (h1:1<=n) (g:Gd f z st)
  (q:∀m y,Rn f z st lo y->1<=m->m<=n->SU o (arrOf y) lo m->Q (some m) y):wpS (model prog w) A E s (countRun' lo n) Q st:=by
 have r:=Rn.refl g lo;refine wpS_bind (fW O hn (yh 1) h1 r (λi j EF hj=>?_) λm m1 m2 up last=>?_)
 ·obtain rfl:i=j:=by lia
  exact KeyOrd.kle_refl _
 show wpS _ _ _ _ (if (m==n)=true then _ else _) _ _;rcases yx m n with hmn|hmn
 ·rw[if_neg (by rw[beq_iff_eq];lia)];have hl:=last.resolve_left (by lia);rcases yx 1 m with hm|hm
  ·rw[if_pos hm];refine wpS_bind (NG O g (by lia) (by lia) ?_);show wpS _ _ _ _ (if o.blt _ _=true then _ else _) _ _;cases hr:o.blt _ _ with
   | true=>exact wpS_pure (q m st r m1 m2 up)
   | false =>
    have hz:lo+m<=(arrOf st).size:=by rw[g.sz];lia
    have eqs:∀k,lo<=k->k<lo+m->KK o _ k=KK o _ (lo+m - 1):=λk k1 k2=>by
     have a1:=up (k - lo) (m - 1) (by lia) (by lia);have a2:=up 0 (k - lo) (by lia) (by omega);rw[show lo+(k - lo)=k by lia,show lo+(m - 1)=lo+m - 1 by lia] at a1;rw[show lo+(k - lo)=k by lia,abp] at a2;exact KeyOrd.kle_antisymm a1 (KeyOrd.kle_trans hr a2)
    have ek:=KK_mirror_equal hz eqs;refine nX #[_,λ_=>rfl,λ_ _=>rfl] O hn (by lia) (r.mir (yh _) (by lia)) (SD.more ek (λi j EF hj=>?_) m1<|KeyOrd.kle_of_klt hl) q;rw[eqs (lo+i) (by lia) (by lia),eqs _ (by lia) (by lia)];exact KeyOrd.kle_refl _
  ·rw[if_neg (by lia)];refine nX #[_,λ_=>rfl,λ_ _=>rfl] O hn (by lia) r (SD.more (λ_=>rfl) (λi j EF hj=>?_) m1<|KeyOrd.kle_of_klt hl) q;obtain rfl:i=j:=by lia
   exact KeyOrd.kle_refl _
 ·rw[if_pos (by rw[beq_iff_eq];lia)];exact wpS_pure (q m st r m1 m2 up)
theorem xu {x st:SortSt}{n a:Nat}{Q:Bool->SortSt->Prop} (O:UY prog w A s f o z) (hn:lo+n<=z.size) (L7:a<=n) (r:Rn f z x lo st) (u:SU o (arrOf st) lo a)
  (q:∀y,Rn f z x lo y->SU o (arrOf y) lo n->Q true y):wpS (model prog w) A E s (binarySort' lo n a) Q st:=by
 rw[binarySort'_eq];refine wpS_bind (wpS_mono (wpS_forRange (I:=λk c y=>c=(none,())/\Rn f z x lo y/\SU o (arrOf y) lo (min k n)) (Q:=λc y=>c=(none,())/\Rn f z x lo y/\SU o (arrOf y) lo n) (λk c y k1 k2 hy=>?_) (λc y hy=>?_) #[rfl,r,λi j EF hj=>?_]) λc y hy=>?_)
 ·obtain⟨rfl,b2,up⟩:=hy;rw[Qz (by lia)] at up;have hk:lo+k<z.size:=by lia
  refine wpS_bind (wpS_mono (wpS_forRange (I:=λi c y'=>y'=y/\∃l r,c=(none,l,r)/\l<=r/\r<=k/\r - l<=k - i/\(∀g,g<l->o.kle (KK o (arrOf y)<|lo+g) (KK o (arrOf y)<|lo+k))/\∀g,r<=g->g<k->o.klt (KK o (arrOf y)<|lo+k) (KK o (arrOf y)<|lo+g))
   (Q:=λc y'=>y'=y/\∃l r,c=(none,l,r)/\l<=k/\(∀g,g<l->o.kle (KK o (arrOf y)<|lo+g) (KK o (arrOf y)<|lo+k))/\∀g,l<=g->g<k->o.klt (KK o (arrOf y)<|lo+k) (KK o (arrOf y)<|lo+g)) (λi c y' i1 i2 hy=>?_) (λc y' hy=>?_) #[rfl,0,k,rfl,by lia,by lia,by lia,λg hg=>absurd hg (by lia),λg p1 p2=>absurd p1 (by lia)]) λc y' hy=>?_)
  ·obtain⟨rfl,l,r',rfl,lr,rk,fu,lw,hw⟩:=hy;show wpS _ _ _ _ (if l>=r' then _ else _) _ _;rcases yx l r' with Rm|Rm
   ·rw[if_neg (by lia)];refine wpS_bind (NG O b2.gd hk (show lo+(l+r') / 2<_ by lia) ?_);show wpS _ _ _ _ (if o.blt (KK o (arrOf y')<|lo+k) (KK o (arrOf y')<|lo+(l+r') / 2)=true then _ else _) _ _;cases hl:o.blt (KK o (arrOf y')<|lo+k) (KK o (arrOf y')<|lo+(l+r') / 2) with
    | true=>rw[if_pos rfl];exact wpS_pure #[rfl,l,(l+r') / 2,rfl,by lia,by lia,by omega,lw,λg p1 p2=>KeyOrd.klt_of_klt_of_kle hl<|up _ _ p1 p2]
    | false=>rw[if_neg yA];exact wpS_pure #[rfl,(l+r') / 2+1,r',rfl,by lia,by omega,by omega,λg p1=>KeyOrd.kle_trans (up g ((l+r') / 2) (by lia) (by lia)) hl,hw]
   ·rw[if_pos Rm];obtain rfl:l=r':=by lia
    exact wpS_pure #[rfl,l,l,rfl,rk,lw,hw]
  ·obtain⟨rfl,l,r',rfl,lr,rk,fu,lw,hw⟩:=hy;obtain rfl:l=r':=by lia
   exact#[rfl,l,l,rfl,rk,lw,hw]
  ·obtain⟨rfl,l,r',rfl,lk,lw,hw⟩:=hy;show wpS _ _ _ _ (moveDown' (lo+k) (lo+l)>>=λ_=>pure<|Yq (none,())) _ _;rw[moveDown'_eq];have hz:lo+k<(arrOf y').size:=by rw[b2.gd.sz];exact hk
   refine wpS_bind (wpS_modify (wpS_pure #[rfl,#[#[(bubble_perm _ _ _).trans b2.gd.pm,b2.gd.kd,b2.gd.fl],b2.pd,λg hg=>?_],λi j EF hj=>?_]))
   ·show (bubble (arrOf y') (lo+k)<|lo+k - (lo+l))[g]?=_;rw[getElem?_bubble hz _ (by omega),if_neg (by omega),if_neg (by omega)];exact b2.low g hg
   ·have kb:=λg=>KK_bubble (κ:=o) hz (show lo+k - (lo+l)<=lo+k by lia) g;rw[show lo+k - (lo+k - (lo+l))=lo+l by lia] at kb;show o.kle (KK o (bubble (arrOf y') (lo+k)<|lo+k - (lo+l))<|lo+i) (KK o (bubble (arrOf y') (lo+k)<|lo+k - (lo+l))<|lo+j);rw[kb,kb];rw[Qz (by lia)] at hj;have dec:∀g,lo+g - 1=lo+(g - 1)\/g=0:=λg=>by lia
    split
    ·split
     ·exact KeyOrd.kle_refl _
     ·split
      ·rw[show lo+j - 1=lo+(j - 1) by lia];exact KeyOrd.kle_of_klt (hw _ (by lia) (by lia))
      ·exact absurd EF (by lia)
    ·split
     ·split
      ·exact absurd EF (by lia)
      ·split
       ·rw[show lo+i - 1=lo+(i - 1) by lia,show lo+j - 1=lo+(j - 1) by lia];exact up _ _ (by omega) (by lia)
       ·exact absurd EF (by lia)
     ·split
      ·exact lw _ (by lia)
      ·split
       ·rw[show lo+j - 1=lo+(j - 1) by lia];exact up _ _ (by lia) (by lia)
       ·exact up _ _ (by omega) (by lia)
 ·obtain⟨rfl,b2,up⟩:=hy;rw[QW (by lia)] at up;exact#[rfl,b2,up]
 ·rcases abD a with h0|h0
  ·obtain rfl:i=j:=by lia
   exact KeyOrd.kle_refl _
  ·exact u i j EF (by lia)
 ·obtain⟨rfl,b2,up⟩:=hy;exact wpS_pure (q y b2 up)
end
def JX (o:KeyKind) (xs:DX):List (Nat×Nat)->Nat->Nat->Prop
 | [],lo,hi=>lo=hi
 | (a,n)::r,lo,hi=>a=lo/\1<=n/\Up o (j3 xs lo n)/\JX o xs r (lo+n) hi
def pr (t:Nat×Nat×Nat):Nat×Nat:=(t.1,t.2.1)
def UP (y:SortSt):List (Nat×Nat):=(pendingOf y).toList.map pr
section
variable {prog:Ee}{w:World}{A:Around}{E:DO}{s:Shared}{f:SortKind}{z:DX}{o:KeyKind}
theorem JX.le:∀{l:List (Nat×Nat)} {lo hi:Nat},JX o xs l lo hi->lo+l.length<=hi
 | [],lo,hi,h=>aav h
 | (a,n)::r,lo,hi,⟨_,h1,_,h2⟩=>by
  have:=h2.le;rw[Qa];lia
theorem JX.congr:∀{l:List (Nat×Nat)} {lo hi:Nat},JX o xs l lo hi->(∀k n,lo<=k->k+n<=hi->j3 ys k n=j3 xs k n)->JX o ys l lo hi
 | [],lo,hi,h,_=>h
 | (a,n)::r,lo,hi,⟨h0,h1,u,h2⟩,e=>by
  have:=h2.le;exact#[h0,h1,by rw[e lo n (yh _) (by lia)];exact u,h2.congr λk m hk hm=>e k m (by lia) hm]
theorem JX.app:∀{l1 l2:List (Nat×Nat)} {lo hi:Nat},JX o xs (l1++l2) lo hi->∃mid,JX o xs l1 lo mid/\JX o xs l2 mid hi
 | [],l2,lo,hi,h=>#[lo,rfl,h]
 | (a,n)::r,l2,lo,hi,⟨h0,h1,u,h2⟩=>by
  obtain⟨mid,c1,c2⟩:=JX.app h2;exact#[mid,#[h0,h1,u,c1],c2]
theorem JX.join:∀{l1 l2:List (Nat×Nat)} {lo mid hi:Nat},JX o xs l1 lo mid->JX o xs l2 mid hi->JX o xs (l1++l2) lo hi
 | [],l2,lo,mid,hi,h,c=>by obtain rfl:lo=mid:=h;exact c
 | (a,n)::r,l2,lo,mid,hi,⟨h0,h1,u,h2⟩,c=>#[h0,h1,u,h2.join c]
theorem cE {st:SortSt}{hi:Nat}{Q:Bool->SortSt->Prop} (O:UY prog w A s f o z) (g:Gd f z st) (c:JX o (arrOf st) (UP st) 0 hi) (hh:hi<=z.size) (Uf:i+1<(pendingOf st).size)
  (q:∀y,Gd f z y->JX o (arrOf y) (UP y) 0 hi->(pendingOf y).size+1=(pendingOf st).size->(∀k n,hi<=k->j3 (arrOf y) k n=j3 (arrOf st) k n)->Q true y):wpS (model prog w) A E s (mergeAt' i) Q st:=by
 obtain⟨l1,x1,x2,l2,hl,h1⟩:∃l1 x1 x2 l2,(pendingOf st).toList=l1++x1::x2::l2/\l1.length=i:=by
  have h1:i+1<(pendingOf st).toList.length:=by rw[yD];exact Uf
  refine#[(pendingOf st).toList.take i,(pendingOf st).toList[i],(pendingOf st).toList[i+1],(pendingOf st).toList.drop<|i+2,?_,by rw[yM];lia];have e:=(yX i (pendingOf st).toList).symm;rw[yN (by omega),yN h1] at e;exact e
 obtain⟨sa,na,pa⟩:=x1;obtain⟨sb,nb,pb⟩:=x2;have er:UP st=l1.map pr++(sa,na)::(sb,nb)::l2.map pr:=by
  unfold UP;rw[hl,yk,yR,yR];rfl
 rw[er] at c;obtain⟨mid,c1,h2,n1,u1,h3,n2,u2,c2⟩:=c.app;subst h2;subst h3;have l3:=c2.le;rw[<-h1];refine Ah O g hl rfl n1 n2 (by lia) u1 u2 λy gy py up low high=>q y gy ?_ ?_ λk n hk=>high k n (by lia)
 ·have ey:UP y=l1.map pr++(sa,na+nb)::l2.map pr:=by
   unfold UP;rw[py,yk,yR];rfl
  rw[ey];refine JX.join (c1.congr λk n _ hk=>low k n hk) #[rfl,by lia,up,?_];rw[<-Nat.add_assoc];exact c2.congr λk n hk _=>high k n hk
 ·have e1:=congrArg Yl py;have e2:=congrArg Yl hl;simp only[yD,ye,Qa] at e1 e2
  lia
theorem wA {k n:Nat} (h:∀i,i<lo->ys[i]?=xs[i]?) (hk:k+n<=lo):j3 ys k n=j3 xs k n:=by
 apply aaN
 intro i;unfold j3;rw[aaE,aaE];split
 ·rw[aaF,aaF,Qc,Qc];exact h _ (by lia)
 ·rfl
theorem SU.up {m:Nat} (u:SU o xs lo m) (h:lo+m<=xs.size):Up o (j3 xs lo m):=by
 have kk:∀{k} (hk:k<xs.size),KK o xs k=kv o xs[k]:=λ{k} hk=>by unfold KK;rw[getElem?_pos xs k hk];rfl
 refine QJ.mpr λi j hi hj EF=>?_;rw[wz h] at hi hj;rw[Gf _ (by lia),Gf _ (by lia)];have:=u i j (by lia) hj;rw[kk (by lia),kk (by lia)] at this;exact this
theorem qx:(ps.modify i λ(t:Nat×Nat×Nat)=>match t with|(a,n,_)=>(a,n,pw)).toList.map pr=ps.toList.map pr:=by
 apply aaN
 intro k;rw[yo,yo,Qc,Qc,Array.getElem?_modify];split
 ·cases ps[k]? with
  | none=>rfl
  | some t=>rfl
 ·rfl
structure Bt (o:KeyKind) (f:SortKind) (z:DX) (lo:Nat) (y:SortSt):Prop where
 gd:Gd f z y
 cv:JX o (arrOf y) (UP y) 0 lo
def d7 (n pw:Nat):StateT SortSt Sem (Option Unit×Unit) :=
 forIn [0:n] ((none,()):Option Unit×Unit) λ_ _=>do
  let p:=pendingOf (<-get)
  let some (_,_,older):=(if p.size > 1 then p[p.size - 2]? else none)|pure (.done (none,()))
  if older<=pw then pure (.done (none,()))
  else
   if !(<-mergeAt' (p.size - 2)) then pure (.done (some (),())) else pure (.yield (none,()))
theorem NH {st:SortSt}{n m:Nat}{Q:Option Unit×Unit->SortSt->Prop} (O:UY prog w A s f o z) (b:Bt o f z lo st) (hl:lo<=z.size) (u:Up o (j3 (arrOf st) lo m)) (q:∀y,Bt o f z lo y->Up o (j3 (arrOf y) lo m)->Q (none,()) y):wpS (model prog w) A E s (d7 n pw) Q st:=by
 refine wpS_forRange (I:=λ_ c y=>c=(none,())/\Bt o f z lo y/\Up o (j3 (arrOf y) lo m)) (λi c y _ _ hy=>?_) (λc y hy=>?_) #[rfl,b,u]
 ·obtain⟨rfl,b1,u1⟩:=hy;refine wpS_bind<|wpS_get ?_;dsimp only;rcases yx 1 (pendingOf y).size with h1|h1
  ·rw[if_pos h1,getElem?_pos (pendingOf y) _ (show (pendingOf y).size - 2<_ by omega)];show wpS _ _ _ _ (if _<=pw then _ else _) _ _;split
   ·exact wpS_pure (q y b1 u1)
   ·refine wpS_bind (cE O b1.gd b1.cv hl (by lia) λy2 g2 c2 _ Uf=>?_);exact wpS_pure #[rfl,#[g2,c2],by rw[Uf lo m<|yh _];exact u1]
  ·rw[if_neg (by lia)];exact wpS_pure (q y b1 u1)
 ·obtain⟨rfl,b1,u1⟩:=hy;exact q y b1 u1
theorem Bt.add {m:Nat}{y:SortSt} (b:Bt o f z lo y) (u:Up o (j3 (arrOf y) lo m)) (hm:1<=m):Bt o f z (lo+m) (setPending y<|(pendingOf y).push (lo,m,0)):=by
 refine#[#[b.gd.pm,b.gd.kd,b.gd.fl],?_];have e:UP (setPending y<|(pendingOf y).push (lo,m,0))=UP y++[(lo,m)]:=by
  show ((pendingOf y).push (lo,m,0)).toList.map pr=_;rw[Array.toList_push,yk];rfl
 show JX o (arrOf y) (UP<|setPending y<|(pendingOf y).push (lo,m,0)) 0 (lo+m);rw[e];exact b.cv.join #[rfl,hm,u,rfl]
theorem Bt.mod {y:SortSt} (b:Bt o f z lo y):Bt o f z lo (setPending y ((pendingOf y).modify i λ(t:Nat×Nat×Nat)=>match t with|(a,n,_)=>(a,n,pw))):=by
 refine#[#[b.gd.pm,b.gd.kd,b.gd.fl],?_];show JX o (arrOf y) (((pendingOf y).modify i λ(t:Nat×Nat×Nat)=>match t with|(a,n,_)=>(a,n,pw)).toList.map pr) 0 lo;rw[qx];exact b.cv
theorem Bt.run {x y:SortSt} (b:Bt o f z lo x) (r:Rn f z x lo y):Bt o f z lo y:=by
 refine#[r.gd,?_];have e:UP y=UP x:=by unfold UP;rw[r.pd]
 rw[e];exact b.cv.congr λk n _ hk=>wA r.low hk
theorem wC {st:SortSt}{Q:Unit->SortSt->Prop} (O:UY prog w A s f o z) (g:Gd f z st) (p0:pendingOf st=(Ya [])) (h2:2<=z.size)
  (q:∀y,Gd f z y->Up o (arrOf y).toList->Q () y):wpS (model prog w) A E s sortRuns' Q st:=by
 rw[sortRuns'_eq];refine wpS_bind<|wpS_get ?_;simp only[g.sz];generalize minRun' z.size z.size 0=mr;have b0:Bt o f z 0 st:=#[g,by unfold UP;rw[p0];rfl];refine wpS_bind (wpS_mono (wpS_forRange (I:=λi c y=>c.1=none/\c.2<=z.size/\i<=c.2/\Bt o f z c.2 y) (Q:=λc y=>c=(none,z.size)/\Bt o f z z.size y) (λi c y _ hi hy=>?_) (λc y hy=>?_) #[rfl,yL _,yh _,b0]) λc y hy=>?_)
 ·obtain⟨c1,lo⟩:=c;obtain⟨e1,hl,LD,b⟩:=hy;change c1=none at e1;change lo<=z.size at hl;change i<=lo at LD;change Bt o f z lo y at b;subst e1;show wpS _ _ _ _ (if lo>=z.size then _ else _) _ _;rcases yx lo z.size with TV|TV
  ·rw[if_neg (by lia)];refine wpS_bind (xB O (show lo+(z.size - lo)<=_ by lia) (by lia) b.gd λm y1 r1 m1 m2 su=>?_);have tail:∀(y2:SortSt) (k:Nat),Bt o f z lo y2->Up o (j3 (arrOf y2) lo k)->1<=k->lo+k<=z.size->∀c:Option Unit×Nat,c=(none,lo+k)->c.1=none/\c.2<=z.size/\i+1<=c.2/\Bt o f z c.2 (setPending y2<|(pendingOf y2).push (lo,k,0)):=λy2 k b2 u2 k1 k2 c hc=>by
    subst hc;exact#[rfl,k2,by show i+1<=lo+k;lia,b2.add u2 k1]
   show wpS _ _ _ _ (if m<mr then _ else _) _ _;have rest:∀(y2:SortSt) (k:Nat),Rn f z y lo y2->SU o (arrOf y2) lo k->1<=k->lo+k<=z.size->Bt o f z lo y2/\Up o (j3 (arrOf y2) lo k):=λy2 k r2 Wm k1 k2=>#[b.run r2,Wm.up (by rw[r2.gd.sz];exact k2)];split
   ·refine wpS_bind (wpS_lift (wpAny_rule #[rfl,wpS_bind (xu (x:=y) O (show lo+min (z.size - lo) mr<=_ by omega) (by omega) r1 su λy2 r2 Wm=>?_)]));obtain⟨b2,u2⟩:=rest y2 _ r2 Wm (by omega) (by omega);refine wpS_bind<|wpS_get ?_;cases hb:(pendingOf y2).back? with
    | none=>exact wpS_bind (wpS_modify (wpS_pure (tail y2 _ b2 u2 (by omega) (by omega) _ rfl)))
    | some t =>
     obtain⟨s1,n1,p1⟩:=t;show wpS _ _ _ _ (d7 z.size _>>=_) _ _;refine wpS_bind (NH O b2 hl u2 λy3 b3 u3=>?_);exact wpS_bind (wpS_modify (wpS_bind (wpS_modify (wpS_pure (tail _ _ b3.mod u3 (by omega) (by omega) _ rfl)))))
   ·obtain⟨b2,u2⟩:=rest y1 _ r1 su m1 (by lia);refine wpS_bind<|wpS_get ?_;cases hb:(pendingOf y1).back? with
    | none=>exact wpS_bind (wpS_modify (wpS_pure (tail y1 _ b2 u2 m1 (by lia) _ rfl)))
    | some t =>
     obtain⟨s1,n1,p1⟩:=t;show wpS _ _ _ _ (d7 z.size _>>=_) _ _;refine wpS_bind (NH O b2 hl u2 λy3 b3 u3=>?_);exact wpS_bind (wpS_modify (wpS_bind (wpS_modify (wpS_pure (tail _ _ b3.mod u3 m1 (by lia) _ rfl)))))
  ·rw[if_pos TV];obtain rfl:lo=z.size:=by lia
   exact wpS_pure #[rfl,b]
 ·obtain⟨c1,lo⟩:=c;obtain⟨e1,hl,LD,b⟩:=hy;change c1=none at e1;change lo<=z.size at hl;change max 0 z.size<=lo at LD;change Bt o f z lo y at b;obtain rfl:lo=z.size:=by lia
  subst e1;exact#[rfl,b]
 ·obtain⟨rfl,b⟩:=hy;have len:∀y',Bt o f z z.size y'->(pendingOf y').size<=z.size:=λy' b'=>by
   have:=b'.cv.le;unfold UP at this;rw[yb,yD] at this
   lia
  refine wpS_bind (wpS_mono (wpS_forRange (I:=λi c y=>c=(none,())/\Bt o f z z.size y/\((pendingOf y).size<=1\/(pendingOf y).size+i<=z.size)) (Q:=λc y=>c=(none,())/\Bt o f z z.size y/\(pendingOf y).size<=1) (λi c y _ _ hy=>?_) (λc y hy=>?_) #[rfl,b,.inr (by have:=len y b;omega)]) λc y hy=>?_)
  ·obtain⟨rfl,b1,hp⟩:=hy;refine wpS_bind<|wpS_get ?_;show wpS _ _ _ _ (if (pendingOf y).size<=1 then _ else _) _ _;rcases yx 1 (pendingOf y).size with h1|h1
   ·rw[if_neg (by lia)];have fin:∀k,k+1<(pendingOf y).size->∀{R:Bool->SortSt->Prop},(∀y2,Bt o f z z.size y2->(pendingOf y2).size+1=(pendingOf y).size->R true y2)->wpS (model prog w) A E s (mergeAt' k) R y:=λk hk R hR=>cE O b1.gd b1.cv (yh _) hk λy2 g2 c2 e2 _=>hR y2 #[g2,c2] e2;refine wpS_bind (fin _ ?_ λy2 b2 e2=>wpS_pure #[rfl,b2,.inr (by lia)]);have hi:∀bb:Bool,(if bb=true then (pendingOf y).size - 2 - 1 else (pendingOf y).size - 2)+1<(pendingOf y).size:=λbb=>by
     cases bb
     ·rw[if_neg yA];lia
     ·rw[if_pos rfl];omega
    exact hi _
   ·rw[if_pos h1];exact wpS_pure #[rfl,b1,h1]
  ·obtain⟨rfl,b1,hp⟩:=hy;exact#[rfl,b1,by lia]
  ·obtain⟨rfl,b1,hp⟩:=hy;refine wpS_pure<|q y b1.gd ?_;have cv:=b1.cv;have hlen:(UP y).length<=1:=by unfold UP;rw[yb,yD];exact hp
   match hr:UP y,hlen with
   | [],_ =>
    rw[hr] at cv;have:(0:Nat)=z.size:=cv
    lia
   | [(a,n)],_ =>
    rw[hr] at cv;obtain⟨_,_,u,e⟩:=cv;have e2:0+n=z.size:=e;have e3:j3 (arrOf y) 0 n=(arrOf y).toList:=by
     unfold j3;rw[aa4];exact QD (by rw[yD,b1.gd.sz];lia)
    rw[e3] at u;exact u
end
def zL (h:Heap) (d:Addr) (es:Array DictEntry) (ep:Nat):Prop:=∃ob,h.get? d=some ob/\ob.ExactDict/\ob.data=.dict es ep
theorem zL.typeIs {s:Shared}{d:Addr}{es:Array DictEntry}{ep:Nat} (x:zL s.heap d es ep):s.TypeIs (.ref d) "dict":=by
 obtain⟨ob,e,c,_⟩:=x;exact#[ob,e,c.1]
section
variable {prog:Ee}{w:World}{A:Around}{E:DO}{s:Shared}{d t:Addr}{es:Array DictEntry}{ep i:Nat}
theorem Ny {Q:DO} (hd:(d==sysModules)=false) (x:zL s.heap d es ep)
  (q:Q (.ref s.heap.objs.size) { s with heap:=s.heap.push { cls:=.type "dict_keyiterator",data:=.fields (Ya [.ref d,.int 0 0,.int es.size 0,.int ep 0]) } }):wpAny (model prog w) A (pyIter<|.ref d) Q E s:=by
 have ty:=x.typeIs;obtain⟨ob,e,c,dt⟩:=x;refine wpAny_pyIter_slot ty F.slot_dict_iter<|wpAny_call_entry F.slot_dict_iter ty F.entry_dict_iter (Ef ?_)<|F.args_dict_iter_1 _;refine Ef<|wpAny_notOrdered_dict ty ?_;refine Eg ?_;show wpAny _ _ (Builtin.Dict.showsAll d>>=_) _ _ s;unfold Builtin.Dict.showsAll;rw[if_neg (by rw[hd];decide)];refine Ef<|Eg<|Ef<|wpAny_dictEntries e dt<|Ef<|wpAny_dictEpoch e dt ?_;exact Ef (wpAny_newObj_type<|Eg #[_,rfl,"dict_keyiterator",_,#[_,yB _ rfl,rfl],F.slot_dict_keyiterator_next.lookup,q])
theorem NM {Q:DR} (k:s.heap.IsKeyIter t d i es.size ep) (x:zL s.heap d es ep) (hi:i<es.size)
  (q:∀h',h'.IsKeyIter t d (i+1) es.size ep->Heap.SameBut t s.heap h'->Q (some es[i].key) { s with heap:=h' }):wpAny (model prog w) A (pyNext<|.ref t) Q E s:=by
 have ty:=k.typeIs;obtain⟨oi,e,c,dt⟩:=id k;obtain⟨ob,e2,_,Ro⟩:=x;refine Ef<|wpAny_attempt<|wpAny_callSpecial?_slot ty F.slot_dict_keyiterator_next<|wpAny_call_entry F.slot_dict_keyiterator_next ty F.entry_dict_keyiterator_next (Ef<|Eg<|Ef<|Ef ?_)<|F.args_dict_keyiterator_next_1 _;refine Ef<|wpAny_typeNameOfWhole_keyiter ty<|Eg<|Ef<|wpAny_fieldsOf e dt ?_;rw[show Builtin.Dict_items.ownsTuple "dict_keyiterator"=false by decide];refine Ef<|Eg<|Ef<|wpAny_dictEntries e2 Ro ?_;rw[if_neg (by simp)];refine Ef<|Eg<|Ef<|wpAny_dictEpoch e2 Ro ?_;rw[if_neg (by simp)];refine Eg ?_;simp only[yY,Array.getElem?_eq_getElem hi];refine Ef<|Ef<|wpAny_typeNameOfWhole_keyiter ty<|Eg<|Ef<|wpAny_isOneOf_keyiter ty ?_;show wpAny _ _ (setField _ 1 _>>=_) _ _ s;refine Ef (wpAny_setField e dt (by simp) ?_);have k2:(s.heap.update t<|Obj.mapFields (·.setIfInBounds 1<|rawInt<|(i)+1)).IsKeyIter t d (i+1) es.size ep:=#[_,QG _ e<|Obj.isFreed_of_fields<|Obj.data_mapFields dt _,(Obj.cls_mapFields ..).trans c,by rw[Obj.data_mapFields dt];simp [rawInt]];refine Ef<|wpAny_holding<|Ef<|wpAny_isOneOf_keyiter k2.typeIs ?_;exact Eg (Eg #[_,rfl,Eg<|q _ k2<|Heap.SameBut.update ..])
theorem av {Q:DR} (hh:A.handled=none) (k:s.heap.IsKeyIter t d i es.size ep) (x:zL s.heap d es ep) (hi:es.size<=i)
  (q:∀h',Heap.ExtBut t s.heap h'->Q none { s with heap:=h' }):wpAny (model prog w) A (pyNext<|.ref t) Q E s:=by
 have ty:=k.typeIs;obtain⟨oi,e,c,dt⟩:=id k;obtain⟨ob,e2,_,Ro⟩:=x;refine Ef<|wpAny_attempt<|wpAny_callSpecial?_slot ty F.slot_dict_keyiterator_next<|wpAny_call_entry F.slot_dict_keyiterator_next ty F.entry_dict_keyiterator_next (Ef<|Eg<|Ef<|Ef ?_)<|F.args_dict_keyiterator_next_1 _;refine Ef<|wpAny_typeNameOfWhole_keyiter ty<|Eg<|Ef<|wpAny_fieldsOf e dt ?_;rw[show Builtin.Dict_items.ownsTuple "dict_keyiterator"=false by decide];refine Ef<|Eg<|Ef<|wpAny_dictEntries e2 Ro ?_;rw[if_neg (by simp)];refine Ef<|Eg<|Ef<|wpAny_dictEpoch e2 Ro ?_;rw[if_neg (by simp)];refine Eg ?_;simp only[yY,Array.getElem?_eq_none hi];refine Ef<|Ef<|wpAny_typeNameOfWhole_keyiter ty<|Eg ?_;show wpAny _ _ (setField _ 0 _>>=_) _ _ s;refine Ef (wpAny_setField e dt (by simp) ?_);refine Ef ?_;refine Ef (wpAny_newObj_type (Ef (wpAny_of_eq (by rfl) (wpAny_newObj_type ?_ (by size_fits)))) (by size_fits));refine Ef<|wpAny_handled ?_;rw[hh];refine Ef<|Eg<|wpAny_throw ?_;exact Ef (wpAny_isInstance #[_,yB _ rfl,rfl] isSubtype_stop<|Eg<|q _<|((Heap.SameBut.update ..).extBut.push _).push _)
theorem zL.keep (x:zL h d es ep) (k:∀o,h.get? d=some o->h'.get? d=some o):zL h' d es ep:=by
 obtain⟨ob,e,c⟩:=x;exact#[ob,k _ e,c]
theorem wU (hd:(d==sysModules)=false):KdlSrc prog w "dict" d d es.size (λi v=>∃hi:i<es.size,v=es[i].key) (λh=>zL h d es ep) where
 type:=λ_ x=>x.typeIs
 there:=λ_ x=>by obtain⟨ob,e,_⟩:=x;exact#[yq e,yq e]
 keep:=λ_ _ x k=>x.keep λo e=>k d (.inl rfl) o e
 notList:=by decide
 notTuple:=by decide
 hint:=λ_ _ _ _ x q=>PySem.W.kdl_hint_dict x.typeIs q
 iter:=λA s hh x=>by
  have El:d<s.heap.objs.size:=by obtain⟨ob,e,_⟩:=x;exact yq e
  refine#[_,λi h=>h.IsKeyIter s.heap.objs.size d i es.size ep/\zL h d es ep,λE Q q=>Ny hd x q,?_,#[_,yB _ rfl,rfl,rfl],x.keep λo e=>yg _ e];refine#[λb hb=>by simp at hb;simp [hb],λi h h' st k=>#[?_,st.2.keep λo e=>k d (by simp) o e],λi s' Q E hi st q=>?_,λs' Q E st q=>?_,λi s' Q E st q=>wpAny_pyIter_keyiter st.1 q]
  ·obtain⟨ob,e,r⟩:=st.1;exact#[ob,k _ (by simp) ob e,r]
  ·refine NM st.1 st.2 hi λh' k' sb=>q _ h' s'.toks #[hi,rfl] #[k',st.2.keep λo e=>sb.extBut d o (yJ El) e] λb o hb e=>sb.extBut b o (λz=>hb (by simp [z])) e
  ·refine av hh st.1 st.2 (yh _) λh' eb=>q h' s'.toks λb o hb e=>eb b o (λz=>hb (by simp [z])) e
theorem ww {Q:DO} (hh:A.handled=none) (hd:(d==sysModules)=false) (x:zL s.heap d es ep) (hn:es.size<=sizeLine)
  (q:∀h' tk acc c,(∀b o,s.heap.get? b=some o->h'.get? b=some o)->h'.get? s.heap.objs.size=some { cls:=.type "list",dict:=none,data:=.seq acc c,slots:=(Ya []) }->ItemsOf (λi v=>∃hi:i<es.size,v=es[i].key) acc es.size->Q (.ref s.heap.objs.size) { s with heap:=h',toks:=tk }) :
  wpAny (model prog w) A (runValue<|.builtin "proto.collect" #[[.ref d],[]]) Q E s:=by
 have El:d<s.heap.objs.size:=by obtain⟨ob,e,_⟩:=x;exact yq e
 have ne:=QC El;refine wpAny_runValue<|codeAny_builtin F.entry_proto_collect ?_;refine Ef<|wpAny_newObj_type<|Eg #[plainId_quiet F.plain_list_iadd _,codeAny_builtin F.entry_list_iadd ?_];rw[Around.under_plainId F.plain_list_iadd _];have x2:zL (s.heap.push { cls:=.type "list",data:=.seq ([]).toArray }) d es ep:=x.keep λo e=>yg _ e;exact PySem.W.kdl_extend (R:=λr s'=>match r with|.ok (.ret v)=>Q v s'|.ok _=>False|.error e=>E e s') (wU hd) hh x2 _ ne ne _ 0 (yB _ rfl)
  (λh' tk acc c kp e items=>q h' tk acc c (λb o hb=>kp b o (yJ<|yq hb)<|yg _ hb) e items) hn
theorem aT {Q:List Value->Shared->Prop} (hh:A.handled=none) (hd:(d==sysModules)=false) (x:zL s.heap d es ep) (hn:es.size<=sizeLine)
  (q:∀h' tk,(∀b o,s.heap.get? b=some o->h'.get? b=some o)->s.heap.objs.size<h'.objs.size->Q (es.toList.map (·.key)) { s with heap:=h',toks:=tk }):wpAny (model prog w) A (collect<|.ref d) Q E s:=by
 refine Ef (ww hh hd x hn λh' tk acc c kp e items=>?_);refine Ef<|wpAny_load e<|Eg ?_;have ea:acc.toList=es.toList.map (·.key):=by
  apply aaN
  intro k;rw[yo,Qc,Qc];rcases yx k es.size with hk|hk
  ·have h1:k<acc.size:=by rw[items.1];exact hk
   rw[getElem?_pos es k hk,getElem?_pos acc k h1];obtain⟨_,e2⟩:=items.2 k _<|getElem?_pos acc k h1;rw[e2];rfl
  ·rw[getElem?_neg es k (by lia),getElem?_neg acc k (by rw[items.1];lia)];rfl
 rw[ea];exact q h' tk kp (yq e)
end
section
variable {prog:Ee}{w:World}{A:Around}{E:DO}{s:Shared}
theorem TupAt.keep {v:Value}{ks:List L2.Key} (t:TupAt h v ks) (k:∀b o,h.get? b=some o->h'.get? b=some o):TupAt h' v ks:=by
 obtain⟨b,o2,us,n,rfl,e,r⟩:=t;exact#[b,o2,us,n,rfl,k _ _ e,r]
def kw (o:KeyKind) (v:Value):o.α:=(o.keyOf v).getD o.dflt
theorem Av {vs:DY}{y:DX} (pm:y.Perm (pairsOf vs)) (up:Up o y.toList) :
  ∃out:List Value,(y.map (·.2))=out.toArray/\out.Perm vs/\out.Pairwise λu v=>o.blt (kw o v) (kw o u)=false:=by
 have pl:y.toList.Perm (vs.zip vs):=pairsOf_toList vs▸Array.perm_iff_toList_perm.mp pm;have hm:∀p∈y.toList,p.1=p.2:=λp hp=>(mem_zip_self<|pl.mem_iff.mp hp).1;refine#[y.toList.map (·.2),by rw[<-Array.toList_map,Array.toArray_toList],?_,?_]
 ·have:=pl.map abO;rwa [List.map_snd_zip<|yh _] at this
 ·refine yT.mpr (up.imp_of_mem λ{p q} hp hq h=>?_);rw[<-hm p hp,<-hm q hq];exact h
theorem qA {α:Type}{R:α->α->Prop}{l:List α} (h:l.length<2):l.Pairwise R:=by
 cases l with
 | nil=>exact aa6
 | cons v l =>
  cases l with
  | nil=>exact QN _ _
  | cons u l=>exact absurd h (by simp)
def xl (prog:Ee) (w:World) (A:Around) (s:Shared) (vs:DY) (f:SortKind) (o:KeyKind):Prop:=(2<=vs.length->∀(E:DO) (R:SortKind->Shared->Prop),R f s->wpAny (model prog w) A (keyKind' vs.toArray) R E s)/\UY prog w A s f o (pairsOf vs)
theorem qR {a:Addr}{vs:DY}{n:Nat}{P:Fin->Shared->Prop}{f:SortKind} (ho:s.heap.get? a=some (seqObj "list" vs.toArray n)) (X:∀h2,(∀b x,b≠a->s.heap.get? b=some x->h2.get? b=some x)->xl prog w A { s with heap:=h2 } vs f o) (hl:vs.length<=sizeLine)
  (q:∀out:List Value,out.Perm vs->(out.Pairwise λu v=>o.blt (kw o v) (kw o u)=false)->P (.done<|.ret .none) { s with heap:=sortedHeap s.heap a vs out.toArray }):wpAny (model prog w) A (Builtin.«list.sort» #[[.ref a],[]]) P E s:=by
 rw[list_sort_plain];refine Ef (listItems_at ho rfl (Ef (listUpdate_at ho rfl ?_ (by rw[yt];exact hl))));have g1:=get?_update_seq ho (λ_=>(Ya []));refine Ef<|seqEpoch_at g1 rfl<|Ef<|wpAny_newTuple<|Ef<|wpAny_newList<|wpAny_holding ?_;have g2:(((s.heap.update a (Obj.mapSeq λ_=>(Ya []))).push<|seqObj "tuple" vs.toArray 0).push<|seqObj "list" (Ya []) 0).get? a=_:=yg _<|yg _ g1;have X2:=X _ λb x ne e=>yg (seqObj "list" (Ya []) 0) (yg (seqObj "tuple" vs.toArray 0) ((yF _ (Obj.mapSeq λ_=>(Ya []))<|yG ne).trans e));have room:∀y:Array Keyed,y.Perm (pairsOf vs)->(y.map (·.2)).size<=sizeLine+1:=λy hy=>by
  rw[Array.size_map,hy.size_eq,pairsOf_size];lia
 have fin:∀y:SortSt,(arrOf y).Perm (pairsOf vs)->Up o (arrOf y).toList->P (.done<|.ret .none) { s with heap:=sortedHeap s.heap a vs ((arrOf y).map (·.2)) }:=λy pm up=>by
  obtain⟨out,e,p,w⟩:=Av pm up;rw[e];exact q out p w
 rcases yx vs.length 2 with h2|h2
 ·rw[if_pos (by simpa using h2),if_pos (by simpa using h2)];refine Ef<|Eg ?_;dsimp only;rw[StateT.run_pure];refine Ef<|Eg<|Ef<|seqEpoch_at g2 rfl<|Ef<|listUpdate_at g2 rfl ?_ (hsz2:=room _<|aaH _);simp only[bne_self_eq_false,Yz,if_false];refine Eg<|fin (SortSt.mk' general' (pairsOf vs) (Ya []) 7 none) (aaH _) ?_;show Up _ (pairsOf vs).toList;rw[pairsOf_toList];exact qA (by rw[List.length_zip,Nat.min_self];exact h2)
 ·rw[if_neg (by simpa using h2),if_neg (by simpa using h2)];refine Ef<|X2.1 h2 _ _ ?_;refine Ef (wpAny_mono (wC (o:=o) (z:=pairsOf vs) (f:=f) (st:=SortSt.mk' f (vs.toArray.zip vs.toArray) (Ya []) 7 none) (Q:=λ_ y=>Gd f (pairsOf vs) y/\Up o (arrOf y).toList) X2.2 #[aaH _,rfl,rfl] rfl (by rw[pairsOf_size];exact h2) λy p1 p2=>#[p1,p2]) ?_ λ_ _ e=>e);rintro⟨⟨⟩,y⟩ s2 ⟨rfl,gd,up⟩;refine Ef<|seqEpoch_at g2 rfl<|Ef<|listUpdate_at g2 rfl ?_ (hsz2:=room _ gd.pm);rw[gd.fl];simp only[bne_self_eq_false,Yz,if_false];exact Eg (fin y gd.pm up)
theorem MW {a:Addr}{vs:DY}{n:Nat}{out:D9} (ho:h.get? a=some (seqObj "list" vs.toArray n)):∃c,(sortedHeap h a vs out).get? a=some (seqObj "list" out c)/\∀b o,b≠a->h.get? b=some o->(sortedHeap h a vs out).get? b=some o:=by
 have g1:=get?_update_seq ho (λ_=>(Ya []));have g2:(((h.update a _).push<|seqObj "tuple" vs.toArray 0).push<|seqObj "list" (Ya []) 0).get? a=_:=yg _<|yg _ g1;have g3:=get?_update_seq g2 (λ_=>out);refine#[_,g3,λb o hb e=>?_];exact (yF _ _<|yG hb).trans (yg _<|yg _<|(yF _ _<|yG hb).trans e)
theorem Zx {x:Value}{vs:DY}{f:SortKind}{Q:DO} (hc:∀R:List Value->Shared->Prop,(∀h' tk,(∀b o,s.heap.get? b=some o->h'.get? b=some o)->s.heap.objs.size<h'.objs.size->R vs { s with heap:=h',toks:=tk })->wpAny (model prog w) A.in1 (collect x) R E s)
  (X:∀h' tk B,B.units<=A.units+2->(∀b x,s.heap.get? b=some x->h'.get? b=some x)->xl prog w B { s with heap:=h',toks:=tk } vs f o) (hl:vs.length<=sizeLine)
  (q:∀(h':Heap) (tk c:Nat) (p:Addr) (out:DY),(∀b o,s.heap.get? b=some o->h'.get? b=some o)->s.heap.objs.size<=p->h'.get? p=some (seqObj "list" out.toArray c)->out.Perm vs->(out.Pairwise λu v=>o.blt (kw o v) (kw o u)=false)->Q (.ref p) { s with heap:=h',toks:=tk }) :
  wpAny (model prog w) A (call (.builtin "sorted") [x]) Q E s:=by
 refine Calls.call_function_entry kind_sorted plain_sorted entry_sorted (args_sorted1 _) ?_;refine Ef (m:=checkCount "sorted" 1 1 _)<|Eg ?_;refine Ef (hc _ λh' tk kp lt=>?_);refine Ef<|wpAny_newList ?_;have e1:(h'.push<|seqObj "list" vs.toArray 0).get? h'.objs.size=some (seqObj "list" vs.toArray 0):=yB _ rfl;have U₂:∀b o,s.heap.get? b=some o->(h'.push<|seqObj "list" vs.toArray 0).get? b=some o:=λb o e=>yg _<|kp b o e;have ne:∀b o,s.heap.get? b=some o->b≠h'.objs.size:=λb o e=>yJ<|Y2 (yq e) lt;refine Ef (wpAny_holding (wpAny_call_entry slot_list_sort #[_,e1,rfl] entry_list_sort (qR e1 (λh2 k=>X h2 tk _ (yh _) λb o e=>k b o (ne b o e)<|U₂ b o e) hl λout pm up=>#[_,rfl,Eg #[_,rfl,?_]])<|args_list_sort _));obtain⟨c,g1,g2⟩:=MW (out:=out.toArray) e1;exact q _ tk c _ out (λb o e=>g2 b o (ne b o e)<|U₂ b o e) (aaa lt) g1 pm up
theorem Ma {x:Value}{vs:DY}{kc:Value->List L2.Key}{d:List Bool}{Q:DO} (hc:∀R:List Value->Shared->Prop,(∀h' tk,(∀b o,s.heap.get? b=some o->h'.get? b=some o)->s.heap.objs.size<h'.objs.size->R vs { s with heap:=h',toks:=tk })->wpAny (model prog w) A.in1 (collect x) R E s)
  (ht:∀v∈vs,TupAt s.heap v<|kc v) (hs:∀v∈vs,sd (kc v)=d) (hd:d≠[]) (hl:vs.length<=sizeLine)
  (q:∀(h':Heap) (tk c:Nat) (p:Addr) (out:DY),(∀b o,s.heap.get? b=some o->h'.get? b=some o)->s.heap.objs.size<=p->h'.get? p=some (seqObj "list" out.toArray c)->out.Perm vs->(out.Pairwise λu v=>lx (kc v) (kc u)=false)->Q (.ref p) { s with heap:=h',toks:=tk }) :
  wpAny (model prog w) A (call (.builtin "sorted") [x]) Q E s :=
 Zx (f:=tuples' true) (o:=kind kc) hc (λh' tk B _ kp=>#[λh2 E R r=>qc h2 (λv hv=>(ht v hv).keep kp) hs hd r,Au (λv hv=>(ht v hv).keep kp) hs true]) hl q
end
end TS
namespace L2
open PySem PyProof.Rows TS
variable {H:Hp}{b:Addr}{k:List Key}
def sW:V->Key|.int n=>.inl n|.str x=>.inr x|_=>.inl 0
theorem Bj (k:Key):sW (kV k)=k:=by cases k<;>rfl
def jP (H:Hp) (bs:DZ) (ks:List (List Key)):Prop:=bs.length=ks.length/\∀(i:Nat) (b:Addr) (k:List Key),bs[i]?=some b->ks[i]?=some k->H b=some (.tup<|k.map kV)
def vh (H:Hp):Value->List Key
 | .ref b=>match H b with|some (.tup ys)=>ys.map sW|_=>[]
 | _=>[]
theorem vc (e:H b=some (.tup<|k.map kV)):vh H (.ref b)=k:=by
 show (match H b with|some (.tup ys)=>ys.map sW|_=>[])=k;rw[e];show (k.map kV).map sW=k;rw[yS];exact (Qx λx _=>Bj x).trans (aaB _)
theorem Nz:∀{ks:List Key} {us:DY},jG (ks.map kV) us->vE ks us
 | [],_,h=>by cases h;exact .nil
 | k::ks,_,h=>by
  cases h with
  | cons r t =>
   refine .cons ?_<|Nz t;cases k with
   | inl n=>exact r
   | inr x=>exact r
theorem aE {P:Ee}{w:World}{h:Heap} (ok:Jh P w H h) (e:H b=some (.tup<|k.map kV)):TS.TupAt h (.ref b) k:=by
 obtain⟨_,Ek,r,o,h1,h2,n,h3⟩:=(ok b _ e);exact#[b,o,Ek,n,rfl,h1,h2,h3,Nz r]
def VR:Value->Addr|.ref b=>b|_=>0
theorem NE {vs out:DY}{ks:List (List Key)} (hv:∀v∈vs,∃(b:Addr) (k:List Key),v=.ref b/\H b=some (.tup<|k.map kV)) (hk:vs.map (vh H)=ks) (pm:out.Perm vs) (up:out.Pairwise λu v=>lx (vh H v) (vh H u)=false) :
  jG ((out.map VR).map V.ref) out/\jP H (out.map VR) (out.map<|vh H)/\(out.map<|vh H).Perm ks/\(out.map<|vh H).Pairwise λa b=>lx b a=false:=by
 have ho:=λv h=>hv v<|pm.mem_iff.mp h;refine#[?_,#[by grind,λi b k h1 h2=>?_],hk▸pm.map _,yT.mpr up]
 ·clear pm up hk
  induction out with
  | nil=>exact .nil
  | cons v r ih =>
   obtain⟨b,k,rfl,_⟩:=ho v<|yE ..;exact .cons rfl (ih λu hu=>ho u<|yH _ hu)
 ·rw[yo] at h1 h2;obtain⟨v,e1,rfl⟩:=yI.mp h1;rw[e1] at h2;cases h2;obtain⟨b,k,rfl,e⟩:=ho v<|yp e1;rw[vc e];exact e
theorem Kw {α β:Type}{F:α->β->Prop}:∀{l:List α} {m:List β} {y:β},Paired F l m->y∈m->∃x∈l,F x y:=by
 intro _ _ _ p h
 induction p with
 | nil=>cases h
 | cons r t ih =>
  rcases yz.mp h with rfl|h
  ·exact#[_,yE,r]
  ·obtain⟨x,hx,hf⟩:=ih h;exact#[x,yH _ hx,hf]
theorem VD {α β γ:Type}{F:α->β->Prop}{g:α->γ}{g':β->γ}:∀{l:List α} {m:List β},Paired F l m->(∀x y,F x y->g' y=g x)->l.map g=m.map g'
 | _,_,.nil,_=>rfl
 | _,_,.cons r t,h=>by rw[yR,yR,h _ _ r,VD t h]
section
variable {X:Cx}
theorem VU (hc:X.calm=true):u4 X (.builtin "sorted") (λxs H Q=>∃p Ei d,xs=[.ref p]/\H p=some (.dT Ei)/\(∀kv∈Ei,sd kv.1=d)/\d≠[] /\
  ∀l bs ks,H l=none->jP H bs ks->ks.Perm (Ei.map (·.1))->(ks.Pairwise λa b=>lx b a=false)->Q (.ref l) (upd H l<|.lst<|bs.map V.ref)):=by
 intro pins s σ H xs us Q I r h;obtain⟨p,Ei,d,rfl,e,hs,hd,q⟩:=h;obtain⟨u,rfl,ru⟩:=UV r;cases ru;obtain⟨hl,hm,ys,kt,ob,es,ep,h1,h2,h3,h4,h5,h6⟩:=gS I.hok e;have hv:∀v∈es.toList.map (·.key),∃(b:Addr) (k:List Key),v=.ref b/\H b=some (.tup<|k.map kV)/\k∈Ei.map (·.1):=λv hv=>by
  rw[h4,yS] at hv;obtain⟨y,hy,rfl⟩:=yf.mp hv;obtain⟨x,hx,e2,e3,_⟩:=Kw kt hy;exact#[y.2.1,x.1,rfl,e3,yf.mpr #[x,hx,rfl]]
 have hk:(es.toList.map (·.key)).map (vh H)=Ei.map (·.1):=by
  rw[h4,yS,yS];exact (VD kt λx y hxy=>vc hxy.2.1).symm
 have Rp:∀v∈es.toList.map (·.key),sd (vh H v)=d:=λv HY=>by
  obtain⟨b,k,rfl,e1,hm⟩:=hv v HY;obtain⟨kv,h7,rfl⟩:=yf.mp hm;rw[vc e1];exact hs kv h7
 have hlen:es.size=Ei.length:=by
  have:=congrArg Yl h4;rw[yD,yb] at this;rw[this,Paired.length kt]
 refine Ma (kc:=vh H) (λR hR=>aT (A:=X.A.in1) (I.ok.hd hc) hm #[ob,h1,h2,h3] (by rw[hlen];exact hl) hR) (λv HY=>?_) Rp hd (by rw[yb,yD,hlen];exact hl) λh' tk c p' out kp hp e' pm up=>?_
 ·obtain⟨b,k,rfl,e1,_⟩:=hv v HY;rw[vc e1];exact aE I.hok e1
 ·obtain⟨rv,ka,II,Hv⟩:=NE (λv h=>by obtain⟨b,k,e1,e2,_⟩:=hv v h;exact#[b,k,e1,e2]) hk pm up;refine#[.ref p',_,I.laid (t':=tk) (o:=.lst<|(out.map VR).map V.ref) kp hp #[?_,out,c,rv,e'],rfl,q p' _ _ (I.hok.fresh hp) ka II Hv];rw[yb,yb,pm.length_eq,yb,yD,hlen];exact hl
end
end L2
namespace TS
open PySem PyProof.Rows L2
variable {M:Model}
section
variable {prog:Ee}{w:World}{A:Around}{E:DO}{s:Shared}
theorem bf {β:Type}{g:Nat->β->Sem (ForInStep β)} (I:Nat->β->Prop) {Q:β->Shared->Prop} (n:Nat)
  (step:∀i c,i<n->I i c->wpAny M A (g i c) (λr s'=>s'=s/\match r with|.done c'=>Q c' s|.yield c'=>I (i+1) c') E s) (fin:∀c,I n c->Q c s):∀(k i:Nat) (c:β),i+k=n->I i c->wpAny M A (forIn (List.range' i k 1) c g) Q E s:=by
 intro k
 induction k with
 | zero =>
  intro i c h hi;rw[List.range'_zero,abS];obtain rfl:i=n:=by omega
  exact Eg (fin c hi)
 | succ k ih =>
  intro i c h hi;rw[List.range'_succ,Y9];refine Ef (wpAny_mono (step i c (by lia) hi) (λr s' hr=>?_) λ_ _ e=>e);obtain⟨rfl,hr⟩:=hr;cases r with
  | done c'=>exact Eg hr
  | yield c'=>exact ih (i+1) c' (by lia) hr
theorem Np {β:Type}{g:Nat->β->Sem (ForInStep β)} (I:Nat->β->Prop) {Q:β->Shared->Prop} {n:Nat} {c:β}
  (step:∀i c,i<n->I i c->wpAny M A (g i c) (λr s'=>s'=s/\match r with|.done c'=>Q c' s|.yield c'=>I (i+1) c') E s) (fin:∀c,I n c->Q c s) (h0:I 0 c):wpAny M A (forIn [0:n] c g) Q E s:=by
 rw[abN];have hsz:([0:n]:abk).size=n:=by simp [abM]
 show wpAny M A (forIn (List.range' 0 ([0:n]:abk).size 1) c g) Q E s;rw[hsz];exact bf I n step fin n 0 c (by lia) h0
variable {K:Type} [DecidableEq K] {knd:HeapKind prog w K}
end
end TS
namespace L2
open PySem PySem.Spec PyProof.Rows
section
variable {P:Ee}{w:World}{K:DS}{mg:DV}{base:Heap}
theorem xw {fd:FuncData}{ps:D8}{D:Addr}{od:Obj}{items:D9}{n:Nat} (hf:fd.defaults=.ref D) (dl:K.lookup D=some od) (hd:od.data=.seq items n)
  (h:∀us:List Value,us.length+1=ps.length->∃k:Option (Array Value)->Sem (List<|Str×Value),bindArgs fd ⟨us,[]⟩=seqItems? fd.defaults>>=k/\k (some items)=pure (ps.zip<|us++[Value.none])):JZ K fd ps [Value.none]:=by
 intro s us KX hl;rw[ye] at hl;obtain⟨k,h1,h2⟩:=h us hl;exact BindsTo.of_defaults hf (KX D od dl) hd h1 h2
structure nL (P:Ee) (w:World) (K:DS) (mg:DV) (base:Heap) (k:Nat) (C:Addr) (m:Str) (ps:D8) (sp:Sp):Prop where
 cl:Vi K C
 ex:∃f fd,ZX K C m f/\Ui P w K mg base (XC P w) k f fd ps sp/\JZ K fd ps [Value.none]
end
section
variable {X:Cx}{k:Nat}{m:Str}{C:Addr}{ps:D8}{sp:Sp}{E:XK}
def AE (C:Addr) (m:Str) (sp:Sp) (E:XK):V->Hp->VK->Prop:=λx H Q=>∃a dx fs,x=.ref a/\H a=some (.ins C dx fs)/\fs.lookup m=none/\sp [x,.non] H Q E
theorem g6 (G:nL X.prog X.w X.K X.mg X.base k C m ps sp) (hr:autoParam (UM k X.A) zzl) (hx:autoParam (UD (XC X.prog X.w) X E) zzn):xh X m (AE C m sp E):=by
 intro pins s σ H x u Q pl pos I r h;obtain⟨f,fd,M,F,b⟩:=G.ex;obtain⟨a,dx,fs,rfl,ea,l,q⟩:=h;obtain rfl:u=Value.ref a:=r;refine wpAny_holding<|vK I ea G.cl M l ?_;exact callWith_K0 (first:=[.ref a]) I.kIn M.kp (Kz (us:=[.ref a]) (vs:=[.ref a]) (dvs:=[.non]) F hr b (.cons rfl .nil) hx I (.cons rfl .nil) q)
end
theorem N2 {X:Cx}{K:DS} (h:X.K=K):uC X (binaryOp .Add) (so K):=h▸z7
end L2
namespace L2
open PySem PySem.Spec PyProof.Rows TS
section
variable {X:Cx}
theorem VV:u4 X (.builtin "sorted") (λxs H Q=>∃p bs ks d,xs=[.ref p]/\H p=some (.lst<|bs.map V.ref)/\jP H bs ks/\(∀k∈ks,sd k=d)/\d≠[] /\
  ∀l Fg Ep,H l=none->jP H Fg Ep->Ep.Perm ks->(Ep.Pairwise λa b=>lx b a=false)->Q (.ref l) (upd H l<|.lst<|Fg.map V.ref)):=by
 intro pins s σ H xs us Q I r h;obtain⟨p,bs,ks,d,rfl,e,ka,hs,hd,q⟩:=h;obtain⟨u,rfl,ru⟩:=UV r;cases ru;obtain⟨Ek,rv,pl,hz⟩:=I.list<|jt.of e;obtain rfl:=VN rv;have hv:∀v∈bs.map Value.ref,∃(b:Addr) (k:List Key),v=.ref b/\H b=some (.tup<|k.map kV)/\k∈ks:=λv hv=>by
  obtain⟨b,hb,rfl⟩:=yf.mp hv;obtain⟨i,hi,eb⟩:=yO hb;have Uf:i<ks.length:=by rw[<-ka.1];exact hi
  exact#[b,ks[i],rfl,ka.2 i b ks[i] (by rw[yc hi,eb])<|yc Uf,yV Uf]
 have hk:(bs.map Value.ref).map (vh H)=ks:=by
  refine QF (by rw[yb,yb,ka.1]) λi h1 h2=>?_;rw[Qh,Qh];have hb:i<bs.length:=by simpa using h1
  exact vc (ka.2 i bs[i] ks[i] (yc hb)<|yc h2)
 have Rp:∀v∈bs.map Value.ref,sd (vh H v)=d:=λv HY=>by
  obtain⟨b,k,rfl,e1,hm⟩:=hv v HY;rw[vc e1];exact hs k hm
 have hlen:(bs.map Value.ref).length<=sizeLine:=by
  have:=hz;simpa using this
 refine Ma (kc:=vh H) (λR hR=>collect_list (A:=X.A.in1) pl.isList (hR _ s.toks (λb o e=>?_) ?_) hlen) (λv HY=>?_) Rp hd hlen λh' tk c p' out kp hp e' pm up=>?_
 ·exact (yF _ _<|QC<|yq e).trans (yg _ e)
 ·show s.heap.objs.size<((s.heap.push _).update _ _).objs.size;simp [Heap.update,Heap.push]
 ·obtain⟨b,k,rfl,e1,_⟩:=hv v HY;rw[vc e1];exact aE I.hok e1
 ·obtain⟨rv,ka,II,Hv⟩:=NE (λv h=>by obtain⟨b,k,e1,e2,_⟩:=hv v h;exact#[b,k,e1,e2]) hk pm up;refine#[.ref p',_,I.laid (t':=tk) (o:=.lst<|(out.map VR).map V.ref) kp hp #[?_,out,c,rv,e'],rfl,q p' _ _ (I.hok.fresh hp) ka II Hv];rw[yb,yb,pm.length_eq];exact hlen
open Classical in
end
end L2
namespace L2
open PySem PySem.Spec PyProof.Rows
theorem zF {lo:Int}{n:Nat}{g:TG}{tc:TT}{te:TE}{k:Nat}{σ:St}{H:Hp}{Q:VK} (Pv:Addr->Nat->List V->Hp->Prop) (hn:n<=sizeLine)
  (h0:∀D,H D=none->Pv D 0 [] (upd H D<|.lst [])) (hD:∀D i ys H',Pv D i ys H'->H' D=some (.lst ys)/\ys.length<=i)
  (step:∀D i ys H' (Qy:VK) (Qn:Hp->Prop),i<n->Pv D i ys H'->(∀y H4,H4 D=some (.lst ys)->Pv D (i+1) (ys++[y]) (upd H4 D<|.lst<|ys++[y])->Qy y H4)->(∀H4,Pv D (i+1) ys H4->Qn H4) ->
   g (.int<|lo+i) (σ++Yd k none) H' λσ2 H2=>(∃zs,σ2=σ++zs/\zs.length=k)/\tc σ2 H2 λb H3=>if b=true then te σ2 H3 Qy else Qn H3)
  (q:∀D ys H',H D=none->Pv D n ys H'->Q (.ref D) H'):vm k g tc te σ Q (ZV lo n) H:=by
 intro D Hu;refine#[λi m ys H'=>m=n - i/\i<=n/\Pv D i ys H',#[n,by simp,yL _,h0 D Hu],?_];rintro i m ys H' ⟨rfl,hi,p⟩;obtain⟨e,hl⟩:=hD D i ys H' p;refine#[e,?_];by_cases El:i<n
 ·refine .inr #[El,by lia,λx H2 y=>?_];obtain⟨rfl,rfl⟩:=y;exact step D i ys H2 _ _ El p (λy H4 e4 p4=>#[e4,n - (i+1),by omega,rfl,El,p4]) λH4 p4=>#[n - (i+1),by omega,rfl,El,p4]
 ·obtain rfl:i=n:=by lia
  exact .inl #[yh _,q D ys H' Hu p]
end L2
namespace L2
open PySem PySem.Spec PyProof.Rows TS
section
variable {X:Cx}{pos:Pos}
def A1 (tk tv:TE):TE:=λσ H Q=>∀p,H p=none->tk σ (upd H p<|.dT []) λx H1=>tv σ H1 λy H2=>∃b k,x=.ref b/\H2 p=some (.dT [])/\H2 b=some (.tup<|k.map kV)/\Q (.ref p) (upd H2 p<|.dT [(k,y)])
theorem qw {k v:Expr}{tk tv:TE} (hu:X.A.units+1<cLine) (hk:PE X k tk) (hv:PE X v tv):PE X (.Dict [some k] [v] pos) (A1 tk tv):=by
 intro pins s σ H Q I q;have hn:=I.hok.fresh<|yh s.heap.objs.size;have I1:=I.laid (a:=s.heap.objs.size) (o:=.dT []) (h':=s.heap.push { cls:=.type "dict",data:=.dict (Ya []) }) (t':=s.toks) (λ_ _ q=>yg _ q) (yh _)<|n6 s.heap I.big;refine wpAny_Dict_any rfl rfl (by simp) (Qd rfl) (pairTrees_cons_walk (jE (hk pins _ σ _ _ I1<|q _ hn) λu s1 #[x,H1,I1',rx,q1]=>jE (hv pins s1 σ H1 _ I1' q1) λw2 s2 #[y,H2,I2,ry,b,k,ex,ep,eb,q2]=>pairTrees_nil_walk ?_));subst ex;cases (show u=Value.ref b from rx);obtain⟨z,hd,xs,rel,dd⟩:=gS I2.hok ep;have hz:xs.length<=sizeLine:=by rw[<-Paired.length rel];exact z
 unfold storeAll;rw[Y9];refine Ef (Ef (wpAny_dictSet_heap (hsz:=hz) (knd:=tupleKind<|Jp X.prog X.w) (show X.A.units<cLine by lia) (vM I2.hok eb) dd λh' O7 hs=>Eg ?_));dsimp only;rw[abS];refine Eg #[.ref s.heap.objs.size,_,?_,rfl,q2];obtain⟨q,es,P8,hq,h2,h3,h4,_,h5⟩:=O7;have hl:(jZ ([]:List (List Key×V)) k y).length<=sizeLine:=by show 1<=sizeLine;decide
 refine KP I2 (by rw[ep];exact Yo) hs #[q,hq] #[hl,hd,_,(rel.put k eb ry).keeps λc ys ec=>?_,q,es,P8,hq,h2,h3,h4,h5];rw[jj<|jA ec ep];exact ec
end
end L2
namespace L2
open PySem PySem.Spec PyProof.Rows
variable {P Pr:Ee}{H H':Hp}{pos:Pos}{qual x:Str}{w:World}{h:Heap}{c a:Addr}{pm ct:Value}{scope:Scope}{pins:DW}{σ:St}{s:Shared}{cm:Bool}{cl:D0}{ps:D8}{k:Nat}{sp:Sp}{mg:DV}
def Ur (c:Addr) (qual:Str):HO:=.ext λh=>h.CodeRec (.ref c) qual
def ZW (f:Addr) (qual:Str) (params:Arguments) (body:Expr) (scope:Scope) (cl:D0) (c:Addr):HO :=
 .ext λh=>∃pm ct,h.get? f=some (kla_obj "<lambda>" qual params body scope cl pm c ct)
def zl (H:Hp) (P:Addr) (pos:Pos) (qual:Str):Prop :=
 ∃ps,H P=some (.tbl ps)/\TriplesOk ps.toList/\(codeAmong pos ps.toList=none\/∃c,codeAmong pos ps.toList=some (.ref c)/\H c=some (Ur c qual))
def vW (P:Addr) (H H':Hp):Prop:=∀b u,b≠P->H b=some u->H' b=some u
theorem zl.same {P:Addr} (t:zl H P pos qual) (a:Same H H'):zl H' P pos qual:=by
 obtain⟨qs,e,tr,k⟩:=t;refine#[qs,a _ _ e,tr,?_];rcases k with k|⟨c,k,hc⟩
 ·exact .inl k
 ·exact .inr #[c,k,a _ _ hc]
def vC (mg:DV) (base:Heap):Prop :=
 ∃bm ob,mg "__builtins__"=some (.ref bm)/\bm≠builtinsNs/\base.get? bm=some ob/\ob.cls=.type "module"/\ob.dict=some builtinsNs/\ob.data=.plain
def Bb (P:Addr) (qual:Str) (params:Arguments) (body:Expr) (scope:Scope) (cl:D0) (pos:Pos):TE:=λ_ H Q =>
 zl H P pos qual/\∀c f H',vW P H H'->zl H' P pos qual->H f=none->H' f=some (ZW f qual params body scope cl c)->H' c=some (Ur c qual)->Q (.ref f) H'
section
variable {X:Cx}{params:Arguments}{body:Expr}{scope:Scope}{pos:Pos}{cl:D0}{c0 P:Addr}
theorem n4 (r:h.CodeRec (.ref c) qual):Jz Pr w H h c (Ur c qual):=by
 obtain⟨c',o,vs,t,e,g,r'⟩:=id r;cases e;refine#[r,#[o,g],λh1 h2 z k=>?_];obtain⟨c',o,vs,t,e,g,r'⟩:=z;cases e;exact#[_,o,vs,t,rfl,k _ g,r']
theorem cA {f:Addr} (e:h.get? f=some (kla_obj "<lambda>" qual params body scope cl pm c ct)):Jz Pr w H h f (ZW f qual params body scope cl c) :=
 #[#[pm,ct,e],#[_,e],λh1 h2 #[pm,ct,z] k=>#[pm,ct,k _ z]]
theorem Aw (L8:defaultsOf params X.env=([],[])) (Fx:closureFor scope X.env=pure cl) (EZ:X.env.code=.ref c0) (C:codeHdIn X.K c0 P=true) (hB:vC X.mg X.base) :
  PE X (.Lambda params body scope pos) (Bb P (X.env.qual++"<lambda>") params body scope cl pos):=by
 intro pins s σ H Q I h;obtain⟨⟨ps,hP,ht,Hw⟩,q⟩:=h;refine PySem.W.kla_eval L8 ?_;have hg:s.heap.Ns mainGlobals X.mg:=I.mod.glob.keeps I.bk;have CH:CodeHd s.heap c0 P:=codeHd_of_K I.kIn C;have Rq:s.heap.get? P=some (tabObj ps):=I.hok P _ hP;have Rr:∀b o,X.base.get? b=some o->b≠P:=λb o e z=>by
  have:=(I.bs b o e).2;rw[z,hP] at this;cases this
 obtain⟨bm,ob,b1,b2,b3,b4,b5,b6⟩:=hB;have Wn:mainGlobals≠P:=by
  obtain⟨o,es,ep,e,_⟩:=I.mod.glob;exact Rr _ _ e
 have Ey:bm≠mainGlobals:=λz=>by
  obtain⟨o,es,ep,e,hd,_⟩:=I.mod.glob;rw[z,e] at b3;cases b3;rw[hd] at b6;cases b6
 have hb:s.heap.BuiltinsAt X.mg P:=#[bm,ob,b1,b2,Ey,Rr _ _ b3,I.bk _ _ b3,b4,b5,b6];rcases Hw with LF|⟨c,hf,hc⟩
 ·refine PySem.W.kla_makeFunction (mg:=X.mg) Fx I.ok.glob hg EZ CH Rq ht LF Wn hb λc Ii h' tk hx F8 El Ij Ik=>?_;have EV:H h'.objs.size=none:=I.hok.fresh<|ym F8<|aaa El;have IY:H c=none:=I.hok.fresh F8;have Wo:c≠P:=λz=>by rw[z,hP] at IY;cases IY
  have Wq:h'.objs.size≠P:=λz=>by rw[z,hP] at EV;cases EV
  have Wr:h'.objs.size≠c:=QC El;generalize IH:ps++(Ya [rawInt pos.line,rawInt pos.col,.ref c])=HR at Ik;generalize hH:upd (upd (upd H P<|.tbl HR) c<|Ur c<|X.env.qual++"<lambda>") h'.objs.size (ZW h'.objs.size (X.env.qual++"<lambda>") params body scope cl c)=H2;have e1:H2 h'.objs.size=some (ZW h'.objs.size (X.env.qual++"<lambda>") params body scope cl c):=by rw[<-hH,jd]
  have e2:H2 c=some (Ur c<|X.env.qual++"<lambda>"):=by rw[<-hH,jj<|yG Wr,jd]
  have e3:H2 P=some (.tbl HR):=by rw[<-hH,jj<|yG Wq,jj<|yG Wo,jd]
  have e4:∀b,b≠P->b≠c->b≠h'.objs.size->H2 b=H b:=λb n1 n2 n3=>by rw[<-hH,jj n3,jj n2,jj n1]
  have off:vW P H H2:=λb u n e=>by rw[e4 b n (jh e IY)<|jh e EV];exact e
  have kp:∀b o,b≠P->s.heap.get? b=some o->(h'.push<|kla_obj "<lambda>" (X.env.qual++"<lambda>") params body scope cl ((X.mg "__name__").getD .none) c Ii).get? b=some o:=λb o n e=>yg _<|hx b o n e;have low:∀b o,s.heap.get? b=some o->b≠c/\b≠h'.objs.size:=λb o e=>#[yJ<|yw (yq e) F8,yJ<|Y2 (yw (yq e) F8) El];have un:Un X.fs [] H H2 s.heap (h'.push<|kla_obj "<lambda>" (X.env.qual++"<lambda>") params body scope cl ((X.mg "__name__").getD .none) c Ii):=by
   refine#[λb o e n _ _=>kp b o (λz=>by rw[z,hP] at n;cases n) e,λb o e n _ _=>#[o.slots,kp b o (λz=>by rw[z,hP] at n;cases n) e],λb o e n _=>?_,λb o e _=>?_,λb xs e=>off b _ (λz=>by rw[z,hP] at e;cases e) e,λb o u e=>off b _ (λz=>by rw[z,hP] at e;cases e) e,λb qs e=>?_]
   ·rw[e4 b (λz=>by rw[z,hP] at n;cases n) (low b o e).1 (low b o e).2];exact n
   ·by_cases z:b=P
    ·exact#[_,yg _<|z▸Ik]
    ·exact#[o,kp b o z e]
   ·by_cases z:b=P
    ·rw[z,hP] at e;cases e;exact#[(Ya [rawInt pos.line,rawInt pos.col,.ref c]),by rw[z,e3,IH]]
    ·exact#[(Ya []),by rw[off b _ z e];simp]
  have hok:Jh X.prog X.w H2 (h'.push<|kla_obj "<lambda>" (X.env.qual++"<lambda>") params body scope cl ((X.mg "__name__").getD .none) c Ii):=λb o e=>by
   by_cases z1:b=h'.objs.size
   ·subst z1;rw[e1] at e;cases e;exact cA (yB _ rfl)
   ·by_cases z2:b=c
    ·subst z2;rw[e2] at e;cases e;exact n4 (Ij.push _)
    ·by_cases z3:b=P
     ·subst z3;rw[e3] at e;cases e;exact (show _=_ from yg _ Ik)
     ·rw[e4 b z3 z2 z1] at e;refine (I.hok b o e).stay (λd u hd g=>kp d u (λz=>?_) g) (λd g=>off d _ (λz=>by rw[z,hP] at g;cases g) g) λd xs g=>off d _ (λz=>by rw[z,hP] at g;cases g) g;rcases hd with w1|w1
      ·exact z3 (w1▸z)
      ·rw[z,hP] at w1;cases w1
  refine#[.ref h'.objs.size,H2,I.un un hok,rfl,q c _ H2 off #[HR,e3,?_,.inr #[c,?_,e2]] EV e1 e2]
  ·rw[<-IH];have:(ps++(Ya [rawInt pos.line,rawInt pos.col,Value.ref c])).toList=ps.toList++[rawInt pos.line,rawInt pos.col,.ref c]:=by simp
   rw[this];exact TriplesOk_snoc _ _ _ _ ht
  ·rw[<-IH];have:(ps++(Ya [rawInt pos.line,rawInt pos.col,Value.ref c])).toList=ps.toList++[rawInt pos.line,rawInt pos.col,.ref c]:=by simp
   rw[this];exact codeAmong_snoc _ ht LF
 ·refine PySem.W.kla_makeFunctionHit (mg:=X.mg) Fx I.ok.glob hg EZ CH Rq ht hf hb λIi h' tk hk hsz=>?_;have EV:H h'.objs.size=none:=I.hok.fresh hsz;have nf:∀{b:Addr} {u:HO},H b=some u->b≠h'.objs.size:=λe=>jh e EV;have J:=I.laid (a:=h'.objs.size) (o:=ZW h'.objs.size (X.env.qual++"<lambda>") params body scope cl c) (t':=tk) (h':=h'.push<|kla_obj "<lambda>" (X.env.qual++"<lambda>") params body scope cl ((X.mg "__name__").getD .none) c Ii)
   (λb u e=>yg _<|hk b u e) hsz (cA<|yB _ rfl)
  refine#[.ref h'.objs.size,_,J,rfl,q c _ _ (λb u _ e=>jB (nf e) e) #[ps,jB (nf hP) hP,ht,.inr #[c,hf,jB (nf hc) hc]] EV jd<|jB (nf hc) hc]
end
theorem cM {X:Cx}{params:Arguments}{body:Expr}{n:Str}{c0 P:Addr} (hsub:X.env.cells.lookup n=some a) (L8:defaultsOf params X.env=([],[])) (Fx:closureFor scope X.env=pure [(n,a)]) (EZ:X.env.code=.ref c0) (C:codeHdIn X.K c0 P=true) (hB:vC X.mg X.base) :
  PE X (.Lambda params body scope pos) (Bb P (X.env.qual++"<lambda>") params body scope [(n,a)] pos):=Aw L8 Fx EZ C hB
abbrev Ut (c:Addr) (o:Obj):HO:=.frz o (.ext λh=>h.get? c=some o)
def M3 (o:Obj) (v:V):Prop:=∃u,jI v u/\o.data=.cell (some u)
def VQ (H:Hp) (c:Addr) (v:V):Prop:=∃o,H c=some (Ut c o)/\M3 o v
def unf (H:Hp) (c:Addr):Hp:=λb=>if b=c then none else H b
theorem Um {b:Addr} (n:b≠c):unf H c b=H b:=if_neg n
theorem aG:unf H c c=none:=if_pos rfl
section
variable {X:Cx}{k:Nat}{f C:Addr}{fd:FuncData}{ps:D8}{sp:Sp}{x m:Str}{p pos apos:Pos}{e o:Expr}{es:Ea}{ta:TE}{t:TA}{i:Nat}{y:Str}{c:Addr}
theorem wy {Q:VK}{us:DY}{vs:List V}{v:V} (F:Ui X.prog X.w X.K X.mg X.base (XC X.prog X.w) k f fd ps sp cm) (hr:Jf cm k X.A) (hb:JZ X.K fd ps [])
  (I:jo X pins σ H s) (r:jG vs us) (hi:X.N[i]?=some y) (hy:X.env.scope.names.lookup y=some .cell) (hc:X.env.cells.lookup y=some c) (EV:X.fn y=true) (hv:σ[i]?=some (some v))
  (h:H c=none->∀oc,M3 oc v->sp vs (upd H c<|Ut c oc) (λr H'=>Q r<|unf H' c) (λ_ _ _=>False)):wpAny (model X.prog X.w) X.A (call (.ref f) us) (EP X pins σ Q) X.xe s:=by
 obtain⟨mm,hn,hl⟩:=I.loc;obtain⟨u,ru,l⟩:=hl i y v hi hv<|.inr<|.inl hy;have Hn:s.heap.IsCell c (some u):=by
  rcases l with ⟨z,_⟩|⟨_,c',Fo,z⟩
  ·have z':X.env.scope.names.lookup y=some .local:=z;rw[hy] at z';cases z'
  ·rw[hc] at Fo;cases Fo;exact z
 obtain⟨oc,EO,O6⟩:=Hn;have Lz:=I.freeC y c hc;have q:=h Lz oc #[u,ru,O6];have Rt:∀b o,X.s₀.heap.get? b=some o->b≠c:=λb o e=>yJ<|yw (yq e)<|I.ok.cab y c EV hc;have cst:∀b∈uo X.stack,b≠c:=λb hb=>by
  rcases yz.mp (I.stkSub b hb) with z|z
  ·rw[z];exact yG (I.cne y c hc)
  ·obtain⟨_,o,ho,_⟩:=I.ok.funs.mem z;exact Rt b o ho
 have L9:Jh X.prog X.w (upd H c<|Ut c oc) s.heap:=λb o e=>by
  by_cases hb:b=c
  ·subst hb;rw[jd] at e;cases e;exact#[EO,EO,#[_,EO],λh1 h2 a k=>k _ a]
  ·rw[jj hb] at e;exact (I.hok b o e).stay (λ_ _ _ q=>q) (λd g=>jB (jh g Lz) g) λd xs g=>by rw[jj<|jh g Lz];exact g
 have e0:vD X.prog X.w X.K X.mg X.base X.A X.stack s (upd H c<|Ut c oc) :=
  #[I.ok.frames,I.ok.mod,λb o e=>#[(I.bs b o e).1,jB (Rt b o (I.ok.bs b o e).1)<|(I.bs b o e).2],ym I.ok.bsz I.sz,I.stack,λb hb=>jB (cst b hb)<|I.stkFree b hb,L9,I.bare,
   I.hn.mono λb o u e=>jB (jh e Lz) e]
 have hl:(us++[]).length=ps.length:=by rw[yK,<-r.length];exact F.len _ _ _ _ q
 have FX:=hb s us I.kIn hl;rw[yK] at FX;refine wpAny_call (codeAny_mono (F.run X.A X.stack s _ #[us,[]] us vs _ _ hr e0 FX r q) λr s' hq=>?_);cases r with
 | error e =>
  obtain⟨_,_,_,_,_,_,_,_,_,z⟩:=hq;exact z.elim
 | ok fl =>
  cases fl with
  | next=>exact Yf hq
  | brk=>exact Yf hq
  | cont=>exact Yf hq
  | ret u =>
   obtain⟨v',H',os,bare,un,FJ,rv,q'⟩:=hq;have zc:H' c=some (Ut c oc):=un.frzs c oc _ jd;have FV:s'.heap.get? c=some oc:=(FJ c _ zc).1;have nf:∀{b:Addr} {w:HO},H' b=some w->(∀o u,w≠.frz o u)->b≠c:=λe n z=>by rw[z,zc] at e;exact n _ _ (Yb e).symm
   have gK:Un (uo X.stack) [] H (unf H' c) s.heap s'.heap:=by
    refine#[λb o e n hb hx=>?_,λb o e n hb hx=>un.slot b o e (jB (cst b hb) n) hb hx,λb o e n hx=>?_,λb o e hx=>un.there b o e hx,λb xs e=>?_,λb o w e=>?_,λb qs e=>?_]
    ·by_cases z:b=c
     ·subst z;rw[EO] at e;cases e;exact FV
     ·exact un.keep b o e (jB z n) hb hx
    ·by_cases z:b=c
     ·rw[z,aG]
     ·rw[Um z];exact un.free b o e (jB z n) hx
    ·have z:=jh e Lz;rw[Um z];exact un.tups b xs (jB z e)
    ·have z:=jh e Lz;rw[Um z];exact un.frzs b o w (jB z e)
    ·have z:=jh e Lz;rw[Um z];exact un.tbls b qs (jB z e)
   have Ic:Jh X.prog X.w (unf H' c) s'.heap:=λb o e=>by
    by_cases z:b=c
    ·rw[z,aG] at e;cases e
    ·rw[Um z] at e;exact (FJ b o e).stay (λ_ _ _ g=>g) (λd g=>by rw[Um (nf g (by intro o u z;cases z))];exact g) λd xs g=>by rw[Um (nf g (by intro o u z;cases z))];exact g
   exact#[v',_,I.call' (ch:=[]) os gK Ic bare (λb z=>absurd z (by simp)),rv,q']
def Bc (C:Addr) (m:Str) (sp:Sp) (i:Nat) (c:Addr) (ta:TE) (t:TA):TE:=λσ H Q=>ta σ H λx H1=>∃a dx fs,x=.ref a/\H1 a=some (.ins C dx fs)/\fs.lookup m=none /\
 t σ H1 λvs H2=>∃v,σ[i]?=some (some v)/\(H2 c=none->∀oc,M3 oc v->sp (x::vs) (upd H2 c<|Ut c oc) (λr H'=>Q r<|unf H' c) (λ_ _ _=>False))
theorem N5 {pl:Sem Bool} (ho:PE X o ta) (G:uQ X.prog X.w X.K X.mg X.base k C m ps sp) (hr:UM k X.A) (ha:PA X (e::es) t)
  (hi:X.N[i]?=some y) (hy:X.env.scope.names.lookup y=some .cell) (hc:X.env.cells.lookup y=some c) (EV:X.fn y=true)
  (Fp:autoParam (starEach (e::es) X.env=(false,eval e X.env)::starEach es X.env) ac) (EE:autoParam ((backTo pos<|starEach es X.env).any (·.1)=false) ac)
  (ht:autoParam (eval (.Call (.Attribute o m apos) (e::es) [] pos) X.env=(do
   let ov <-eval o X.env
   standAt apos.atName
   let (f,first) <-holding [ov] (getMethod ov m pl)
   callWith pos f first (backTo pos<|starEach (e::es) X.env) (backToKw pos<|keywordEach [] X.env))) ac) :
  PE X (.Call (.Attribute o m apos) (e::es) [] pos) (Bc C m sp i c ta t):=by
 obtain⟨f,fd,hm,F,b⟩:=G.ex;intro pins s σ H Q I h;refine methodCall_KW (pl:=pl) (jE (ho pins s σ H _ I h) λu s1 hh=>?_) ht;obtain⟨x,H1,I1,rx,a,dx,fs,ex,ea,l,q⟩:=hh;subst ex;obtain rfl:u=Value.ref a:=rx;refine vK I1 ea G.cl hm l ?_;refine callWith_K (first:=[.ref a]) (h₀:=X.base) I.ok.mod.kin hm.kp (jE (ha pos pins s1 σ H1 _ I1 q) λus s2 #[vs,H2,I2,r,v,hv,q2]=>#[I2.kIn,?_]) Fp EE;exact wy (us:=.ref a::us) (vs:=.ref a::vs) F hr b I2 (.cons rfl r) hi hy hc EV hv q2
def Calls (P:Ee) (w:World) (K:DS) (mg:DV) (base:Heap) (k:Nat) (f:Addr) (sp:Sp):Prop :=
 ∀(A:Around) (outer:List Env) (s:Shared) (H:Hp) (us:DY) (vs:List V) (Q:VK),UM k A->vD P w K mg base A outer s H->jG vs us->sp vs H Q (λ_ _ _=>False) ->
  codeAny (model P w) A (.call (.ref f) #[us,[]]) (CR (XC P w) outer P w H s Q (λ_ _ _=>False)) s
def zN (H:Hp) (f:Addr):Prop:=∃qual params body scope cl c,H f=some (ZW f qual params body scope cl c)
theorem zN.at (x:zN H f) (ok:Jh P w H h):FnAt f h:=by
 obtain⟨qual,params,body,scope,cl,c,e⟩:=x;obtain⟨⟨pm,ct,z⟩,_⟩:=ok _ _ e;exact#[_,_,_,_,z]
def oC (P:Ee) (w:World) (K:DS) (mg:DV) (base:Heap) (k:Nat) (ta:TE) (t:TA):TE:=λσ H Q=>ta σ H λx H1=>∃f,x=.ref f/\zN H1 f/\t σ H1 λvs H2=>zN H2 f /\
 ∃sp,Calls P w K mg base k f sp/\sp vs H2 Q (λ_ _ _=>False)
theorem qv (hf:PE X (.Name x p) ta) (hr:UM k X.A) (ha:PA X (e::es) t)
  (he:autoParam (starEach (e::es) X.env=(false,eval e X.env)::starEach es X.env) ac) (EE:autoParam ((backTo pos<|starEach es X.env).any (·.1)=false) ac) :
  PE X (.Call (.Name x p) (e::es) [] pos) (oC X.prog X.w X.K X.mg X.base k ta t):=by
 intro pins s σ H Q I h;refine wpAny_Call_Name_kw (jE (hf pins s σ H _ I h) λu s1 hh=>?_);obtain⟨v,H1,I1,rv,f,ev,hF,q⟩:=hh;subst ev;obtain rfl:u=Value.ref f:=rv;refine callWith_F (first:=[]) (hF.at I1.hok) (jE (ha pos pins s1 σ H1 _ I1 q) λus s2 #[vs,H2,I2,r,Ws,sp,C,q2]=>#[Ws.at I2.hok,?_]) he EE;refine wpAny_call (codeAny_mono (C X.A X.stack s2 H2 us vs Q hr I2.env0 r q2) λr s' hq=>?_);cases r with
 | error e =>
  obtain⟨_,_,_,_,_,_,_,_,_,z⟩:=hq;exact z.elim
 | ok fl =>
  cases fl with
  | ret u=>exact I2.after hq
  | next=>exact Yf hq
  | brk=>exact Yf hq
  | cont=>exact Yf hq
end
def uu (H:Hp) (cl:D0):Hp:=λb=>if b∈cl.map (·.2) then none else H b
def Zw (H H':Hp) (cl:D0):Hp:=λb=>if b∈cl.map (·.2) then H b else H' b
theorem j8 {b:Addr} (n:b ∉ cl.map (·.2)):uu H cl b=H b:=if_neg n
theorem VP {b:Addr} (n:b∈cl.map (·.2)):uu H cl b=none:=if_pos n
theorem JN {b:Addr} (n:b ∉ cl.map (·.2)):Zw H H' cl b=H' b:=if_neg n
theorem VM {b:Addr} (n:b∈cl.map (·.2)):Zw H H' cl b=H b:=if_pos n
theorem qG {p:Addr}{o:HO} (z:∀q∈cl,upd (uu H cl) p o q.2=none):Zw H (upd (uu H cl) p o) cl=upd H p o:=by
 funext b;by_cases e:b∈cl.map (·.2)
 ·rw[VM e];obtain⟨q,hq,rfl⟩:=yf.mp e;have n:q.2≠p:=λn=>by have:=z q hq;rw[n,jd] at this;cases this
  rw[jj n]
 ·rw[JN e];by_cases n:b=p
  ·rw[n,jd,jd]
  ·rw[jj n,jj n,j8 e]
structure Ze (N ps:D8) (scope:Scope) (cl:D0):Prop where
 kind:scope.kind=.function
 co:scope.isCoroutine=false
 gen:scope.isGenerator=false
 nocell:∀y∈scope.names,y.2≠.cell
 nd:ps.Nodup
 N:N=ps++cl.map (·.1)
 par:∀x∈ps,scope.names.lookup x=some .local
 fre:∀q∈cl,scope.names.lookup q.1=some .free/\cl.lookup q.1=some q.2
 has:∀x,scope.names.lookup x=some .free->∃c,cl.lookup x=some c
 inj:∀x y c,cl.lookup x=some c->cl.lookup y=some c->x=y
theorem Cs (h1:scope.kind=.function) (h2:scope.isCoroutine=false) (h3:scope.isGenerator=false) (h4:(scope.names.all λy=>y.2 != .cell&&y.2 != .free)=true) (h5:ps.Nodup)
  (h6:(ps.all λx=>scope.names.lookup x==some .local)=true):Ze ps ps scope [] :=
 #[h1,h2,h3,λy hy=>by
   have:=y6.mp h4 y hy;simp only[yU,bne_iff_ne] at this;exact this.1,h5,by simp,λx hx=>by simpa using y6.mp h6 x hx,λq hq=>absurd hq (by simp),λx e=>by
   have:=y6.mp h4 _ (uy e)
   simp at this,λx y c e=>by simp at e]
theorem zw {n:Str} (h1:scope.kind=.function) (h2:scope.isCoroutine=false) (h3:scope.isGenerator=false) (h4:(scope.names.all λy=>y.2 != .cell&&(y.2 != .free||y.1==n))=true) (h5:ps.Nodup)
  (h6:(ps.all λx=>scope.names.lookup x==some .local)=true) (h7:scope.names.lookup n=some .free):Ze (ps++[n]) ps scope [(n,a)] :=
 #[h1,h2,h3,λy hy=>by
   have:=y6.mp h4 y hy;simp only[yU,bne_iff_ne] at this;exact this.1,h5,by simp,λx hx=>by simpa using y6.mp h6 x hx,λq hq=>by
   obtain rfl:q=(n,a):=by simpa using hq
   exact#[h7,by simp],λx e=>by
   have:=y6.mp h4 _<|uy e;simp only[yU,aaY,bne_iff_ne,ne_eq,beq_iff_eq] at this;rcases this.2 with z|z
   ·exact absurd trivial z
   ·exact#[a,by simp [z]],λx y c e1 e2=>by
   have f:∀z,Ys z [(n,a)]=some c->z=n:=λz e=>by
    rw[Y4] at e
    split at e
    ·rename_i q;simpa using q
    ·cases e
   rw[f x e1,f y e2]]
def bW (P:Ee) (w:World) (K:DS) (mg:DV) (base:Heap) (N:D8) (qual:Str) (scope:Scope) (f c:Addr) (cl:D0) (A:Around) (outer:List Env) (s:Shared) (H:Hp):Cx where
 prog:=P
 w:=w
 K:=K
 mg:=mg
 base:=base
 A:=A.deeper (envX qual scope s.heap.objs.size f (.ref c) cl)
 N:=N
 s₀:=s
 H₀:=H
 env:=envX qual scope s.heap.objs.size f (.ref c) cl
 outer:=outer
 stack:=envX qual scope s.heap.objs.size f (.ref c) cl::outer
 ex:=[]
 calm:=true
 fn:=λ_=>false
 pn:=[]
 xe:=λ_ _=>False
theorem Vd {x:Str}{u:Value}:∀{ps:D8} {us:DY} {i:Nat},ps.Nodup->ps[i]?=some x->us[i]?=some u->(ps.zip us).reverse.lookup x=some u
 | [],_,_,_,h,_=>by simp at h
 | _::_,[],_,_,_,h=>by simp at h
 | p::ps,v::us,0,nd,h1,h2=>by
  simp at h1 h2;subst h1;subst h2;have:(ps.zip us).reverse.lookup p=none:=by
   cases e:(ps.zip us).reverse.lookup p with
   | none=>rfl
   | some w=>exact absurd (Q0<|QA.mp<|uy e).1 (Qo.mp nd).1
  rw[Yy,aai,abA,this];simp
 | p::ps,v::us,i+1,nd,h1,h2=>by
  have:=Vd (ps:=ps) (us:=us) (i:=i) (Qo.mp nd).2 (by simpa using h1) (by simpa using h2);rw[Yy,aai,abA,this];simp
theorem vd {α β:Type}{F:α->β->Prop}:∀{l₁:List α} {l₂:List β} {i:Nat} {a:α},Paired F l₁ l₂->l₁[i]?=some a->∃b,l₂[i]?=some b/\F a b
 | _,_,_,_,.nil,e=>by simp at e
 | _,_,0,_,.cons r _,e=>by simp at e;subst e;exact#[_,rfl,r]
 | _,_,i+1,a,.cons _ t,e=>by
  obtain⟨u,h1,h2⟩:=vd (i:=i) (a:=a) t (by simpa using e);exact#[u,by simpa using h1,h2]
section
variable {P:Ee}{w:World}{K:DS}{mg:DV}{base:Heap}{N ps:D8}{qual:Str}{params:Arguments}{body:Expr}{scope:Scope}{cl:D0}{Fh:List V}{f c:Addr}{k:Nat}
 {A:Around} {outer:List Env} {s:Shared} {H:Hp} {us:DY} {vs:List V} {Q:VK} {E:XK}
theorem NF (S:Ze N ps scope cl) (hb:∀(pm ct:Value) (us:DY),us.length=ps.length->bindArgs (kla_fn "<lambda>" qual params body scope cl pm (.ref c) ct) ⟨us,[]⟩=pure (ps.zip us))
  (hr:UM (k+1) A) (e0:vD P w K mg base A outer s H) (r:jG vs us) (hl:vs.length=ps.length) (hf:H f=some (ZW f qual params body scope cl c)) (hc:H c=some (Ur c qual))
  (HQ:Paired (λ(p:Str×Addr) v=>VQ H p.2 v) cl Fh)
  (EH:UM k (A.deeper<|envX qual scope s.heap.objs.size f (.ref c) cl)->∃te,PE (bW P w K mg base N qual scope f c cl A outer s<|uu H cl) body te /\
   te (vs.map some++Fh.map some) (uu H cl) (λr H'=>(∀p∈cl,H' p.2=none)->Q r (Zw H H' cl))) :
  codeAny (model P w) A (.call (.ref f) ⟨us,[]⟩) (CR (XC P w) outer P w H s Q E) s:=by
 obtain⟨⟨pm,ct,ho⟩,_⟩:=e0.hok f _ hf;have FE:s.heap.CodeRec (.ref c) qual:=(e0.hok c _ hc).1;have lim:s.heap.NoLimit:=e0.mod.nolimit.keeps λb o e=>(e0.bs b o e).1;have frz:∀b∈cl.map (·.2),∃ob u,H b=some (Ut b ob)/\s.heap.get? b=some ob/\ob.data=.cell (some u):=λb hb=>by
  obtain⟨p,hp,rfl⟩:=yf.mp hb;obtain⟨i,hi,e⟩:=yO hp;obtain⟨v,_,ob,e1,u,_,e2⟩:=vd (i:=i) (a:=p) HQ (by rw[yc hi,e]);exact⟨ob,u,e1,(e0.hok _ _ e1).1,e2⟩
 have FY:∀{b:Addr},H b=none->b ∉ cl.map (·.2):=λn hb=>by
  obtain⟨_,_,e,_⟩:=frz _ hb;rw[n] at e;cases e
 have Fs:∀{b:Addr} {u:HO},H b=some u->(∀o z,u≠.frz o z)->b ∉ cl.map (·.2):=λe n hb=>by
  obtain⟨_,_,e',_⟩:=frz _ hb;rw[e] at e';exact n _ _ (Yb e')
 have e1:vD P w K mg base A outer s (uu H cl):=by
  refine⟨e0.frames,e0.mod,λb o e=>⟨(e0.bs b o e).1,?_⟩,e0.bsz,e0.funs,λb hb=>?_,λb o e=>?_,e0.bare,.inl<|hr.hd rfl⟩
  ·have n:=(e0.bs b o e).2;rw[j8<|FY n];exact n
  ·have n:=e0.frf b hb;rw[j8<|FY n];exact n
  ·by_cases z:b∈cl.map (·.2)
   ·rw[VP z] at e;cases e
   ·rw[j8 z] at e;exact (e0.hok b o e).stay (λ_ _ _ q=>q) (λd g=>by rw[j8 (Fs g (by intro o u z;cases z))];exact g) λd xs g=>by rw[j8 (Fs g (by intro o u z;cases z))];exact g
 have Wt:us.length=ps.length:=by rw[<-r.length];exact hl
 refine PySem.W.kla_callFunE hr.depth ho rfl S.co S.gen rfl FE ?_;rw[hb pm ct us Wt];refine Eg (wpAny_newFunctionEnv S.nocell (λy hy=>S.par _ (Q0 hy).1) (λh₁ FW LA=>⟨lim.fresh _ LA,?_⟩) S.kind);have I8:∀b o,s.heap.get? b=some o->h₁.get? b=some o:=λb o e=>LA.extBut b o (yJ<|yq e)<|yg _ e;obtain⟨te,ht,hq⟩:=EH<|hr.deeper _;have Fx:∀x d,cl.lookup x=some d->d∈cl.map (·.2):=λx d e=>yf.mpr ⟨_,uy e,rfl⟩;have Rb:∀x,(envX qual scope s.heap.objs.size f (.ref c) cl).kindOf x=scope.names.lookup x:=λ_=>rfl;have I:jo (bW P w K mg base N qual scope f c cl A outer s<|uu H cl) [] (vs.map some++Fh.map some) (uu H cl) { s with heap:=h₁,toks:=s.toks+(ps.zip us).length }:=by
  have Hq:∀b:Addr,b ∉ (bW P w K mg base N qual scope f c cl A outer s<|uu H cl).ex:=λb z=>absurd (show b∈([]:DZ) from z) (by simp)
  refine⟨⟨e1.mod,S.kind,rfl,rfl,yh _,S.inj,λx hx=>S.has x ?_,λx d z=>(by cases z),λ_=>hr.hd rfl,Around.frames_deeper e1.frames,.inr ⟨rfl,rfl⟩,λb z=>absurd z<|Hq b,e1.bs,e1.bsz,λb _ _=>Hq b,λb z=>absurd z<|Hq b,e1.funs,e1.frf⟩,
   rfl,e1.bare,Un.kept I8,⟨_,FW,λi x v h1 h2 h3=>?_⟩,λx d e=>?_,e1.hok.fresh<|yh _,λx d e=>VP<|Fx x d e,λp hp=>absurd (show p∈([]:DW) from hp) (by simp),e1.hok.kept I8,?_,e1.hn⟩
  ·rcases hx with z|z
   ·exact absurd rfl (S.nocell _ (uy (show scope.names.lookup x=some .cell from z)))
   ·exact z
  ·have Fy:(ps++cl.map (·.1))[i]?=some x:=by rw[<-S.N];exact h1
   by_cases hi:i<vs.length
   ·rw[yn (by rw[yb];exact hi),yo] at h2;cases ev:vs[i]? with
    | none=>rw[ev] at h2;cases h2
    | some v' =>
     rw[ev] at h2;cases h2;obtain⟨u,hu,rv⟩:=r.get ev;rw[yn (by lia)] at Fy;exact⟨u,rv,.inl ⟨S.par x<|yp Fy,Vd S.nd Fy hu⟩⟩
   ·rw[yl (by rw[yb];lia),yo,yb] at h2;rw[yl (by lia),yo,<-hl] at Fy;obtain⟨p,ep,rfl⟩:=yI.mp Fy;obtain⟨v',ev,ob,g1,u,g2,g3⟩:=vd HQ ep;rw[ev] at h2;cases h2;obtain⟨k1,k2⟩:=S.fre p<|yp ep;exact⟨u,g2,.inr ⟨.inr k1,p.2,k2,ob,I8 _ _ (e0.hok _ _ g1).1,g3⟩⟩
  ·obtain⟨ob,u,_,g,d2⟩:=frz d<|Fx x d e;exact⟨_,ob,I8 _ _ g,d2⟩
  ·show (vs.map some++Fh.map some).length=N.length;have lc:cl.length=Fh.length:=Paired.length HQ;rw[S.N,ye,ye,yb,yb,yb,hl,lc]
 refine PySem.W.kla_codeExpr (wpAny_mono (ht [] _ _ _ _ I hq) (λu s' hs=>?_) λ_ _ z=>z.elim);obtain⟨v,H',J,rv,q⟩:=hs;have jc:∀b∈cl.map (·.2),H' b=none:=λb hb=>by
  obtain⟨p,hp,rfl⟩:=yf.mp hb;exact J.freeC p.1 p.2 (S.fre p hp).2
 have jb:Un (uo outer) [] (uu H cl) H' s.heap s'.heap:=J.base;have nj:∀{b:Addr} {u:HO},H' b=some u->b ∉ cl.map (·.2):=λe hb=>by rw[jc _ hb] at e;cases e
 refine⟨v,Zw H H' cl,J.os,J.bare,?_,λb o e=>?_,rv,q λp hp=>jc _<|Qr hp⟩
 ·refine⟨λb o e n hb hx=>jb.keep b o e (by rw[j8<|FY n];exact n) hb hx,λb o e n hb hx=>jb.slot b o e (by rw[j8<|FY n];exact n) hb hx,λb o e n hx=>?_,λb o e hx=>jb.there b o e hx,λb xs e=>?_,λb o z e=>?_,λb qs e=>?_⟩
  ·rw[JN<|FY n];exact jb.free b o e (by rw[j8<|FY n];exact n) hx
  ·have n:=Fs e (by intro o u z;cases z);rw[JN n];exact jb.tups b xs (by rw[j8 n];exact e)
  ·by_cases n:b∈cl.map (·.2)
   ·rw[VM n];exact e
   ·rw[JN n];exact jb.frzs b o z (by rw[j8 n];exact e)
  ·have n:=Fs e (by intro o u z;cases z);rw[JN n];exact jb.tbls b qs (by rw[j8 n];exact e)
 ·by_cases n:b∈cl.map (·.2)
  ·rw[VM n] at e;obtain⟨ob,u,g1,g2,g3⟩:=frz b n;rw[g1] at e;cases e;have g4:s'.heap.get? b=some ob:=jb.keep b ob g2 (VP n) (λz=>by rw[e0.frf b z] at g1;cases g1) (by simp);exact⟨g4,g4,⟨_,g4⟩,λh1 h2 a k=>k _ a⟩
  ·rw[JN n] at e;exact (J.hok b o e).stay (λ_ _ _ g=>g) (λd g=>by rw[JN<|nj g];exact g) λd xs g=>by rw[JN<|nj g];exact g
end
structure Zd (K:DS) (x qual:Str) (st:Stmt) (f:Addr) (fd:FuncData) (c P:Addr):Prop where
 ex:∃(oc:Value) (od:Ed) (kV doc pm:Value) (an:Ed) (ct:Value) (Hr:D7),
  fd=fnOf x qual (JU st) (Jo st) (jR st) .none kV doc pm an (.ref c) ct/\K.lookup f=some #[oc,od,.func fd,Hr]/\codeIn K (.ref c) qual=true
 kp:keepIn K (.ref f)=true
 hd:codeHdIn K c P=true
section
variable {P:Ee}{w:World}{K:DS}{mg:DV}{base:Heap}{N ps:D8}{x qual:Str}{st:Stmt}{f c Pl:Addr}{fd:FuncData}
theorem Zd.okX (F:Zd K x qual st f fd c Pl) (S:uG N ps (jR st)) (len:∀vs H Q E,sp vs H Q E->vs.length=ps.length)
  (EH:∀(A:Around) (outer:List Env) (s:Shared) (H:Hp) (vs:List V) (Q:VK) (E:XK),Jf cm k (A.deeper<|envOfC qual (jR st) s.heap.objs.size f<|.ref c)->sp vs H Q E ->
   ∃t,zO (mG P w K mg base N qual (jR st) f (.ref c) A outer s H E cm) (Jo st) t/\t { nx:=λ_ H'=>Q .non H',rt:=Q } (start N vs) H):Ui P w K mg base (XC P w) (k+1) f fd ps sp cm:=by
 obtain⟨oc,od,kV,doc,pm,an,ct,Hr,rfl,lk,FE⟩:=F.ex;exact rR lk FE S len λA outer s H vs Q E hr HC=>EH A outer s H vs Q E hr HC
theorem Zd.binds (F:Zd K x qual st f fd c Pl)
  (h:∀(kV doc pm:Value) (an:Ed) (Em ct:Value) (us:DY),us.length=ps.length->bindArgs (fnOf x qual (JU st) (Jo st) (jR st) .none kV doc pm an Em ct) ⟨us,[]⟩=pure (ps.zip us)):JZ K fd ps []:=by
 obtain⟨oc,od,kV,doc,pm,an,ct,Hr,rfl,lk,FE⟩:=F.ex;exact .all (h kV doc pm an _ ct)
theorem cg {oc:Value}{od an:Ed}{Hr:D7}{kV doc:Value} (l:K.lookup f=some #[oc,od,.func<|fnOf x qual (JU st) (Jo st) (jR st) .none kV doc pm an (.ref c) ct,Hr])
  (h:codeIn K (.ref c) qual=true) (k:keepIn K (.ref f)=true) (d:codeHdIn K c Pl=true):Zd K x qual st f (fnOf x qual (JU st) (Jo st) (jR st) .none kV doc pm an (.ref c) ct) c Pl:=#[#[oc,od,kV,doc,pm,an,ct,Hr,rfl,l,h],k,d]
end
theorem iY {K:DS}{mb:DV}{fa:Addr}{fd:FuncData}{s₁:Shared}{vs:DY}{ns:List Int}{tabs:DZ}
  (KX:K.In s₁.heap) (FW:s₁.heap.Ns mainGlobals mg) (hb:s₁.heap.Ns builtinsNs mb) (hbb:∀x:Str,x≠"__name__"->mb x=bootBuiltins x) (Wu:s₁.heap.NoLimit) (hg:s₁.gens=(Ya [])) (hBM:vC mg s₁.heap)
  (hT:∀p∈tabs,isCodeTable s₁.heap p/\s₁.heap.get? p=some (tabObj<|Ya [])/\K.lookup p=none)
  (ha:s₁.heap.get? a=some { cls:=.type "list",data:=.seq vs.toArray }) (hi:IntsAre vs ns) (hl:ns.length<=sizeLine) (hr:UM k callerA)
  (F:∀base:Heap,K.In base->base.Ns mainGlobals mg->vC mg base->Ui P w K mg base (XC P w) k fa fd [x] sp) (Ru:∀(s:Shared) (u:Value),BindsTo s fd #[[u],[]] [(x,u)])
  (HC:∀H:Hp,jt K H a (ns.map V.int)->(∀p∈tabs,H p=some (.tbl<|Ya []))->sp [.ref a] H (λv _=>v=.bl true) λ_ _ _=>False) :
  codeAny (model P w) callerA (.call (.ref fa) #[[.ref a],[]]) (λr s'=>r=.ok (.ret<|.bool true)/\OldK s₁.heap s'.heap/\s'.os=s₁.os/\AllBare s'.gens) s₁:=by
 have rv:=Mi hi;have Wv:=hi.length;have core:∀H:Hp,jt K H a (ns.map V.int)->Jh P w H s₁.heap->(∀b u,H b=some u->(b∈tabs/\u=.tbl (Ya []))\/(b=a/\K.lookup a=none/\∃o xs,u=.frz o (.lst xs)))->(∀p∈tabs,H p=some (.tbl<|Ya [])) ->
   codeAny (model P w) callerA (.call (.ref fa) #[[.ref a],[]]) (λr s'=>r=.ok (.ret<|.bool true)/\OldK s₁.heap s'.heap/\s'.os=s₁.os/\AllBare s'.gens) s₁:=by
  intro H hS hok hA Ww;have Ft:∀{b:Addr} {o:Obj},s₁.heap.get? b=some o->H b=none->(zG s₁.heap H).get? b=some o:=λe n=>p5 e n;have Hq:∀{b:Addr} {o:Obj},s₁.heap.get? b=some o->(∀qs,o.data≠.fields qs)->(∀xs n,o.data≠.seq xs n)->H b=none:=λ{b o} e d1 d2=>by
   cases q:H b with
   | none=>rfl
   | some u =>
    rcases hA b u q with ⟨z,_⟩|⟨z,_⟩
    ·rw[(hT b z).2.1] at e;cases e;exact absurd rfl (d1 _)
    ·subst z;rw[ha] at e;cases e;exact absurd rfl (d2 _ _)
  have S3:∀{b:Addr} {m:DV},s₁.heap.Ns b m->(zG s₁.heap H).Ns b m:=λ{b m} ⟨o,es,ep,e,d,r⟩=>#[o,es,ep,Ft e (Hq e (λqs z=>by rw[d] at z;cases z) λxs n z=>by rw[d] at z;cases z),d,r];have v₁:K.In (zG s₁.heap H):=λb o e=>Ft (KX b o e) (by
   cases q:H b with
   | none=>rfl
   | some u =>
    rcases hA b u q with ⟨z,_⟩|⟨z,z2,_⟩
    ·rw[(hT b z).2.2] at e;cases e
    ·subst z;rw[z2] at e;cases e)
  have hBb:vC mg (zG s₁.heap H):=by
   obtain⟨bm,ob,b1,b2,b3,b4,b5,b6⟩:=hBM;exact#[bm,ob,b1,b2,Ft b3 (Hq b3 (λqs z=>by rw[b6] at z;cases z) λxs n z=>by rw[b6] at z;cases z),b4,b5,b6]
  have hM:Mod K mg (zG s₁.heap H):=#[v₁,S3 FW,#[mb,S3 hb,hbb],let ⟨mc,h1,h2⟩:=Wu;#[mc,S3 h1,h2]];have e0:vD P w K mg (zG s₁.heap H) callerA [] s₁ H:=#[rfl,hM,λb o e=>t5 e,aav<|iJ _ _,trivial,λb hb=>absurd (show b∈([]:DZ) from hb) (by simp),hok,.of_eq hg,.inl rfl];refine codeAny_mono ((F _ v₁ (S3 FW) hBb).run callerA [] s₁ H #[[.ref a],[]] [.ref a] [.ref a] _ _ hr e0 (Ru s₁<|.ref a) (.cons rfl .nil)<|HC H hS Ww) λr s' h=>?_;cases r with
  | error e =>
   obtain⟨_,_,_,_,_,_,_,_,_,z⟩:=h;exact z.elim
  | ok fl =>
   cases fl with
   | next=>exact Yf h
   | brk=>exact Yf h
   | cont=>exact Yf h
   | ret u =>
    obtain⟨v,H',os,bare,un,FJ,r',q⟩:=h;have q':v=.bl true:=q;subst q';obtain rfl:u=Value.bool true:=r';refine#[rfl,#[λb o e=>?_,λb o e=>un.there b o e (by simp)],os,bare];cases q:H b with
    | none=>exact .inl (un.keep b o e q (by intro z;exact absurd (show b∈([]:DZ) from z) (by simp)) (by simp))
    | some u =>
     rcases hA b u q with ⟨z,rfl⟩|⟨z,_,ob,xs,rfl⟩
     ·obtain⟨more,z2⟩:=un.tbls b _ q;have z3:s'.heap.get? b=some (tabObj<|(Ya [])++more):=FJ b _ z2;rw[(hT b z).2.1] at e;cases e;exact .inr (.inl #[(hT b z).1,rfl,(Ya []),more,rfl,z3])
     ·have z2:=un.frzs b ob _ q;obtain⟨e1,_⟩:=hok b _ q;obtain⟨e2,_⟩:=FJ b _ z2;rw[e] at e1;cases e1;exact .inl e2
 have at':a ∉ tabs:=λz=>by
  have:=(hT a z).2.1;rw[ha] at this;cases this
 cases hk:K.lookup a with
 | some o =>
  have e:=KX a o hk;rw[ha] at e;cases e;refine core (λb=>if b∈tabs then some (.tbl<|Ya []) else none) (.inr #[_,vs.toArray,_,hk,rfl,rfl,rfl,by rw[yt,Wv];exact hl,by simpa using rv]) (λb u z=>?_) (λb u z=>?_) λp hp=>if_pos hp
  ·by_cases hb:b∈tabs
   ·have z':=(if_pos hb).symm.trans z;cases z';exact (hT b hb).2.1
   ·have z':=(if_neg hb).symm.trans z;cases z'
  ·by_cases hb:b∈tabs
   ·have z':=(if_pos hb).symm.trans z;cases z';exact .inl #[hb,rfl]
   ·have z':=(if_neg hb).symm.trans z;cases z'
 | none =>
  have eH:∀b,b≠a->(λb=>if b=a then some (HO.frz { cls:=.type "list",data:=.seq vs.toArray } (.lst<|ns.map V.int)) else if b∈tabs then some (HO.tbl<|Ya []) else none) b=if b∈tabs then some (HO.tbl<|Ya []) else none:=λb n=>if_neg n
  refine core (λb=>if b=a then some (.frz { cls:=.type "list",data:=.seq vs.toArray } (.lst<|ns.map V.int)) else if b∈tabs then some (.tbl<|Ya []) else none) (.inl<|.inr #[{ cls:=.type "list",data:=.seq vs.toArray },if_pos rfl]) (λb u z=>?_) (λb u z=>?_) λp hp=>?_
  ·by_cases hb:b=a
   ·have z':=(if_pos hb).symm.trans z;cases z';subst hb;exact#[ha,by rw[yb];exact hl,vs,_,rv,ha]
   ·replace z:=(eH b hb).symm.trans z
    by_cases FI:b∈tabs
    ·rw[if_pos FI] at z;cases z;exact (hT b FI).2.1
    ·rw[if_neg FI] at z;cases z
  ·by_cases hb:b=a
   ·have z':=(if_pos hb).symm.trans z;cases z';exact .inr #[hb,hk,_,_,rfl]
   ·replace z:=(eH b hb).symm.trans z
    by_cases FI:b∈tabs
    ·rw[if_pos FI] at z;cases z;exact .inl #[FI,rfl]
    ·rw[if_neg FI] at z;cases z
  ·have n:p≠a:=λz=>at'<|z▸hp;exact (eH p n).trans (if_pos hp)
theorem walk_ofT {l:abz}{n:Nat}{q:Ee}{loose:D8}{XP:(Str->Option Value)->Heap->Prop}{YP:World->Heap->Prop}{d:DefRec}{K:Params->Frag}{sp:Frag->List Addr->Sp}
  (hn:l.most=some n) (O4:n<=sizeLine) (Q7:d.params.defaults=[]) (hr:UM k callerA)
  (hY:∀(w:World) (h:Heap),YP w h->(K w.params).In h)
  (F:∀(w:World) (mg:DV) (fa:Addr) (h:Heap),YP w h->(K w.params).In h->h.Ns mainGlobals mg->mg d.name=some (.ref fa) ->
   ∃(fd:FuncData) (tabs:DZ),(∀(s:Shared) (u:Value),BindsTo s fd #[[u],[]] [(x,u)])/\(∀p∈tabs,isCodeTable h p/\h.get? p=some (tabObj<|Ya [])/\(K w.params).lookup p=none) /\
    ∀base:Heap,(K w.params).In base->base.Ns mainGlobals mg->vC mg base->Ui l.prog w (K w.params) mg base (XC l.prog w) k fa fd [x] (sp (K w.params) tabs))
  (HC:∀(K:DS) (tabs:DZ) (H:Hp) (a:Addr) (ns:List Int),ns.length<=n->jt K H a (ns.map V.int)->(∀p∈tabs,H p=some (.tbl<|Ya []))->sp K tabs [.ref a] H (λv _=>v=.bl true) λ_ _ _=>False) :
  abF q loose XP YP l.row.toRowW d [] (λf vs=>abw f vs):=by
 refine Att.attach_call hn Q7 λw s₀ s₁ mg mb fa o pm cd doc a vs ns G Y ho hd FE TU Ib hints hlen hg=>?_;have KX:=hY w _ Y;obtain⟨fd,tabs,hb,hT,hF⟩:=F w mg fa _ Y KX G.T.g TU;exact iY KX G.T.g G.T.b G.T.builtins G.T.nolimit hg G.T.bmain hT Ib hints (ym hlen O4) hr hF hb (λH hS Ww=>HC _ tabs H a ns hlen hS Ww)
section
variable {X:Cx}{k:Nat}{x:Str}{p pos:Pos}{e:Expr}{es:Ea}{ta:TE}{t:TA}
theorem mX {K:DS}{base:Heap} (h1:X.prog=P) (h2:X.w=w) (h3:X.K=K) (h4:X.mg=mg) (h5:X.base=base) (hf:PE X (.Name x p) ta) (hr:UM k X.A) (ha:PA X (e::es) t)
  (he:autoParam (starEach (e::es) X.env=(false,eval e X.env)::starEach es X.env) ac) (EE:autoParam ((backTo pos<|starEach es X.env).any (·.1)=false) ac) :
  PE X (.Call (.Name x p) (e::es) [] pos) (oC P w K mg base k ta t):=by
 subst h1 h2 h3 h4 h5;exact qv hf hr ha he EE
end
theorem oO {K:DS}{tg:Expr} (it:Addr) (lo:Int) (n:Nat):Z1 P w K tg (ZV lo n) [it] it (λi h=>IsLongIter h it (lo+(i:Nat)) ((n:Int) - (i:Nat)) 1) true where
 mem:=by simp
 obj:=λi h st b hb=>by
  have e:b=it:=by simpa using hb
  subst e;exact#[_,st,λv z=>by
   have z':Data.fields _=Data.cell v:=z;cases z']
 keep:=λi h h' st k=>k it (by simp) _ st
 item:=by
  intro X hP hw hK hc i pins s σ H E I hf st hg;subst hP hw hK;obtain⟨f0,f1,f2,f3,f4,f5⟩:=hf it (by simp);refine wpAny_pyNext_long_item st (by have:i<n:=hg;lia) λh' Hz sb=>?_;obtain⟨tk,O3⟩:∃tk,tk=s.toks+1:=#[_,rfl];rw[<-O3];have I1:jo X pins σ H { s with heap:=h',toks:=tk }:=I.turned (λb o hb e=>(sb.2 b hb).trans e) f0 f1 f3 f4 f5;have Ho:IsLongIter h' it (lo+((i+1:Nat):Int)) ((n:Int) - ((i+1:Nat):Int)) 1:=by
   rw[show lo+((i+1:Nat):Int)=lo+(i:Int)+1 by lia,show (n:Int) - ((i+1:Nat):Int)=(n:Int) - (i:Int) - 1 by lia];exact Hz
  exact#[_,rfl,kW (s:={ s with heap:=h',toks:=tk }) (n:="longrange_iterator") Hz rfl rfl (by decide) #[.int<|lo+i,H,I1,#[s.toks,rfl],#[rfl,rfl],Ho,λb hb=>(hf b hb).1]]
 done:=by
  intro X hP hw hK hc i pins s σ H E I hf st hg;subst hP hw hK;obtain⟨f0,f1,f2,f3,f4,f5⟩:=hf it (by simp);exact wpAny_pyNext_long_end (I.ok.hd<|hc rfl) st (by have:n<=i:=hg;lia) λh' eb=>#[rfl,I.turned (t':=s.toks) (λb o hb e=>eb b o hb e) f0 f1 f3 f4 f5]
 self:=λ_ _ _ _ _ st h=>wpAny_pyIter_longiter st h
section
variable {X:Cx}{tg:Expr}
theorem l6 (hc:X.calm=true) {R:It->Hp->Prop} {E:DO} {lo hi:Int} {t u v:Tok} {tk:Nat} (I:jo X pins σ H s)
  (q:R (ZV lo (hi - lo).toNat) H):wpAny (model X.prog X.w) X.A (pyIter<|.ref s.heap.objs.size) (xj X pins σ tg R) E { s with heap:=s.heap.push { cls:=.type "range",data:=.fields (Ya [.int lo t,.int hi u,.int 1 v]) },toks:=tk }:=by
 have I1:jo X pins σ H { s with heap:=s.heap.push { cls:=.type "range",data:=.fields (Ya [.int lo t,.int hi u,.int 1 v]) },toks:=tk }:=I.kept λb o e=>yg _ e;have e2:(((hi - lo).toNat:Nat):Int) - ((0:Nat):Int)=Builtin.Range.rangeSize lo hi 1:=by rw[rangeSize_one];split<;>lia
 cases hs:Builtin.Range.small lo hi 1 with
 | true =>
  refine wpAny_pyIter_range (IsRange.new ..) hs ?_;refine#[(s.heap.push { cls:=.type "range",data:=.fields (Ya [.int lo t,.int hi u,.int 1 v]) }).objs.size,[(s.heap.push { cls:=.type "range",data:=.fields (Ya [.int lo t,.int hi u,.int 1 v]) }).objs.size],_,_,H,rfl,
   I1.kept (t':=tk) λb o e=>yg _ e,Zh.of<|KF _ lo (hi - lo).toNat,?_,λb hb=>?_,q]
  ·have e1:lo+((0:Nat):Int)*1=lo:=by simp
   show IsRangeIter _ _ (lo+((0:Nat):Int)*1) ((((hi - lo).toNat:Nat):Int) - ((0:Nat):Int)) 1;rw[e1,e2];exact yB _ rfl
  ·have e:b=(s.heap.push { cls:=.type "range",data:=.fields (Ya [.int lo t,.int hi u,.int 1 v]) }).objs.size:=by simpa using hb
   subst e;exact I1.fpOk (yh _) (I1.hok.fresh<|yh _)
 | false =>
  refine wpAny_pyIter_longrange (IsRange.new ..) hs ?_;refine#[(s.heap.push { cls:=.type "range",data:=.fields (Ya [.int lo t,.int hi u,.int 1 v]) }).objs.size,[(s.heap.push { cls:=.type "range",data:=.fields (Ya [.int lo t,.int hi u,.int 1 v]) }).objs.size],_,_,H,rfl,
   I1.kept (t':=tk) λb o e=>yg _ e,#[true,oO _ lo (hi - lo).toNat,λ_=>hc],?_,λb hb=>?_,q]
  ·have e1:lo+((0:Nat):Int)=lo:=by simp
   show IsLongIter _ _ (lo+((0:Nat):Int)) ((((hi - lo).toNat:Nat):Int) - ((0:Nat):Int)) 1;rw[e1,e2];exact yB _ rfl
  ·have e:b=(s.heap.push { cls:=.type "range",data:=.fields (Ya [.int lo t,.int hi u,.int 1 v]) }).objs.size:=by simpa using hb
   subst e;exact I1.fpOk (yh _) (I1.hok.fresh<|yh _)
def BA (ta:TA):TI:=λσ H R=>ta σ H λvs H1=>∃i j:Int,vs=[.int i,.int j]/\R (ZV i (j - i).toNat) H1
theorem mY (hc:X.calm=true) {a b:Expr} {ta:TA} {p pos:Pos} (hg:Gl X "range") (hm:X.mg "range"=none) (ha:PA X [a,b] ta) (hs:autoParam (starEach [a,b] X.env=[(false,eval a X.env),(false,eval b X.env)]) ac) (Q2:autoParam (starEach [b] X.env=[(false,eval b X.env)]) ac) :
  PI X tg (.Call (.Name "range" p) [a,b] [] pos) (BA ta):=by
 intro pins s σ H R I h;refine Call_ (zT I hg hm boot_range (Yp (jE (ha pos pins s σ H _ I h) λus s1 #[vs,H1,I1,r1,q1]=>?_) (by rw[hs,Q2]) (by rw[Q2];rfl)));obtain⟨i,j,e,q⟩:=q1;subst e;cases r1 with
 | cons r rr =>
  cases rr with
  | cons r' rr =>
   cases rr;obtain⟨t,rfl⟩:=r;obtain⟨t',rfl⟩:=r';exact call_range_2 (l6 hc I1 q)
end
end L2
namespace L2
open PySem PySem.Spec PyProof.Rows TS
variable {P:Ee}{w:World}
def zM (a:Addr) (o:Obj):HO:=.ext λh=>h.get? a=some o
def oW (P:Ee) (w:World) (o:Obj) (xs:List (List Key×Addr×Value)):Prop:=∃es ep,o.ExactDict/\o.data=.dict es ep/\es.toList=xs.map (entryOfKey<|tupleKind<|Jp P w)/\(xs.map (·.1)).Nodup
def bO (a:Addr) (o:Obj) (xs:List (List Key×Addr×Value)):It:=#[λi H=>H a=some (zM a o)/\i<xs.length,λi H x H'=>H'=H/\∃y,xs[i]?=some y/\x=.ref y.2.1,λi H=>H a=some (zM a o)/\xs.length<=i]
theorem gT {H:Hp}{h:Heap}{a:Addr}{o:Obj} (ok:Jh P w H h) (e:H a=some (zM a o)):h.get? a=some o:=(ok a _ e).1
theorem oM {K:DS}{tg:Expr} (a it:Addr) (o:Obj) (xs:List (List Key×Addr×Value)) {es:Array DictEntry} {ep:Nat} (ex:o.ExactDict) (hd:o.data=.dict es ep) (he:es.toList=xs.map (entryOfKey<|tupleKind<|Jp P w)) :
  Z1 P w K tg (bO a o xs) [it] it (λi h=>h.IsKeyIter it a i es.size ep) true where
 mem:=by simp
 obj:=λi h st b hb=>by
  obtain rfl:b=it:=by simpa using hb
  obtain⟨o,e,c,d⟩:=st;exact#[o,e,λv z=>by rw[d] at z;cases z]
 keep:=λi h h' st k=>by
  obtain⟨o,e,r⟩:=st;exact#[o,k it (by simp) o e,r]
 item:=by
  intro X hP hw hK hc i pins s σ H E I hf st hg;subst hP hw hK;obtain⟨ea,hi⟩:=hg;have sz:=size_of_entries he;have Uf:i<es.size:=by lia
  obtain⟨f0,f1,f2,f3,f4,f5⟩:=hf it (by simp);refine NM st #[o,gT I.hok ea,ex,hd] Uf λh' Hz sb=>?_;have I1:=I.turned (t':=s.toks) (λb o hb e=>(sb.2 b hb).trans e) f0 f1 f3 f4 f5;obtain⟨oi,e,c,d⟩:=id Hz;have ey:es[i]?=some (entryOfKey (tupleKind<|Jp X.prog X.w) xs[i]):=by rw[entry_at he,yc hi];rfl
  have ek:es[i].key=.ref xs[i].2.1:=by
   have:=(yd.mp (by rw[Qc];exact ey)).2;rw[QL] at this;rw[this];rfl
  exact#[_,rfl,kW e c d (by decide) #[.ref _,H,I1,ek,#[rfl,_,yc hi,rfl],Hz,λb hb=>(hf b hb).1]]
 done:=by
  intro X hP hw hK hc i pins s σ H E I hf st hg;obtain⟨ea,hi⟩:=hg;have sz:=size_of_entries he;obtain⟨f0,f1,f2,f3,f4,f5⟩:=hf it (by simp);exact av (I.ok.hd<|hc rfl) st #[o,gT I.hok ea,ex,hd] (by lia) λh' eb=>#[rfl,I.turned (λb o hb e=>eb b o hb e) f0 f1 f3 f4 f5]
 self:=λ_ _ _ _ _ st h=>wpAny_pyIter_keyiter st h
section
variable {X:Cx}{tg:Expr}
def Bx (P:Ee) (w:World) (te:TE):TI:=λσ H R=>te σ H λx H1=>∃a Ei,x=.ref a/\H1 a=some (.dT Ei)/\∀o xs,Ei.length<=sizeLine->(a==sysModules)=false->KT H1 Ei xs->oW P w o xs->R (bO a o xs) (upd H1 a<|zM a o)
theorem ze {l:Expr}{tl:TE} (hc:X.calm=true) (hl:PE X l tl):PI X tg l (Bx X.prog X.w tl):=by
 intro pins s σ H R I h;refine jE (hl pins s σ H _ I h) λv s1 hh=>?_;obtain⟨x,H1,I1,r1,a,Ei,e,ha,q⟩:=hh;subst e;cases r1;obtain⟨z,hm,xs,kt,o,es,ep,h1,h2,h3,h4,h5,h6⟩:=gS I1.hok ha;refine Ny hm #[o,h1,h2,h3] ?_;have I2:jo X pins σ (upd H1 a<|zM a o) _:=I1.write (t':=s1.toks) (by rw[ha];exact Yo) (.inl rfl) (λb u _ e=>e) #[o,h1] #[h1,#[o,h1],λg1 g2 x k=>k _ x];have I3:jo X pins σ _ { s1 with heap:=s1.heap.push { cls:=.type "dict_keyiterator",data:=.fields (Ya [.ref a,.int 0 0,.int es.size 0,.int ep 0]) } }:=I2.kept λb o e=>yg _ e;refine#[s1.heap.objs.size,_,_,_,_,rfl,I3,#[true,oM a _ o xs h2 h3 h4,λ_=>hc],#[_,yB _ rfl,rfl,rfl],λb hb=>?_,q o xs z hm kt #[es,ep,h2,h3,h4,h6]];obtain rfl:b=s1.heap.objs.size:=by simpa using hb
 exact I2.fpOk (yh _) (I2.hok.fresh<|yh _)
end
end L2
namespace L2
open PySem
variable {a b:TS}{D:zD}{σ:St}{H:Hp}
abbrev oR (a:Addr):Option V:=some (.ref a)
abbrev oI (n:Int):Option V:=some (.int n)
theorem cU:0<=sizeLine:=by decide
theorem cV:1<=sizeLine:=by decide
theorem Vy:2<=sizeLine:=by decide
theorem Za:3<=sizeLine:=by decide
theorem DD:4<=sizeLine:=by decide
theorem ZL (s:St) (I:Hp->Prop) (h1:∀B:TS,(∀H,I H->B D s H)->UQ a B D σ H) (h2:∀H,I H->b D s H):UQ a b D σ H:=h1 b h2
theorem uF {α:Type} (s:α->St) (I:α->Hp->Prop) (h1:∀B:TS,(∀x H,I x H->B D (s x) H)->UQ a B D σ H) (h2:∀x H,I x H->b D (s x) H):UQ a b D σ H:=h1 b h2
theorem gE {α β:Type} (s:α->β->St) (I:α->β->Hp->Prop) (h1:∀B:TS,(∀x y H,I x y H->B D (s x y) H)->UQ a B D σ H) (h2:∀x y H,I x y H->b D (s x y) H):UQ a b D σ H:=h1 b h2
theorem og {α β γ:Type} (s:α->β->γ->St) (I:α->β->γ->Hp->Prop) (h1:∀B:TS,(∀x y z H,I x y z H->B D (s x y z) H)->UQ a B D σ H) (h2:∀x y z H,I x y z H->b D (s x y z) H):UQ a b D σ H:=h1 b h2
theorem GN {α β γ δ:Type} (s:α->β->γ->δ->St) (I:α->β->γ->δ->Hp->Prop) (h1:∀B:TS,(∀x y z u H,I x y z u H->B D (s x y z u) H)->UQ a B D σ H) (h2:∀x y z u H,I x y z u H->b D (s x y z u) H):UQ a b D σ H:=h1 b h2
theorem DE {α β γ δ ε:Type} (s:α->β->γ->δ->ε->St) (I:α->β->γ->δ->ε->Hp->Prop) (h1:∀B:TS,(∀x y z u v H,I x y z u v H->B D (s x y z u v) H)->UQ a B D σ H) (h2:∀x y z u v H,I x y z u v H->b D (s x y z u v) H):UQ a b D σ H:=h1 b h2
theorem DF {α:Type} (s:α->α->α->α->α->α->St) (I:α->α->α->α->α->α->Hp->Prop) (h1:∀B:TS,(∀x y z u v w H,I x y z u v w H->B D (s x y z u v w) H)->UQ a B D σ H) (h2:∀x y z u v w H,I x y z u v w H->b D (s x y z u v w) H):UQ a b D σ H:=h1 b h2
end L2
namespace L2
open PySem PySem.Spec PyProof.Rows TS
theorem GW {A:Around}{s:Shared}{k j:Key}{u v:Value} (hu:jI (kV k) u) (hv:jI (kV j) v):SeqAt.EqAt A s u v (decide (k=j)):=by
 cases k with
 | inl a =>
  obtain⟨t,rfl⟩:=hu;cases j with
  | inl b =>
   obtain⟨t',rfl⟩:=hv;have:=SeqAt.EqAt.int_int (A:=A) (s:=s) a t b t';rwa [show (a==b)=decide ((Y5 a:Key)=Y5 b) from y4.mpr (by rw[beq_iff_eq,decide_eq_true_eq];exact#[λz=>by rw[z],λz=>aad z])] at this
  | inr b =>
   obtain⟨t',rfl⟩:=hv;rw[decide_eq_false (λz=>by cases z)];exact SeqAt.EqAt.int_str a t b t'
 | inr a =>
  obtain⟨t,rfl⟩:=hu;cases j with
  | inl b =>
   obtain⟨t',rfl⟩:=hv;rw[decide_eq_false (λz=>by cases z)];exact SeqAt.EqAt.str_int a t b t'
  | inr b =>
   obtain⟨t',rfl⟩:=hv;have:=SeqAt.EqAt.str_str (A:=A) (s:=s) a t b t';rwa [show (a==b)=decide ((aam a:Key)=aam b) from y4.mpr (by rw[beq_iff_eq,decide_eq_true_eq];exact#[λz=>by rw[z],λz=>aaJ z])] at this
end L2
namespace PySem.SeqAt
open PySem PySem.Spec
open MeetsSeq MeetsSeq2 MeetsSeq3 SeqRoads2
variable {l b:Addr}{items Eh:D9}{e:Nat->Bool}{r:Bool}
def LtAt (A:Around) (s:Shared) (y x:Value) (b:Bool):Prop :=
 ∀(prog:Ee) (w:World) (E:DO) (Q:DO),Q (.bool b) s->wpAny (model prog w) A (richCompare .Lt y x) Q E s
theorem fh (l b:Addr) (items Eh:D9) (n n2:Nat) (dd FG:Ed) (sl FH:D7) (e:Nat->Bool) (r:Bool) :
  Meets (Builtin.«tuple.__lt__» #[[.ref l,.ref b],[]])
   (λA R s=>s.heap.get? l=some { cls:=.type "tuple",dict:=dd,data:=.seq items n,slots:=sl }/\s.heap.get? b=some { cls:=.type "tuple",dict:=FG,data:=.seq Eh n2,slots:=FH } /\
    (∀j (h1:j<items.size) (h2:j<Eh.size),(∀i,i<j->e i=true)->EqAt A.in1 s items[j] Eh[j] (e j)) /\
    (∀j (h1:j<items.size) (h2:j<Eh.size),(∀i,i<j->e i=true)->e j=false->LtAt A.in1 s items[j] Eh[j] r) /\
    ((∀i,i<min items.size Eh.size->e i=true)->r=decide (items.size<Eh.size)) /\
    R (.ok<|.ret<|.bool r) s) :=
 .of_wp λprog w A R s h=>by
  obtain⟨hp,g,d,tk,os⟩:=s;obtain⟨hl,hb,he,El,hr,h⟩:=h;have f2:=AutoSeq1.sub_tuple_tuple;have hZ:(items.toList.zip Eh.toList).length=min items.size Eh.size:=by simp
  wp_walk using AutoSeq1.wpAny_loadPart' hl,AutoSeq1.wpAny_loadPart' hb,wpAny_forIn_list _ (λrest b s'=>b.1=none/\s'=#[hp,g,d,tk,os]/\∃i,rest=(items.toList.zip Eh.toList).drop i/\∀j,j<i->e j=true) _
  case turn =>
   rintro⟨y,x⟩ rest b s' ⟨FX,rfl,i,hz,hR⟩;have F9:i<(items.toList.zip Eh.toList).length:=by
    rcases yx i (items.toList.zip Eh.toList).length with h'|h'
    ·exact h'
    ·rw[aau h'] at hz;cases hz
   have hm:i<min items.size Eh.size:=hZ▸F9;have h1:i<items.size:=yw hm<|aa0 _ _;have h2:i<Eh.size:=yw hm<|aar _ _;rw[yN F9] at hz;injection hz with Rv Il
   have hy:y=items[i]:=by have:=congrArg Prod.fst Rv;simpa using this
   have hx:x=Eh[i]:=by have:=congrArg abO Rv;simpa using this
   subst hy hx;refine Ef<|he i h1 h2 hR prog w _ _ ?_;cases hy:e i with
   | true =>
    wp_walk
    exact#[rfl,rfl,i+1,Il,λj hj=>by
     rcases aag (aaQ hj) with z|rfl
     ·exact hR j z
     ·exact hy]
   | false =>
    have q:=El i h1 h2 hR hy prog w;generalize richCompare CmpOp.Lt items[i] Eh[i]=m at q ⊢
    wp_walk using q _ _
    wp_walk
    exact#[_,rfl,h]
  case fin =>
   rintro⟨b1,b2⟩ s' ⟨FX,rfl,i,hz,hR⟩;simp only at FX;subst FX;have F8:min items.size Eh.size<=i:=by
    rcases yx i (items.toList.zip Eh.toList).length with h'|h'
    ·rw[yN h'] at hz;cases hz
    ·exact hZ▸h'
   rw[hr λj hj=>hR j<|yw hj F8] at h
   wp_walk
   exact#[_,rfl,by simpa [Builtin.Tuple.tupleCompareSizes] using h]
  case h =>
   exact#[rfl,rfl,0,rfl,λj hj=>absurd hj<|Qt _]
theorem bJ (l b:Addr) (items Eh:D9) (n n2:Nat) (dd FG:Ed) (sl FH:D7) (e:Nat->Bool) (r:Bool) :
  Meets (Builtin.«tuple.__eq__» #[[.ref l,.ref b],[]])
   (λA R s=>s.heap.get? l=some { cls:=.type "tuple",dict:=dd,data:=.seq items n,slots:=sl }/\s.heap.get? b=some { cls:=.type "tuple",dict:=FG,data:=.seq Eh n2,slots:=FH } /\
    (∀j (h1:j<items.size) (h2:j<Eh.size),(∀i,i<j->e i=true)->EqAt A.in1 s items[j] Eh[j] (e j)) /\
    (∀j (h1:j<items.size) (h2:j<Eh.size),(∀i,i<j->e i=true)->e j=false->r=false) /\
    ((∀i,i<min items.size Eh.size->e i=true)->r=(items.size==Eh.size)) /\
    R (.ok<|.ret<|.bool r) s) :=
 .of_wp λprog w A R s h=>by
  obtain⟨hp,g,d,tk,os⟩:=s;obtain⟨hl,hb,he,El,hr,h⟩:=h;have f2:=AutoSeq1.sub_tuple_tuple;have hZ:(items.toList.zip Eh.toList).length=min items.size Eh.size:=by simp
  wp_walk using AutoSeq1.wpAny_loadPart' hl,AutoSeq1.wpAny_loadPart' hb,wpAny_forIn_list _ (λrest b s'=>b.1=none/\s'=#[hp,g,d,tk,os]/\∃i,rest=(items.toList.zip Eh.toList).drop i/\∀j,j<i->e j=true) _
  case turn =>
   rintro⟨y,x⟩ rest b s' ⟨FX,rfl,i,hz,hR⟩;have F9:i<(items.toList.zip Eh.toList).length:=by
    rcases yx i (items.toList.zip Eh.toList).length with h'|h'
    ·exact h'
    ·rw[aau h'] at hz;cases hz
   have hm:i<min items.size Eh.size:=hZ▸F9;have h1:i<items.size:=yw hm<|aa0 _ _;have h2:i<Eh.size:=yw hm<|aar _ _;rw[yN F9] at hz;injection hz with Rv Il
   have hy:y=items[i]:=by have:=congrArg Prod.fst Rv;simpa using this
   have hx:x=Eh[i]:=by have:=congrArg abO Rv;simpa using this
   subst hy hx;refine Ef<|he i h1 h2 hR prog w _ _ ?_;cases hy:e i with
   | true =>
    wp_walk
    exact#[rfl,rfl,i+1,Il,λj hj=>by
     rcases aag (aaQ hj) with z|rfl
     ·exact hR j z
     ·exact hy]
   | false =>
    rw[El i h1 h2 hR hy] at h
    wp_walk
    exact#[_,rfl,h]
  case fin =>
   rintro⟨b1,b2⟩ s' ⟨FX,rfl,i,hz,hR⟩;simp only at FX;subst FX;have F8:min items.size Eh.size<=i:=by
    rcases yx i (items.toList.zip Eh.toList).length with h'|h'
    ·rw[yN h'] at hz;cases hz
    ·exact hZ▸h'
   rw[hr λj hj=>hR j<|yw hj F8] at h
   wp_walk
   exact#[_,rfl,by simpa [Builtin.Tuple.tupleCompareSizes] using h]
  case h =>
   exact#[rfl,rfl,0,rfl,λj hj=>absurd hj<|Qt _]
section
variable {A:Around}{s:Shared}
theorem LtAt.tuples (hl:s.heap.IsTuple l items) (hb:s.heap.IsTuple b Eh) (hu:A.units<cLine)
  (he:∀j (h1:j<items.size) (h2:j<Eh.size),(∀i,i<j->e i=true)->EqAt A.in1 s items[j] Eh[j] (e j))
  (El:∀j (h1:j<items.size) (h2:j<Eh.size),(∀i,i<j->e i=true)->e j=false->LtAt A.in1 s items[j] Eh[j] r)
  (hr:(∀i,i<min items.size Eh.size->e i=true)->r=decide (items.size<Eh.size)):LtAt A s (.ref l) (.ref b) r:=λprog w E Q h=>by
 obtain⟨⟨cls,dd,data,sl⟩,ho,hc,n,hd⟩:=id hl;obtain⟨⟨LY,FG,data2,FH⟩,EI,FV,n2,hd2⟩:=id hb;subst hc hd FV hd2;exact richCompare_meets_room #[_,ho,rfl] #[_,EI,rfl] F.slot_tuple_lt F.entry_tuple_lt (F.args_tuple_lt_2 _ _) (fh l b items Eh n n2 dd FG sl FH e r)
  #[ho,EI,he,El,hr,#[(λx=>nomatch x),h]] hu
theorem EqAt.tuplesP (Ey:l≠b) (hl:s.heap.IsTuple l items) (hb:s.heap.IsTuple b Eh) (hu:A.units<cLine)
  (he:∀j (h1:j<items.size) (h2:j<Eh.size),(∀i,i<j->e i=true)->EqAt A.in1 s items[j] Eh[j] (e j))
  (El:∀j (h1:j<items.size) (h2:j<Eh.size),(∀i,i<j->e i=true)->e j=false->r=false)
  (hr:(∀i,i<min items.size Eh.size->e i=true)->r=(items.size==Eh.size)):EqAt A s (.ref l) (.ref b) r:=EqAt.of_refs Ey λprog w E Q h=>by
 obtain⟨⟨cls,dd,data,sl⟩,ho,hc,n,hd⟩:=id hl;obtain⟨⟨LY,FG,data2,FH⟩,EI,FV,n2,hd2⟩:=id hb;subst hc hd FV hd2;exact richCompare_meets_room #[_,ho,rfl] #[_,EI,rfl] F.slot_tuple_eq F.entry_tuple_eq (F.args_tuple_eq_2 _ _) (bJ l b items Eh n n2 dd FG sl FH e r)
  #[ho,EI,he,El,hr,#[(λx=>nomatch x),h]] hu
end
end PySem.SeqAt
namespace L2
open PySem PySem.Spec PyProof.Rows TS
variable {k:List Key}{j:Nat}{vs:DY}{p:Prop}{d:Bool}{Q:DO}{M:Od}{o:Obj}{Ei:List (List Key×V)}{xs:List (List Key×Addr×Value)}{g:TG}{σ:St}
structure Od where
 α:Type
 deq:DecidableEq α
 lt:α->α->Bool
 irr:∀a,lt a a=false
 trans:∀{a b c},lt a b=true->lt b c=true->lt a c=true
 tot:∀{a b},lt a b=false->lt b a=false->a=b
 R:Heap->Value->α->Prop
 V_:Hp->V->α->Prop
 cmp:α->α->Prop
 deep:Nat
 keep:∀{h h':Heap} {u a},(∀b o,h.get? b=some o->o.cls=.type "tuple"->h'.get? b=some o)->R h u a->R h' u a
 mono:∀{H H':Hp} {x a},(∀p xs,H p=some (.tup xs)->H' p=some (.tup xs))->V_ H x a->V_ H' x a
 raw:∀{P w H h x u a},Jh P w H h->V_ H x a->jI x u->R h u a
 uniq:∀{h u a b},R h u a->R h u b->a=b
 eq:∀{A:Around} {s:Shared} {u v a b},A.units+deep<cLine->cmp a b->R s.heap u a->R s.heap v b->SeqAt.EqAt A s u v (@decide (a=b) (deq a b))
 less:∀{A:Around} {s:Shared} {u v a b},A.units+deep<cLine->cmp a b->R s.heap u a->R s.heap v b->SeqAt.LtAt A s u v (lt a b)
instance (O:Od):DecidableEq O.α:=O.deq
theorem V3 {k:Key}{u:Value}:jI (kV k) u↔Uj k u:=by cases k<;>exact Iff.rfl
abbrev Jq:Od where
 α:=Key
 deq:=inferInstance
 lt:=gf
 irr:=KZ
 trans:=gh
 tot:=K0
 R:=λ_ u k=>Uj k u
 V_:=λ_ x k=>x=kV k
 cmp:=λa b=>a.isLeft=b.isLeft
 deep:=0
 keep:=λ_ h=>h
 mono:=λ_ h=>h
 raw:=λ_ h r=>by rw[h] at r;exact V3.mp r
 uniq:=λ{h u a b} h1 h2=>by
  cases a<;>cases b<;>(obtain⟨t,rfl⟩:=h1;obtain⟨t',e⟩:=h2;first|(cases e;done)|(cases e;rfl))
 eq:=λ_ _ h1 h2=>GW (V3.mpr h1) (V3.mpr h2)
 less:=λ{A s u v a b} _ hc h1 h2 prog w E Q h=>by
  cases a with
  | inl a=>cases b with
   | inl b =>
    obtain⟨t,rfl⟩:=h1;obtain⟨t',rfl⟩:=h2;exact richCompare_gives (op:=.Lt) (typeIs_int s a t) (typeIs_int s b t') F.slot_int_lt F.entry_int_lt (F.args_int_lt_2 _ _) (gives_int_lt a b t t') (λz=>nomatch z) h
   | inr b=>cases hc
  | inr a=>cases b with
   | inl b=>cases hc
   | inr b =>
    obtain⟨t,rfl⟩:=h1;obtain⟨t',rfl⟩:=h2;exact richCompare_gives (op:=.Lt) (typeIs_str s a t) (typeIs_str s b t') F.slot_str_lt F.entry_str_lt (F.args_str_lt_2 _ _) (gives_str_lt a b t t') (λz=>nomatch z) h
section
variable (O:Od)
def JD:List O.α->List O.α->Bool
 | _,[]=>false
 | [],_::_=>true
 | a::as,b::bs=>if a=b then JD as bs else O.lt a b
def uS:List O.α->List O.α->Prop
 | [],_=>True
 | _::_,[]=>True
 | a::as,b::bs=>O.cmp a b/\(a=b->uS as bs)
variable {O}
theorem Od.ne_ {a b:O.α} (h:O.lt a b=true):a≠b:=λe=>by rw[e,O.irr] at h;cases h
theorem K3:∀a:List O.α,JD O a a=false
 | []=>rfl
 | a::as=>by unfold JD;rw[if_pos rfl];exact K3 as
theorem gZ:∀{a b:List O.α},JD O a b=false->JD O b a=false->a=b
 | [],[],_,_=>rfl
 | [],b::bs,h,_=>by cases h
 | a::as,[],_,h=>by cases h
 | a::as,b::bs,h1,h2=>by
  unfold JD at h1 h2;by_cases e:a=b
  ·rw[if_pos e] at h1;rw[if_pos e.symm] at h2;rw[e,gZ h1 h2]
  ·rw[if_neg e] at h1;rw[if_neg<|yG e] at h2;exact absurd (O.tot h1 h2) e
theorem gq:∀{a b c:List O.α},JD O a b=true->JD O b c=true->JD O a c=true
 | a,b,[],_,h=>by unfold JD at h;cases h
 | a,[],c,h,_=>by unfold JD at h;cases h
 | [],b::bs,c::cs,_,_=>by unfold JD;rfl
 | a::as,b::bs,c::cs,h1,h2=>by
  unfold JD at h1 h2 ⊢;by_cases e1:a=b
  ·subst e1;rw[if_pos rfl] at h1;by_cases e2:a=c
   ·rw[if_pos e2] at h2 ⊢;exact gq h1 h2
   ·rw[if_neg e2] at h2 ⊢;exact h2
  ·rw[if_neg e1] at h1;by_cases e2:b=c
   ·subst e2;rw[if_neg e1];exact h1
   ·rw[if_neg e2] at h2;have h3:=O.trans h1 h2;rw[if_neg<|Od.ne_ h3];exact h3
theorem VC {α β:Type}{F G:α->β->Prop} (f:∀x y,F x y->G x y):∀{l:List α} {m:List β},Paired F l m->Paired G l m:=λh=>Paired.mapP h f
theorem GJ {α β:Type}{F:α->β->Prop} (f:∀x y z,F x y->F x z->y=z):∀{l:List α} {m n:List β},Paired F l m->Paired F l n->m=n:=by
 intro l m n h g
 induction h generalizing n with
 | nil=>cases g;rfl
 | cons r t ih =>
  cases g with
  | cons r' t'=>rw[f _ _ _ r r',ih t']
theorem ue {α β:Type}{F:α->β->Prop}:∀{l:List α} {m:List β},Paired F l m->l.length=m.length:=λh=>Paired.length h
theorem u6 {α β:Type}{F:α->β->Prop}:∀{l:List α} {m:List β} (p:Paired F l m) {i:Nat} (h1:i<l.length) (h2:i<m.length),F l[i] m[i]:=by
 intro l m p
 induction p with
 | nil=>exact λh=>nomatch h
 | cons r t ih =>
  intro i;cases i with
  | zero=>exact λ_ _=>r
  | succ i=>exact λ_ _=>ih _ _
theorem qF {P:Ee}{w:World}{H:Hp}{h:Heap} (ok:Jh P w H h):∀{xs:List V} {us:DY} {l:List O.α},Paired (O.V_ H) xs l->jG xs us->Paired (O.R h) us l:=by
 intro xs us l p q
 induction p generalizing us with
 | nil=>cases q;exact .nil
 | cons r t ih =>
  cases q with
  | cons r' t'=>exact .cons (O.raw ok r r') (ih t')
theorem bU:∀{as bs:List O.α},uS O as bs->∀(j:Nat) (h1:j<as.length) (h2:j<bs.length),(∀i (g1:i<as.length) (g2:i<bs.length),i<j->as[i]=bs[i])->O.cmp as[j] bs[j]:=by
 intro as bs h j
 induction j generalizing as bs with
 | zero=>cases as with
  | nil=>exact λh1=>nomatch h1
  | cons a as=>cases bs with
   | nil=>exact λ_ h2=>nomatch h2
   | cons b bs=>exact λ_ _ _=>h.1
 | succ j ih=>cases as with
  | nil=>exact λh1=>nomatch h1
  | cons a as=>cases bs with
   | nil=>exact λ_ h2=>nomatch h2
   | cons b bs=>exact λh1 h2 e=>ih (h.2<|e 0 (Qf _) (Qf _)<|Qf _) (abo h1) (abo h2) λi g1 g2 hi=>e (i+1) (aaU g1) (aaU g2) (aaU hi)
theorem i8:∀{as bs:List O.α} (j:Nat) (h1:j<as.length) (h2:j<bs.length),(∀i (g1:i<as.length) (g2:i<bs.length),i<j->as[i]=bs[i])->as[j]≠bs[j]->JD O as bs=O.lt as[j] bs[j]
 | a::as,b::bs,0,_,_,_,n=>by unfold JD;rw[if_neg (by simpa using n)];rfl
 | a::as,b::bs,j+1,h1,h2,e,n=>by
  have e0:a=b:=e 0 (Qf _) (Qf _)<|Qf _;unfold JD;rw[if_pos e0];refine (i8 j (by simpa using h1) (by simpa using h2) (λi g1 g2 hi=>?_) (by simpa using n)).trans (by simp);have:=e (i+1) (by simpa using g1) (by simpa using g2) (by lia);simpa using this
theorem K4:∀{as bs:List O.α},(∀i (g1:i<as.length) (g2:i<bs.length),as[i]=bs[i])->JD O as bs=decide (as.length<bs.length)
 | as,[],_=>by unfold JD;exact (decide_eq_false<|Qt _).symm
 | [],b::bs,_=>by exact (decide_eq_true<|Qf _).symm
 | a::as,b::bs,e=>by
  have e0:a=b:=e 0 (Qf _)<|Qf _;unfold JD;rw[if_pos e0,K4 (λi g1 g2=>by
   have:=e (i+1) (by simpa using g1) (by simpa using g2);simpa using this)]
  simp
theorem iw {as bs:List O.α}:as=bs↔as.length=bs.length/\∀i (g1:i<as.length) (g2:i<bs.length),as[i]=bs[i] :=
 #[λe=>by grind,λh=>QF h.1 λi h1 h2=>h.2 i h1 h2]
def GA (as bs:List O.α) (j:Nat):Bool:=decide (as[j]?=bs[j]?)
theorem VI {as bs:List O.α} (h1:j<as.length) (h2:j<bs.length):GA as bs j=decide (as[j]=bs[j]):=by
 unfold GA;rw[yc h1,yc h2,y4,decide_eq_true_iff,decide_eq_true_iff];exact#[λe=>Yb e,λe=>by rw[e]]
theorem KQ {as bs:List O.α} (h:∀i,i<j->GA as bs i=true):∀i (g1:i<as.length) (g2:i<bs.length),i<j->as[i]=bs[i]:=λi g1 g2 hi=>by
 have:=h i hi;rw[VI g1 g2] at this;exact of_decide_eq_true this
theorem G5 {A:Around}{s:Shared}{ws:DY}{as bs:List O.α} (hu:A.units+1+O.deep<cLine) (hc:uS O as bs) (p1:Paired (O.R s.heap) vs as) (p2:Paired (O.R s.heap) ws bs) :
  (∀j (h1:j<vs.toArray.size) (h2:j<ws.toArray.size),(∀i,i<j->GA as bs i=true)->SeqAt.EqAt A.in1 s vs.toArray[j] ws.toArray[j] (GA as bs j)) /\
  (∀j (h1:j<vs.toArray.size) (h2:j<ws.toArray.size),(∀i,i<j->GA as bs i=true)->GA as bs j=false->SeqAt.LtAt A.in1 s vs.toArray[j] ws.toArray[j] (JD O as bs)) /\
  ((∀i,i<min vs.toArray.size ws.toArray.size->GA as bs i=true)->JD O as bs=decide (vs.toArray.size<ws.toArray.size)):=by
 have l1:=ue p1;have l2:=ue p2;refine#[λj g1 g2 pre=>?_,λj g1 g2 pre ej=>?_,λall=>?_]
 ·have k1:j<as.length:=by rw[<-l1];simpa using g1
  have k2:j<bs.length:=by rw[<-l2];simpa using g2
  rw[VI k1 k2,Qv,Qv];exact O.eq hu (bU hc j k1 k2<|KQ pre) (u6 p1 _ k1) (u6 p2 _ k2)
 ·have k1:j<as.length:=by rw[<-l1];simpa using g1
  have k2:j<bs.length:=by rw[<-l2];simpa using g2
  rw[VI k1 k2] at ej;rw[i8 j k1 k2 (KQ pre)<|of_decide_eq_false ej,Qv,Qv];exact O.less hu (bU hc j k1 k2<|KQ pre) (u6 p1 _ k1) (u6 p2 _ k2)
 ·rw[yt,yt,l1,l2] at all ⊢;refine K4 λi g1 g2=>?_;have:=all i (by lia);rw[VI g1 g2] at this;exact of_decide_eq_true this
end
abbrev Jl (O:Od):Od where
 α:=List O.α
 deq:=inferInstance
 lt:=JD O
 irr:=K3
 trans:=gq
 tot:=gZ
 R:=λh u l=>∃a vs,u=.ref a/\h.IsTuple a vs.toArray/\Paired (O.R h) vs l
 V_:=λH x l=>∃a xs,x=.ref a/\H a=some (.tup xs)/\Paired (O.V_ H) xs l
 cmp:=uS O
 deep:=O.deep+1
 keep:=λk #[a,vs,e,#[o,h1,h2,h3],p]=>#[a,vs,e,#[o,k a o h1 h2,h2,h3],VC (λ_ _ r=>O.keep k r) p]
 mono:=λk #[a,xs,e,h,p]=>#[a,xs,e,k _ _ h,VC (λ_ _ r=>O.mono k r) p]
 raw:=λ{P w H h x u l} ok ⟨a,xs,e,hh,p⟩ r=>by
  subst e;cases r;obtain⟨_,Ek,rv,it⟩:=(show Jz P w H h a (.tup xs) from ok a _ hh);exact#[a,Ek,rfl,it,qF ok p rv]
 uniq:=λ⟨a,vs,e,⟨o,h1,_,n,h3⟩,p⟩ ⟨a',vs',e',⟨o',Fy,_,n',v₂⟩,p'⟩=>by
  subst e;cases e';rw[h1] at Fy;cases Fy;rw[h3] at v₂;injection v₂ with e1 _
  have e2:vs=vs':=by simpa using e1
  subst e2;exact GJ (F:=O.R _) (λ_ _ _ r r'=>O.uniq r r') p p'
 eq:=λ{A s u v as bs} hu hc h1 h2=>by
  obtain⟨a,vs,rfl,t1,p1⟩:=id h1;obtain⟨b,ws,rfl,t2,p2⟩:=id h2;have l1:=ue p1;have l2:=ue p2;by_cases O9:a=b
  ·subst O9;have e:as=bs:=by
    obtain⟨o,g1,_,n,g3⟩:=t1;obtain⟨o',V',_,n',V₁⟩:=t2;rw[g1] at V';cases V';rw[g3] at V₁;injection V₁ with e1 _
    have e2:vs=ws:=by simpa using e1
    subst e2;exact GJ (F:=O.R s.heap) (λ_ _ _ r r'=>O.uniq r r') p1 p2
   rw[decide_eq_true e];exact SeqAt.EqAt.same _
  ·refine SeqAt.EqAt.tuplesP (e:=GA as bs) O9 t1 t2 (by lia) (G5 (A:=A) (by lia) hc p1 p2).1 (λj g1 g2 pre ej=>?_) λall=>?_
   ·have k1:j<as.length:=by rw[<-l1];simpa using g1
    have k2:j<bs.length:=by rw[<-l2];simpa using g2
    refine decide_eq_false λe=>?_;subst e;rw[VI k1 k2] at ej;exact absurd rfl (of_decide_eq_false ej)
   ·rw[yt,yt,l1,l2] at all ⊢;rw[y4,decide_eq_true_iff,beq_iff_eq,iw];refine#[λz=>z.1,λz=>#[z,λi g1 g2=>?_]];have:=all i (by omega);rw[VI g1 g2] at this;exact of_decide_eq_true this
 less:=λ{A s u v as bs} hu hc h1 h2=>by
  obtain⟨a,vs,rfl,t1,p1⟩:=id h1;obtain⟨b,ws,rfl,t2,p2⟩:=id h2;obtain⟨f1,f2,f3⟩:=G5 (A:=A) (by lia) hc p1 p2;exact SeqAt.LtAt.tuples (e:=GA as bs) t1 t2 (by lia) f1 f2 f3
theorem kO {A:Around}{s:Shared}{u v:Value}{q:Prop}{d:Decidable p}{d':Decidable q} (h:p↔q) (x:SeqAt.EqAt A s u v (@decide p d)):SeqAt.EqAt A s u v (@decide q d'):=(@decide_eq_decide p q d d').mpr h▸x
abbrev uR (O:Od) (hd:∀h u l,¬(Uj l u/\∃a,O.R h u a)):Od where
 α:=Key ⊕ O.α
 deq:=inferInstance
 lt:=λa b=>match a,b with|.inl a,.inl b=>gf a b|.inl _,.inr _=>true|.inr _,.inl _=>false|.inr a,.inr b=>O.lt a b
 irr:=λa=>by cases a<;>first|exact KZ _|exact O.irr _
 trans:=λ{a b c} h1 h2=>by
  cases a<;>cases b<;>cases c<;>first|exact gh h1 h2|exact O.trans h1 h2|rfl|exact absurd h1 yA|exact absurd h2 yA
 tot:=λ{a b} h1 h2=>by
  cases a<;>cases b<;>first|exact congrArg _ (K0 h1 h2)|exact congrArg _ (O.tot h1 h2)|exact absurd h1.symm yA|exact absurd h2.symm yA
 R:=λh u a=>match a with|.inl k=>Uj k u|.inr a=>O.R h u a
 V_:=λH x a=>match a with|.inl k=>x=kV k|.inr a=>O.V_ H x a
 cmp:=λa b=>match a,b with|.inl a,.inl b=>a.isLeft=b.isLeft|.inr a,.inr b=>O.cmp a b|_,_=>False
 deep:=O.deep
 keep:=λ{h h' u a} k r=>by cases a<;>first|exact r|exact O.keep k r
 mono:=λ{H H' x a} k r=>by cases a<;>first|exact r|exact O.mono k r
 raw:=λ{P w H h x u a} ok r q=>by
  cases a with
  | inl k=>rw[show x=kV k from r] at q;exact V3.mp q
  | inr a=>exact O.raw ok r q
 uniq:=λ{h u a b} r q=>by
  cases a with
  | inl a=>cases b with
   | inl b=>exact congrArg _ (Jq.uniq (h:=h) r q)
   | inr b=>exact absurd #[r,_,q] (hd h u a)
  | inr a=>cases b with
   | inl b=>exact absurd #[q,_,r] (hd h u b)
   | inr b=>exact congrArg _ (O.uniq r q)
 eq:=λ{A s u v a b} hu hc r q=>by
  cases a with
  | inl a=>cases b with
   | inl b =>
    exact kO #[λe=>by rw[e],λe=>aad e] (Jq.eq (A:=A) (s:=s) (by show A.units+0<cLine;lia) hc r q)
   | inr b=>exact absurd hc id
  | inr a=>cases b with
   | inl b=>exact absurd hc id
   | inr b =>
    exact kO #[λe=>by rw[e],λe=>aaJ e] (O.eq (A:=A) (s:=s) hu hc r q)
 less:=λ{A s u v a b} hu hc r q=>by
  cases a with
  | inl a=>cases b with
   | inl b=>exact Jq.less (A:=A) (s:=s) (by show A.units+0<cLine;lia) hc r q
   | inr b=>exact absurd hc id
  | inr a=>cases b with
   | inl b=>exact absurd hc id
   | inr b=>exact O.less hu hc r q
theorem zH (O:Od):∀h u l,¬(Uj l u/\∃a,(Jl O).R h u a):=λh u l #[k,a,b,_,e,_]=>by
 subst e;cases l<;>(obtain⟨t,z⟩:=k;cases z)
abbrev ZE:Od:=uR (Jl Jq) (zH Jq)
theorem Od.neg (O:Od) {a b c:O.α} (h:O.lt a c=true):O.lt a b=true\/O.lt b c=true:=by
 cases h1:O.lt a b with
 | true=>exact .inl rfl
 | false =>
  right
  cases h2:O.lt b a with
  | true=>exact O.trans h2 h
  | false=>rw[<-O.tot h1 h2];exact h
theorem Af {O:Od}{a b:O.α}{as bs:List O.α} (e:a=b):JD O (a::as) (b::bs)=JD O as bs:=by
 show (if a=b then JD O as bs else O.lt a b)=_;rw[if_pos e]
theorem i9 {O:Od}{a b:O.α}{as bs:List O.α} (e:a≠b):JD O (a::as) (b::bs)=O.lt a b:=by
 show (if a=b then JD O as bs else O.lt a b)=_;rw[if_neg e]
def M4 (O:Od) (kc:Value->O.α) (d:O.α):KeyKind where
 α:=O.α
 blt:=O.lt
 irrefl:=O.irr
 trans:=λ_ _ _=>O.trans
 negTrans:=λ_ _ _=>O.neg
 total:=λ_ _=>O.tot
 keyOf:=λv=>some (kc v)
 dflt:=d
section
variable {prog:Ee}{w:World}{A:Around}{E:DO}{s:Shared}
def Cf (h:Heap) (d:Bool) (v:Value):Prop:=∃a u us k,v=.ref a/\h.IsTuple a (u::us).toArray/\Uj k u/\k.isLeft=d
theorem pW (h2:2<=vs.length) (ht:∀v∈vs,Cf s.heap d v) {R:SortKind->Shared->Prop} (q:R (tuples' true) s):wpAny (model prog w) A (keyKind' vs.toArray) R E s:=by
 have fx:∃fv:Value->Value,∀v∈vs,∃k,k.isLeft=d/\Uj k (fv v)/\∀R:Option Value->Shared->Prop,R (some<|fv v) s->wpAny (model prog w) A (firstOfTuple' v) R E s:=by
  have one:∀v∈vs,∃x:Value,∃k,k.isLeft=d/\Uj k x/\∀R:Option Value->Shared->Prop,R (some x) s->wpAny (model prog w) A (firstOfTuple' v) R E s:=λv hv=>by
   obtain⟨a,u,us,k,rfl,⟨ob,ho,hc,n,Rg⟩,hk,hl⟩:=ht v hv;refine#[u,k,hl,hk,λR hR=>?_];rw[Nm];refine Ef<|wpAny_typeOf (T:="tuple") #[ob,ho,hc] ?_;rw[if_neg (by decide)];exact Ef (listItems_at ho Rg<|Eg hR)
  refine#[λv=>if hv:v∈vs then (one v hv).choose else .none,λv hv=>?_];simp only[dif_pos hv];exact (one v hv).choose_spec
 obtain⟨fv,Rh⟩:=fx;rw[keyKind'_eq,aaj,<-bind_pure_comp];refine Ef (Ef (zV (r:=λv=>some<|fv v) (λv hv R hR=>by obtain⟨_,_,_,f⟩:=Rh v hv;exact f R hR)<|Eg ?_));rw[if_pos (by simp)];refine Ef<|wpAny_rule<|Ef ?_;rw[show (vs.map λv=>some<|fv v).toArray.filterMap id=(vs.map fv).toArray by simp [aaG,abt]];rw[oneTypeOnly'_eq,aaj,<-bind_pure_comp];refine Ef (Ef (zV (r:=λ_=>Value.type (if d then "int" else "str")) (λx hx R hR=>?_)<|Eg ?_))
 ·obtain⟨v,hv,rfl⟩:=yf.mp hx;obtain⟨k,e,hk,_⟩:=Rh v hv;rw[<-e] at hR;exact da hk hR
 ·match vs,h2 with
  | a::b::r,_ =>
   have e0:((Yv fv (a::b::r)).map λ_=>Value.type (if d then "int" else "str")).toArray[0]?=some (Value.type (if d then "int" else "str")):=by simp
   rw[e0];have ea:(((Yv fv (a::b::r)).map λ_=>Value.type (if d then "int" else "str")).toArray.all λx=>x==Value.type (if d then "int" else "str"))=true:=by
    simp only[abJ,abm,y6];intro _ _;cases d<;>rfl
   show wpAny _ _ (pure (if (((Yv fv (a::b::r)).map λ_=>Value.type (if d then "int" else "str")).toArray.all λx=>x==Value.type (if d then "int" else "str"))=true then some (Value.type (if d then "int" else "str")) else none)) _ _ _;rw[if_pos ea];refine Eg<|Eg ?_;have en:((some<|Value.type (if d then "int" else "str")).any λx=>x != Value.type "tuple")=true:=by cases d<;>rfl
   rw[en];exact q
theorem qm {u v:Value}{r:Bool}{Q:DQ} (h:SeqAt.LtAt A s u v r) (q:Q r s):wpAny (model prog w) A (oneLt' false u v) Q E s:=by
 exact Ef (h prog w E _<|wpAny_truthy_bool q)
def Pe {α:Type} (cs ds:List α):Prop:=∀i (g1:i<cs.length) (g2:i<ds.length),cs[i]=ds[i]
theorem Pe.cons {α:Type}{c d:α}{cs ds:List α} (e:c=d) (h:Pe cs ds):Pe (c::cs) (d::ds):=λi g1 g2=>by
 cases i with
 | zero=>exact e
 | succ i=>exact h i _ _
theorem Pe.tail {α:Type}{c d:α}{cs ds:List α} (h:Pe (c::cs) (d::ds)):Pe cs ds:=λi g1 g2=>by
 have:=h (i+1) (by simpa using g1) (by simpa using g2);simpa using this
theorem Z7 {u v:Value}{d:Decidable p} (h:p) (x:SeqAt.EqAt A s u v (@decide p d)):SeqAt.EqAt A s u v true:=by grind
theorem dG {u v:Value}{d:Decidable p} (h:¬p) (x:SeqAt.EqAt A s u v (@decide p d)):SeqAt.EqAt A s u v false:=by grind
theorem i6 {O:Od} (f:Bool) (hu:A.units+O.deep<cLine):∀{cs ds:List O.α} {ps qs:DY} (k:Nat),0<k->uS O cs ds->Paired (O.R s.heap) ps cs->Paired (O.R s.heap) qs ds->∀{R:Option Bool×Unit->Shared->Prop},(¬Pe cs ds->R (some<|JD O cs ds,()) s)->(Pe cs ds->R (none,()) s) ->
  wpAny (model prog w) A (forIn ((ps.zip qs).zipIdx k) ((none,()):Option Bool×Unit) λx _ =>
   match x with
   | ((u,v),i)=>do
    let r <-eqBool u v
    if (!r)=true then do
      let r <-oneLt' (f&&i==0) u v
      pure (abx (some r,()))
     else pure (Yq (none,()))) R E s
 := by
 intro cs ds ps qs k hk hc p q
 induction p generalizing ds qs k with
 | nil=>exact λ_ h=>Eg (h λi g1=>absurd g1<|Qt _)
 | @cons _ c _ cs r1 t1 ih =>
  cases q with
  | nil=>exact λ_ h=>Eg (h λi g1 g2=>absurd g2<|Qt _)
  | @cons _ d _ ds r2 t2 =>
  intro R h1 h2;rw[Yy,aao,Y9];refine Ef<|Ef<|O.eq hu hc.1 r1 r2 prog w _ _ ?_;by_cases e:c=d
  ·rw[decide_eq_true e];refine Eg (ih _ (Qf _) (hc.2 e) t2 (λn=>?_) λz=>h2<|Pe.cons e z);have:=h1 λz=>n z.tail;unfold JD at this;rw[if_pos e] at this;exact this
  ·rw[decide_eq_false e];rw[beq_eq_false_iff_ne.mpr<|Nat.pos_iff_ne_zero.mp hk,Y0];refine Ef<|qm (O.less hu hc.1 r1 r2)<|Eg<|Eg ?_;have:=h1 λz=>e<|z 0 (Qf _)<|Qf _;unfold JD at this;rw[if_neg e] at this;exact this
section
variable {O:Od}{hd:∀h u l,¬(Uj l u/\∃a,O.R h u a)}
theorem Bh (f:Bool) {u v:Value} {cs ds:List (Key ⊕ O.α)} {c d:Key} {cr dr:List (Key ⊕ O.α)} (ec:cs=.inl c::cr) (ed:ds=.inl d::dr) (hu:A.units+O.deep<cLine) (hc:uS (uR O hd) cs ds) (h1:(Jl<|uR O hd).R s.heap u cs) (h2:(Jl<|uR O hd).R s.heap v ds)
  {Q:DQ} (h:Q (JD (uR O hd) cs ds) s):wpAny (model prog w) A (keyLt' (tuples' f) u v) Q E s:=by
 obtain⟨a,ps,rfl,⟨o,ho,_,n,Rg⟩,p1⟩:=h1;obtain⟨b,qs,rfl,⟨o2,EI,_,n2,Wx⟩,p2⟩:=h2;refine Ef<|listItems_at ho Rg<|Ef<|listItems_at EI Wx ?_;have l1:=ue p1;have l2:=ue p2;have fin:Pe cs ds->Q (decide (ps.toArray.size<qs.toArray.size)) s:=λz=>by
  rw[K4 (O:=uR O hd) z] at h;rw[yt,yt,l1,l2];exact h
 subst ec ed;cases p1 with
 | @cons u0 _ us _ r1 t1=>cases p2 with
  | @cons v0 _ vs _ r2 t2 =>
   have Fo:=hc;rw[Yy,aao,Y9];have qe:=(uR O hd).eq hu Fo.1 r1 r2;by_cases e:(Y5 c:Key ⊕ O.α)=.inl d
   ·refine Ef<|Ef<|Ef<|Z7 e qe prog w _ _<|Eg ?_;refine (i6 (O:=uR O hd) f hu 1 Nat.one_pos (Fo.2 e) t1 t2 (λn=>Eg ?_) λz=>Eg<|fin<|Pe.cons e z);rw[Af e] at h;exact h
   ·refine Ef<|Ef<|Ef<|dG e qe prog w _ _ ?_;refine Ef<|cJ _ Fo.1 r1 r2<|Eg<|Eg<|Eg ?_;rw[i9 e] at h;exact h
end
end
section
variable {prog:Ee}{w:World}{A:Around}{E:DO}{s:Shared}{O:Od}{hd:∀h u l,¬(Uj l u/\∃a,O.R h u a)}
structure kx (hd:∀h u l,¬(Uj l u/\∃a,O.R h u a)) (h:Heap) (vs:DY) (kc:Value->List (Key ⊕ O.α)) (d:Bool):Prop where
 at_:∀v∈vs,(Jl<|uR O hd).R h v (kc v)
 fst:∀v∈vs,∃c r,kc v=.inl c::r/\c.isLeft=d
 cm:∀u∈vs,∀v∈vs,uS (uR O hd) (kc u) (kc v)
theorem kx.keep {h h':Heap}{kc:Value->List (Key ⊕ O.α)} (x:kx hd h vs kc d) (k:∀b o,h.get? b=some o->o.cls=.type "tuple"->h'.get? b=some o):kx hd h' vs kc d :=
 #[λv hv=>(Jl _).keep k<|x.at_ v hv,x.fst,x.cm]
theorem kx.fsts {h:Heap}{kc:Value->List (Key ⊕ O.α)} (x:kx hd h vs kc d):∀v∈vs,Cf h d v:=λv hv=>by
 obtain⟨c,r,e,l⟩:=x.fst v hv;obtain⟨a,us,rfl,t,p⟩:=x.at_ v hv;rw[e] at p;cases p with
 | cons r1 t1=>exact#[a,_,_,c,rfl,t,r1,l]
theorem kx.orc {kc:Value->List (Key ⊕ O.α)} (x:kx hd s.heap vs kc d) (hu:A.units+O.deep<cLine) (f:Bool):UY prog w A s (tuples' f) (M4 (Jl<|uR O hd) kc []) (pairsOf vs):=λE p q Q hp hq h=>by
 have m1:=(vw hp).2;have m2:=(vw hq).2;obtain⟨c,r,e,_⟩:=x.fst _ m1;obtain⟨c',r',e',_⟩:=x.fst _ m2;exact Bh (hd:=hd) f e e' hu (x.cm _ m1 _ m2) (x.at_ _ m1) (x.at_ _ m2) h
theorem eX {x:Value}{kc:Value->List (Key ⊕ O.α)}{d:Bool}{Q:DO} (hu:A.units+8+O.deep<cLine) (hc:∀R:List Value->Shared->Prop,(∀h' tk,(∀b o,s.heap.get? b=some o->h'.get? b=some o)->s.heap.objs.size<h'.objs.size->R vs { s with heap:=h',toks:=tk })->wpAny (model prog w) A.in1 (collect x) R E s)
  (X:kx hd s.heap vs kc d) (hl:vs.length<=sizeLine)
  (q:∀(h':Heap) (tk c:Nat) (p:Addr) (out:DY),(∀b o,s.heap.get? b=some o->h'.get? b=some o)->s.heap.objs.size<=p->h'.get? p=some (seqObj "list" out.toArray c)->out.Perm vs->(out.Pairwise λu v=>JD (uR O hd) (kc v) (kc u)=false)->Q (.ref p) { s with heap:=h',toks:=tk }) :
  wpAny (model prog w) A (call (.builtin "sorted") [x]) Q E s :=
 Zx (f:=tuples' true) (o:=M4 (Jl<|uR O hd) kc []) hc (λh' tk B hB kp=>have Y:=X.keep λb o e _=>kp b o e;#[λh2 E R r=>pW h2 Y.fsts r,Y.orc (by lia) true]) hl q
end
def jL (M:Od) (H:Hp) (bs:DZ) (ks:List M.α):Prop:=Paired (λb k=>M.V_ H (.ref b) k) bs ks
theorem jL.mono {H H':Hp}{bs:DZ}{ks:List M.α} (x:jL M H bs ks) (k:∀p xs,H p=some (.tup xs)->H' p=some (.tup xs)):jL M H' bs ks:=VC (λ_ _ r=>M.mono k r) x
theorem Zs {α β:Type}{F:α->β->Prop}:∀{a b:List α} {c d:List β},Paired F a c->Paired F b d->Paired F (a++b) (c++d):=by
 intro _ _ _ _ h s
 induction h with
 | nil=>exact s
 | cons r t ih=>exact .cons r ih
theorem jL.app {H:Hp}{bs Fg:DZ}{ks Ep:List M.α} (x:jL M H bs ks) (y:jL M H Fg Ep):jL M H (bs++Fg) (ks++Ep):=Zs x y
theorem eO {α β γ:Type}{F:α->β->Prop}{g:α->γ}{f:γ->β} (h:∀x y,F x y->f (g x)=y):∀{l:List α} {m:List β},Paired F l m->(l.map g).map f=m:=by
 intro _ _ p
 induction p with
 | nil=>rfl
 | cons r t ih=>rw[yR,yR,h _ _ r,ih]
theorem bB {α β:Type}{F:α->β->Prop}:∀{l:List α} {m:List β} {x:α},Paired F l m->x∈l->∃y∈m,F x y:=by
 intro _ _ _ p h
 induction p with
 | nil=>cases h
 | cons r t ih =>
  rcases yz.mp h with rfl|h
  ·exact#[_,yE,r]
  ·obtain⟨x,hx,hf⟩:=ih h;exact#[x,yH _ hx,hf]
theorem ZK {α β:Type}{F:α->β->Prop}{f:α->β}:∀{l:List α},(∀x∈l,F x<|f x)->Paired F l (l.map f)
 | [],_=>.nil
 | a::l,h=>.cons (h a<|yE ..) (ZK λx hx=>h x<|yH _ hx)
open Classical in
noncomputable def GE (M:Od) (h:Heap) (d:M.α) (v:Value):M.α:=if x:∃k,M.R h v k then x.choose else d
theorem xU {h:Heap}{d:M.α}{v:Value}{k:M.α} (x:M.R h v k):GE M h d v=k:=by
 have hx:∃k,M.R h v k:=#[k,x];unfold GE;rw[dif_pos hx];exact M.uniq hx.choose_spec x
section
variable {X:Cx}{O:Od}{hd:∀h u l,¬(Uj l u/\∃a,O.R h u a)}
theorem Z5 (hu:X.A.units+64<cLine) (S4:O.deep<=8):u4 X (.builtin "sorted") (λxs H Q=>∃(p:Addr) (bs:DZ) (ks:List (List<|Key ⊕ O.α)) (d:Bool),xs=[.ref p]/\H p=some (.lst<|bs.map V.ref)/\jL (Jl<|uR O hd) H bs ks/\(∀k∈ks,∃c r,k=.inl c::r/\c.isLeft=d)/\(∀a∈ks,∀b∈ks,uS (uR O hd) a b) /\
  ∀l Fg Ep,H l=none->jL (Jl<|uR O hd) H Fg Ep->Ep.Perm ks->(Ep.Pairwise λa b=>JD (uR O hd) b a=false)->Q (.ref l) (upd H l<|.lst<|Fg.map V.ref)):=by
 intro pins s σ H xs us Q I r h;obtain⟨p,bs,ks,d,rfl,e,ka,hf,Rf,q⟩:=h;obtain⟨u,rfl,ru⟩:=UV r;cases ru;obtain⟨Ek,rv,pl,hz⟩:=I.list<|jt.of e;obtain rfl:=VN rv;have hlen:(bs.map Value.ref).length<=sizeLine:=by
  have:=hz;simpa using this
 let M:=Jl (uR O hd)
 have hr:∀b k,M.V_ H (.ref b) k->M.R s.heap (.ref b) k:=λb k h=>M.raw I.hok h rfl;have hb:∀v∈bs.map Value.ref,∃b∈bs,∃k∈ks,v=.ref b/\M.V_ H (.ref b) k:=λv hv=>by
  obtain⟨b,hb,rfl⟩:=yf.mp hv;obtain⟨k,hk,x⟩:=bB ka hb;exact#[b,hb,k,hk,rfl,x]
 have Pa:∀b k,M.V_ H (.ref b) k->GE M s.heap [] (.ref b)=k:=λb k h=>xU<|hr b k h;have hk:(bs.map Value.ref).map (GE M s.heap [])=ks:=eO (λb k h=>Pa b k h) ka;have X1:kx hd s.heap (bs.map Value.ref) (GE M s.heap []) d:=#[λv hv=>by
   obtain⟨b,_,k,_,rfl,x⟩:=hb v hv;rw[Pa b k x];exact hr b k x,λv hv=>by
   obtain⟨b,_,k,hk,rfl,x⟩:=hb v hv;rw[Pa b k x];exact hf k hk,λu hu v hv=>by
   obtain⟨b,_,k,hk,rfl,x⟩:=hb u hu;obtain⟨b',_,k',Rj,rfl,x'⟩:=hb v hv;rw[Pa b k x,Pa b' k' x'];exact Rf k hk k' Rj]
 refine eX (hd:=hd) (kc:=GE M s.heap []) (d:=d) (by omega) (λR hR=>collect_list (A:=X.A.in1) pl.isList (hR _ s.toks (λb o e=>?_) ?_) hlen) X1 hlen λh' tk c p' out kp hp e' pm up=>?_
 ·exact (yF _ _<|QC<|yq e).trans (yg _ e)
 ·show s.heap.objs.size<((s.heap.push _).update _ _).objs.size;simp [Heap.update,Heap.push]
 ·have ho:∀v∈out,∃b,v=.ref b/\M.V_ H (.ref b) (GE M s.heap [] v):=λv h=>by
   obtain⟨b,_,k,_,rfl,x⟩:=hb v<|pm.mem_iff.mp h;exact#[b,rfl,by rw[Pa b k x];exact x]
  have Wy:jG ((out.map VR).map V.ref) out:=by
   clear pm up e'
   induction out with
   | nil=>exact .nil
   | cons v r ih =>
    obtain⟨b,rfl,_⟩:=ho v<|yE ..;exact .cons rfl (ih λu hu=>ho u<|yH _ hu)
  have I9:jL M H (out.map VR) (out.map<|GE M s.heap []):=by
   have:out.map (GE M s.heap [])=(out.map VR).map λb=>GE M s.heap [] (.ref b):=by
    rw[yS];refine Qx λv hv=>?_;obtain⟨b,rfl,_⟩:=ho v hv
    rfl
   rw[this];refine ZK λb hb=>?_;obtain⟨v,hv,rfl⟩:=yf.mp hb;obtain⟨b,rfl,x⟩:=ho v hv;exact x
  refine#[.ref p',_,I.laid (t':=tk) (o:=.lst<|(out.map VR).map V.ref) kp hp #[?_,out,c,Wy,e'],rfl,q p' _ _ (I.hok.fresh hp) I9 (hk▸pm.map _)<|yT.mpr up];rw[yb,yb,pm.length_eq];exact hlen
end
section
variable {X:Cx}{M:Od}
theorem Ar (M:Od) (hu:X.A.units+64<cLine) (S4:M.deep<=8):uC X (compareOp .Lt) (λx y H Q=>E2 λa b=>A4 (M.V_ H x a) (M.V_ H y b) (M.cmp a b)<|Q (.bl<|M.lt a b) H):=by
 intro pins s σ H x y v u Q I rx ry h;obtain⟨a,b,ha,hb,hc,q⟩:=h;exact M.less (by lia) hc (M.raw I.hok ha rx) (M.raw I.hok hb ry) _ _ _ _ #[.bl _,H,I,rfl,q]
end
structure Fz (P:Ee) (w:World) (H:Hp) (a:Addr) (o:Obj) (Ei:List (List Key×V)) (xs:List (List Key×Addr×Value)):Prop where
 e:H a=some (zM a o)
 hm:(a==sysModules)=false
 kt:KT H Ei xs
 dr:oW P w o xs
 hz:Ei.length<=sizeLine
theorem Fz.len {P:Ee}{w:World}{H:Hp}{a:Addr} (F:Fz P w H a o Ei xs):xs.length=Ei.length:=(Paired.length F.kt).symm
theorem d0 {H:Hp}:∀{Ei:List (List Key×V)} {xs:List (List Key×Addr×Value)} {i:Nat} {y:List Key×Addr×Value},KT H Ei xs->xs[i]?=some y->∃kv,Ei[i]?=some kv/\H y.2.1=some (.tup<|kv.1.map kV)
 | _,_,_,_,.nil,e=>by simp at e
 | _,_,0,_,.cons r _,e=>by simp at e;subst e;exact#[_,rfl,r.2.1]
 | _,_,i+1,y,.cons _ t,e=>by
  obtain⟨kv,h1,h2⟩:=d0 (i:=i) t (by simpa using e);exact#[kv,by simpa using h1,h2]
theorem VZ {P:Ee}{w:World}{H:Hp}{a:Addr} (ha:H a=some (.dT Ei)) (hz:Ei.length<=sizeLine) (hm:(a==sysModules)=false) (kt:KT H Ei xs) (dr:oW P w o xs) :
  Fz P w (upd H a<|zM a o) a o Ei xs/\(∀b u,b≠a->H b=some u->upd H a (zM a o) b=some u)/\(∀b,upd H a (zM a o) b=none->H b=none)/\∀H',Same (upd H a<|zM a o) H'->Same H (upd H' a<|.dT Ei):=by
 refine#[#[jd,hm,kt.keeps λb ys e=>jB (jA e ha) e,dr,hz],λb u n e=>jB n e,λb e=>?_,λH' s b u e=>?_]
 ·by_cases h:b=a
  ·subst h;rw[jd] at e;cases e
  ·rwa [jj h] at e
 ·by_cases h:b=a
  ·subst h;rw[ha] at e;cases e;exact jd
  ·rw[jj h];exact s b u (jB h e)
theorem Zl {P:Ee}{w:World}{a:Addr}{tb:TS}{D:zD}{H:Hp} (F:Fz P w H a o Ei xs) (Pv:Nat->St->Hp->Prop) (h0:Pv 0 σ H) (hl:∀i σ H',i<=Ei.length->Pv i σ H'->H' a=some (zM a o))
  (hs:∀i kv p σ H',Ei[i]?=some kv->H p=some (.tup<|kv.1.map kV)->Pv i σ H'->g (.ref p) σ H' λσ2 H2=>tb { D with nx:=Pv<|i+1,ct:=Pv<|i+1,bk:=D.nx } σ2 H2) (hd:∀σ H',Pv Ei.length σ H'->D.nx σ H') :
  ∃W:Nat->Nat->St->Hp->Prop,(∃m,W 0 m σ H)/\∀i m σ H,W i m σ H ->
   ((bO a o xs).stop i H/\D.nx σ H)\/((bO a o xs).go i H/\∃N:St->Hp->Prop,(∀σ' H',N σ' H'->∃m',m'<m/\W (i+1) m' σ' H')/\∀x H',(bO a o xs).yld i H x H'->g x σ H' λσ2 H2=>tb { D with nx:=N,ct:=N,bk:=D.nx } σ2 H2):=by
 have le:=F.len;refine#[λi m σ H=>m=Ei.length - i/\i<=Ei.length/\Pv i σ H,#[Ei.length,by simp,yL _,h0],?_];rintro i m σ H1 ⟨rfl,hi,p⟩;have q:=hl i σ H1 hi p;by_cases El:i<Ei.length
 ·refine .inr #[#[q,by lia],_,λσ' H' p'=>#[_,by omega,rfl,El,p'],λx H' y=>?_];obtain⟨e,z,hz,rfl⟩:=y;subst e;obtain⟨kv,h1,h2⟩:=d0 F.kt hz;exact hs i kv _ σ _ h1 h2 p
 ·have e:i=Ei.length:=by lia
  subst e;exact .inl #[#[q,by lia],hd σ H1 p]
theorem tH {P:Ee}{w:World}{a:Addr}{tc:TT}{te:TE}{k:Nat}{H:Hp}{Q:VK} (F:Fz P w H a o Ei xs) (Pv:Addr->Nat->List V->Hp->Prop)
  (h0:∀D,H D=none->Pv D 0 [] (upd H D<|.lst [])) (hD:∀D i ys H',Pv D i ys H'->H' D=some (.lst ys)/\ys.length<=i/\H' a=some (zM a o))
  (step:∀D i kv p ys H' (Qy:VK) (Qn:Hp->Prop),Ei[i]?=some kv->H p=some (.tup<|kv.1.map kV)->Pv D i ys H'->(∀y H4,H4 D=some (.lst ys)->Pv D (i+1) (ys++[y]) (upd H4 D<|.lst<|ys++[y])->Qy y H4)->(∀H4,Pv D (i+1) ys H4->Qn H4) ->
   g (.ref p) (σ++Yd k none) H' λσ2 H2=>(∃zs,σ2=σ++zs/\zs.length=k)/\tc σ2 H2 λb H3=>if b=true then te σ2 H3 Qy else Qn H3)
  (q:∀D ys H',H D=none->Pv D Ei.length ys H'->Q (.ref D) H'):vm k g tc te σ Q (bO a o xs) H:=by
 have le:=F.len;have hz:=F.hz;intro D Hu;refine#[λi m ys H'=>m=Ei.length - i/\i<=Ei.length/\Pv D i ys H',#[Ei.length,by simp,yL _,h0 D Hu],?_];rintro i m ys H' ⟨rfl,hi,p⟩;obtain⟨e,hl,q1⟩:=hD D i ys H' p;refine#[e,?_];by_cases El:i<Ei.length
 ·refine .inr #[#[q1,by lia],by lia,λx H2 y=>?_];obtain⟨rfl,z,hz,rfl⟩:=y;obtain⟨kv,h1,h2⟩:=d0 F.kt hz;exact step D i kv _ ys _ _ _ h1 h2 p (λy H4 e4 p4=>#[e4,Ei.length - (i+1),by omega,rfl,El,p4]) λH4 p4=>#[Ei.length - (i+1),by omega,rfl,El,p4]
 ·obtain rfl:i=Ei.length:=by lia
  exact .inl #[#[q1,by lia],q D ys H' Hu p]
section
variable {X:Cx}
def BL (P:Ee) (w:World) (t:TS):TS:=λD σ H=>t { D with nx:=λσ' H'=>∃a o Ei xs,Fz P w H' a o Ei xs/\D.nx σ' (upd H' a<|.dT Ei) } σ H
theorem z9 {st:Stmt}{t:TS} (h:PS X st t):PS X st (BL X.prog X.w t):=by
 intro pins s σ H D I q;refine jE (h pins s σ H _ I q) λf s1 hh=>?_;cases f with
 | next =>
  obtain⟨σ',H1,I1,a,o,Ei,xs,F,q⟩:=hh;obtain⟨es,ep,h2,h3,h4,h6⟩:=F.dr;have g:=gT I1.hok F.e;have I2:jo X pins σ' (upd H1 a<|.dT Ei) _:=I1.write (t':=s1.toks) (by rw[F.e];exact Yo) (.inl rfl) (λb u _ e=>e) #[o,g] #[F.hz,F.hm,xs,Paired.mapP F.kt λx y r=>#[r.1,?_,r.2.2],o,es,ep,g,h2,h3,h4,h6]
  ·exact#[σ',_,I2,q]
  ·rw[jj<|jA r.2.1 F.e];exact r.2.1
 | ret v=>exact hh
 | brk=>exact hh
 | cont=>exact hh
def UW (P:Ee) (w:World) (H:Hp) (a:Addr) (y:V) (r:Option V):Prop:=ug H a y r\/∃o Ei xs k b,Fz P w H a o Ei xs/\y=.ref b/\H b=some (.tup<|k.map kV)/\r=jD Ei k
theorem UW.z {P:Ee}{w:World}{H:Hp}{a b:Addr} (F:Fz P w H a o Ei xs) (eb:H b=some (.tup<|k.map kV)):UW P w H a (.ref b) (jD Ei k):=.inr #[o,Ei,xs,k,b,F,rfl,eb,rfl]
theorem UW.t {P:Ee}{w:World}{H:Hp}{a b:Addr} (e:H a=some (.dT Ei)) (eb:H b=some (.tup<|k.map kV)):UW P w H a (.ref b) (jD Ei k):=.inl (ug.t e eb)
theorem dQ {P:Ee}{w:World}{H:Hp}{h:Heap}{a:Addr} (ok:Jh P w H h) (F:Fz P w H a o Ei xs):h.DictOfH (tupleKind<|Jp P w) a xs:=by
 obtain⟨es,ep,h2,h3,h4,h6⟩:=F.dr;refine#[o,es,ep,gT ok F.e,h2,h3,h4,λx hx=>?_,h6];have all:∀{l:List _} {m:List _},KT H l m->∀x∈m,(tupleKind<|Jp P w).is h x.1 x.2.1:=by
  intro l m q
  induction q with
  | nil=>intro x hx;exact nomatch hx
  | @cons p q ps qs hq t ih =>
   intro x hx;rcases yz.mp hx with e|hx
   ·subst e;exact vM ok (by rw[<-hq.1];exact hq.2.1)
   ·exact ih x hx
 exact all F.kt x hx
variable {pins:DW}{σ:St}{H:Hp}{s:Shared}{a:Addr}{y v:V}{u r:Value}{o:Option V}{A:Around}{E:DO}
theorem oU (hu:A.units+1<cLine) (I:jo X pins σ H s) (g:UW X.prog X.w H a y (some v)) (ry:jI y u) (h:∀w' s',jo X pins σ H s'->jI v w'->Q w' s') :
  wpAny (model X.prog X.w) A (getItem (.ref a) u) Q E s:=by
 rcases g with g|⟨o,Ei,xs,k,b,F,ey,eb,l⟩
 ·exact mH hu I g ry h
 ·subst ey;cases (ry);have dd:=dQ I.hok F;obtain⟨w',hw,F5⟩:=vg.some_of (by rw[l];exact F.kt.val k);obtain⟨p,hp,Fe⟩:=yI.mp hw;refine wpAny_getItem_heap (tupleKind_room_in1 hu) (vM I.hok eb) dd hp ?_;rw[Fe];exact h w' _ (I.tok _) F5
theorem Dp (hu:A.units+1<cLine) (I:jo X pins σ H s) (g:UW X.prog X.w H a y o) (ry:jI y u) (h:∀s',jo X pins σ H s'->Q (.bool o.isSome) s') :
  wpAny (model X.prog X.w) A (compareOp .In u<|.ref a) Q E s:=by
 rcases g with g|⟨ob,Ei,xs,k,b,F,ey,eb,l⟩
 ·exact xD hu I g ry h
 ·subst ey;cases (show u=Value.ref b from ry);have dd:=dQ I.hok F;refine wpAny_in_heap (tupleKind_room_in1 hu) (vM I.hok eb) F.hm dd ?_;have q:=(F.kt.val k).isSome_eq;rw[aaf] at q;rw[<-q,<-l];exact h _ (I.tok _)
theorem rE (I:jo X pins σ H s) (g:UW X.prog X.w H a y o):s.TypeIs (.ref a) "dict":=by
 rcases g with g|⟨ob,Ei,xs,k,b,F,_⟩
 ·exact Gz I g
 ·exact (dQ I.hok F).typeIs
end
def sY (P:Ee) (w:World) (td ty:TE):TE:=λσ H Q=>td σ H λx H1=>ty σ H1 λy H2=>∃a v,x=.ref a/\UW P w H2 a y (some v)/\Q v H2
def Bk (P:Ee) (w:World) (ty td:TE):TE:=λσ H Q=>ty σ H λy H1=>td σ H1 λx H2=>∃a o,x=.ref a/\UW P w H2 a y o/\Q (.bl o.isSome) H2
section
variable {X:Cx}{o i e value:Expr}{pos pos' HA:Pos}{td ty tv:TE}
theorem vZ (ho:PE X o td) (hi:PE X i ty) (hu:autoParam (X.A.units+1<cLine) zzj) (hs:dA i:=by exact λ_ _=>rfl):PE X (.Subscript o i pos) (sY X.prog X.w td ty):=by
 intro pins s σ H Q I h;refine c8 PySem.F.slot_dict_getitem.lookup hs (jE (ho pins s σ H _ I h) λu s1 #[x,H1,I1,rx,q1]=>jE (hi pins s1 σ H1 _ I1 q1) λiv s2 hh=>?_);obtain⟨y,H2,I2,ry,a,v,ex,g,q2⟩:=hh;subst ex;obtain rfl:u=Value.ref a:=rx;exact#[rE I2 g,oU hu I2 g ry λw' s3 I3 F5=>#[v,H2,I3,F5,q2]]
theorem cL (hi:PE X i ty) (ho:PE X o td) (hu:autoParam (X.A.units+1<cLine) zzj):PC X .In i o (Bk X.prog X.w ty td):=by
 intro pins s σ H Q I h;refine jE (hi pins s σ H _ I h) λiv s1 #[y,H1,I1,ry,q1]=>jE (ho pins s1 σ H1 _ I1 q1) λu s2 hh=>?_;obtain⟨x,H2,I2,rx,a,ov,ex,g,q2⟩:=hh;subst ex;obtain rfl:u=Value.ref a:=rx;exact Dp hu I2 g ry λs3 I3=>#[.bl ov.isSome,H2,I3,rfl,q2]
end
theorem fS {bs:List Bool}:(Yk bs.length).any (λj=>bs.getD j false)=bs.any id:=by
 rw[y4,QX,QX];constructor
 ·rintro⟨j,hj,e⟩;have hj:=Qs.mp hj;rw[y7,yc hj] at e;exact#[_,yV hj,e]
 ·rintro⟨b,hb,e⟩;obtain⟨j,hj,rfl⟩:=yO hb;exact#[j,Qs.mpr hj,by rw[y7,yc hj];exact e]
theorem Bq:bootBuiltins "any"=some (.builtin "any"):=by decide +kernel
section
variable {X:Cx}
theorem KO (hc:X.calm=true):u4 X (.builtin "any") (λxs H Q=>E2 λ(p:Addr) (bs:List Bool)=>A3 (xs=[.ref p]) (jt X.K H p<|bs.map V.bl)<|Q (.bl<|bs.any id) H):=by
 intro pins s σ H xs us Q I r h;obtain⟨p,bs,rfl,hq,q⟩:=h;obtain⟨u,rfl,ru⟩:=UV r;cases ru;obtain⟨Ek,rv,pl,_⟩:=I.list hq;have hlen:Ek.length=bs.length:=by rw[<-rv.length,yb]
 have T7:∀(i:Nat) (v:Value),Ek.toArray[i]?=some v->v=.bool (bs.getD i false):=λi v e=>by
  have e':Ek[i]?=some v:=by simpa using e
  have hi:i<bs.length:=by rw[<-hlen];exact (yd.mp e').1
  obtain⟨u,hu,ru⟩:=rv.get (i:=i) (x:=V.bl bs[i]) (by simp [hi]);rw[e'] at hu;cases hu;obtain rfl:=ru;rw[y7,yc hi];rfl
 have El:p<s.heap.objs.size:=by obtain⟨_,e,_⟩:=pl.isList;exact yq e
 refine call_any_walk<|wpAny_pyIter_list pl.isList ?_;refine#[_,_,_,_,_,_,λj=>bs.getD j false,rfl,Walks.list (A:=X.A.in1) (I.ok.hd hc) s.heap.objs.size p (yJ El) Ek.toArray,#[#[_,yB _ rfl,rfl,rfl],pl.isList.push _],?_,λh' tk hk=>?_]
 ·intro i v s' Q' E' hP IX;obtain rfl:=T7 i v hP;exact wpAny_of_eq rfl IX
 ·rw[yt,hlen,fS];exact#[.bl _,H,I.kept λb o e=>hk b o (λhm=>by simp at hm;exact absurd (hm▸yq e)<|QB _)<|yg _ e,rfl,q]
end
theorem Ku {α β:Type}{F:α->β->Prop}:∀{l:List α} {m:List β},l.length=m.length->(∀i (h1:i<l.length) (h2:i<m.length),F l[i] m[i])->Paired F l m
 | [],[],_,_=>.nil
 | [],_::_,h,_=>by cases h
 | _::_,[],h,_=>by cases h
 | a::l,b::m,h,f=>.cons (f 0 (Qf _)<|Qf _) (Ku (by simpa using h) λi h1 h2=>by
   have:=f (i+1) (by simpa using h1) (by simpa using h2);simpa using this)
end L2
namespace L2
open PySem PySem.Spec PyProof.Rows
variable {H:Hp}{h:Heap}{as:DZ}{s:Shared}{cm:Bool}{P:Ee}
section
variable {X:Cx}{P:Ee}{w:World}{o i:Expr}{pos:Pos}{td ty:TE}
theorem lV (hP:X.prog=P) (hw:X.w=w) (hu:X.A.units+1<cLine) (ho:PE X o td) (hi:PE X i ty) (hs:dA i):PE X (.Subscript o i pos) (sY P w td ty):=by subst hP hw;exact vZ ho hi hu hs
theorem qr (hP:X.prog=P) (hw:X.w=w) (hu:X.A.units+1<cLine) (hi:PE X i ty) (ho:PE X o td):PC X .In i o (Bk P w ty td):=by subst hP hw;exact cL hi ho hu
end
def Vr (f:Addr) (name qual:Str) (params:Arguments) (body:List Stmt) (scope:Scope) (cl:D0) (c:Addr):HO :=
 .ext λh=>∃doc pm ct,h.get? f=some (fnMade name qual params body scope cl doc pm c ct)
theorem cj {Pr:Ee}{w:World}{f c:Addr}{name qual:Str}{params:Arguments}{body:List Stmt}{scope:Scope}{cl:D0}{doc pm ct:Value} (e:h.get? f=some (fnMade name qual params body scope cl doc pm c ct)):Jz Pr w H h f (Vr f name qual params body scope cl c) :=
 #[#[doc,pm,ct,e],#[_,e],λh1 h2 #[doc,pm,ct,z] k=>#[doc,pm,ct,k _ z]]
theorem kE {pos pos':Pos}{c:Value} (ne:pos'.line≠pos.line\/pos'.col≠pos.col) (l:DY) (h:TriplesOk l) :
  codeAmong pos' (l++[rawInt pos.line,rawInt pos.col,c])=codeAmong pos' l:=by
 fun_induction TriplesOk l with
 | case1 =>
  have:¬(((pos.line:Int)==(pos'.line:Int))&&((pos.col:Int)==(pos'.col:Int)))=true:=by
   simp only[yU,beq_iff_eq,not_and];intro e e2
   lia
  simp only[QP,codeAmong,rawInt];rw[if_neg this]
 | case2 a t b u x rest ih =>
  simp only[aaq,codeAmong];split
  ·rfl
  ·exact ih h
 | case3 l h1 h2=>exact h.elim
def CY (i:Nat) (P:Addr) (name qual:Str) (params:Arguments) (body:List Stmt) (scope:Scope) (cl:D0) (pos:Pos):TS:=λD σ H =>
 zl H P pos qual/\∀c f H',vW P H H'->zl H' P pos qual->(∀pos' q,(pos'.line≠pos.line\/pos'.col≠pos.col)->zl H P pos' q->zl H' P pos' q)->H f=none->H' f=some (Vr f name qual params body scope cl c)->H' c=some (Ur c qual)->D.nx (σ.set i<|some<|.ref f) H'
section
variable {X:Cx}{name:Str}{params:Arguments}{body:List Stmt}{scope:Scope}{pos:Pos}{cl:D0}{c0 P:Addr}{i:Nat}
theorem lY (hN:X.N.Nodup) (hi:X.N[i]?=some name) (hx:nR X.env.scope name) (hd0:params.defaults=[]) (S5:params.kw_defaults=[]) (ha:annTrees params none X.env=[]) (Fx:closureFor scope X.env=pure cl) (EZ:X.env.code=.ref c0) (C:codeHdIn X.K c0 P=true) (hB:vC X.mg X.base)
  (hf:autoParam (X.fn name=true\/X.env.scope.names.lookup name=some .local) zzf) :
  PS X (.FunctionDef name params body [] none [] scope none name pos) (CY i P name (qualnameIn X.env name name) params body scope cl pos):=by
 intro pins s σ H D I h;obtain⟨⟨ps,hP,ht,Hw⟩,q⟩:=h;refine PySem.W.nestDef_K hd0 S5 ha ?_;have hg:s.heap.Ns mainGlobals X.mg:=I.mod.glob.keeps I.bk;have CH:CodeHd s.heap c0 P:=codeHd_of_K I.kIn C;have Rq:s.heap.get? P=some (tabObj ps):=I.hok P _ hP;have Rr:∀b o,X.base.get? b=some o->b≠P:=λb o e z=>by
  have:=(I.bs b o e).2;rw[z,hP] at this;cases this
 obtain⟨bm,ob,b1,b2,b3,b4,b5,b6⟩:=hB;have Wn:mainGlobals≠P:=by
  obtain⟨o,es,ep,e,_⟩:=I.mod.glob;exact Rr _ _ e
 have Ey:bm≠mainGlobals:=λz=>by
  obtain⟨o,es,ep,e,hd,_⟩:=I.mod.glob;rw[z,e] at b3;cases b3;rw[hd] at b6;cases b6
 have hb:s.heap.BuiltinsAt X.mg P:=#[bm,ob,b1,b2,Ey,Rr _ _ b3,I.bk _ _ b3,b4,b5,b6];generalize hq:qualnameIn X.env name name=qual at q ⊢ Hw;rcases Hw with LF|⟨c,V₂,hc⟩
 ·refine PySem.W.makeFunction_K (mg:=X.mg) Fx I.ok.glob hg EZ CH Rq ht LF Wn hb λc Ii doc h' tk Wc F8 El Ij Ik=>?_;have EV:H h'.objs.size=none:=I.hok.fresh<|ym F8<|aaa El;have IY:H c=none:=I.hok.fresh F8;have Wo:c≠P:=λz=>by rw[z,hP] at IY;cases IY
  have Wq:h'.objs.size≠P:=λz=>by rw[z,hP] at EV;cases EV
  have Wr:h'.objs.size≠c:=QC El;generalize IH:ps++(Ya [rawInt pos.line,rawInt pos.col,.ref c])=HR at Ik;generalize hH:upd (upd (upd H P<|.tbl HR) c<|Ur c qual) h'.objs.size (Vr h'.objs.size name qual params body scope cl c)=H2;have e1:H2 h'.objs.size=some (Vr h'.objs.size name qual params body scope cl c):=by rw[<-hH,jd]
  have e2:H2 c=some (Ur c qual):=by rw[<-hH,jj<|yG Wr,jd]
  have e3:H2 P=some (.tbl HR):=by rw[<-hH,jj<|yG Wq,jj<|yG Wo,jd]
  have e4:∀b,b≠P->b≠c->b≠h'.objs.size->H2 b=H b:=λb n1 n2 n3=>by rw[<-hH,jj n3,jj n2,jj n1]
  have off:vW P H H2:=λb u n e=>by rw[e4 b n (jh e IY)<|jh e EV];exact e
  have kp:∀b o,b≠P->s.heap.get? b=some o->(h'.push<|fnMade name qual params body scope cl doc ((X.mg "__name__").getD .none) c Ii).get? b=some o:=λb o n e=>yg _<|Wc b o n e;have low:∀b o,s.heap.get? b=some o->b≠c/\b≠h'.objs.size:=λb o e=>#[yJ<|yw (yq e) F8,yJ<|Y2 (yw (yq e) F8) El];have un:Un X.fs [] H H2 s.heap (h'.push<|fnMade name qual params body scope cl doc ((X.mg "__name__").getD .none) c Ii):=by
   refine#[λb o e n _ _=>kp b o (λz=>by rw[z,hP] at n;cases n) e,λb o e n _ _=>#[o.slots,kp b o (λz=>by rw[z,hP] at n;cases n) e],λb o e n _=>?_,λb o e _=>?_,λb xs e=>off b _ (λz=>by rw[z,hP] at e;cases e) e,λb o u e=>off b _ (λz=>by rw[z,hP] at e;cases e) e,λb qs e=>?_]
   ·rw[e4 b (λz=>by rw[z,hP] at n;cases n) (low b o e).1 (low b o e).2];exact n
   ·by_cases z:b=P
    ·exact#[_,yg _<|z▸Ik]
    ·exact#[o,kp b o z e]
   ·by_cases z:b=P
    ·rw[z,hP] at e;cases e;exact#[(Ya [rawInt pos.line,rawInt pos.col,.ref c]),by rw[z,e3,IH]]
    ·exact#[(Ya []),by rw[off b _ z e];simp]
  have hok:Jh X.prog X.w H2 (h'.push<|fnMade name qual params body scope cl doc ((X.mg "__name__").getD .none) c Ii):=λb o e=>by
   by_cases z1:b=h'.objs.size
   ·subst z1;rw[e1] at e;cases e;exact cj (yB _ rfl)
   ·by_cases z2:b=c
    ·subst z2;rw[e2] at e;cases e;exact n4 (Ij.push _)
    ·by_cases z3:b=P
     ·subst z3;rw[e3] at e;cases e;exact (show _=_ from yg _ Ik)
     ·rw[e4 b z3 z2 z1] at e;refine (I.hok b o e).stay (λd u hd g=>kp d u (λz=>?_) g) (λd g=>off d _ (λz=>by rw[z,hP] at g;cases g) g) λd xs g=>off d _ (λz=>by rw[z,hP] at g;cases g) g;rcases hd with w1|w1
      ·exact z3 (w1▸z)
      ·rw[z,hP] at w1;cases w1
  have tl:(ps++(Ya [rawInt pos.line,rawInt pos.col,Value.ref c])).toList=ps.toList++[rawInt pos.line,rawInt pos.col,.ref c]:=by simp
  have J:=I.un (t':=tk) un hok;refine Zy J hN hi hx (v:=.ref h'.objs.size) rfl (λs2 I2=>#[_,H2,I2,q c _ H2 off #[HR,e3,?_,.inr #[c,?_,e2]] (λpos' q' ne tb=>?_) EV e1 e2]) hf
  ·rw[<-IH,tl];exact TriplesOk_snoc _ _ _ _ ht
  ·rw[<-IH,tl];exact codeAmong_snoc _ ht LF
  ·obtain⟨qs,eq,tr,kk⟩:=tb;rw[hP] at eq;cases eq;refine#[HR,e3,by rw[<-IH,tl];exact TriplesOk_snoc _ _ _ _ ht,?_];rw[<-IH,tl,kE ne _ ht];rcases kk with k|⟨c',k,Fo⟩
   ·exact .inl k
   ·exact .inr #[c',k,off _ _ (λz=>by rw[z,hP] at Fo;cases Fo) Fo]
 ·refine PySem.W.makeFunction_hit (mg:=X.mg) Fx I.ok.glob hg EZ CH Rq ht V₂ hb λIi doc h' tk hk hsz=>?_;have EV:H h'.objs.size=none:=I.hok.fresh hsz;have nf:∀{b:Addr} {u:HO},H b=some u->b≠h'.objs.size:=λe=>jh e EV;have J:=I.laid (a:=h'.objs.size) (o:=Vr h'.objs.size name qual params body scope cl c) (t':=tk) (h':=h'.push<|fnMade name qual params body scope cl doc ((X.mg "__name__").getD .none) c Ii)
   (λb u e=>yg _<|hk b u e) hsz (cj<|yB _ rfl)
  have sm:Same H (upd H h'.objs.size<|Vr h'.objs.size name qual params body scope cl c):=λb u e=>by rw[jj<|nf e];exact e
  refine Zy J hN hi hx (v:=.ref h'.objs.size) rfl (λs2 I2=>#[_,_,I2,q c _ _ (λb u _ e=>sm b u e) #[ps,sm _ _ hP,ht,.inr #[c,V₂,sm _ _ hc]] (λpos' q' _ tb=>tb.same sm) EV jd<|sm _ _ hc]) hf
end
def gM (H:Hp) (as:DZ):Hp:=λb=>if b∈as then none else H b
theorem vf {b:Addr} (n:b ∉ as):gM H as b=H b:=if_neg n
theorem db {b:Addr} (n:b∈as):gM H as b=none:=if_pos n
section
variable {X:Cx}{k:Nat}{f:Addr}{fd:FuncData}{ps:D8}{sp:Sp}{x:Str}{p pos:Pos}{e:Expr}{es:Ea}{t:TA}{cs:List (Nat×Str×Addr)}
structure zK (X:Cx) (cs:List (Nat×Str×Addr)):Prop where
 ok:∀y∈cs,X.N[y.1]?=some y.2.1/\X.env.scope.names.lookup y.2.1=some .cell/\X.env.cells.lookup y.2.1=some y.2.2/\X.fn y.2.1=true
theorem wx {pins:DW}{σ:St}{Q:VK}{us:DY}{vs Fh:List V} (F:Ui X.prog X.w X.K X.mg X.base (XC X.prog X.w) k f fd ps sp cm) (hr:Jf cm k X.A) (hb:JZ X.K fd ps [])
  (I:jo X pins σ H s) (r:jG vs us) (C:zK X cs) (hv:Paired (λ(y:Nat×Str×Addr) v=>σ[y.1]?=some (some v)) cs Fh)
  (h:(∀y∈cs,H y.2.2=none)->∀H1,(∀b,b ∉ cs.map (·.2.2)->H1 b=H b)->Paired (λ(y:Nat×Str×Addr) v=>VQ H1 y.2.2 v) cs Fh->sp vs H1 (λr H'=>Q r<|gM H'<|cs.map (·.2.2)) (λ_ _ _=>False)):wpAny (model X.prog X.w) X.A (call (.ref f) us) (EP X pins σ Q) X.xe s:=by
 obtain⟨mm,hn,hl⟩:=I.loc;have cell:∀(j:Nat) y v,cs[j]?=some y->Fh[j]?=some v->∃oc,s.heap.get? y.2.2=some oc/\M3 oc v:=λj y v e1 e2=>by
  obtain⟨hi,hy,hc,_⟩:=C.ok y<|yp e1;obtain⟨v',e3,HY⟩:=vd hv e1;rw[e2] at e3;cases e3;obtain⟨u,ru,l⟩:=hl _ _ v hi HY<|.inr<|.inl hy;rcases l with ⟨z,_⟩|⟨_,c',Fo,z⟩
  ·have z':X.env.scope.names.lookup y.2.1=some .local:=z;rw[hy] at z';cases z'
  ·rw[hc] at Fo;cases Fo;obtain⟨oc,h1,h2⟩:=z;exact#[oc,h1,u,ru,h2]
 have Oa:cs.length=Fh.length:=Paired.length hv;have Ob:∀b∈cs.map (·.2.2),H b=none/\(∃oc,s.heap.get? b=some oc)/\(∀d o,X.s₀.heap.get? d=some o->d≠b)/\∀d∈uo X.stack,d≠b:=λb hb=>by
  obtain⟨y,hy,rfl⟩:=yf.mp hb;obtain⟨j,hj,e⟩:=yO hy;obtain⟨hi,SX,hc,EV⟩:=C.ok y hy;obtain⟨oc,h1,_⟩:=cell j y _ (by rw[yc hj,e]) (yc (by lia));have Rt:∀d o,X.s₀.heap.get? d=some o->d≠y.2.2:=λd o e=>yJ<|yw (yq e)<|I.ok.cab y.2.1 y.2.2 EV hc;refine#[I.freeC _ _ hc,#[oc,h1],Rt,λd hd=>?_];rcases yz.mp (I.stkSub d hd) with z|z
  ·rw[z];exact yG (I.cne _ _ hc)
  ·obtain⟨_,o,ho,_⟩:=I.ok.funs.mem z;exact Rt d o ho
 have Ex:∀{b:Addr} {u:HO},H b=some u->b ∉ cs.map (·.2.2):=λe hb=>by rw[(Ob _ hb).1] at e;cases e
 generalize hA:cs.map (·.2.2)=as at Ob Ex h;generalize z₁:(λb=>if b∈as then (s.heap.get? b).map (Ut b) else H b:Hp)=H1;have e1:∀b,b ∉ as->H1 b=H b:=λb n=>by rw[<-z₁];exact if_neg n
 have e2:∀b∈as,∀o,s.heap.get? b=some o->H1 b=some (Ut b o):=λb n o e=>by rw[<-z₁];show (if b∈as then _ else _)=_;rw[if_pos n,e];rfl
 have q:=h (λy hy=>(Ob y.2.2<|hA▸yf.mpr #[y,hy,rfl]).1) H1 e1 (by
  refine Ku Oa λi h1 h2=>?_;obtain⟨oc,g1,g2⟩:=cell i _ _ (yc h1)<|yc h2;exact#[oc,e2 _ (hA▸yf.mpr #[_,yV h1,rfl]) _ g1,g2])
 have L9:Jh X.prog X.w H1 s.heap:=λb o e=>by
  by_cases hb:b∈as
  ·obtain⟨_,⟨oc,EO⟩,_⟩:=Ob b hb;rw[e2 b hb oc EO] at e;cases e;exact#[EO,EO,#[_,EO],λh1 h2 a k=>k _ a]
  ·rw[e1 b hb] at e;exact (I.hok b o e).stay (λ_ _ _ q=>q) (λd g=>by rw[e1 d<|Ex g];exact g) λd xs g=>by rw[e1 d<|Ex g];exact g
 have nb:∀b∈uo X.stack,b ∉ as:=λb hb z=>(Ob b z).2.2.2 b hb rfl;have e0:vD X.prog X.w X.K X.mg X.base X.A X.stack s H1 :=
  #[I.ok.frames,I.ok.mod,λb o e=>#[(I.bs b o e).1,by rw[e1 b λz=>(Ob b z).2.2.1 b o (I.ok.bs b o e).1 rfl];exact (I.bs b o e).2],ym I.ok.bsz I.sz,I.stack,λb hb=>by rw[e1 b<|nb b hb];exact I.stkFree b hb,L9,I.bare,
   I.hn.mono λb o u e=>by rw[e1 b<|Ex e];exact e]
 have IG:(us++[]).length=ps.length:=by rw[yK,<-r.length];exact F.len _ _ _ _ q
 have FX:=hb s us I.kIn IG;rw[yK] at FX;refine wpAny_call (codeAny_mono (F.run X.A X.stack s _ #[us,[]] us vs _ _ hr e0 FX r q) λr s' hq=>?_);cases r with
 | error e =>
  obtain⟨_,_,_,_,_,_,_,_,_,z⟩:=hq;exact z.elim
 | ok fl =>
  cases fl with
  | next=>exact Yf hq
  | brk=>exact Yf hq
  | cont=>exact Yf hq
  | ret u =>
   obtain⟨v',H',os,bare,un,FJ,rv,q'⟩:=hq;have zc:∀b∈as,∀o,s.heap.get? b=some o->H' b=some (Ut b o):=λb hb o e=>un.frzs b o _<|e2 b hb o e;have nf:∀{b:Addr} {w:HO},H' b=some w->(∀o u,w≠.frz o u)->b ∉ as:=λ{b w} e n z=>by
    obtain⟨_,⟨oc,EO⟩,_⟩:=Ob b z;rw[zc b z oc EO] at e;exact n _ _ (Yb e).symm
   have gK:Un (uo X.stack) [] H (gM H' as) s.heap s'.heap:=by
    refine#[λb o e n hb hx=>?_,λb o e n hb hx=>un.slot b o e (by rw[e1 b<|nb b hb];exact n) hb hx,λb o e n hx=>?_,λb o e hx=>un.there b o e hx,λb xs e=>?_,λb o w e=>?_,λb qs e=>?_]
    ·by_cases z:b∈as
     ·exact (FJ b _<|zc b z o e).1
     ·exact un.keep b o e (by rw[e1 b z];exact n) hb hx
    ·by_cases z:b∈as
     ·rw[db z]
     ·rw[vf z];exact un.free b o e (by rw[e1 b z];exact n) hx
    ·have z:=Ex e;rw[vf z];exact un.tups b xs (by rw[e1 b z];exact e)
    ·have z:=Ex e;rw[vf z];exact un.frzs b o w (by rw[e1 b z];exact e)
    ·have z:=Ex e;rw[vf z];exact un.tbls b qs (by rw[e1 b z];exact e)
   have Ic:Jh X.prog X.w (gM H' as) s'.heap:=λb o e=>by
    by_cases z:b∈as
    ·rw[db z] at e;cases e
    ·rw[vf z] at e;exact (FJ b o e).stay (λ_ _ _ g=>g) (λd g=>by rw[vf (nf g (by intro o u z;cases z))];exact g) λd xs g=>by rw[vf (nf g (by intro o u z;cases z))];exact g
   exact#[v',_,I.call' (ch:=[]) os gK Ic bare (λb z=>absurd z (by simp)),rv,q']
def AY (sp:Sp) (cs:List (Nat×Str×Addr)) (t:TA):TE:=λσ H Q=>t σ H λvs H2=>∃Fh,Paired (λ(y:Nat×Str×Addr) v=>σ[y.1]?=some (some v)) cs Fh /\
 ((∀y∈cs,H2 y.2.2=none)->∀H1,(∀b,b ∉ cs.map (·.2.2)->H1 b=H2 b)->Paired (λ(y:Nat×Str×Addr) v=>VQ H1 y.2.2 v) cs Fh->sp vs H1 (λr H'=>Q r<|gM H'<|cs.map (·.2.2)) (λ_ _ _=>False))
theorem qt (G:jS X.prog X.w X.K X.mg X.base k x ps sp cm) (hr:Jf cm k X.A) (hg:Gl X x) (C:zK X cs) (ha:PA X (e::es) t)
  (HB:autoParam ((x==("__debug__":Str))=false) gt) (he:autoParam (starEach (e::es) X.env=(false,eval e X.env)::starEach es X.env) ac) (EE:autoParam ((backTo pos<|starEach es X.env).any (·.1)=false) ac) :
  PE X (.Call (.Name x p) (e::es) [] pos) (AY sp cs t):=by
 obtain⟨f,fd,F,b,kp,Q9⟩:=G.ex;intro pins s σ H Q I h;refine wpAny_Call_Name_kw<|gY I hg Q9 ?_ HB;refine callWith_K (first:=[]) (h₀:=X.base) I.ok.mod.kin kp (jE (ha pos pins s σ H _ I h) λus s2 #[vs,H2,I2,r,Fh,hv,q2]=>#[I2.kIn,?_]) he EE;exact wx (us:=us) F hr b I2 r C hv q2
def FnU (H:Hp) (f:Addr):Prop:=∃name qual params body scope cl c,H f=some (Vr f name qual params body scope cl c)
theorem FnU.at {w:World} (x:FnU H f) (ok:Jh P w H h):FnAt f h:=by
 obtain⟨name,qual,params,body,scope,cl,c,e⟩:=x;obtain⟨⟨doc,pm,ct,z⟩,_⟩:=ok _ _ e;exact#[_,_,_,_,z]
def AZ (P:Ee) (w:World) (K:DS) (mg:DV) (base:Heap) (k:Nat) (ta:TE) (t:TA):TE:=λσ H Q=>ta σ H λx H1=>∃f,x=.ref f/\FnU H1 f/\t σ H1 λvs H2=>FnU H2 f /\
 ∃sp,Calls P w K mg base k f sp/\sp vs H2 Q (λ_ _ _=>False)
theorem G7 {w:World}{K:DS}{mg:DV}{base:Heap}{ta:TE} (e1:X.prog=P) (e2:X.w=w) (e3:X.K=K) (e4:X.mg=mg) (e5:X.base=base) (hf:PE X (.Name x p) ta) (hr:UM k X.A) (ha:PA X (e::es) t)
  (he:autoParam (starEach (e::es) X.env=(false,eval e X.env)::starEach es X.env) ac) (EE:autoParam ((backTo pos<|starEach es X.env).any (·.1)=false) ac) :
  PE X (.Call (.Name x p) (e::es) [] pos) (AZ P w K mg base k ta t):=by
 subst e1 e2 e3 e4 e5;intro pins s σ H Q I h;refine wpAny_Call_Name_kw (jE (hf pins s σ H _ I h) λu s1 hh=>?_);obtain⟨v,H1,I1,rv,f,ev,hF,q⟩:=hh;subst ev;obtain rfl:u=Value.ref f:=rv;refine callWith_F (first:=[]) (hF.at I1.hok) (jE (ha pos pins s1 σ H1 _ I1 q) λus s2 #[vs,H2,I2,r,Ws,sp,C,q2]=>#[Ws.at I2.hok,?_]) he EE;refine wpAny_call (codeAny_mono (C X.A X.stack s2 H2 us vs Q hr I2.env0 r q2) λr s' hq=>?_);cases r with
 | error e =>
  obtain⟨_,_,_,_,_,_,_,_,_,z⟩:=hq;exact z.elim
 | ok fl =>
  cases fl with
  | ret u=>exact I2.after hq
  | next=>exact Yf hq
  | brk=>exact Yf hq
  | cont=>exact Yf hq
end
section
variable {P:Ee}{w:World}{K:DS}{mg:DV}{base:Heap}{N ps:D8}{name qual:Str}{params:Arguments}{body:List Stmt}{scope:Scope}{cl:D0}{Fh:List V}{f c:Addr}{k:Nat}
 {A:Around} {outer:List Env} {s:Shared} {H:Hp} {us:DY} {vs:List V} {Q:VK} {E:XK}
theorem Nq (S:Ze N ps scope cl) (hb:∀(doc pm ct:Value) (us:DY),us.length=ps.length->bindArgs (fnX name qual params body scope cl .none .none doc pm none (.ref c) ct) ⟨us,[]⟩=pure (ps.zip us))
  (hr:UM (k+1) A) (e0:vD P w K mg base A outer s H) (r:jG vs us) (hl:vs.length=ps.length) (hf:H f=some (Vr f name qual params body scope cl c)) (hc:H c=some (Ur c qual))
  (HQ:Paired (λ(p:Str×Addr) v=>VQ H p.2 v) cl Fh)
  (EH:UM k (A.deeper<|envX qual scope s.heap.objs.size f (.ref c) cl)->∃ts,zO (bW P w K mg base N qual scope f c cl A outer s<|uu H cl) body ts /\
   ts { nx:=λ_ _=>False,rt:=λr H'=>(∀p∈cl,H' p.2=none)->Q r (Zw H H' cl) } (vs.map some++Fh.map some) (uu H cl)) :
  codeAny (model P w) A (.call (.ref f) ⟨us,[]⟩) (CR (XC P w) outer P w H s Q E) s:=by
 obtain⟨⟨doc,pm,ct,ho⟩,_⟩:=e0.hok f _ hf;have FE:s.heap.CodeRec (.ref c) qual:=(e0.hok c _ hc).1;have lim:s.heap.NoLimit:=e0.mod.nolimit.keeps λb o e=>(e0.bs b o e).1;have frz:∀b∈cl.map (·.2),∃ob u,H b=some (Ut b ob)/\s.heap.get? b=some ob/\ob.data=.cell (some u):=λb hb=>by
  obtain⟨p,hp,rfl⟩:=yf.mp hb;obtain⟨i,hi,e⟩:=yO hp;obtain⟨v,_,ob,e1,u,_,e2⟩:=vd (i:=i) (a:=p) HQ (by rw[yc hi,e]);exact⟨ob,u,e1,(e0.hok _ _ e1).1,e2⟩
 have FY:∀{b:Addr},H b=none->b ∉ cl.map (·.2):=λn hb=>by
  obtain⟨_,_,e,_⟩:=frz _ hb;rw[n] at e;cases e
 have Fs:∀{b:Addr} {u:HO},H b=some u->(∀o z,u≠.frz o z)->b ∉ cl.map (·.2):=λe n hb=>by
  obtain⟨_,_,e',_⟩:=frz _ hb;rw[e] at e';exact n _ _ (Yb e')
 have e1:vD P w K mg base A outer s (uu H cl):=by
  refine⟨e0.frames,e0.mod,λb o e=>⟨(e0.bs b o e).1,?_⟩,e0.bsz,e0.funs,λb hb=>?_,λb o e=>?_,e0.bare,.inl<|hr.hd rfl⟩
  ·have n:=(e0.bs b o e).2;rw[j8<|FY n];exact n
  ·have n:=e0.frf b hb;rw[j8<|FY n];exact n
  ·by_cases z:b∈cl.map (·.2)
   ·rw[VP z] at e;cases e
   ·rw[j8 z] at e;exact (e0.hok b o e).stay (λ_ _ _ q=>q) (λd g=>by rw[j8 (Fs g (by intro o u z;cases z))];exact g) λd xs g=>by rw[j8 (Fs g (by intro o u z;cases z))];exact g
 have Wt:us.length=ps.length:=by rw[<-r.length];exact hl
 refine codeAny_call_def (fd:=fnX name qual params body scope cl .none .none doc pm none (.ref c) ct) (body:=body) (binds:=ps.zip us) hr.depth ho rfl lim FE rfl (.of_eq<|hb doc pm ct us Wt) S.nocell (λy hy=>S.par _ (Q0 hy).1) (λh₁ FW I8=>?_) S.co S.gen S.kind;obtain⟨ts,ht,hq⟩:=EH<|hr.deeper _;have Fx:∀x d,cl.lookup x=some d->d∈cl.map (·.2):=λx d e=>yf.mpr ⟨_,uy e,rfl⟩;have Rb:∀x,(envX qual scope s.heap.objs.size f (.ref c) cl).kindOf x=scope.names.lookup x:=λ_=>rfl;have I:jo (bW P w K mg base N qual scope f c cl A outer s<|uu H cl) [] (vs.map some++Fh.map some) (uu H cl) { s with heap:=h₁,toks:=s.toks+(ps.zip us).length }:=by
  have Hq:∀b:Addr,b ∉ (bW P w K mg base N qual scope f c cl A outer s<|uu H cl).ex:=λb z=>absurd (show b∈([]:DZ) from z) (by simp)
  refine⟨⟨e1.mod,S.kind,rfl,rfl,yh _,S.inj,λx hx=>S.has x ?_,λx d z=>(by cases z),λ_=>hr.hd rfl,Around.frames_deeper e1.frames,.inr ⟨rfl,rfl⟩,λb z=>absurd z<|Hq b,e1.bs,e1.bsz,λb _ _=>Hq b,λb z=>absurd z<|Hq b,e1.funs,e1.frf⟩,
   rfl,e1.bare,Un.kept I8,⟨_,FW,λi x v h1 h2 h3=>?_⟩,λx d e=>?_,e1.hok.fresh<|yh _,λx d e=>VP<|Fx x d e,λp hp=>absurd (show p∈([]:DW) from hp) (by simp),e1.hok.kept I8,?_,e1.hn⟩
  ·rcases hx with z|z
   ·exact absurd rfl (S.nocell _ (uy (show scope.names.lookup x=some .cell from z)))
   ·exact z
  ·have Fy:(ps++cl.map (·.1))[i]?=some x:=by rw[<-S.N];exact h1
   by_cases hi:i<vs.length
   ·rw[yn (by rw[yb];exact hi),yo] at h2;cases ev:vs[i]? with
    | none=>rw[ev] at h2;cases h2
    | some v' =>
     rw[ev] at h2;cases h2;obtain⟨u,hu,rv⟩:=r.get ev;rw[yn (by lia)] at Fy;exact⟨u,rv,.inl ⟨S.par x<|yp Fy,Vd S.nd Fy hu⟩⟩
   ·rw[yl (by rw[yb];lia),yo,yb] at h2;rw[yl (by lia),yo,<-hl] at Fy;obtain⟨p,ep,rfl⟩:=yI.mp Fy;obtain⟨v',ev,ob,g1,u,g2,g3⟩:=vd HQ ep;rw[ev] at h2;cases h2;obtain⟨k1,k2⟩:=S.fre p<|yp ep;exact⟨u,g2,.inr ⟨.inr k1,p.2,k2,ob,I8 _ _ (e0.hok _ _ g1).1,g3⟩⟩
  ·obtain⟨ob,u,_,g,d2⟩:=frz d<|Fx x d e;exact⟨_,ob,I8 _ _ g,d2⟩
  ·show (vs.map some++Fh.map some).length=N.length;have lc:cl.length=Fh.length:=Paired.length HQ;rw[S.N,ye,ye,yb,yb,yb,hl,lc]
 refine wpAny_mono (ht [] _ _ _ _ I hq) (λfl s' hs=>?_) λ_ _ z=>z.elim;cases fl with
 | next=>obtain⟨_,_,_,z⟩:=hs;exact z.elim
 | brk=>obtain⟨_,_,_,z⟩:=hs;exact z.elim
 | cont=>obtain⟨_,_,_,z⟩:=hs;exact z.elim
 | ret u =>
  obtain⟨v,σ',H',J,rv,q⟩:=hs;have jc:∀b∈cl.map (·.2),H' b=none:=λb hb=>by
   obtain⟨p,hp,rfl⟩:=yf.mp hb;exact J.freeC p.1 p.2 (S.fre p hp).2
  have jb:Un (uo outer) [] (uu H cl) H' s.heap s'.heap:=J.base;have nj:∀{b:Addr} {u:HO},H' b=some u->b ∉ cl.map (·.2):=λe hb=>by rw[jc _ hb] at e;cases e
  refine⟨v,Zw H H' cl,J.os,J.bare,?_,λb o e=>?_,rv,q λp hp=>jc _<|Qr hp⟩
  ·refine⟨λb o e n hb hx=>jb.keep b o e (by rw[j8<|FY n];exact n) hb hx,λb o e n hb hx=>jb.slot b o e (by rw[j8<|FY n];exact n) hb hx,λb o e n hx=>?_,λb o e hx=>jb.there b o e hx,λb xs e=>?_,λb o z e=>?_,λb qs e=>?_⟩
   ·rw[JN<|FY n];exact jb.free b o e (by rw[j8<|FY n];exact n) hx
   ·have n:=Fs e (by intro o u z;cases z);rw[JN n];exact jb.tups b xs (by rw[j8 n];exact e)
   ·by_cases n:b∈cl.map (·.2)
    ·rw[VM n];exact e
    ·rw[JN n];exact jb.frzs b o z (by rw[j8 n];exact e)
   ·have n:=Fs e (by intro o u z;cases z);rw[JN n];exact jb.tbls b qs (by rw[j8 n];exact e)
  ·by_cases n:b∈cl.map (·.2)
   ·rw[VM n] at e;obtain⟨ob,u,g1,g2,g3⟩:=frz b n;rw[g1] at e;cases e;have g4:s'.heap.get? b=some ob:=jb.keep b ob g2 (VP n) (λz=>by rw[e0.frf b z] at g1;cases g1) (by simp);exact⟨g4,g4,⟨_,g4⟩,λh1 h2 a k=>k _ a⟩
   ·rw[JN n] at e;exact (J.hok b o e).stay (λ_ _ _ g=>g) (λd g=>by rw[JN<|nj g];exact g) λd xs g=>by rw[JN<|nj g];exact g
end
section
variable {prog:Ee}{w:World}{A:Around}{R:Result->Shared->Prop}{I S:Addr}{fp wr:DZ}{n:Nat}{Pr:Nat->Value->Prop}{St:Nat->Heap->Prop}{h0:Heap}{bt:Nat->Nat->Bool}
abbrev ZY (h0 h:Heap):Prop:=∀b o,h0.get? b=some o->h.get? b=some o
def pq (prog:Ee) (w:World) (A:Around) (h0:Heap) (Pr:Nat->Value->Prop) (bt:Nat->Nat->Bool):Prop :=
 ∀i j x y (s:Shared) (Q E:DO),ZY h0 s.heap->Pr i x->Pr j y->Q (.bool<|bt i j) s->wpAny (model prog w) A (richCompare .Lt x y) Q E s
theorem lA (W:Walks prog w A.in1 I fp wr n Pr St) (cm:pq prog w A.in1 h0 Pr bt) (nS:S ∉ fp) (oS:h0.get? S=none) (ow:∀b∈wr,h0.get? b=none) :
  ∀(k j:Nat) (s:Shared) (vb:Value) (c:Nat),n=k+(j+1)->St (j+1) s.heap->ZY h0 s.heap->Pr (argBest bt j) vb ->
  s.heap.get? S=some { cls:=.type "list",dict:=none,data:=.seq (Ya [vb,vb]) c,slots:=(Ya []) } ->
  (∀v h' tk,Pr (argBest bt<|n - 1) v->ZY h0 h'->R (.ok<|.ret v) { s with heap:=h',toks:=tk }) ->
  codeAny (model prog w) A (.builtin "min.loop" #[[.ref I,.none,.ref S],[]]) R s:=by
 have wS:S ∉ wr:=λz=>nS<|W.sub _ z;have nm:(toString "min"++toString ".loop":String)="min.loop":=by decide
 have Rw:∀{h h':Heap},ZY h0 h->(∀b o,b ∉ wr->h.get? b=some o->h'.get? b=some o)->ZY h0 h':=λg k b o e=>k b o (λz=>by rw[ow b z] at e;cases e)<|g b o e;have Rx:∀{h:Heap} (f:Obj->Obj),ZY h0 h->ZY h0 (h.update S f):=λf g b o e=>(yF _ _ (λz:S=b=>by rw[<-z,oS] at e;cases e)).trans<|g b o e;intro k
 induction k with
 | zero =>
  intro j s vb c hn st g pb eS kR;refine codeAny_builtin aan ?_;rw[Around.under_plainId Ym _];show wpAny _ A.in1 (seqItems? (.ref S)>>=_) _ _ s;refine Ef<|wpAny_seqItems eS rfl ?_;refine Ef (wpAny_tryCatch (W.done s _ _ ((show n=j+1 by lia)▸st) λh1 tk k1=>?_));show wpAny _ A.in1 (updateSeq S (λ_=>(Ya []))>>=_) _ _ _;refine Ef<|wpAny_updateSeq (k1 S _ wS eS) rfl<|Ef<|wpAny_letGo<|Eg ?_;exact kR vb _ tk ((show n - 1=j by lia)▸pb) (Rx _<|Rw g k1)
 | succ k ih =>
  intro j s vb c hn st g pb eS kR;refine codeAny_builtin aan ?_;rw[Around.under_plainId Ym _];show wpAny _ A.in1 (seqItems? (.ref S)>>=_) _ _ s;refine Ef<|wpAny_seqItems eS rfl ?_;refine Ef (wpAny_tryCatch (W.item (j+1) s _ _ (by lia) st λx h1 tk px S6 k1=>?_));have g1:=Rw g k1;have Pb:=k1 S _ wS eS;show wpAny _ A.in1 (tryCatch (holding [x,x]<|richCompare .Lt x vb>>=_) _>>=_) _ _ _;refine Ef<|wpAny_tryCatch<|wpAny_holding<|Ef<|cm (j+1) (argBest bt j) x vb _ _ _ g1 px pb ?_;refine Ef<|wpAny_holding<|wpAny_truthy_bool ?_;refine Ef<|wpAny_letGo<|Eg ?_;cases hb:bt (j+1) (argBest bt j) with
  | true =>
   simp only[if_true];refine Ef<|wpAny_updateSeq Pb rfl<|Ef<|wpAny_letGo ?_;rw[nm];refine Eg #[plainId_quiet Ym _,ih (j+1) _ x _ (by lia) (W.frame _ _ _ S6 λb hf o e=>?_) (Rx _ g1) (by simp only[argBest,hb,if_true];exact px) (QG _ Pb rfl) λv h2 Ry pv g2=>kR v h2 Ry pv g2];exact (yF _ _ (λz:S=b=>nS (by rw[z];exact hf))).trans e
  | false =>
   simp only[Yz,if_false];refine Ef<|wpAny_letGo ?_;rw[nm];exact Eg #[plainId_quiet Ym _,ih (j+1) _ vb c (by lia) S6 g1 (by simp only[argBest,hb,Yz,if_false];exact pb) Pb λv h2 Ry pv g2=>kR v h2 Ry pv g2]
theorem eA (W:Walks prog w A.in1 I fp wr n Pr St) (cm:pq prog w A.in1 h0 Pr bt) (nS:S ∉ fp) (oS:h0.get? S=none) (ow:∀b∈wr,h0.get? b=none) (hn:0<n) {c:Nat} (st:St 0 s.heap) (g:ZY h0 s.heap)
  (eS:s.heap.get? S=some { cls:=.type "list",dict:=none,data:=.seq (Ya []) c,slots:=(Ya []) })
  (kR:∀v h' tk,Pr (argBest bt<|n - 1) v->ZY h0 h'->R (.ok<|.ret v) { s with heap:=h',toks:=tk }) :
  codeAny (model prog w) A (.builtin "min.loop" #[[.ref I,.none,.ref S],[]]) R s:=by
 have wS:S ∉ wr:=λz=>nS<|W.sub _ z;have nm:(toString "min"++toString ".loop":String)="min.loop":=by decide
 refine codeAny_builtin aan ?_;rw[Around.under_plainId Ym _];show wpAny _ A.in1 (seqItems? (.ref S)>>=_) _ _ s;refine Ef<|wpAny_seqItems eS rfl ?_;refine Ef (wpAny_tryCatch (W.item 0 s _ _ hn st λx h1 tk px S6 k1=>?_));have Pb:=k1 S _ wS eS;have g1:ZY h0 h1:=λb o e=>k1 b o (λz=>by rw[ow b z] at e;cases e)<|g b o e;show wpAny _ A.in1 (updateSeq S (λ_=>(Ya [x,x]))>>=_) _ _ _;refine Ef<|wpAny_updateSeq Pb rfl ?_;rw[nm];refine Eg #[plainId_quiet Ym _,lA W cm nS oS ow (n - 1) 0 _ x _ (by lia) (W.frame _ _ _ S6 λb hf o e=>?_) (λb o e=>?_) px (QG _ Pb rfl) λv h2 Ry pv g2=>kR v h2 Ry pv g2]
 ·exact (yF _ _ (λz:S=b=>nS (by rw[z];exact hf))).trans e
 ·exact (yF _ _ (λz:S=b=>by rw[<-z,oS] at e;cases e)).trans (g1 b o e)
end
section
variable {prog:Ee}{w:World}{A:Around}{E:DO}{s:Shared}
theorem ly {l:Addr}{items:D9}{bt:Nat->Nat->Bool}{Q:DO} (hh:A.handled=none) (hl:s.heap.IsList l items) (hn:0<items.size) (cm:pq prog w A.in1 s.heap (λi v=>items[i]?=some v) bt)
  (h:∀v h' tk,items[argBest bt<|items.size - 1]?=some v->ZY s.heap h'->Q v { s with heap:=h',toks:=tk }):wpAny (model prog w) A (call (.builtin "min") [.ref l]) Q E s:=by
 have nm:(toString "min"++toString ".loop":String)="min.loop":=by decide
 have ll:l<s.heap.objs.size:=by obtain⟨_,e,_⟩:=hl;exact yq e
 refine call_function_tree PySem.F.kind_min PySem.F.plain_min PySem.F.entry_min (PySem.F.args_min1 _) ?_;show wpAny _ A.in1 (Builtin.Builtins.bindParams "min" ["key","default"] 0 #[[],[]]>>=_) _ _ s;refine Ef (wpAny_of_eq (show Builtin.Builtins.bindParams "min" ["key","default"] 0 #[[],[]]=pure [none,none] from rfl)<|Ef<|Eg<|Ef ?_);refine wpAny_pyIter_list hl ?_;refine Ef<|wpAny_newObj_type ?_;rw[nm];have W:=Walks.list (prog:=prog) (w:=w) (A:=A.in1) hh s.heap.objs.size l (yJ ll) items;have out:∀b,s.heap.objs.size<=b->s.heap.get? b=none:=λb z=>QK z;refine Eg #[plainId_quiet Ym _,eA W cm (λz=>?_) (out _ (by rw[QT];lia)) (λb z=>?_) hn (W.frame _ _ _ #[#[_,yB _ rfl,rfl,rfl],hl.push _] λb _ o e=>yg _ e) (λb o e=>yg _<|yg _ e) (yB _ rfl) λv h' tk pv g=>h v h' tk pv g]
 ·simp only[yz,Qq,or_false] at z;rcases z with z|z
  ·exact absurd z (QC<|abC (aas _) (QT ..).symm)
  ·exact absurd z (QC<|abC (aaP ll) (QT ..).symm)
 ·simp only[yz,Qq,or_false] at z;exact out b (aav z.symm)
end
theorem Gw {α:Type} (lt:α->α->Bool) (irr:∀a,lt a a=false) (tr:∀a b c,lt a b=true->lt b c=true->lt a c=true) (tot:∀a b,lt a b=false->lt b a=false->a=b) (f:Nat->α):∀n,argBest (λi j=>lt (f i)<|f j) n<=n/\∀j,j<=n->lt (f j) (f (argBest (λi j=>lt (f i)<|f j) n))=false
 | 0=>#[yh _,λj hj=>(show 0=j by omega)▸irr _]
 | n+1=>by
  obtain⟨h1,h2⟩:=Gw lt irr tr tot f n;by_cases hb:lt (f<|n+1) (f (argBest (λi j=>lt (f i)<|f j) n))=true
  ·have e:argBest (λi j=>lt (f i)<|f j) (n+1)=n+1:=by simp only[argBest,hb,if_true]
   rw[e];refine#[yh _,λj hj=>?_];by_cases z:j=n+1
   ·rw[z];exact irr _
   ·cases q:lt (f j) (f<|n+1) with
    | false=>rfl
    | true=>have:=tr _ _ _ q hb;rw[h2 j (by lia)] at this;cases this
  ·have e:argBest (λi j=>lt (f i)<|f j) (n+1)=argBest (λi j=>lt (f i)<|f j) n:=by simp only[argBest,hb,if_false,Yz]
   rw[e];refine#[by lia,λj hj=>?_];by_cases z:j=n+1
   ·rw[z];simpa using hb
   ·exact h2 j (by lia)
section
variable {X:Cx}{M:Od}
theorem fY (M:Od) (hc:X.calm=true) (hu:X.A.units+64<cLine) (S4:M.deep<=8):u4 X (.builtin "min") (λxs H Q=>∃(p:Addr) (bs:DZ) (ks:List M.α),xs=[.ref p]/\H p=some (.lst<|bs.map V.ref)/\jL M H bs ks/\bs≠[]/\(∀a∈ks,∀b∈ks,M.cmp a b) /\
  ∀(i:Nat) (b:Addr) (k:M.α),bs[i]?=some b->ks[i]?=some k->(∀a∈ks,M.lt a k=false)->Q (.ref b) H):=by
 intro pins s σ H xs us Q I r h;obtain⟨p,bs,ks,rfl,hp,T,Ey,Rf,q⟩:=h;obtain⟨u,rfl,ru⟩:=UV r;cases ru;obtain⟨_,Ek,n,rv,hg⟩:=I.hok p _ hp;obtain rfl:=VN rv;have hl:s.heap.IsList p (bs.map Value.ref).toArray:=#[_,hg,rfl,n,rfl];have lk:=ue T;obtain⟨k0,S5⟩:∃k0,k0∈ks:=by
  cases ks with
  | nil=>exact absurd (List.length_eq_zero_iff.mp lk) Ey
  | cons a _=>exact#[a,yE ..]
 have lp:0<bs.length:=List.length_pos_iff.mpr Ey;have Rz:∀(i:Nat) (b:Addr) (k:M.α),bs[i]?=some b->ks[i]?=some k->M.R s.heap (.ref b) k:=λi b k e1 e2=>by
  obtain⟨g1,e1⟩:=yd.mp e1;obtain⟨g2,e2⟩:=yd.mp e2;have:=u6 T g1 g2;rw[e1,e2] at this;exact M.raw I.hok this rfl
 have gd:∀i,i<ks.length->ks[i]?=some (ks.getD i k0):=λi hi=>by rw[y7,yc hi];rfl
 have at_:∀(i:Nat) (v:Value),(bs.map Value.ref).toArray[i]?=some v->∃b,bs[i]?=some b/\v=.ref b:=λi v e=>by
  rw[List.getElem?_toArray,yo] at e;obtain⟨b,e1,e2⟩:=yI.mp e;exact#[b,e1,e2.symm]
 obtain⟨b1,b2⟩:=Gw M.lt M.irr (λ_ _ _=>M.trans) (λ_ _=>M.tot) (λi=>ks.getD i k0)<|bs.length - 1;have sz:(bs.map Value.ref).toArray.size=bs.length:=by simp
 refine ly (bt:=λi j=>M.lt (ks.getD i k0)<|ks.getD j k0) (I.ok.hd hc) hl (by rw[sz];exact lp) (λi j x y s' Q' E' old px py q'=>?_) λv h' tk hv old=>?_
 ·obtain⟨b,e1,rfl⟩:=at_ i x px;obtain⟨b',e2,rfl⟩:=at_ j y py;have i1:i<ks.length:=by rw[<-lk];exact (yd.mp e1).1
  have i2:j<ks.length:=by rw[<-lk];exact (yd.mp e2).1
  refine M.less (A:=X.A.in1) (s:=s') (by have:X.A.in1.units=X.A.units+1:=rfl;lia) (Rf _ (yp<|gd i i1) _<|yp<|gd j i2) (M.keep (λb o e _=>old b o e)<|Rz i b _ e1<|gd i i1) (M.keep (λb o e _=>old b o e)<|Rz j b' _ e2<|gd j i2) _ _ _ _ q'
 ·rw[sz] at hv;obtain⟨b,e1,rfl⟩:=at_ _ v hv;refine#[.ref b,H,I.kept old,rfl,q _ b _ e1 (gd _ (by lia)) λa ha=>?_];obtain⟨j,hj,rfl⟩:=yO ha;have:=b2 j (by lia);have e3:=gd j hj;rw[yc hj] at e3;rw[Yb e3];exact this
end
end L2
namespace TS
open PySem PyProof.Rows L2
section
variable {prog:Ee}{w:World}{A:Around}{E:DO}{s:Shared}{K:Type} [DecidableEq K] {knd:HeapKind prog w K}
theorem qL {id:String}{a b:Addr}{xs ys:List (K×Addr×Value)}{Q:DQ} (hu:knd.room A) (ha:(a==sysModules)=false) (hb:(b==sysModules)=false) (h1:s.heap.DictOfH knd a xs) (h2:s.heap.DictOfH knd b ys) (hl:xs.length=ys.length)
  (tx:∀x∈xs,∃y∈ys,y.1=x.1) (ti:∀x∈xs,∀y∈ys,y.1=x.1->∃n t t',x.2.2=.int n t/\y.2.2=.int n t') (q:Q true s):wpAny (model prog w) A (Builtin.Dict.samePairs id a b) Q E s:=by
 obtain⟨oa,ea,epa,e1,_,d1,l1,i1,n1⟩:=h1;obtain⟨ob,eb,epb,e2,_,d2,l2,i2,n2⟩:=h2;have s1:ea.size=xs.length:=by have:=congrArg Yl l1;simpa using this
 have s2:eb.size=ys.length:=by have:=congrArg Yl l2;simpa using this
 unfold Builtin.Dict.samePairs Builtin.Dict.showsAll;rw[ha,hb];refine Ef<|Eg<|Ef<|Eg<|Ef<|wpAny_dictEntries e1 d1<|Ef<|wpAny_dictEntries e2 d2 ?_;rw[if_neg (by rw[s1,s2];simpa using hl)];refine Ef (wpAny_dictEpoch e1 d1 (Ef (Np (n:=ea.size) (I:=λi c=>c=(none,())) (λi c hi hc=>?_) (λc hc=>?_) rfl)))
 ·subst hc;have Uf:i<xs.length:=by lia
  have ee:ea[i]?=some (entryOfKey knd xs[i]):=by
   rw[<-Qc,l1,yo,yc Uf];rfl
  refine Ef<|wpAny_dictEntries e1 d1 ?_;rw[ee];have hx:xs[i]∈xs:=yV Uf;refine Ef (wpAny_holding (Ef (wpAny_dictFind_heap hu (i1 _ hx) e2 d2 l2 i2 n2 (λno=>?_) λj p hj=>?_)))
  ·obtain⟨y,hy,ey⟩:=tx _ hx;obtain⟨j,hj,e3⟩:=QS.mp hy;exact absurd (show ys[j]?=some (xs[i].1,y.2) by rw[yc hj,e3,<-ey]) (no j y.2)
  ·have IZ:eb[j]?=some (entryOfKey knd (xs[i].1,p)):=by
    rw[<-Qc,l2,yo,hj];rfl
   refine Ef<|wpAny_dictEntries e2 d2 ?_;rw[IZ];have hy:(xs[i].1,p)∈ys:=yp hj;show wpAny _ _ (holding [_]<|eqBool xs[i].2.2 p.2) _ _ _;obtain⟨n,t,t',ex,ey⟩:=ti _ hx _ hy rfl;rw[ex,show p.2=.int n t' from ey];refine wpAny_holding<|SeqAt.EqAt.int_int n t n t' prog w _ _ ?_;rw[show (n==n)=true from beq_self_eq_true n,if_neg (by decide)];refine Ef<|wpAny_dictEpoch e1 d1 ?_;rw[if_neg (by simp)];exact Eg #[rfl,rfl]
 ·subst hc;exact Eg q
end
end TS
namespace L2
open PySem PyProof.Rows TS
variable {Ei:List (List Key×V)}
theorem zJ {xs:List (List Key×Addr×Value)}{H:Hp} (r:KT H Ei xs) {x:List Key×Addr×Value} (hx:x∈xs):∃kv∈Ei,kv.1=x.1/\jI kv.2 x.2.2:=by
 obtain⟨kv,h1,h2,_,h3⟩:=Kw r hx;exact#[kv,h1,h2,h3]
theorem vj (nd:(Ei.map (·.1)).Nodup) {kv:List Key×V} (h:kv∈Ei):jD Ei kv.1=some kv.2:=by
 induction Ei with
 | nil=>cases h
 | cons p r ih =>
  rw[yR,Qo] at nd;rcases yz.mp h with rfl|h
  ·exact Ju rfl
  ·rw[Jg (λe=>nd.1<|e▸yf.mpr #[kv,h,rfl])];exact ih nd.2 h
theorem bq {k:List Key}{v:V} (h:jD Ei k=some v):(k,v)∈Ei:=by
 induction Ei with
 | nil=>cases h
 | cons p r ih =>
  by_cases e:p.1=k
  ·rw[Ju e] at h;cases h;subst e;exact yE ..
  ·rw[Jg e] at h;exact yH _ (ih h)
section
variable {X:Cx}
theorem wa (hu:X.A.units+64<cLine):uC X (compareOp .Eq) (λx y H Q=>E4 λ(a b:Addr) (Ei Pc:List (List Key×V))=>A7 (x=.ref a) (y=.ref b) (H a=some (.dT Ei)) (H b=some (.dT Pc)) (Ei.length=Pc.length) (∀k v,jD Ei k=some v->jD Pc k=some v/\∃n,v=.int n)<|Q (.bl true) H):=by
 intro pins s σ H x y v u Q I rx ry h;obtain⟨a,b,Ei,Pc,rfl,rfl,ha,hb,hl,hv,q⟩:=h;cases rx;cases ry;obtain⟨_,na,xs,k1,d1⟩:=gS I.hok ha;obtain⟨_,nb,ys,k2,d2⟩:=gS I.hok hb;have t1:s.TypeIs (.ref a) "dict":=by obtain⟨ob,es,ep,e,c,_⟩:=d1;exact#[ob,e,c.1]
 have t2:s.TypeIs (.ref b) "dict":=by obtain⟨ob,es,ep,e,c,_⟩:=d2;exact#[ob,e,c.1]
 have m1:Ei.map (·.1)=xs.map (·.1):=VD k1 λx y h=>h.1.symm;have m2:Pc.map (·.1)=ys.map (·.1):=VD k2 λx y h=>h.1.symm;have La:(Ei.map (·.1)).Nodup:=by rw[m1];obtain⟨_,_,_,_,_,_,_,_,n⟩:=d1;exact n
 have Wz:(Pc.map (·.1)).Nodup:=by rw[m2];obtain⟨_,_,_,_,_,_,_,_,n⟩:=d2;exact n
 refine wpAny_richCompare_same_room (op:=.Eq) t1 t2 abh (wpAny_call_entry abh t1 PySem.F.entry_dict_eq (Ef ?_)<|PySem.F.args_dict_eq_2 _ _) (by lia);refine Ef<|wpAny_notOrdered_dict t1 ?_;show wpAny _ _ (pure (Value.ref a,Value.ref b)) _ _ s;refine Eg<|Ef<|wpAny_isInstance (T:="dict") t2 PySem.F.sub_dict_dict ?_;rw[if_neg (by decide)];refine Ef (Eg (Ef (Eg (Ef (qL (tupleKind_room_in1 (by lia)) na nb d1 d2 ?_ (λx hx=>?_) (λx hx y hy e=>?_) ?_)))))
 ·rw[<-Paired.length k1,<-Paired.length k2];exact hl
 ·obtain⟨kv,h1,h2,_⟩:=zJ k1 hx;have h3:=bq (hv _ _<|vj La h1).1;have:kv.1∈ys.map (·.1):=by rw[<-m2];exact yf.mpr #[_,h3,rfl]
  obtain⟨y,hy,e⟩:=yf.mp this;exact#[y,hy,e.trans h2]
 ·obtain⟨kv,h1,h2,r1⟩:=zJ k1 hx;obtain⟨mv,g1,g2,r2⟩:=zJ k2 hy;obtain⟨h4,n,en⟩:=hv _ _<|vj La h1;have h5:=vj Wz g1;rw[g2,e,<-h2,h4] at h5;have h6:=Yb h5;rw[<-h6,en] at r2;rw[en] at r1;obtain⟨t,e1⟩:=r1;obtain⟨t',e2⟩:=r2;exact#[n,t,t',e1,e2]
 ·exact Eg #[_,rfl,λz=>(nomatch z),.bl _,H,I,rfl,q]
end
end L2
namespace L2
open PySem PySem.Spec PyProof.Rows
variable {X:Cx}
theorem hG:zK X []:=#[λy hy=>by cases hy]
theorem dC {cs:List (Nat×Str×Addr)}{i:Nat}{n:Str}{a:Addr} (h1:X.N[i]?=some n) (h2:X.env.scope.names.lookup n=some .cell) (h3:X.env.cells.lookup n=some a) (h4:X.fn n=true) (C:zK X cs):zK X ((i,n,a)::cs) :=
 #[λy hy=>by
  rcases yz.mp hy with rfl|hy
  ·exact#[h1,h2,h3,h4]
  ·exact C.ok y hy]
def M8 (X:Cx):List (Str×Addr)->Prop
 | []=>True
 | y::r=>(X.env.cells.lookup y.1=some y.2/\X.env.kindOf y.1=some .cell)/\M8 X r
theorem M8.of:∀{cl:D0},M8 X cl->∀{x:Str} {c:Addr},cl.lookup x=some c->X.env.cells.lookup x=some c/\X.env.kindOf x=some .cell
 | (n,a)::r,h,x,c,e=>by
  rw[Y4] at e
  split at e
  ·rename_i q;obtain rfl:x=n:=by simpa using q
   cases e;exact h.1
  ·exact M8.of h.2 e
theorem UT {N0:D8}{scope:Scope}{cl:D0} (hk:autoParam (scope.kind=.function) ac) (Fx:autoParam (closureFor scope X.env=pure cl) ac)
  (hs:M8 X cl:=by first|exact trivial|exact#[#[rfl,rfl],trivial]|exact#[#[rfl,rfl],#[rfl,rfl],trivial]|exact#[#[rfl,rfl],#[rfl,rfl],#[rfl,rfl],trivial]|exact#[#[rfl,rfl],#[rfl,rfl],#[rfl,rfl],#[rfl,rfl],trivial])
  (h1:(scope.names.all λy=>y.2 != .cell&&(y.2 != .free||(cl.lookup y.1).isSome)&&(y.2 != .local||scope.names.lookup y.1==some .local))=true:=by kernel_rfl)
  (hl:autoParam (N0.length=X.N.length) ac) (h3:((N0.zip X.N).all λy=>(y.1==y.2&&scope.names.lookup y.1 != some .local)||scope.names.lookup y.1==none)=true:=by kernel_rfl):Us X N0 scope cl:=by
 have H:∀y∈scope.names,(y.2≠.cell/\(y.2=.free->(cl.lookup y.1).isSome=true))/\(y.2=.local->scope.names.lookup y.1=some .local):=λy hy=>by
  have:=y6.mp h1 y hy;simp only[yU,aaY,bne_iff_ne,ne_eq,beq_iff_eq] at this;exact#[#[this.1.1,λe=>this.1.2.resolve_left λn=>n e],λe=>this.2.resolve_left λn=>n e]
 have F:∀x,scope.names.lookup x=some .free->∃c,cl.lookup x=some c:=λx e=>Qk.mp<|(H _<|uy e).1.2 rfl;refine#[Fx,hk,λy hy=>(H y hy).1.1,λy hy=>(H y hy).2,λx c e=>(hs.of e).1,F,λx e=>.inl (hs.of (F x e).choose_spec).2,hl,λi x e=>?_];have hi:i<X.N.length:=by rw[<-hl];exact (yd.mp e).1
 have:=y6.mp h3 (x,X.N[i])<|yp<|List.getElem?_zip_eq_some.mpr #[e,yc hi];simp only[aaY,yU,beq_iff_eq,bne_iff_ne] at this;rcases this with ⟨q1,q2⟩|q
 ·exact .inl #[by rw[yc hi,<-q1],q2]
 ·exact .inr q
section
variable {X:Cx}{scope:Scope}{cl:D0}{tg iter elt:Expr}{ifs:Ea}{own:D8}{wi:TI}{g:TG}{tc:TT}{te:TE}{pos:Pos}
theorem Jx (S:Us X X.N scope cl) (hi:PI X tg iter wi)
  (hg:∀C s H fp pins,PG (X.blk scope cl C own s H fp pins) tg g) (ht:∀C s H fp pins,PF (X.blk scope cl C own s H fp pins) ifs tc) (he:∀C s H fp pins,PE (X.blk scope cl C own s H fp pins) elt te)
  (hs:autoParam (∀x,foldedSetIterable iter X.env x=pure x) zzh):PE X (.ListComp elt [#[tg,iter,ifs,0]] scope pos) (KD wi own.length g tc te):=V9 S hi hg ht he hs
theorem me (i:Nat) {x:Str} {pos' Ih:Pos} (S:Us X X.N scope cl) (hi:PI X tg iter wi)
  (hg:∀C s H fp pins,PG (X.blk scope cl C own s H fp pins) tg g) (ht:∀C s H fp pins,PF (X.blk scope cl C own s H fp pins) ifs tc) (he:∀C s H fp pins,PE (X.blk scope cl C own s H fp pins) elt te)
  (hN:autoParam (X.N.Nodup) zzr) (Wa:autoParam (X.N[i]?=some x) ac) (hx:autoParam (nR X.env.scope x) zzt) (hs:autoParam (∀x,foldedSetIterable iter X.env x=pure x) zzh)
  (Wb:autoParam (swapsWith (.ListComp elt [#[tg,iter,ifs,0]] scope pos) (some<|.Name x pos') Ih.line X.env=pure true) ac) (hf:autoParam (X.fn x=true\/X.env.scope.names.lookup x=some .local) zzf) :
  PS X (.Assign [.Name x pos'] (.ListComp elt [#[tg,iter,ifs,0]] scope pos) Ih) (fg (KD wi own.length g tc te)<|vo i):=GM i S hi hg ht he hN Wa hx hs Wb hf
end
structure Df (K:DS) (x q:Str) (st:Stmt) (f:Addr) (ps:D8) (ds:DY):Prop where
 ex:∃fd,ZS K x q st f fd/\JZ K fd ps ds
structure TF (K:DS) (mg:DV) (x:Str) (st:Stmt) (f:Addr) (ps:D8):Prop where
 g:mg x=some (.ref f)
 d:Df K x x st f ps []
structure TM (K:DS) (C:Addr) (m q:Str) (st:Stmt) (f:Addr) (ps:D8) (ds:DY):Prop where
 at_:ZX K C m f
 d:Df K m q st f ps ds
structure TN (K:DS) (C:Addr) (q:Str) (st:Stmt) (f:Addr) (ps:D8):Prop where
 m:Mk K C f
 d:Df K "__init__" q st f ps []
section
variable {P:Ee}{w:World}{K:DS}{mg:DV}{base:Heap}{x m q:Str}{st:Stmt}{f C:Addr}{fd:FuncData}{N ps:D8}{ds:DY}{k:Nat}{sp:Sp}{c:Bool}
abbrev fC (P:Ee) (w:World) (K:DS) (mg:DV) (base:Heap) (N ps:D8) (q:Str) (st:Stmt) (f:Addr) (k:Nat) (sp:Sp) (c:Bool):Prop :=
 ∀(vs:List V) (H:Hp) (Q:VK) (E:XK),sp vs H Q E->vs.length=ps.length/\∀(Em:Value) (A:Around) (outer:List Env) (s:Shared),Jf c k (A.deeper<|envOfC q (jR st) s.heap.objs.size f Em) ->
  ∃t,zO (mG P w K mg base N q (jR st) f Em A outer s H E c) (Jo st) t/\t { nx:=λ_ H'=>Q .non H',rt:=Q } (start N vs) H
theorem ZS.okY (F:ZS K x q st f fd) (h:fC P w K mg base N ps q st f k sp c) (S:autoParam (uG N ps (jR st)) zzp):Ui P w K mg base (XC P w) (k+1) f fd ps sp c :=
 F.okX S (λvs H Q E y=>(h vs H Q E y).1) λEm A outer s H vs Q E hr y=>(h vs H Q E y).2 Em A outer s hr
theorem TF.ok (T:TF K mg x st f ps) (N:D8) (h:fC P w K mg base N ps x st f k sp c) (S:autoParam (uG N ps (jR st)) zzp):jS P w K mg base (k+1) x ps sp c :=
 let ⟨fd,F,b⟩:=T.d.ex;#[_,fd,F.okY h S,b,F.kp,T.g]
theorem TM.ok (T:TM K C m q st f ps []) (c:Vi K C) (N:D8) (h:fC P w K mg base N ps q st f k sp true) (S:autoParam (uG N ps (jR st)) zzp):uQ P w K mg base (k+1) C m ps sp :=
 let ⟨fd,F,b⟩:=T.d.ex;#[c,_,fd,T.at_,F.okY h S,b]
theorem TM.okN (T:TM K C m q st f ps [Value.none]) (c:Vi K C) (N:D8) (h:fC P w K mg base N ps q st f k sp true) (S:autoParam (uG N ps (jR st)) zzp):nL P w K mg base (k+1) C m ps sp :=
 let ⟨fd,F,b⟩:=T.d.ex;#[c,_,fd,T.at_,F.okY h S,b]
theorem TN.ok (T:TN K C q st f ps) (g:mg x=some (.ref C)) (N:D8) (h:fC P w K mg base N ps q st f k sp true) (S:autoParam (uG N ps (jR st)) zzp):kn P w K mg base (k+1) x C ps sp :=
 let ⟨fd,F,b⟩:=T.d.ex;#[_,fd,T.m,F.okY h S,b,g]
end
end L2
namespace PySem.SeqAt
open PySem PySem.Spec
open MeetsSeq MeetsSeq2 MeetsSeq3 SeqRoads2
theorem lj (l b:Addr) (items Eh:D9) (n n2:Nat) (dd FG:Ed) (sl FH:D7) (e:Nat->Bool) (r:Bool) (k:Nat) :
  ∀i:Nat,min items.size Eh.size - i=k->(∀j,j<i->e j=true)->Meets (Builtin.«list.__eq__.loop» #[[.ref l,.ref b,rawInt i,rawInt 0],[]])
   (λA R s=>s.heap.get? l=some { cls:=.type "list",dict:=dd,data:=.seq items n,slots:=sl }/\s.heap.get? b=some { cls:=.type "list",dict:=FG,data:=.seq Eh n2,slots:=FH } /\
    (∀j (h1:j<items.size) (h2:j<Eh.size),(∀i,i<j->e i=true)->EqAt A.in1 s items[j] Eh[j] (e j)) /\
    (∀j (h1:j<items.size) (h2:j<Eh.size),(∀i,i<j->e i=true)->e j=false->LtAt A.in1 s items[j] Eh[j] r) /\
    ((∀i,i<min items.size Eh.size->e i=true)->r=decide (items.size<Eh.size)) /\
    R (.ok<|.ret<|.bool r) s):=by
 induction k with
 | zero =>
  intro i hk pre prog w A R s h;obtain⟨hp,g,d,tk,os⟩:=s;obtain⟨hl,hb,he,El,hr,h⟩:=h;rw[hr λj hj=>pre j (by lia)] at h
  wp_walk using AutoSeq1.wpAny_loadPart' hl,AutoSeq1.wpAny_loadPart' hb
  rcases yx i items.size with h1|h1
  ·have GC:items[((i:Nat):Int).toNat]?=some items[i]:=by simp [h1]
   have Uf:Eh[((i:Nat):Int).toNat]?=none:=by simp;omega
   rw[GC,Uf]
   wp_walk using AutoSeq1.wpAny_loadPart' hl,AutoSeq1.wpAny_loadPart' hb
   exact h
  ·have GC:items[((i:Nat):Int).toNat]?=none:=by simp;omega
   rw[GC];cases Eh[((i:Nat):Int).toNat]?<;>(wp_walk using AutoSeq1.wpAny_loadPart' hl,AutoSeq1.wpAny_loadPart' hb;exact h)
 | succ k ih =>
  intro i hk pre prog w A R s h;obtain⟨hp,g,d,tk,os⟩:=s;obtain⟨hl,hb,he,El,hr,h⟩:=h
  wp_walk using AutoSeq1.wpAny_loadPart' hl,AutoSeq1.wpAny_loadPart' hb
  have h1:i<items.size:=by omega
  have h2:i<Eh.size:=by omega
  have GC:items[((i:Nat):Int).toNat]?=some items[i]:=by simp [h1]
  have Uf:Eh[((i:Nat):Int).toNat]?=some Eh[i]:=by simp [h2]
  have hc:((i:Int)+1)=((i+1:Nat):Int):=by push_cast;rfl
  rw[GC,Uf];refine Ef<|he i h1 h2 pre prog w _ _ ?_;cases FX:e i with
  | true =>
   wp_walk
   rw[hc];exact#[plainId_quiet plain_eq_loop _,codeAny_builtin entry_eq_loop (by
    rw[Around.under_plainId plain_eq_loop _]
    exact ih (i+1) (by omega) (λj hj=>by
     rcases aag (aaQ hj) with z|rfl
     ·exact pre j z
     ·exact FX) prog w A R _ #[hl,hb,he,El,hr,h])]
  | false =>
   wp_walk using AutoSeq1.wpAny_loadPart' hl,AutoSeq1.wpAny_loadPart' hb
   rw[GC,Uf];refine Ef (El i h1 h2 pre FX prog w _ _ ?_)
   wp_walk
   exact h
theorem list_ltAt (l b:Addr) (items Eh:D9) (n n2:Nat) (dd FG:Ed) (sl FH:D7) (e:Nat->Bool) (r:Bool) :
  Meets (Builtin.«list.__lt__» #[[.ref l,.ref b],[]])
   (λA R s=>s.heap.get? l=some { cls:=.type "list",dict:=dd,data:=.seq items n,slots:=sl }/\s.heap.get? b=some { cls:=.type "list",dict:=FG,data:=.seq Eh n2,slots:=FH } /\
    (∀j (h1:j<items.size) (h2:j<Eh.size),(∀i,i<j->e i=true)->EqAt A.in1 s items[j] Eh[j] (e j)) /\
    (∀j (h1:j<items.size) (h2:j<Eh.size),(∀i,i<j->e i=true)->e j=false->LtAt A.in1 s items[j] Eh[j] r) /\
    ((∀i,i<min items.size Eh.size->e i=true)->r=decide (items.size<Eh.size)) /\
    R (.ok<|.ret<|.bool r) s):=by
 intro prog w A R s h;obtain⟨hp,g,d,tk,os⟩:=s;obtain⟨hl,hb,he,El,hr,h⟩:=h;have f3:=AutoSeq1.sub_list_list
 wp_walk using AutoSeq1.wpAny_loadPart' hl,AutoSeq1.wpAny_loadPart' hb
 exact#[plainId_quiet plain_eq_loop _,codeAny_builtin entry_eq_loop (by
  rw[Around.under_plainId plain_eq_loop _];exact lj l b items Eh n n2 dd FG sl FH e r _ 0 rfl (λj hj=>absurd hj<|Qt _) prog w A R _ #[hl,hb,he,El,hr,h])]
end PySem.SeqAt
namespace L2
open PySem PySem.Spec PyProof.Rows TS
variable {d:List Bool}{H:Hp}{a:Addr}
theorem xA:∀{k j:List Key},sd k=sd j->uS Jq k j:=λ{k}=>by
 induction k with
 | nil=>intro _ _;unfold uS;trivial
 | cons a as ih =>
  intro j h;cases j with
  | nil=>cases h
  | cons b bs=>unfold uS;exact#[(aab h).1,λ_=>ih (aab h).2]
theorem xz:∀{ks js:List (List Key)},(∀k∈ks,sd k=d)->(∀k∈js,sd k=d)->uS (Jl Jq) ks js:=λ{ks}=>by
 induction ks with
 | nil=>intro _ _ _;unfold uS;trivial
 | cons a as ih =>
  intro js h1 h2;cases js with
  | nil=>unfold uS;trivial
  | cons b bs=>unfold uS;exact#[xA<|(h1 a<|.head _).trans (h2 b<|.head _).symm,λ_=>ih (λk hk=>h1 k<|.tail _ hk) λk hk=>h2 k<|.tail _ hk]
section
variable {prog:Ee}{w:World}{A:Around}{E:DO}{s:Shared}
theorem bp {l b:Addr}{items Eh:D9}{e:Nat->Bool}{r:Bool}{Q:DQ} (hl:s.heap.IsList l items) (hb:s.heap.IsList b Eh) (hu:A.units<cLine)
  (he:∀j (h1:j<items.size) (h2:j<Eh.size),(∀i,i<j->e i=true)->SeqAt.EqAt A.in1 s items[j] Eh[j] (e j))
  (El:∀j (h1:j<items.size) (h2:j<Eh.size),(∀i,i<j->e i=true)->e j=false->SeqAt.LtAt A.in1 s items[j] Eh[j] r)
  (hr:(∀i,i<min items.size Eh.size->e i=true)->r=decide (items.size<Eh.size)) (h:Q r s):wpAny (model prog w) A (keyLt' oneType' (.ref l)<|.ref b) Q E s:=by
 obtain⟨⟨cls,dd,data,sl⟩,ho,hc,n,hd⟩:=id hl;obtain⟨⟨LY,FG,data2,FH⟩,EI,FV,n2,hd2⟩:=id hb;simp only at hc hd FV hd2;subst hc hd FV hd2;rw[keyLt'_oneType,oneLt'_eq];simp only[if_true];refine Ef<|wpAny_cRoomFor hu ?_;refine Ef<|wpAny_callSpecialIfBound?_slot #[_,ho,rfl] F.slot_list_lt<|call_meets F.slot_list_lt #[_,ho,rfl] F.entry_list_lt (F.args_list_lt_2 _ _) (SeqAt.list_ltAt l b items Eh n n2 dd FG sl FH e r) #[ho,EI,he,El,hr,?_];exact wpAny_truthy_bool h
def LR (h:Heap) (v:Value) (ks:List (List Key)):Prop:=∃a vs,v=.ref a/\h.IsList a vs.toArray/\Paired ((Jl Jq).R h) vs ks
theorem LR.keep {h h':Heap}{v:Value}{ks:List (List Key)} (x:LR h v ks) (k:∀b o,h.get? b=some o->h'.get? b=some o):LR h' v ks:=by
 obtain⟨a,vs,rfl,⟨o,ho,r⟩,p⟩:=x;exact#[a,vs,rfl,#[o,k _ _ ho,r],VC (λ_ _ r=>(Jl Jq).keep (λb o e _=>k b o e) r) p]
theorem oj {vs:DY}{kc:Value->List (List Key)} (hu:A.units+4<cLine) (at_:∀v∈vs,LR s.heap v<|kc v) (hd:∀v∈vs,∀k∈kc v,sd k=d):xl prog w A s vs oneType' (M4 (Jl<|Jl Jq) kc []):=by
 refine#[λh2 E R r=>PySem.W.kas_kind (T:=.type "list") h2 (λv hv=>?_) (by decide) (by decide) r,λE p q Q hp hq h=>?_]
 ·obtain⟨a,vs,rfl,⟨o,ho,hc,_⟩,_⟩:=at_ v hv;rw[<-hc];exact (Looks.ld ho).andThen .now
 ·have m1:=(vw hp).2;have m2:=(vw hq).2;obtain⟨a,us,e1,L1,P1⟩:=at_ _ m1;obtain⟨b,ws,e2,L2,P2⟩:=at_ _ m2;obtain⟨f1,f2,f3⟩:=G5 (O:=Jl Jq) (A:=A) (by show A.units+1+(0+1)<cLine;omega) (xz (hd _ m1)<|hd _ m2) P1 P2;rw[e1,e2];exact bp L1 L2 (by omega) f1 f2 f3 h
end
def Cq (H:Hp):V->List Key
 | .ref b=>vh H (.ref b)
 | _=>[]
def NC (H:Hp):Value->List (List Key)
 | .ref a=>match H a with|some (.lst ys)=>ys.map (Cq H)|_=>[]
 | _=>[]
def ux (H:Hp) (as:DZ) (Fu:List (List<|List Key)):Prop:=as.length=Fu.length/\∀(i:Nat) (a:Addr) (ks:List (List Key)),as[i]?=some a->Fu[i]?=some ks->∃bs:List Addr,H a=some (.lst<|bs.map V.ref)/\jP H bs ks
abbrev qf:List (List Key)->List (List Key)->Bool:=JD (Jl Jq)
theorem jP.map {bs:DZ}{ks:List (List Key)} (x:jP H bs ks):bs.map (λb=>vh H<|.ref b)=ks:=by
 refine QF (by rw[yb,x.1]) λi h1 h2=>?_;rw[yb] at h1;rw[Qh];exact vc (x.2 i _ _ (yc h1)<|yc h2)
theorem iT {bs:DZ}{ks:List (List Key)} (e:H a=some (.lst<|bs.map V.ref)) (x:jP H bs ks):NC H (.ref a)=ks:=by
 show (match H a with|some (.lst ys)=>ys.map (Cq H)|_=>[])=ks;rw[e];show Yv _ (bs.map V.ref)=ks;rw[yS];exact x.map
theorem lS (h:Heap) {k:List Key} {us:DY} (r:jG (k.map kV) us):Paired (Jq.R h) us k:=by
 induction k generalizing us with
 | nil=>cases r;exact .nil
 | cons a as ih=>cases r with|cons r t=>exact .cons (V3.mp r) (ih t)
section
variable {X:Cx}{pins:DW}{σ:St}{H:Hp}{s:Shared}
theorem BB (I:jo X pins σ H s) {bs:DZ} {ks:List (List Key)} (e:H a=some (.lst<|bs.map V.ref)) (x:jP H bs ks):LR s.heap (.ref a) ks:=by
 obtain⟨Ek,rv,pl,z⟩:=I.list<|jt.of e;obtain rfl:=VN rv;refine#[a,_,rfl,pl.isList,?_];rw[<-x.map];clear e rv pl z;have g:∀b∈bs,∃k:List Key,H b=some (.tup<|k.map kV):=λb hb=>by
  obtain⟨i,hi,rfl⟩:=yO hb;exact#[ks[i]'(by rw[<-x.1];exact hi),x.2 i _ _ (yc _)<|yc _]
 clear x
 induction bs with
 | nil=>exact .nil
 | cons b bs ih =>
  refine .cons ?_ (ih λb hb=>g b<|.tail _ hb);obtain⟨k,hk⟩:=g b<|.head _;show (Jl Jq).R s.heap _ (vh H<|.ref b);rw[vc hk];obtain⟨Ek,rv,it,_⟩:=I.tuple<|jx.of hk;exact#[b,Ek,rfl,it,lS _ rv]
theorem Mx (hu:X.A.units+64<cLine):u4 X (.builtin "sorted") (λxs H Q=>∃(p:Addr) (as:DZ) (Fu:List (List<|List Key)),A5 (xs=[.ref p]) (H p=some (.lst<|as.map V.ref)) (ux H as Fu) (∀ks∈Fu,ks≠[]/\∀k∈ks,TS.sd k=[true,true,true]) (∀(r:Addr) (RA:DZ) (Lb:List (List<|List Key)),H r=none->ux H RA Lb->Lb.Perm Fu->(Lb.Pairwise λa b=>qf b a=false)->Q (.ref r) (upd H r<|.lst<|RA.map V.ref))):=by
 intro pins s σ H xs us Q I r h;obtain⟨p,as,Fu,rfl,e,ka,hf,q⟩:=h;obtain⟨u,rfl,ru⟩:=UV r;cases ru;obtain⟨Ek,rv,pl,hz⟩:=I.list<|jt.of e;obtain rfl:=VN rv;have hlen:(as.map Value.ref).length<=sizeLine:=by
  have:=hz;simpa using this
 have hb:∀v∈as.map Value.ref,∃a bs,v=.ref a/\NC H v∈Fu/\H a=some (.lst<|bs.map V.ref)/\jP H bs (NC H v):=λv hv=>by
  obtain⟨a,ha,rfl⟩:=yf.mp hv;obtain⟨i,hi,rfl⟩:=yO ha;have Uf:i<Fu.length:=by rw[<-ka.1];exact hi
  obtain⟨bs,h1,h2⟩:=ka.2 i _ _ (yc hi)<|yc Uf;have e:=iT h1 h2;exact#[_,bs,rfl,by rw[e];exact yV _,h1,by rw[e];exact h2]
 have hk:(as.map Value.ref).map (NC H)=Fu:=by
  refine QF (by rw[yb,yb,ka.1]) λi h1 h2=>?_;rw[yb,yb] at h1;rw[Qh,Qh];obtain⟨bs,h1,h2⟩:=ka.2 i _ _ (yc h1)<|yc h2;exact iT h1 h2
 refine Zx (f:=oneType') (o:=M4 (Jl<|Jl Jq) (NC H) []) (λR hR=>collect_list (A:=X.A.in1) pl.isList (hR _ s.toks (λb o e=>?_) ?_) hlen) (λh' tk B hB kp=>oj (by omega) (λv hv=>?_) λv hv k hk=>(hf _ (hb v hv).choose_spec.choose_spec.2.1).2 k hk) hlen λh' tk c p' out kp hp e' pm up=>?_
 ·exact (yF _ _<|QC<|yq e).trans (yg _ e)
 ·show s.heap.objs.size<((s.heap.push _).update _ _).objs.size;simp [Heap.update,Heap.push]
 ·obtain⟨a,bs,rfl,_,h1,h2⟩:=hb v hv;exact (BB I h1 h2).keep kp
 ·have ho:∀v∈out,∃a,v=.ref a/\∃bs:List Addr,H a=some (.lst<|bs.map V.ref)/\jP H bs (NC H v):=λv h=>by
   obtain⟨a,bs,rfl,_,h1,h2⟩:=hb v<|pm.mem_iff.mp h;exact#[a,rfl,bs,h1,h2]
  have Wy:jG ((out.map VR).map V.ref) out:=by
   clear pm up e'
   induction out with
   | nil=>exact .nil
   | cons v r ih =>
    obtain⟨b,rfl,_⟩:=ho v<|yE ..;exact .cons rfl (ih λu hu=>ho u<|yH _ hu)
  have I9:ux H (out.map VR) (out.map<|NC H):=by
   refine#[by rw[yb,yb],λi a ks h1 h2=>?_];rw[yo] at h1 h2;cases EG:out[i]? with
   | none=>rw[EG] at h1;cases h1
   | some v =>
    rw[EG] at h1 h2;cases h1;cases h2;obtain⟨a,rfl,bs,h1,h2⟩:=ho v<|yp EG;exact#[bs,h1,h2]
  refine#[.ref p',_,I.laid (t':=tk) (o:=.lst<|(out.map VR).map V.ref) kp hp #[?_,out,c,Wy,e'],rfl,q p' _ _ (I.hok.fresh hp) I9 (hk▸pm.map _)<|yT.mpr up];rw[yb,yb,pm.length_eq];exact hlen
end
end L2
namespace L2
open PySem PySem.Spec PyProof.Rows
variable {xs:List V}
set_option genSizeOf false
set_option genInjectivity false
structure Dr (a0 a1 a2 a3 a4 a5 a6 a7 a8 a9 LW P4 Tr:Prop):Prop where
 mk ::
 h0:a0
 h1:a1
 h2:a2
 h3:a3
 h4:a4
 h5:a5
 h6:a6
 h7:a7
 h8:a8
 h9:a9
 h10:LW
 h11:P4
 h12:Tr
inductive Ca {α0 α1 α2 α3 α4 α5 α6 α7 α8 α9 α10 α11 α12 α13:Type} (p:α0->α1->α2->α3->α4->α5->α6->α7->α8->α9->α10->α11->α12->α13->Prop):Prop
 | mk (x0:α0) (x1:α1) (x2:α2) (x3:α3) (x4:α4) (x5:α5) (x6:α6) (x7:α7) (x8:α8) (x9:α9) (IV:α10) (LU:α11) (P0:α12) (Tq:α13) (h:p x0 x1 x2 x3 x4 x5 x6 x7 x8 x9 IV LU P0 Tq):Ca p
def GO (H:Hp):Nat->V->V->Prop
 | 0,x,y=>∃k:Key,x=kV k/\y=kV k
 | n+1,x,y=>(∃k:Key,x=kV k/\y=kV k)\/E4 λ(a b:Addr) (xs ys:List V)=>A4 (x=.ref a) (y=.ref b) ((H a=some (.tup xs)/\H b=some (.tup ys))\/(H a=some (.lst xs)/\H b=some (.lst ys))) (Paired (GO H n) xs ys)
section
variable {X:Cx}{pins:DW}{σ:St}{H:Hp}{s:Shared}
theorem kA (n:Nat):(Yk n).all (λ_=>true)=true:=by simp
theorem kJ {A:Around}{f:V->V->Prop} (hf:∀{x y:V} {u v:Value},f x y->jI x u->jI y v->SeqAt.EqAt A s u v true) {ys:List V} (p:Paired f xs ys) ⦃Ek Er:List Value⦄ (r1:jG xs Ek) (r2:jG ys Er) (j:Nat) (h1:j<Ek.toArray.size) (h2:j<Er.toArray.size):SeqAt.EqAt A s Ek.toArray[j] Er.toArray[j] true:=by
 have l1:=r1.length;have l2:=r2.length;rw[yt] at h1 h2;obtain⟨u,eu,ru⟩:=r1.get (i:=j) (x:=xs[j]'(by lia))<|yc _;obtain⟨v,ev,rv⟩:=r2.get (i:=j) (x:=ys[j]'(by lia))<|yc _;rw[yc h1] at eu;rw[yc h2] at ev;rw[Qv,Qv,Yb eu,Yb ev];exact hf (u6 p (by lia) (by lia)) ru rv
theorem pK (I:jo X pins σ H s):∀{n:Nat} {A:Around} {x y:V} {u v:Value},A.units+n<cLine->GO H n x y->jI x u->jI y v->SeqAt.EqAt A s u v true:=λ{n}=>by
 induction n with
 | zero =>
  rintro A x y u v _ ⟨k,rfl,rfl⟩ r1 r2;exact Z7 rfl (GW r1 r2)
 | succ n ih =>
  rintro A x y u v hu (⟨k,rfl,rfl⟩|⟨a,b,xs,ys,rfl,rfl,h,p⟩) r1 r2
  ·exact Z7 rfl (GW r1 r2)
  cases r1;cases r2;by_cases O9:a=b
  ·subst O9;exact SeqAt.EqAt.same _
  have lp:=ue p;have key:=kJ (A:=A.in1) (s:=s) (ih (A:=A.in1) (by show A.units+1+n<cLine;lia)) p;rcases h with ⟨ha,hb⟩|⟨ha,hb⟩
  ·obtain⟨Ek,r1,p1,_⟩:=I.tuple<|jx.of ha;obtain⟨Er,r2,p2,_⟩:=I.tuple<|jx.of hb;have l1:=r1.length;have l2:=r2.length;have:=SeqAt.EqAt.of_refs O9 (SeqAt.RcAt.tuples (e:=λ_=>true) p1 p2 (by lia)<|key r1 r2);rwa [kA,show (Ek.toArray.size==Er.toArray.size)=true by rw[yt,yt,beq_iff_eq];lia] at this
  ·obtain⟨Ek,r1,p1,_⟩:=I.list<|jt.of ha;obtain⟨Er,r2,p2,_⟩:=I.list<|jt.of hb;have l1:=r1.length;have l2:=r2.length;have:=SeqAt.EqAt.of_refs O9 (SeqAt.RcAt.lists (e:=λ_=>true) p1.isList p2.isList (by rw[yt,yt];lia) (by lia)<|key r1 r2);rwa [kA] at this
def de (H:Hp) (n:Nat) (x y:V):Prop:=E4 λ(a b:Addr) (xs ys:List V)=>A4 (x=.ref a) (y=.ref b) ((H a=some (.tup xs)/\H b=some (.tup ys))\/(H a=some (.lst xs)/\H b=some (.lst ys))) (Paired (GO H n) xs ys)
theorem lO (hu:X.A.units+64<cLine):uC X (compareOp .NotEq) (λx y H Q=>∃n,A3 (n<=60) (de H n x y)<|Q (.bl false) H):=by
 intro pins s σ H x y v u Q I rx ry h;obtain⟨n,hn,⟨a,b,xs,ys,rfl,rfl,h,p⟩,q⟩:=h;cases rx;cases ry;have lp:=ue p;have key:=kJ (A:=X.A.in1) (s:=s) (pK I (A:=X.A.in1) (by show X.A.units+1+n<cLine;lia)) p;rcases h with ⟨ha,hb⟩|⟨ha,hb⟩
 ·obtain⟨Ek,r1,p1,_⟩:=I.tuple<|jx.of ha;obtain⟨Er,r2,p2,_⟩:=I.tuple<|jx.of hb;have l1:=r1.length;have l2:=r2.length;refine EqBoolInt.of_rcne (SeqAt.RcNeAt.tuples (e:=λ_=>true) p1 p2 (by lia)<|key r1 r2) #[.bl _,H,I,rfl,?_];rwa [kA,show (Ek.toArray.size==Er.toArray.size)=true by rw[yt,yt,beq_iff_eq];lia]
 ·obtain⟨Ek,r1,p1,_⟩:=I.list<|jt.of ha;obtain⟨Er,r2,p2,_⟩:=I.list<|jt.of hb;have l1:=r1.length;have l2:=r2.length;refine EqBoolInt.of_rcne (SeqAt.RcNeAt.lists (e:=λ_=>true) p1.isList p2.isList (by rw[yt,yt];lia) (by lia)<|key r1 r2) #[.bl _,H,I,rfl,?_];rwa [kA]
end
theorem ib {K:DS}{a:Addr}{g:TG}{tc:TT}{te:TE}{k:Nat}{σ:St}{H:Hp}{Q:VK} (Pv:Addr->Nat->List V->Hp->Prop) (hz:xs.length<=sizeLine)
  (h0:∀D,H D=none->Pv D 0 [] (upd H D<|.lst [])) (hD:∀D i ys H',Pv D i ys H'->H' D=some (.lst ys)/\ys.length<=i/\jx K H' a xs)
  (step:∀D i x ys H' (Qy:VK) (Qn:Hp->Prop),xs[i]?=some x->Pv D i ys H'->(∀y H4,H4 D=some (.lst ys)->Pv D (i+1) (ys++[y]) (upd H4 D<|.lst<|ys++[y])->Qy y H4)->(∀H4,Pv D (i+1) ys H4->Qn H4) ->
   g x (σ++Yd k none) H' λσ2 H2=>(∃zs,σ2=σ++zs/\zs.length=k)/\tc σ2 H2 λb H3=>if b=true then te σ2 H3 Qy else Qn H3)
  (q:∀D ys H',H D=none->Pv D xs.length ys H'->Q (.ref D) H'):vm k g tc te σ Q (nQ K a) H:=by
 intro D Hu;refine#[λi m ys H'=>m=xs.length - i/\i<=xs.length/\Pv D i ys H',#[xs.length,by simp,yL _,h0 D Hu],?_];rintro i m ys H' ⟨rfl,hi,p⟩;obtain⟨e,hl,q1⟩:=hD D i ys H' p;refine#[e,?_];by_cases El:i<xs.length
 ·refine .inr #[#[xs,xs[i],q1,by simp [El]],by lia,λx H2 y=>?_];obtain⟨rfl,y⟩:=y;exact step D i x ys H2 _ _ (y xs q1) p (λy H4 e4 p4=>#[e4,xs.length - (i+1),by lia,rfl,El,p4]) λH4 p4=>#[xs.length - (i+1),by lia,rfl,El,p4]
 ·obtain rfl:i=xs.length:=by lia
  exact .inl #[#[xs,q1,yh _],q D ys H' Hu p]
end L2
set_option genInjectivity false
namespace K91
open PySem L2

abbrev EQ:Str:="self"
abbrev E0:Str:="cell"
abbrev FB:Str:="_law_board_here"
abbrev FM:Str:="board"
abbrev FS:Str:="x"
abbrev IN:Str:="y"
abbrev IO:Str:="_law_script"
abbrev IR:Str:="_law_form"
abbrev LE:Str:="gap"
abbrev LT:Str:="wide"
abbrev PK:Str:="high"
abbrev PP:Str:="_law_cell_here"
abbrev P3:Str:="width"
abbrev SB:Str:="rim"
abbrev SC:Str:="keeps"
abbrev SL:Str:="cells"
abbrev ST:Str:="keep"
abbrev SZ:Str:="size"
abbrev TD:Str:="price"
abbrev T0:Str:="_law_k"
abbrev WF:Str:="_law_one"
abbrev WP:Str:="_law_other"
abbrev W1:Str:="_law_x"
abbrev XL:Str:="_law_y"
abbrev XV:Str:="layers"
abbrev YA:Str:="number"
abbrev YB:Str:="through"
abbrev YC:Str:="_law_prices_here"
abbrev YD:Str:="numbers"
abbrev YE:Str:="_law_last"
abbrev YF:Str:="other"
abbrev YG:Str:="corner"
abbrev YH:Str:="starts"
abbrev YI:Str:="_law_mixed_here"
abbrev YJ:Str:="_law_waved"
abbrev YK:Str:="reached"
abbrev YL:Str:="_law_wide"
abbrev YM:Str:="_law_row"
abbrev YN:Str:="_law_price"
abbrev YO:Str:="_law_through"
abbrev YQ:Str:="_law_keep_here"
abbrev YR:Str:="_law_told"
abbrev YS:Str:=".<locals>."
abbrev YT:Str:="_law_found"
abbrev YU:Str:="_law_size"
variable {b:Bool}{A B:Prop}{i:Nat}{H H':Hp}
variable {P:Ee}{w:World}{K:DS}{mg:DV}{base:Heap}{t:Adr}
def j4 (i:Nat):Stmt:=PySem.Challenge.pw_copperbook_k91_whole_turned_and_mirrored.main.body.getD i (.Pass #[0,0,0,0])
abbrev ve:Stmt:=JB (j4 43) 13
theorem KA:uG [EQ] [EQ] (jR ve):=pV
abbrev UB:Stmt:=JB (j4 43) 14
theorem Go:uG [EQ] [EQ] (jR UB):=pV
abbrev jY:Stmt:=j4 75
theorem zh:uG [FB,YC,WF,YE,YN,YO] [FB,YC,WF,YE] (jR jY):=pV
structure Adr where
 (jq uU uV iA tL xK pR Nj pN GZ MG dJ dI Ni kU Nc n8 MA pO Nd ME Nl KU pM MJ iz ix n9 MB MD zR zo Jd VY Vt j0 aU MC kS Gj GY Gi Z8 GX ZN Z9 KS Na KR Nh be xL MI tM pP iy pQ pS MF aY dN aV aX dO dL dM aW Nf aZ Ng GB vH jK bc kT:Addr)
 (aC aA mw bH M0 bI MZ:Tok)
structure Txt (K:DS) (mg:DV) (t:Adr):Prop where
 tR:mg "Board"=some (.ref t.jq)
 tQ:mg "Block"=some (.ref t.uU)
 tS:mg "Rules"=some (.ref t.uV)
 jz:Vi K t.jq
 Jj:JC K t.jq LT
 Ji:JC K t.jq PK
 JA:JC K t.jq XV
 JK:JC K t.jq "copper"
 Uy:JC K t.jq "drilled"
 Uv:Vi K t.uU
 Kk:JC K t.uU FS
 Kl:JC K t.uU IN
 ZG:JC K t.uU LT
 ZF:JC K t.uU PK
 Uw:Vi K t.uV
 gs:JC K t.uV LE
 zX:JC K t.uV P3
 gu:JC K t.uV SB
 K6:JC K t.uV SC
 ZH:JC K t.uV "kept"
 fL:TF K mg "islands" (j4 9) t.iA [FM]
 sZ:TF K mg "homes" (j4 10) t.tL [FM]
 w9:TF K mg "walk" (j4 11) t.xK [FM,"one",YF]
 pj:TF K mg "spread" (j4 12) t.pR [FM,"start"]
 nG:TF K mg "neighbours" (j4 13) t.Nj [FM,E0]
 oY:TF K mg "beside" (j4 14) t.pN [E0]
 GS:TF K mg "over_and_under" (j4 15) t.GZ [E0,XV]
 Ms:TF K mg "need_copper" (j4 16) t.MG [FM,E0]
 dh:TF K mg "is_whole" (j4 18) t.dJ ["value"]
 df:TF K mg "is_short" (j4 19) t.dI [YA]
 nF:TF K mg "need_whole" (j4 25) t.Ni [YD]
 km:TF K mg "need_from_one" (j4 26) t.kU [YD]
 nv:TF K mg "box_places" (j4 27) t.Nc [FS,IN,LT,PK]
 nh:TN K t.uU "Block.__init__" (JB (j4 24) 0) t.n8 [EQ,FS,IN,LT,PK]
 Mm:TM K t.uU SL "Block.cells" (JB (j4 24) 1) t.MA [EQ] []
 oZ:TF K mg "breaks" (j4 30) t.pO [FM,"rules"]
 nw:TF K mg "gap_breaks" (j4 31) t.Nd [FM,LE]
 Mq:TF K mg "keep_breaks" (j4 32) t.ME [FM,SC]
 nH:TF K mg "rim_breaks" (j4 33) t.Nl [FM,SB]
 KJ:TF K mg "width_breaks" (j4 34) t.KU [FM,P3]
 oX:TF K mg "around" (j4 35) t.pM [E0,"far"]
 Mu:TF K mg "square_from" (j4 36) t.MJ [YG,LT]
 fJ:TF K mg "is_kept" (j4 37) t.iz [E0,SC]
 fF:TF K mg "in_keep" (j4 38) t.ix [E0,ST]
 nq:TN K t.jq "Board.__init__" (JB (j4 43) 0) t.n9 [EQ,LT,PK,XV]
 Mn:TM K t.jq SL "Board.cells" (JB (j4 43) 10) t.MB [EQ,"z"] [Value.none]
 Mp:TM K t.jq "holes" "Board.holes" (JB (j4 43) 11) t.MD [EQ] []
 KL:ZX K t.jq "turned" t.zR
 KG:∃fd,Zd K "turned" "Board.turned" ve t.zR fd t.zo t.Jd/\JZ K fd [EQ] []
 zu:codeHdIn K t.zo t.Jd=true
 Km:K.lookup t.Jd=none
 GT:ZX K t.jq "mirrored" t.VY
 GR:∃fd,Zd K "mirrored" "Board.mirrored" UB t.VY fd t.Vt t.j0/\JZ K fd [EQ] []
 Vw:codeHdIn K t.Vt t.j0=true
 Gk:K.lookup t.j0=none
 aI:TM K t.jq "put" "Board.put" (JB (j4 43) 3) t.aU [EQ,SL] []
 Mo:TM K t.jq "drill" "Board.drill" (JB (j4 43) 5) t.MC [EQ,FS,IN] []
 kj:TM K t.jq "redrawn" "Board.redrawn" (JB (j4 43) 15) t.kS [EQ,LT,PK,"place"] []
 Gh:TM K t.jq "is_copper" "Board.is_copper" (JB (j4 43) 7) t.Gj [EQ,FS,IN,"z"] []
 GQ:TM K t.jq "has_hole" "Board.has_hole" (JB (j4 43) 8) t.GY [EQ,FS,IN] []
 Gg:TM K t.jq "has_layer" "Board.has_layer" (JB (j4 43) 16) t.Gi [EQ,"z"] []
 ZQ:TM K t.jq "has_square" "Board.has_square" (JB (j4 43) 17) t.Z8 [EQ,FS,IN] []
 GP:TM K t.jq "has_cell" "Board.has_cell" (JB (j4 43) 18) t.GX [EQ,E0] []
 ZM:TM K t.jq "need_square" "Board.need_square" (JB (j4 43) 19) t.ZN [EQ,FS,IN] []
 ZR:TM K t.jq "need_cells" "Board.need_cells" (JB (j4 43) 20) t.Z9 [EQ,SL] []
 KI:TF K mg "need_measure" (j4 44) t.KS ["measure","most"]
 nu:TN K t.uV "Rules.__init__" (JB (j4 50) 0) t.Na [EQ,LE,P3,SB,SC]
 KH:TF K mg "need_between" (j4 51) t.KR [YA,"least","most"]
 nB:TF K mg "need_keeps" (j4 52) t.Nh [SC]
 aR:TF K mg "need_keep" (j4 53) t.be [ST]
 xa:TF K mg "wave" (j4 55) t.xL [SZ,TD,YB,YH,"goals"]
 Mt:TF K mg "spread_wave" (j4 56) t.MI [SZ,TD,YB,YH]
 tf:TF K mg "steps" (j4 57) t.tM [SZ,TD,YB,E0]
 pf:TF K mg "priced" (j4 58) t.pP [TD,SL,"more"]
 fH:TF K mg "in_size" (j4 59) t.iy [SZ,E0]
 pi:TF K mg "put_in" (j4 60) t.pQ ["waiting","entry"]
 pk:TF K mg "way_to" (j4 61) t.pS [E0,YK]
 Mr:TF K mg "_law_cell_at" (j4 63) t.MF [IO,T0]
 aM:TF K mg "_law_mixed" (j4 64) t.aY [PP,T0]
 dq:TF K mg "_law_rows" (j4 65) t.dN [PP,"_law_many",YL,YI]
 aJ:TF K mg "_law_board" (j4 66) t.aV [IO]
 aL:TF K mg "_law_keeps" (j4 67) t.aX [IO,FB]
 dv:TF K mg "_law_spot" (j4 68) t.dO [FB,IR,W1,XL]
 di:TF K mg "_law_cell" (j4 69) t.dL [FB,IR,PP]
 dk:TF K mg "_law_keep" (j4 70) t.dM [FB,IR,YQ]
 aK:TF K mg "_law_break" (j4 71) t.aW [FB,IR,YR]
 ny:TF K mg "_law_length" (j4 72) t.Nf [FB,WF,WP]
 aN:TF K mg "_law_walks" (j4 73) t.aZ [FB,WP,IR,IO]
 nA:TF K mg "_law_prices" (j4 74) t.Ng [FB,IO]
 Nv:mg YJ=some (.ref t.GB)
 aO:∃fd,Zd K YJ YJ jY t.GB fd t.vH t.jK/\JZ K fd [FB,YC,WF,YE] []
 V1:codeHdIn K t.vH t.jK=true
 NN:K.lookup t.jK=none
 aQ:TF K mg "_law_waves" (j4 76) t.bc [FB,WP,IR,IO]
 Bv:mg "law"=some (.ref t.kT)
 Bm:∃fd,ZS K "law" "law" (j4 77) t.kT fd/\∀(s:Shared) (u:Value),BindsTo s fd #[[u],[]] [(IO,u)]
 vS:t.Jd≠t.j0
 VF:t.Jd≠t.jK
 Vo:t.j0≠t.jK
 BC:mg "abs"=none
 BD:mg "all"=none
 BE:mg "any"=none
 Ap:mg "bool"=none
 Dz:mg "dict"=none
 CT:mg "divmod"=none
 GH:mg "enumerate"=none
 rZ:mg "int"=none
 U4:mg "isinstance"=none
 vO:mg "len"=none
 lC:mg "list"=none
 r6:mg "min"=none
 uX:mg "range"=none
 DM:mg "set"=none
 Ux:mg "sorted"=none
 g8:mg "tuple"=none
 bo:mg "MOST_WIDE"=some (.int 12 t.aC)
 bj:mg "MOST_HIGH"=some (.int 12 t.aA)
 MK:mg "MOST_LAYERS"=some (.int 3 t.mw)
 dS:mg "MOST_GAP"=some (.int 2 t.bH)
 Nu:mg "MOST_WIDTH"=some (.int 3 t.M0)
 dU:mg "MOST_RIM"=some (.int 1 t.bI)
 Nt:mg "MOST_KEEPS"=some (.int 12 t.MZ)
section
variable {K:DS}{x q a:Str}{st:Stmt}{f c p D C:Addr}{oc kV dc pm cd ct u tt:Value}{od an dd:Ed}{sl ds:D7}{ps:D8}{n:Nat}
theorem zy (h:findIn K (.ref C) a=some none):JC K C a:=h
theorem fT {p:List Value->Prop} (h:∀a,p [a]):∀us:List Value,us.length=1->p us:=λus e=>by obtain⟨a,rfl⟩:=List.length_eq_one_iff.mp e;exact h a
theorem fU {p:List Value->Prop} (h:∀a b,p [a,b]):∀us:List Value,us.length=2->p us:=λus e=>by cases us with|nil=>cases e|cons a us=>exact fT (p:=λl=>p (a::l)) (h a) us (Yx e)
theorem Cm {p:List Value->Prop} (h:∀a b c,p [a,b,c]):∀us:List Value,us.length=3->p us:=λus e=>by cases us with|nil=>cases e|cons a us=>exact fU (p:=λl=>p (a::l)) (h a) us (Yx e)
theorem rL {p:List Value->Prop} (h:∀a b c d,p [a,b,c,d]):∀us:List Value,us.length=4->p us:=λus e=>by cases us with|nil=>cases e|cons a us=>exact Cm (p:=λl=>p (a::l)) (h a) us (Yx e)
theorem Du {p:List Value->Prop} (h:∀a b c d e,p [a,b,c,d,e]):∀us:List Value,us.length=5->p us:=λus e=>by cases us with|nil=>cases e|cons a us=>exact rL (p:=λl=>p (a::l)) (h a) us (Yx e)
theorem Dv {p:List Value->Prop} (h:∀a,p [a]):∀us:List Value,us.length+1=2->p us:=λus e=>fT h us (Yx e)
theorem Jb (l:K.lookup f=some ⟨oc,od,.func<|fnOf x q (JU st) (Jo st) (jR st) .none kV dc pm an cd ct,sl⟩) (e:codeIn K cd q=true) (k:keepIn K (.ref f)=true)
  (h:∀us:List Value,us.length=ps.length->bindArgs (fnOf x q (JU st) (Jo st) (jR st) .none kV dc pm an cd ct) ⟨us,[]⟩=pure (ps.zip us):=by first|exact fT λ_=>rfl|exact fU λ_ _=>rfl|exact Cm λ_ _ _=>rfl|exact rL λ_ _ _ _=>rfl|exact Du λ_ _ _ _ _=>rfl):Df K x q st f ps [] :=
 ⟨_,gU l e k,.all h⟩
theorem Co (l:K.lookup f=some ⟨oc,od,.func<|fnOf x q (JU st) (Jo st) (jR st) (.ref D) kV dc pm an cd ct,sl⟩) (e:codeIn K cd q=true) (k:keepIn K (.ref f)=true) (dl:K.lookup D=some ⟨tt,dd,.seq [u].toArray n,ds⟩)
  (h:∀us:List Value,us.length=ps.length->∃k:Option (Array Value)->Sem (List<|Str×Value),bindArgs (fnOf x q (JU st) (Jo st) (jR st) (.ref D) kV dc pm an cd ct) ⟨us,[]⟩=seqItems? (.ref D)>>=k/\k (some [u].toArray)=pure (ps.zip us):=by first|exact rL λ_ _ _ _=>⟨_,rfl,rfl⟩):Df K x q st f ps [] :=
 ⟨_,gU l e k,xv rfl dl rfl h⟩
theorem Dw (l:K.lookup f=some ⟨oc,od,.func<|fnOf x q (JU st) (Jo st) (jR st) (.ref D) kV dc pm an cd ct,sl⟩) (e:codeIn K cd q=true) (k:keepIn K (.ref f)=true) (dl:K.lookup D=some ⟨tt,dd,.seq [Value.none].toArray n,ds⟩)
  (h:∀us:List Value,us.length+1=ps.length->∃k:Option (Array Value)->Sem (List<|Str×Value),bindArgs (fnOf x q (JU st) (Jo st) (jR st) (.ref D) kV dc pm an cd ct) ⟨us,[]⟩=seqItems? (.ref D)>>=k/\k (some [Value.none].toArray)=pure (ps.zip<|us++[Value.none]):=by first|exact Dv λ_=>⟨_,rfl,rfl⟩):Df K x q st f ps [Value.none] :=
 ⟨_,gU l e k,xw rfl dl rfl h⟩
theorem xM (l:K.lookup f=some ⟨oc,od,.func<|fnOf x q (JU st) (Jo st) (jR st) .none kV dc pm an (.ref c) ct,sl⟩) (e:codeIn K (.ref c) q=true) (k:keepIn K (.ref f)=true)
  {k1:Value} {k2:Ed} {kv:D9} {k4:D7} (ko:K.lookup c=some ⟨k1,k2,.fields kv,k4⟩) (kp:kv[11]?=some (.ref p)) (g:codeHdIn K c p=true)
  (h:∀(kV doc pm:Value) (an:Ed) (Em ct:Value) (us:DY),us.length=ps.length->bindArgs (fnOf x q (JU st) (Jo st) (jR st) .none kV doc pm an Em ct) ⟨us,[]⟩=pure (ps.zip us):=by first|exact λ_ _ _ _ _ _=>fT λ_=>rfl|exact λ_ _ _ _ _ _=>rL λ_ _ _ _=>rfl):∃fd,Zd K x q st f fd c p/\JZ K fd ps [] :=
 ⟨_,cg l e k g,(cg l e k g).binds h⟩
end
theorem V2 (h1:b=true->A) (h2:b=false->B):if b=true then A else B:=by
 cases b
 ·rw[if_neg yA];exact h2 rfl
 ·rw[if_pos rfl];exact h1 rfl
theorem uT (h:B) (e:autoParam (b=false) ac):if b=true then A else B:=by rw[e];exact h
theorem JE (h:A) (e:autoParam (b=true) ac):if b=true then A else B:=by rw[e];exact h
theorem xO {j:Nat}{u v:V}{σ:St}{Q:St->Hp->Prop} (h:Q ((σ.set i<|some u).set j<|some v) H):vJ (vo i) (vJ (vo j) KY) [u,v] σ H Q:=h
theorem JP (h1:b=false->A) (h2:b=true->B):if (!b)=true then A else B:=by
 cases b
 ·exact (if_pos<|rfl)▸h1 rfl
 ·rw[if_neg (by decide)];exact h2 rfl
theorem Jw {c:Prop} [Decidable c] (h1:c->A) (h2:¬c->B):if decide c=true then A else B:=by
 by_cases h:c
 ·rw[if_pos<|decide_eq_true h];exact h1 h
 ·rw[if_neg (by simp [h])];exact h2 h
theorem jm {p:Addr}{o:HO} (x:Same H H') (hp:H' p=none):Same H (L2.upd H' p o):=λb u e=>by
 have:=x b u e;rw[jj<|jh this hp];exact this
@[elab_as_elim] theorem VL {H0:Hp} {p:Addr} {o:HO} {C:Hp->Prop} (hp:H0 p=none) (k:∀H,Same H0 H->H p=some o->C H):C (upd H0 p o):=k _ (jm (Same.refl H0) hp) jd
@[elab_as_elim] theorem NK {H0:Hp} {p:Addr} {o q:HO} {C:Hp->Prop} (h:o=q) (hp:H0 p=none) (k:∀H,Same H0 H->H p=some q->C H):C (upd H0 p o):=by subst h;exact VL hp k
theorem jX {α β:Type}{f:α->β}{l:List α}{y:β} (h:(l.map f)[i]?=some y):∃x,l[i]?=some x/\f x=y:=by rwa [yo,yI] at h
abbrev jF:=List (List Key×V)
def fB (w h l:Int) (c d:Addr):List (Str×V):=[(LT,.int w),(PK,.int h),(XV,.int l),("copper",.ref c),("drilled",.ref d)]
theorem xH (w h l:Int) (c d:Addr):JM "drilled" (.ref d) (JM "copper" (.ref c)<|JM XV (.int l)<|JM PK (.int h)<|JM LT (.int w) [])=fB w h l c d:=by kernel_rfl
def jH (x w:Int):Bool:=decide (0<=x)&&decide (x<w)
def ox:Sp:=λvs H Q _=>∃i:Int,vs=[.int i]/\Q (.bl true) H
theorem UJ (T:Txt K mg t):jS P w K mg base 1 "is_whole" ["value"] ox:=by
 refine T.dh.ok ["value"] ?_;rintro _ H Q E ⟨i,rfl,k⟩;refine#[rfl,λEm A outer s hr=>#[_,(jk (jC (u7 (jU VS (by rfl) T.U4 UZ (ja (pv 0) (ja (z8 (v:=.ty "int") (by rfl) T.rZ rM rfl) jf))) (U6 (Ax (jU VS (by rfl) T.U4 UZ (ja (pv 0) (ja (z8 (v:=.ty "bool") (by rfl) T.Ap xt rfl) jf)))))))),?_]];exact#[_,_,_,_,true,rfl,.int i,.ty _,by kernel_rfl,true,rfl,JE #[_,_,_,_,false,rfl,.int i,.ty _,by kernel_rfl,false,rfl,k]]
def MY:Sp:=λvs H Q _=>E2 λ(m most:Int)=>A4 (vs=[.int m,.int most]) (1<=m) (m<=most) (Q .non H)
theorem Kq (T:Txt K mg t):jS P w K mg base 2 "need_measure" ["measure","most"] MY:=by
 refine T.KI.ok ["measure","most"] ?_;rintro _ H Q E ⟨m,most,rfl,l1,l2,q⟩;refine#[rfl,λEm A outer s hr=>#[_,(jk<|j9 (Vh (uN<|JS<|jn (UJ T)<|ja (pv 0) jf)<|vU<|uN<|ab vP vP jg (pv 0)<|pv 1).pt (jk JW) jW),?_]];exact#[m,rfl,uT #[_,rfl,Jw (λ_=>JP (λz=>of_decide_eq_false z l2) λ_=>q) λz=>absurd l1 z]]
def wE (C:Addr):Sp:=λvs H Q _=>E5 λ(o dx:Addr) (w h l:Int)=>A6 (vs=[.ref o,.int w,.int h,.int l]) (H o=some (.ins C dx [])) (1<=w/\w<=12) (1<=h/\h<=12) (1<=l/\l<=3) (∀c d H',(∀b u,b≠o->H b=some u->H' b=some u)->H' o=some (.ins C dx<|fB w h l c d)->H' c=some (.dT [])->H' d=some (.dT [])->H c=none->H d=none->c≠d->c≠o->d≠o->Q .non H')
theorem ZI (T:Txt K mg t):kn P w K mg base 3 "Board" t.jq [EQ,LT,PK,XV] (wE t.jq):=by
 refine T.nq.ok T.tR [EQ,LT,PK,XV] ?_;rintro _ H Q E ⟨o,dx,w1,w2,w3,rfl,ho,g1,g2,g3,kQ⟩;refine#[rfl,λEm A outer s hr=>#[_,(ji (jQ (jn (Kq T) (ja (pv 1) (ja (Va (v:=.int 12) (by rfl) T.bo #[_,rfl]) jf)))) (ji (jQ (jn (Kq T) (ja (pv 2) (ja (Va (v:=.int 12) (by rfl) T.bj #[_,rfl]) jf)))) (ji (jQ (jn (Kq T) (ja (pv 3) (ja (Va (v:=.int 3) (by rfl) T.MK #[_,rfl]) jf))))<|ji (u8 (pv 0) (pv 1) rfl)<|ji (u8 (pv 0) (pv 2) rfl)<|ji (u8 (pv 0) (pv 3) rfl)<|ji (u8 (pv 0) Uc rfl)<|jk<|u8 (pv 0) Uc rfl))),?_]];refine#[w1,12,rfl,g1.1,g1.2,w2,12,rfl,g2.1,g2.2,w3,3,rfl,g3.1,g3.2,?_];refine#[o,_,dx,_,rfl,ho,T.jz,T.Jj,(by decide),?_];refine#[o,_,dx,_,rfl,jd,T.jz,T.Ji,Qd (by kernel_rfl),?_];refine#[o,_,dx,_,rfl,jd,T.jz,T.JA,Qd (by kernel_rfl),?_];intro c hc;have HF:c≠o:=λz=>by rw[z,jd] at hc;cases hc
 have Hc:=by rw[jj HF,jj HF,jj HF] at hc;exact hc
 refine#[o,_,dx,_,rfl,jB (yG HF) jd,T.jz,T.JK,Qd (by kernel_rfl),?_];intro d hd;have Lc:d≠o:=λz=>by rw[z,jd] at hd;cases hd
 have RB:d≠c:=λz=>by rw[z,jj HF,jd] at hd;cases hd
 have Hd:=by rw[jj Lc,jj RB,jj Lc,jj Lc,jj Lc] at hd;exact hd
 refine#[o,_,dx,_,rfl,jB (yG Lc) jd,T.jz,T.Uy,Qd (by kernel_rfl),?_];refine kQ c d _ (λb u hb e=>?_) ?_ ?_ ?_ Hc Hd (yG RB) HF Lc
 ·rw[jj hb,jj<|jh e Hd,jj hb,jj<|jh e Hc,jj hb,jj hb,jj hb];exact e
 ·rw[jd,xH]
 ·rw[jj HF,jj<|yG RB,jj HF];exact jd
 ·rw[jj Lc];exact jd
theorem BJ:(10:Int)^(40:Int).toNat=10000000000000000000000000000000000000000:=by decide
def ou:Sp:=λvs H Q _=>∃n:Int,vs=[.int n]/\Q (.bl<|decide (n<10000000000000000000000000000000000000000/\-10000000000000000000000000000000000000000<n)) H
theorem bx (T:Txt K mg t):jS P w K mg base 1 "is_short" [YA] ou:=by
 refine T.df.ok [YA] ?_;rintro _ H Q E ⟨n,rfl,q⟩;refine#[rfl,λEm A outer s hr=>#[_,(jk (jC (vy UU (jU pI (by rfl) T.BC Bo<|ja (pv 0) jf)<|jp As jg jg))),?_]];refine#[n,rfl,#[by decide,by decide,by decide],?_];have e:decide (n<10000000000000000000000000000000000000000/\-10000000000000000000000000000000000000000<n)=decide ((if n<0 then -n else n)<(10)^(40:Int).toNat):=by
  rw[BJ];refine decide_eq_decide.mpr ?_
  split<;>omega
 rw[e] at q;exact q
def bE (C:Addr):Sp:=λvs H Q _=>E9 λ(o dx c d:Addr) (w h l x y:Int)=>A3 (vs=[.ref o,.int x,.int y]) (H o=some (.ins C dx<|fB w h l c d)) (Q (.bl<|jH x w&&jH y h) H)
theorem UO (T:Txt K mg t):uQ P w K mg base 2 t.jq "has_square" [EQ,FS,IN] (bE t.jq):=by
 refine T.ZQ.ok T.jz [EQ,FS,IN] ?_;rintro _ H Q E ⟨o,dx,c,d,w,h,l,x,y,rfl,ho,q⟩;refine#[rfl,λEm A outer s hr=>#[_,(jk<|jC<|u7 (jn (UJ T)<|ja (pv 1) jf)<|u7 (jn (UJ T)<|ja (pv 2) jf)<|u7 (vp vP UU jg (pv 1)<|jM<|pv 0)<|U6<|vp vP UU jg (pv 2)<|jM<|pv 0),?_]];refine#[x,rfl,true,rfl,JE #[y,rfl,true,rfl,JE ?_]];have fin:∀b:Bool,(jH x w&&jH y h)=b->Q _ H:=λb e=>e▸q;refine#[_,rfl,Jw (λh1=>#[o,_,dx,_,_,rfl,ho,T.jz,T.Jj,rfl,_,rfl,Jw (λh2=>?_) λh2=>fin _ (by simp [jH,h2])]) λh1=>#[_,rfl,uT (fin _ (by simp [jH,h1]))]];refine#[_,rfl,Jw (λh3=>#[o,_,dx,_,_,rfl,ho,T.jz,T.Ji,rfl,fin _ (by simp [jH,h1,h2,h3])]) λh3=>fin _ (by simp [jH,h3])]
def eY (C:Addr):Sp:=λvs H Q _=>E8 λ(o dx c d:Addr) (w h l z:Int)=>A3 (vs=[.ref o,.int z]) (H o=some (.ins C dx<|fB w h l c d)) (Q (.bl<|jH z l) H)
theorem gw (T:Txt K mg t):uQ P w K mg base 2 t.jq "has_layer" [EQ,"z"] (eY t.jq):=by
 refine T.Gg.ok T.jz [EQ,"z"] ?_;rintro _ H Q E ⟨o,dx,c,d,w,h,l,z,rfl,ho,q⟩;refine#[rfl,λEm A outer s hr=>#[_,(jk<|jC<|u7 (jn (UJ T)<|ja (pv 1) jf)<|U6<|vp vP UU jg (pv 1)<|jM<|pv 0),?_]];have fin:∀b:Bool,jH z l=b->Q _ H:=λb e=>e▸q;refine#[z,rfl,true,rfl,JE ?_];refine#[_,rfl,Jw (λh1=>#[o,_,dx,_,_,rfl,ho,T.jz,T.JA,rfl,fin _ (by simp [jH,h1])]) λh1=>fin _ (by simp [jH,h1])]
def om (C:Addr):Sp:=λvs H Q _=>bL λ(o dx c d p:Addr) (w h l x y z:Int)=>A4 (vs=[.ref o,.ref p]) (H o=some (.ins C dx<|fB w h l c d)) (H p=some (.tup [.int x,.int y,.int z])) (Q (.bl<|jH x w&&jH y h&&jH z l) H)
theorem vi (T:Txt K mg t):uQ P w K mg base 3 t.jq "has_cell" [EQ,E0] (om t.jq):=by
 refine T.GP.ok T.jz [EQ,E0] ?_;rintro _ H Q E ⟨o,dx,c,d,p,w,h,l,x,y,z,rfl,ho,hp,q⟩;refine#[rfl,λEm A outer s hr=>#[_,(ji (j9 (Vh (uN (JS (jU VS (by rfl) T.U4 UZ (ja (pv 1) (ja (z8 (v:=.ty "tuple") (by rfl) T.g8 gR rfl) jf))))) (vU (j5 Ks (jU Js (by rfl) T.vO vG<|ja (pv 1) jf) jg))).pt (jk<|jC VE) jW)<|jk<|jC<|u7 (Jy (pv 0) (UO T)<|ja (ju jr (pv 1) jg)<|ja (ju jr (pv 1) jg) jf)<|U6<|Jy (pv 0) (gw T)<|ja (ju jr (pv 1) jg) jf),?_]];have S:jx K H p _:=jx.of hp;refine#[_,_,_,_,true,rfl,.tup hp,.ty _,by kernel_rfl,uT ?_];refine#[p,_,rfl,.inr S,rfl,JP (λz=>absurd (of_decide_eq_false z rfl) (λz=>z)) λ_=>?_];have fin:∀b:Bool,(jH x w&&jH y h&&jH z l)=b->Q _ H:=λb e=>e▸q;refine#[o,dx,_,rfl,ho,rfl,_,_,S,rfl,_,_,S,rfl,o,dx,c,d,w,h,l,x,y,rfl,ho,_,rfl,?_];cases h1:(jH x w&&jH y h) with
 | false=>exact uT (fin _ (by rw[h1];rfl))
 | true=>exact JE #[o,dx,_,rfl,ho,rfl,_,_,S,rfl,o,dx,c,d,w,h,l,z,rfl,ho,fin _ (by rw[h1];rfl)]
def eZ (C:Addr):Sp:=λvs H Q _=>bL λ(o dx c d:Addr) (w h l x y z:Int) (cs:jF)=>A4 (vs=[.ref o,.int x,.int y,.int z]) (H o=some (.ins C dx<|fB w h l c d)) (H c=some (.dT cs)) (∀H',Same H H'->Q (.bl<|jH x w&&jH y h&&jH z l&&(jD cs [.inl x,.inl y,.inl z]).isSome) H')
theorem Vm (T:Txt K mg t):uQ P w K mg base 4 t.jq "is_copper" [EQ,FS,IN,"z"] (eZ t.jq):=by
 refine T.Gh.ok T.jz [EQ,FS,IN,"z"] ?_;rintro _ H Q E ⟨o,dx,c,d,w,h,l,x,y,z,cs,rfl,ho,hc,q⟩;refine#[rfl,λEm A outer s hr=>#[_,(jk<|jC<|u7 (Jy (pv 0) (vi T)<|ja (jN<|ja (pv 1)<|ja (pv 2)<|ja (pv 3) jf) jf)<|U6<|N4<|gD (jN<|ja (pv 1)<|ja (pv 2)<|ja (pv 3) jf)<|jM<|pv 0),?_]];refine#[o,dx,_,rfl,ho,rfl,(by show 3<=sizeLine;decide),λp hp=>?_];have s1:Same H (upd H p<|.tup [.int x,.int y,.int z]):=jm (Same.refl H) hp;refine#[o,dx,c,d,p,w,h,l,x,y,z,rfl,s1 _ _ ho,jd,_,rfl,?_];cases h1:(jH x w&&jH y h&&jH z l) with
 | false=>exact uT (by have:=q _ s1;rw[h1] at this;exact this)
 | true =>
  refine JE #[(by show 3<=sizeLine;decide),λp2 Fe=>?_];have s2:=jm (o:=.tup [.int x,.int y,.int z]) s1 Fe;refine#[o,_,dx,_,_,rfl,s2 _ _ ho,T.jz,T.JK,rfl,c,_,rfl,ug.t (k:=[.inl x,.inl y,.inl z]) (s2 _ _ hc) jd,?_];have:=q _ s2;rw[h1,QM] at this;exact this
def oq (C:Addr):Sp:=λvs H Q _=>Gq λ(o dx c d:Addr) (w h l x y:Int) (ds:jF)=>A4 (vs=[.ref o,.int x,.int y]) (H o=some (.ins C dx<|fB w h l c d)) (H d=some (.dT ds)) (∀H',Same H H'->Q (.bl<|jH x w&&jH y h&&(jD ds [.inl x,.inl y]).isSome) H')
theorem Gm (T:Txt K mg t):uQ P w K mg base 3 t.jq "has_hole" [EQ,FS,IN] (oq t.jq):=by
 refine T.GQ.ok T.jz [EQ,FS,IN] ?_;rintro _ H Q E ⟨o,dx,c,d,w,h,l,x,y,ds,rfl,ho,hd,q⟩;refine#[rfl,λEm A outer s hr=>#[_,(jk<|jC<|u7 (Jy (pv 0) (UO T)<|ja (pv 1)<|ja (pv 2) jf)<|U6<|N4<|gD (jN<|ja (pv 1)<|ja (pv 2) jf)<|jM<|pv 0),?_]];refine#[o,dx,_,rfl,ho,rfl,o,dx,c,d,w,h,l,x,y,rfl,ho,_,rfl,?_];cases h1:(jH x w&&jH y h) with
 | false=>exact uT (by have:=q _<|Same.refl H;rw[h1] at this;exact this)
 | true =>
  refine JE #[(by show 2<=sizeLine;decide),λp2 Fe=>?_];have s2:=jm (o:=.tup [.int x,.int y]) (Same.refl H) Fe;refine#[o,_,dx,_,_,rfl,s2 _ _ ho,T.jz,T.Uy,rfl,d,_,rfl,ug.t (k:=[.inl x,.inl y]) (s2 _ _ hd) jd,?_];have:=q _ s2;rw[h1,QM] at this;exact this
theorem Uu:bootBuiltins "sorted"=some (.builtin "sorted"):=by decide +kernel
def jy (H:Hp) (ps:DZ) (cl:DT):Prop:=ps.length=cl.length/\∀(i:Nat) (p:Addr) (c:Int×Int×Int),ps[i]?=some p->cl[i]?=some c->H p=some (.tup [.int c.1,.int c.2.1,.int c.2.2])
theorem jy.same {ps:DZ}{cl:DT} (C:jy H ps cl) (s:Same H H'):jy H' ps cl:=#[C.1,λi p c h1 h2=>s _ _<|C.2 i p c h1 h2]
def k3 (c:Int×Int×Int):List Key:=[.inl c.1,.inl c.2.1,.inl c.2.2]
def UH (cs:jF) (cl:DT):jF:=cl.foldl (λt c=>jZ t (k3 c)<|.bl true) cs
theorem Zv (cl:DT):∀cs:jF,(UH cs cl).length<=cs.length+cl.length:=by
 induction cl with
 | nil=>intro cs;exact yh _
 | cons c r ih =>
  intro cs;have h1:=ih<|jZ cs (k3 c)<|.bl true;have h2:=J2 cs (k3 c)<|.bl true;show (UH (jZ cs _ _) r).length<=_;rw[Qa];lia
theorem bD (cs:jF) (cl:DT) (c:Int×Int×Int):UH cs (cl++[c])=jZ (UH cs cl) (k3 c) (.bl true):=by
 unfold UH;rw[aaM];rfl
def uM (w h l:Int) (c:Int×Int×Int):Bool:=jH c.1 w&&jH c.2.1 h&&jH c.2.2 l
def ao (C:Addr):Sp:=λvs H Q _=>E9 λ(o dx c d:Addr) (w h l x y:Int)=>A4 (vs=[.ref o,.int x,.int y]) (H o=some (.ins C dx<|fB w h l c d)) ((jH x w&&jH y h)=true) (Q .non H)
theorem Zq (T:Txt K mg t):uQ P w K mg base 3 t.jq "need_square" [EQ,FS,IN] (ao t.jq):=by
 refine T.ZM.ok T.jz [EQ,FS,IN] ?_;rintro _ H Q E ⟨o,dx,c,d,w,h,l,x,y,rfl,ho,hb,q⟩;refine#[rfl,λEm A outer s hr=>#[_,(jk<|j9 (uN<|JS<|Jy (pv 0) (UO T)<|ja (pv 1)<|ja (pv 2) jf) (jk JW) jW),?_]];exact#[o,dx,_,rfl,ho,rfl,o,dx,c,d,w,h,l,x,y,rfl,ho,JP (λhf=>by rw[hb] at hf;cases hf) λ_=>q]
def oy (C:Addr):Sp:=λvs H Q _=>Gq λ(o dx c d a:Addr) (ps:DZ) (cl:DT) (w h l:Int)=>A6 (vs=[.ref o,.ref a]) (H o=some (.ins C dx<|fB w h l c d)) (H a=some (.lst<|ps.map V.ref)) (jy H ps cl) (cl.all (uM w h l)=true) (Q .non H)
theorem ZO (T:Txt K mg t):uQ P w K mg base 4 t.jq "need_cells" [EQ,SL] (oy t.jq):=by
 refine T.ZR.ok T.jz [EQ,SL,E0] ?_;rintro _ H Q E ⟨o,dx,c,d,a,ps,cl,w,h,l,rfl,ho,ha,hp,hb,q⟩;refine#[rfl,λEm A outer s hr=>#[_,(jk<|j7 jO (jV<|pv 1) (jw 2)<|jk<|j9 (uN<|JS<|Jy (pv 0) (vi T)<|ja (pv 2) jf) (jk JW) jW),?_]];refine#[a,rfl,#[_,jt.of ha],Jt (λi σ H2=>∃v,σ=[oR o,oR a,v]/\H2=H) #[_,rfl,rfl] (λi σ H2 _ #[_,_,e]=>by rw[e];exact jt.of ha) ?_ ?_]
 ·rintro i v σ H2 hx ⟨u,rfl,rfl⟩;obtain⟨p,e1,rfl⟩:=jX hx;have hi:i<cl.length:=by rw[<-hp.1];exact (yd.mp e1).1
  have on:=y6.mp hb _<|yV hi;exact#[o,dx,_,rfl,ho,rfl,o,dx,c,d,p,w,h,l,_,_,_,rfl,ho,hp.2 i p _ e1<|yc hi,JP (λhf=>by unfold uM at on;rw[on] at hf;cases hf) λ_=>#[_,rfl,rfl]]
 ·rintro σ H2 ⟨u,rfl,rfl⟩;exact q
def AO (C:Addr):Sp:=λvs H Q _=>bL λ(o dx c d a:Addr) (ps:DZ) (cl:DT) (w h l:Int) (cs:jF)=>A8 (vs=[.ref o,.ref a]) (H o=some (.ins C dx<|fB w h l c d)) (H a=some (.lst<|ps.map V.ref)) (jy H ps cl) (H c=some (.dT cs)) (cs.length+cl.length<=1000) (cl.all (uM w h l)=true) (Q .non<|upd H c<|.dT<|UH cs cl)
theorem gA (T:Txt K mg t):uQ P w K mg base 5 t.jq "put" [EQ,SL] (AO t.jq):=by
 refine T.aI.ok T.jz [EQ,SL,E0] ?_;rintro _ H Q E ⟨o,dx,c,d,a,ps,cl,w,h,l,cs,rfl,ho,ha,hp,hc,hl,hb,q⟩;refine#[rfl,λEm A outer s hr=>#[_,(ji (jQ<|Jy (pv 0) (ZO T)<|ja (pv 1) jf)<|jk<|j7 jO (jV<|pv 1) (jw 2)<|jk<|uJ (jM<|pv 0) (pv 2) VE),?_]];refine#[o,dx,_,rfl,ho,rfl,o,dx,c,d,a,ps,cl,w,h,l,rfl,ho,ha,hp,hb,?_];have nac:=jA ha hc;have RC:=jA ho hc;refine#[a,rfl,#[_,jt.of ha],Jt (xs:=ps.map V.ref) (λi σ H2=>∃v,σ=[some _,some _,v]/\H2=upd H c (.dT<|UH cs<|cl.take i)) #[_,rfl,?_] (λi σ H2 _ #[_,_,e]=>?_) ?_ ?_]
 ·funext x;by_cases e:x=c
  ·rw[e,jd,hc];rfl
  ·rw[jj e]
 ·subst e;exact jt.of (jB nac ha)
 ·rintro i v σ H2 hx ⟨u,rfl,rfl⟩;obtain⟨p,e1,rfl⟩:=jX hx;have hi:i<cl.length:=by rw[<-hp.1];exact (yd.mp e1).1
  have e2:=yc hi;have e3:=hp.2 i p _ e1 e2;have npc:=jA e3 hc;have hlen:=Zv (cl.take i) cs;rw[yM] at hlen;refine#[o,_,dx,_,_,rfl,jB RC ho,T.jz,T.JK,rfl,c,_,rfl,UL.t (k:=k3 _) jd (jB npc e3) (yP (show _<=1000 by lia) (by decide)),_,rfl,?_];funext x;rw[Qm,e2,show (some _).toList=[cl[i]] from rfl,bD];by_cases e:x=c
  ·rw[e,jd,jd]
  ·rw[jj e,jj e,jj e]
 ·rintro σ H2 ⟨u,rfl,rfl⟩;rw[yb,hp.1,QD<|yh _];exact q
def wH (C:Addr):Sp:=λvs H Q _=>Gq λ(o dx c d:Addr) (w h l x y:Int) (ds:jF)=>A6 (vs=[.ref o,.int x,.int y]) (H o=some (.ins C dx<|fB w h l c d)) (H d=some (.dT ds)) (ds.length<=1000) ((jH x w&&jH y h)=true) (∀p,H p=none->Q .non (upd (upd H p<|.tup [.int x,.int y]) d<|.dT<|jZ ds [.inl x,.inl y]<|.bl true))
theorem zY (T:Txt K mg t):uQ P w K mg base 4 t.jq "drill" [EQ,FS,IN] (wH t.jq):=by
 refine T.Mo.ok T.jz [EQ,FS,IN] ?_;rintro _ H Q E ⟨o,dx,c,d,w,h,l,x,y,ds,rfl,ho,hd,hl,hb,q⟩;refine#[rfl,λEm A outer s hr=>#[_,(ji (jQ<|Jy (pv 0) (Zq T)<|ja (pv 1)<|ja (pv 2) jf)<|jk<|uJ (jM<|pv 0) (jN<|ja (pv 1)<|ja (pv 2) jf) VE),?_]];refine#[o,dx,_,rfl,ho,rfl,o,dx,c,d,w,h,l,x,y,rfl,ho,hb,?_];refine#[o,_,dx,_,_,rfl,ho,T.jz,T.Uy,rfl,(by show 2<=sizeLine;decide),λp hp=>?_];have ndp:=jh hd hp;exact#[d,_,rfl,UL.t (jB ndp hd) jd (yP hl (by decide)),q p hp]
end K91
namespace K91
open PySem L2 TS
variable {D C o dx d r fa ru kp fp cP aP dp kl:Addr}{σ:St}{H H1 H2 H0:Hp}{i h l y g rm L w':Nat}{Q:VK}{ps as es:DZ}{cl todo t1 t2 Ew EC rs hk st gl:List je}{ys Pd:List V}{cs ds u' hv:jF}{k:List Key}{e s:je}{ks:List K5}{N:je->List je}{lv:je->Nat}{v:V}{EA:List (List je)}{pl hl IG:DU}{tc:TT}{te:TE}{f:Uh}{cop:je->Bool}{oc:Obj}{Ei:List (List Key×V)}{rl r1 r2:List JY}{Fu:List (List<|List Key)}{F:je->je->Bool}
variable {P:Ee}{w:World}{K:DS}{mg:DV}{base:Heap}{t:Adr}
def wG (C:Addr):Sp:=λvs H Q _=>E8 λ(o dx c d:Addr) (w h l:Int) (cs:jF)=>A5 (vs=[.ref o,.non]) (H o=some (.ins C dx<|fB w h l c d)) (H c=some (.dT cs)) (∀kv∈cs,sd kv.1=[true,true,true]) (∀p bs ks,H p=none->jP H bs ks->ks.Perm (cs.map (·.1))->(ks.Pairwise λa b=>lx b a=false)->Q (.ref p) (upd H p<|.lst<|bs.map V.ref))
theorem Ul (T:Txt K mg t):nL P w K mg base 1 t.jq SL [EQ,"z"] (wG t.jq):=by
 refine T.Mn.okN T.jz [EQ,"z"] ?_;rintro _ H Q E ⟨o,dx,c,d,w,h,l,cs,rfl,ho,hc,hs,q⟩;refine#[rfl,λEm A outer s hr=>#[_,(ji (j9 (uw<|lT<|pv 1) (jk (jC (jU (VU rfl) (by rfl) T.Ux Uu<|ja (jM<|pv 0) jf))) jW)<|ji JW<|jk JW),?_]];unfold UQ A2 tB Ba;exact JE #[o,_,dx,_,_,rfl,ho,T.jz,T.JK,rfl,c,cs,_,rfl,hc,hs,by decide,λp bs ks hp ka pm up=>q p bs ks hp ka pm up]
def wI (C:Addr):Sp:=λvs H Q _=>E8 λ(o dx c d:Addr) (w h l:Int) (ds:jF)=>A5 (vs=[.ref o]) (H o=some (.ins C dx<|fB w h l c d)) (H d=some (.dT ds)) (∀kv∈ds,sd kv.1=[true,true]) (∀p bs ks,H p=none->jP H bs ks->ks.Perm (ds.map (·.1))->(ks.Pairwise λa b=>lx b a=false)->Q (.ref p) (upd H p<|.lst<|bs.map V.ref))
theorem zZ (T:Txt K mg t):uQ P w K mg base 1 t.jq "holes" [EQ] (wI t.jq):=by
 refine T.Mp.ok T.jz [EQ] ?_;rintro _ H Q E ⟨o,dx,c,d,w,h,l,ds,rfl,ho,hc,hs,q⟩;refine#[rfl,λEm A outer s hr=>#[_,(jk (jC (jU (VU rfl) (by rfl) T.Ux Uu<|ja (jM<|pv 0) jf))),?_]];exact#[o,_,dx,_,_,rfl,ho,T.jz,T.Uy,rfl,d,ds,_,rfl,hc,hs,by decide,λp bs ks hp ka pm up=>q p bs ks hp ka pm up]
def Ue (cs:jF) (w h l:Int) (c:Int×Int×Int):Bool:=uM w h l c&&(jD cs<|k3 c).isSome
def UN (c:Int×Int×Int):List (Int×Int×Int):=[(c.1 - 1,c.2.1,c.2.2),(c.1+1,c.2.1,c.2.2),(c.1,c.2.1 - 1,c.2.2),(c.1,c.2.1+1,c.2.2)]
def qU:Sp:=λvs H Q _=>E4 λ(p:Addr) (x y z:Int)=>A3 (vs=[.ref p]) (H p=some (.tup [.int x,.int y,.int z])) (∀D ps H',Same H H'->H D=none->H' D=some (.lst<|ps.map V.ref)->jy H' ps (UN (x,y,z))->Q (.ref D) H')
theorem mS (T:Txt K mg t):jS P w K mg base 1 "beside" [E0] qU:=by
 refine T.oY.ok [E0,FS,IN,"z"] ?_;rintro _ H Q E ⟨p,x,y,z,rfl,hp,q⟩;refine#[rfl,λEm A outer s hr=>#[_,(ji (jv 1<|ju jr (pv 0) jg)<|ji (jv 2<|ju jr (pv 0) jg)<|ji (jv 3<|ju jr (pv 0) jg)<|jk<|jC<|JL<|ja (jN<|ja (jp JR (pv 1) jg)<|ja (pv 2)<|ja (pv 3) jf)<|ja (jN<|ja (jp Jc (pv 1) jg)<|ja (pv 2)<|ja (pv 3) jf)<|ja (jN<|ja (pv 1)<|ja (jp JR (pv 2) jg)<|ja (pv 3) jf)<|ja (jN<|ja (pv 1)<|ja (jp Jc (pv 2) jg)<|ja (pv 3) jf) jf),?_]];have S:jx K H p _:=jx.of hp;refine#[_,_,S,rfl,_,_,S,rfl,_,_,S,rfl,?_];refine#[(by show 3<=sizeLine;decide),λp1 h1=>?_];have s1:=jm (o:=.tup [.int<|x - 1,.int y,.int z]) (Same.refl H) h1;have e1:upd H p1 (.tup [.int<|x - 1,.int y,.int z]) p1=some (.tup [.int<|x - 1,.int y,.int z]):=jd;generalize upd H p1 (.tup [.int<|x - 1,.int y,.int z])=H1 at s1 e1 ⊢;refine#[(by show 3<=sizeLine;decide),λp2 h2=>?_];have s2:=jm (o:=.tup [.int<|x+1,.int y,.int z]) (Same.refl H1) h2;have e2:upd H1 p2 (.tup [.int<|x+1,.int y,.int z]) p2=some (.tup [.int<|x+1,.int y,.int z]):=jd;generalize upd H1 p2 (.tup [.int<|x+1,.int y,.int z])=H2 at s2 e2 ⊢;refine#[(by show 3<=sizeLine;decide),λp3 h3=>?_];have s3:=jm (o:=.tup [.int x,.int<|y - 1,.int z]) (Same.refl H2) h3;have e3:upd H2 p3 (.tup [.int x,.int<|y - 1,.int z]) p3=some (.tup [.int x,.int<|y - 1,.int z]):=jd;generalize upd H2 p3 (.tup [.int x,.int<|y - 1,.int z])=H3 at s3 e3 ⊢;refine#[(by show 3<=sizeLine;decide),λp4 h4=>?_];have s4:=jm (o:=.tup [.int x,.int<|y+1,.int z]) (Same.refl H3) h4;have e4:upd H3 p4 (.tup [.int x,.int<|y+1,.int z]) p4=some (.tup [.int x,.int<|y+1,.int z]):=jd;generalize upd H3 p4 (.tup [.int x,.int<|y+1,.int z])=H4 at s4 e4 ⊢;refine#[(by show 4<=sizeLine;decide),λD hD=>?_];have s5:=jm (o:=.lst [.ref p1,.ref p2,.ref p3,.ref p4]) (Same.refl H4) hD;have Fi:=Same.trans s1<|Same.trans s2<|Same.trans s3 s4;have Pf:H D=none:=by
  cases e:H D with
  | none=>rfl
  | some u=>rw[Fi _ _ e] at hD;cases hD
 refine q D [p1,p2,p3,p4] _ (Same.trans Fi s5) Pf jd #[rfl,λi r c g1 g2=>?_]
 match i with
 | 0=>cases g1;cases g2;exact s5 _ _ (s4 _ _<|s3 _ _<|s2 _ _ e1)
 | 1=>cases g1;cases g2;exact s5 _ _ (s4 _ _<|s3 _ _ e2)
 | 2=>cases g1;cases g2;exact s5 _ _ (s4 _ _ e3)
 | 3=>cases g1;cases g2;exact s5 _ _ e4
 | i+4=>cases g1
theorem uZ {a b:TS}{D:zD} (R:St->Hp->Prop) (h1:∀B:TS,(∀σ H,R σ H->B D σ H)->UQ a B D σ H) (h2:∀σ H,R σ H->b D σ H):UQ a b D σ H:=h1 b h2
theorem JV {x:V}{Q:St->Hp->Prop} (h:Q (σ.set i<|some x) H):vo i x σ H Q:=h
theorem jy.snoc {cl:DT}{p:Addr}{c:Int×Int×Int} (C:jy H ps cl) (hp:H p=some (.tup [.int c.1,.int c.2.1,.int c.2.2])):jy H (ps++[p]) (cl++[c]):=#[by rw[ye,ye,C.1];rfl,λi q d h1 h2=>by
 by_cases h:i<ps.length
 ·rw[yn h] at h1;rw[yn<|C.1▸h] at h2;exact C.2 i q d h1 h2
 ·rw[yl (by lia)] at h1;rw[yl (by rw[<-C.1];lia),<-C.1] at h2;generalize i - ps.length=m at h1 h2;cases m with
  | zero=>cases h1;cases h2;exact hp
  | succ m=>cases h1]
theorem jy.add {cl:DT}{p:Addr}{c:Int×Int×Int} (C:jy H ps cl) (hp:H p=none) (hD:H D=some (.lst ys)):jy (upd (upd H p<|.tup [.int c.1,.int c.2.1,.int c.2.2]) D<|.lst Pd) (ps++[p]) (cl++[c]):=by
 have WA:p≠D:=λz=>by rw[z,hD] at hp;cases hp
 have k:jy (upd (upd H p<|.tup [.int c.1,.int c.2.1,.int c.2.2]) D<|.lst Pd) ps cl:=#[C.1,λi q d h1 h2=>by
  have e:=C.2 i q d h1 h2;have n1:q≠D:=λz=>by rw[z,hD] at e;cases e
  rw[jj n1,jj<|jh e hp];exact e]
 exact k.snoc (jB WA jd)
def uc (c:Int×Int×Int) (n:Nat):List (Int×Int×Int):=((Yk n).filter λ(k:Nat)=>decide ((k:Int)≠c.2.2)).map λ(k:Nat)=>(c.1,c.2.1,(k:Int))
theorem Kt (c:Int×Int×Int) (n:Nat):uc c (n+1)=uc c n++(if (n:Int)≠c.2.2 then [(c.1,c.2.1,(n:Int))] else []):=by
 unfold uc;rw[Y8,QH,yk];congr 1;by_cases h:(n)=c.2.2<;>simp [h]
def VG (c:Int×Int×Int) (ho:Bool) (n:Nat):List (Int×Int×Int):=UN c++(if ho=true then uc c n else [])
theorem Mb (c:Int×Int×Int) (ho:Bool) (n:Nat):(VG c ho n).length<=4+n:=by
 unfold VG;rw[ye];have h1:(UN c).length=4:=rfl;have h2:(uc c n).length<=n:=by
  unfold uc;rw[yb];exact ym (y8 _ _) (by rw[aaL];exact yh _)
 split
 ·lia
 ·rw[h1];show 4+0<=_;lia
theorem jy.key {cl:DT} (C:jy H ps cl):jP H ps (cl.map k3):=#[by rw[yb];exact C.1,λi b k h1 h2=>by
 obtain⟨c,e,rfl⟩:=jX h2;exact C.2 i b c h1 e]
theorem jy.app {qs:DZ}{cl dl:DT} (C:jy H ps cl) (D:jy H qs dl):jy H (ps++qs) (cl++dl):=#[by rw[ye,ye,C.1,D.1],λi q d h1 h2=>by
 by_cases h:i<ps.length
 ·rw[yn h] at h1;rw[yn<|C.1▸h] at h2;exact C.2 i q d h1 h2
 ·rw[yl (by lia)] at h1;rw[yl (by rw[<-C.1];lia),<-C.1] at h2;exact D.2 _ q d h1 h2]
theorem jy.wr {cl:DT} (C:jy H ps cl) (hD:H D=some (.lst ys)):jy (upd H D<|.lst Pd) ps cl:=#[C.1,λi q d h1 h2=>by
 have e:=C.2 i q d h1 h2;rw[jj<|jA e hD];exact e]
def AM:Sp:=λvs H Q _=>E5 λ(p:Addr) (x y z:Int) (l:Nat)=>A4 (vs=[.ref p,.int l]) (H p=some (.tup [.int x,.int y,.int z])) (l<=100) (∀D ps H',Same H H'->H D=none->H' D=some (.lst<|ps.map V.ref)->jy H' ps (uc (x,y,z) l)->Q (.ref D) H')
theorem Vx (T:Txt K mg t):jS P w K mg base 1 "over_and_under" [E0,XV] AM:=by
 refine T.GS.ok [E0,XV] ?_;rintro _ H Q E ⟨p,x,y,z,l,rfl,hp,hl,q⟩;refine#[rfl,λEm A outer s hr=>#[_,(jk (jC (Jx (own:=["z"]) (UT) (uE rfl T.uX<|ja (pv 1) jf) (λ_ _ _ _ _=>jw 2) (λ_ _ _ _ _=>UG<|j5 Ks (pv 2)<|ju jr (pv 0) jg) (λ_ _ _ _ _=>(jN<|ja (ju jr (pv 0) jg)<|ja (ju jr (pv 0) jg)<|ja (pv 2) jf))))),?_]];refine#[_,rfl,by lia,by lia,zF (λD i ys H'=>A5 _ (Same H H') (H' D=some (.lst ys)) (ys.length<=i) (∃ps:List Addr,ys=ps.map V.ref/\jy H' ps (uc (x,y,z) i))) (by exact ym hl (by decide)) (λD hD=>#[hD,jm (Same.refl H) hD,jd,yh _,[],rfl,#[rfl,λi p c h=>by cases h]]) (λD i ys H' hv=>#[hv.3,hv.4]) ?_ ?_]
 ·rintro D i ys H' Qy Qn hi ⟨d1,d2,d3,d4,ps,rfl,C⟩ hy hn;have e0:(0)+(i:Int)=(i):=by lia
  rw[e0];have ES:=d2 _ _ hp;refine#[#[_,rfl,rfl],_,_,jx.of ES,rfl,rfl,JP (λhf=>?_) λht=>hn _ #[d1,d2,d3,by lia,ps,rfl,?_]]
  ·have Ey:(i)≠z:=λe=>of_decide_eq_false hf<|congrArg V.int e;refine#[_,_,jx.of ES,rfl,_,_,jx.of ES,rfl,(by show 3<=sizeLine;decide),λp1 FZ=>?_];refine hy _ _ (jB (jh d3 FZ) d3) #[d1,λb u e=>?_,jd,by rw[ye];exact Qb d4,ps++[p1],by rw[yk];rfl,?_]
   ·have:=d2 b u e;rw[jj<|jh e d1,jj<|jh this FZ];exact this
   ·rw[Kt,if_pos Ey];exact C.add FZ d3
  ·have he:=by have:=of_decide_eq_true ht;injection this
   rw[Kt,if_neg (by simp [he]),yK];exact C
 ·rintro D ys H' hD ⟨d1,d2,d3,d4,ps,rfl,C⟩;rw[yY] at C;exact q D ps H' d2 d1 d3 C
def jJ (cs ds:jF) (w h:Int) (l:Nat) (c:Int×Int×Int):List (Int×Int×Int):=(VG c (jH c.1 w&&jH c.2.1 h&&(jD ds [.inl c.1,.inl c.2.1]).isSome) l).filter (Ue cs w h l)
def wM (C:Addr):Sp:=λvs H Q _=>bM λ(o dx c d p:Addr) (w h x y z:Int) (l:Nat) (cs ds:jF)=>A7 (vs=[.ref o,.ref p]) (H o=some (.ins C dx<|fB w h l c d)) (H c=some (.dT cs)) (H d=some (.dT ds)) (l<=3) (H p=some (.tup [.int x,.int y,.int z])) (∀r bs ks H',Same H H'->H r=none->H' r=some (.lst<|bs.map V.ref)->jP H' bs ks->ks.Perm ((jJ cs ds w h l (x,y,z)).map k3)->(ks.Pairwise λa b=>lx b a=false)->Q (.ref r) H')
theorem MT (T:Txt K mg t):jS P w K mg base 5 "neighbours" [FM,E0] (wM t.jq):=by
 refine T.nG.ok [FM,E0,"spots"] ?_;rintro _ H Q E ⟨o,dx,c,d,p,w,h,x,y,z,l,cs,ds,rfl,ho,hc,hd,hl,hp,q⟩;refine#[rfl,λEm A outer s hr=>#[_,(ji (jv 2<|jn (mS T)<|ja (pv 1) jf) (ji (j9 (JS<|Jy (pv 0) (Gm T)<|ja (ju jr (pv 1) jg)<|ja (ju jr (pv 1) jg) jf) (jk<|jQ<|UA Yc Yi Yg U3 (pv 2)<|ja (jn (Vx T)<|ja (pv 1)<|ja (jM<|pv 0) jf) jf) jW) (jk (jC (jU VV (by rfl) T.Ux Uu (ja (Jx (own:=["spot"]) (UT (cl:=[(FM,_)])) (jV<|pv 2) (λ_ _ _ _ _=>jw 3) (λ_ _ _ _ _=>UG<|JS<|Jy (pv 0) (Vm T)<|ja (ju jr (pv 3) jg)<|ja (ju jr (pv 3) jg)<|ja (ju jr (pv 3) jg) jf) (λ_ _ _ _ _=>(pv 3))) jf)))))),?_]];refine#[p,x,y,z,rfl,hp,λD ps H1 s1 Pf eD C1=>?_];refine JV ?_;dsimp only;refine uZ (λσ H'=>∃ps:List Addr,A4 (σ=[some<|.ref o,some<|.ref p,some<|.ref D]) (Same H H') (H' D=some (.lst<|ps.map V.ref))<|jy H' ps<|VG (x,y,z) (jH x w&&jH y h&&(jD ds [.inl x,.inl y]).isSome) l) (λB hB=>?_) ?_
 ·have S1:jx K H1 p _:=jx.of<|s1 _ _ hp;refine#[o,dx,_,rfl,s1 _ _ ho,rfl,_,_,S1,rfl,_,_,S1,rfl,o,dx,c,d,w,h,l,x,y,ds,rfl,s1 _ _ ho,s1 _ _ hd,λH2 s2=>?_];have HU:=Same.trans s1 s2;cases hh:(jH x w&&jH y h&&(jD ds [.inl x,.inl y]).isSome) with
  | false =>
   refine uT<|hB _ _ #[ps,rfl,HU,s2 _ _ eD,?_];rw[hh];show jy H2 ps (UN _++[]);rw[yK];exact C1.same s2
  | true =>
   refine JE #[.inl #[rfl,_,jt.of<|s2 _ _ eD],o,_,dx,_,_,rfl,HU _ _ ho,T.jz,T.JA,rfl,p,x,y,z,l,rfl,HU _ _ hp,by lia,λD2 qs H3 s3 FK HG C2=>?_];have Oc:=s3 _ _<|s2 _ _ eD;have nD:D≠D2:=λe=>by rw[<-e,s2 _ _ eD] at FK;cases FK
   have len:=Mb (x,y,z) true l;refine#[D,D2,_,_,rfl,rfl,Oc,HG,?_,hB _ _ #[_,rfl,λb u e=>?_,by rw[jd,yk],?_]]
   ·rw[yb,yb,C1.1,C2.1];unfold VG at len;rw[ye,if_pos rfl] at len;exact ym len (ym (show 4+l<=7 by lia) (by decide))
   ·rw[jj<|jh e Pf];exact s3 _ _ (HU _ _ e)
   ·rw[hh];show jy _ _ (UN _++uc _ l);exact (((C1.same s2).same s3).app C2).wr Oc
 ·rintro σ H2 ⟨qs,rfl,s2,e2,C2⟩;have hlen:=Mb (x,y,z) (jH x w&&jH y h&&(jD ds [.inl x,.inl y]).isSome) l;have Ey:jJ cs ds w h l (x,y,z)=(VG _ (jH x w&&jH y h&&(jD ds [.inl x,.inl y]).isSome) l).filter _:=rfl;rw[Ey] at q;clear Ey;generalize VG _ _ l=SP at C2 hlen q;refine#[D,rfl,#[_,jt.of e2],uj (λD2 i ys H'=>A5 _ (Same H2 H') (H' D2=some (.lst ys)) (ys.length<=i) (∃rs:List Addr,ys=rs.map V.ref/\jy H' rs ((SP.take i).filter<|Ue cs w h l))) (by rw[yb,C2.1];exact ym hlen (ym (show 4+l<=7 by lia) (by decide))) (λD2 FK=>#[FK,jm (Same.refl _) FK,jd,yh _,[],rfl,#[rfl,λi p c h=>by cases h]]) (λD2 i ys H' hv=>#[hv.3,hv.4,jt.of<|hv.2 _ _ e2]) ?_ ?_]
  ·rintro D2 i v ys H' Qy Qn hx ⟨d1,d2,d3,d4,rs,rfl,C⟩ hy hn;obtain⟨r,FL,rfl⟩:=jX hx;have hi:i<SP.length:=by rw[<-C2.1];exact (yd.mp FL).1
   have hs:=yc hi;have er:=d2 _ _<|C2.2 i r _ FL hs;have tk:∀b:Bool,Ue cs w h l SP[i]=b->(SP.take _).filter (Ue cs w h l)=(SP.take i).filter (Ue cs w h l)++(if b=true then [SP[i]] else []):=λb hb=>by
    rw[YW,hs,QH];cases b<;>simp [hb]
   generalize SP[i]=cc at er tk;have EG:=d2 _ _<|s2 _ _ ho;have R:jx K H' r _:=jx.of er;refine#[#[_,rfl,rfl],o,dx,_,rfl,EG,rfl,_,_,R,rfl,_,_,R,rfl,_,_,R,rfl,o,dx,c,d,w,h,l,_,_,_,cs,rfl,EG,d2 _ _<|s2 _ _ hc,λH3 s3=>?_];have LG:(jH _ w&&jH _ h&&jH _ l&&(jD cs [.inl _,.inl _,.inl _]).isSome)=Ue cs w h l cc:=rfl;rw[LG];have Fj:=s3 _ _ d3;cases hb:Ue cs w h l cc with
   | true =>
    refine JE (hy _ _ Fj #[d1,λb u e=>?_,jd,by rw[ye];exact Qb d4,rs++[r],by rw[yk];rfl,?_])
    ·rw[jj<|jh e d1];exact s3 _ _ (d2 _ _ e)
    ·rw[tk true hb,if_pos rfl];exact ((C.same s3).snoc<|s3 _ _ er).wr Fj
   | false =>
    refine uT (hn _ #[d1,Same.trans d2 s3,Fj,by lia,rs,rfl,?_]);rw[tk false hb,if_neg (by decide),yK];exact C.same s3
  ·rintro D2 ys H3 FK ⟨d1,d2,d3,d4,rs,rfl,C⟩;rw[yb,C2.1,yW] at C;refine#[D2,rs,_,[true,true,true],rfl,d3,C.key,λk hk=>?_,by decide,λr bs ks hr ka pm up=>?_]
   ·obtain⟨cc,_,rfl⟩:=yf.mp hk
    rfl
   ·have s3:=Same.trans s2 d2;have Im:H r=none:=by
     cases e:H r with
     | none=>rfl
     | some u=>rw[s3 _ _ e] at hr;cases hr
    exact q r bs ks _ (jm s3 hr) Im jd #[ka.1,λi b k h1 h2=>by
     have:=ka.2 i b k h1 h2;rw[jj<|jh this hr];exact this] pm up
structure ui (cs:jF) (w h l:Nat):Prop where
 val:∀kv∈cs,kv.2=.bl true
 key:∀kv∈cs,∃x y z:Nat,x<w/\y<h/\z<l/\kv.1=[.inl (x:Int),.inl (y:Int),.inl (z:Int)]
 nd:(cs.map (·.1)).Nodup
structure u9 (ds:jF) (w h:Nat):Prop where
 val:∀kv∈ds,kv.2=.bl true
 key:∀kv∈ds,∃x y:Nat,x<w/\y<h/\kv.1=[.inl (x:Int),.inl (y:Int)]
 nd:(ds.map (·.1)).Nodup
theorem Gc {kv:List Key×V} (h:kv∈jZ cs k (.bl true)):kv∈cs\/kv=(k,.bl true):=by
 cases e:jD cs k with
 | none =>
  rw[U8 _ e] at h;rcases yj.mp h with h|h
  ·exact .inl h
  ·exact .inr (yi.mp h)
 | some v =>
  unfold jZ at h;rw[if_pos (by rw[Ud,e];rfl)] at h;obtain⟨x,hx,rfl⟩:=yf.mp h;split
  ·rename_i e2;exact .inr (by rw[e2])
  ·exact .inl hx
theorem lZ (n:(cs.map (·.1)).Nodup):((jZ cs k<|.bl true).map (·.1)).Nodup:=by
 cases e:jD cs k with
 | none =>
  rw[U8 _ e,yk];refine Qw.mpr #[n,by simp,λa ha b hb z=>?_];rw[yR,aaK,yi] at hb;have:(jD cs k).isSome=true:=by
   rw[<-Ud];obtain⟨x,hx,e2⟩:=yf.mp ha;exact QX.mpr #[x,hx,decide_eq_true (by rw[e2,z,hb])]
  rw[e] at this;cases this
 | some v =>
  have:(jZ cs k<|.bl true).map (·.1)=cs.map (·.1):=by
   unfold jZ;rw[if_pos (by rw[Ud,e];rfl),yS];refine Qx λx _=>?_;show (if x.1=k then (x.1,V.bl true) else x).1=x.1
   split<;>rfl
  rw[this];exact n
theorem ui.put {w x z:Nat} (T:ui cs w h l) (hx:x<w) (hy:y<h) (hz:z<l):ui (jZ cs [.inl (x:Int),.inl (y:Int),.inl (z:Int)]<|.bl true) w h l:=by
 refine#[λkv EX=>?_,λkv EX=>?_,lZ T.nd]
 ·rcases Gc EX with h|rfl
  ·exact T.val kv h
  ·rfl
 ·rcases Gc EX with h|rfl
  ·exact T.key kv h
  ·exact#[x,y,z,hx,hy,hz,rfl]
theorem u9.put {w x:Nat} (T:u9 ds w h) (hx:x<w) (hy:y<h):u9 (jZ ds [.inl (x:Int),.inl (y:Int)]<|.bl true) w h:=by
 refine#[λkv EX=>?_,λkv EX=>?_,lZ T.nd]
 ·rcases Gc EX with h|rfl
  ·exact T.val kv h
  ·rfl
 ·rcases Gc EX with h|rfl
  ·exact T.key kv h
  ·exact#[x,y,hx,hy,rfl]
theorem ui.nil (w h l:Nat):ui [] w h l:=#[λ_ h=>absurd h (by simp),λ_ h=>absurd h (by simp),YX]
theorem u9.nil (w h:Nat):u9 [] w h:=#[λ_ h=>absurd h (by simp),λ_ h=>absurd h (by simp),YX]
theorem gG {w:Nat}:∀(cl:DT) (cs:jF),ui cs w h l->(∀c∈cl,∃x y z:Nat,x<w/\y<h/\z<l/\c=((x:Int),(y:Int),(z:Int)))->ui (UH cs cl) w h l
 | [],cs,T,_=>T
 | c::r,cs,T,hc=>by
  obtain⟨x,y,z,hx,hy,hz,rfl⟩:=hc c<|yE ..;exact gG r _ (T.put hx hy hz) λc h=>hc c (yH _ h)
theorem vt {c e:Int×Int×Int}{n:Nat}:e∈uc c n↔e.1=c.1/\e.2.1=c.2.1/\0<=e.2.2/\e.2.2<n/\e.2.2≠c.2.2:=by
 unfold uc;rw[yf];constructor
 ·rintro⟨k,hk,rfl⟩;obtain⟨h1,h2⟩:=yZ.mp hk;have h3:=Qs.mp h1;have h4:=of_decide_eq_true h2;exact#[rfl,rfl,by lia,by lia,h4]
 ·rintro⟨h1,h2,h3,h4,h5⟩;obtain⟨x,y,z⟩:=e;simp only at h1 h2 h3 h4 h5;refine#[z.toNat,yZ.mpr #[Qs.mpr (by lia),decide_eq_true ?_],?_]
  ·rw[abB h3];exact h5
  ·rw[abB h3,h1,h2]
theorem G4 {c e:Int×Int×Int}:e∈UN c↔e.2.2=c.2.2/\((e.2.1=c.2.1/\(e.1=c.1 - 1\/e.1=c.1+1))\/(e.1=c.1/\(e.2.1=c.2.1 - 1\/e.2.1=c.2.1+1))):=by
 obtain⟨x,y,z⟩:=e;obtain⟨a,b,d⟩:=c;unfold UN;simp only[yz,Qq,or_false,abG];constructor
 ·rintro (⟨h1,h2,h3⟩|⟨h1,h2,h3⟩|⟨h1,h2,h3⟩|⟨h1,h2,h3⟩)<;>first|exact#[h3,.inl #[h2,.inl h1]]|exact#[h3,.inl #[h2,.inr h1]]|exact#[h3,.inr #[h1,.inl h2]]|exact#[h3,.inr #[h1,.inr h2]]
 ·rintro⟨h3,⟨h2,h1|h1⟩|⟨h1,h2|h2⟩⟩<;>first|exact .inl #[h1,h2,h3]|exact .inr (.inl #[h1,h2,h3])|exact .inr (.inr<|.inl #[h1,h2,h3])|exact .inr (.inr<|.inr #[h1,h2,h3])
def xr (ds:jF) (w h:Int) (a b:Int×Int×Int):Bool :=
 if a=b then false else if a.1=b.1/\a.2.1=b.2.1 then jH a.1 w&&jH a.2.1 h&&(jD ds [.inl a.1,.inl a.2.1]).isSome else decide (a.2.2=b.2.2)&&decide ((if a.1 - b.1<0 then -(a.1 - b.1) else a.1 - b.1)+(if a.2.1 - b.2.1<0 then -(a.2.1 - b.2.1) else a.2.1 - b.2.1)=1)
theorem Cj {u:Int}:(if u<0 then -u else u)=0↔u=0:=by split<;>lia
theorem Ck {u:Int}:(if u<0 then -u else u)=1↔u=1\/u=-1:=by split<;>lia
theorem Cl (u:Int):0<=if u<0 then -u else u:=by split<;>lia
theorem CJ {a b x y:Int}:(if a - x<0 then -(a - x) else a - x)+(if b - y<0 then -(b - y) else b - y)=1↔((y=b/\(x=a - 1\/x=a+1))\/(x=a/\(y=b - 1\/y=b+1))):=by
 have h:∀A B:Int,0<=A->0<=B->(A+B=1↔(B=0/\A=1)\/(A=0/\B=1)):=λ_ _ _ _=>by lia
 have g:∀u v:Int,(u - v=0↔v=u)/\(u - v=1↔v=u - 1)/\(u - v=-1↔v=u+1):=λ_ _=>by lia
 rw[h _ _ (Cl _)<|Cl _,Cj,Ck,Cj,Ck,(g _ _).1,(g _ _).1,(g a x).2.1,(g a x).2.2,(g b y).2.1,(g b y).2.2]
theorem NI {w h:Int}{c e:Int×Int×Int} (hc:uM w h l c=true) (he:Ue cs w h l e=true):e∈jJ cs ds w h l c↔xr ds w h c e=true:=by
 have Le:=by unfold Ue at he;rw[yU] at he;exact he.1
 obtain⟨x,y,z⟩:=e;obtain⟨a,b,d⟩:=c;have i1:(0<=x/\x<w)/\(0<=y/\y<h)/\(0<=z/\z<l):=by simpa [uM,jH,and_assoc] using Le
 have i2:(0<=a/\a<w)/\(0<=b/\b<h)/\(0<=d/\d<l):=by simpa [uM,jH,and_assoc] using hc
 unfold jJ VG xr;rw[yZ,yj,G4];simp only[he,and_true,abG];have EK:(jH a w&&jH b h)=true:=by simp [jH,i2.1,i2.2.1]
 rw[EK,QM];have no:∀{u:Int},¬(u=u - 1\/u=u+1):=by lia
 by_cases e1:a=x/\b=y/\d=z
 ·obtain⟨rfl,rfl,rfl⟩:=e1;rw[if_pos (show a=a/\b=b/\d=d from#[rfl,rfl,rfl])];refine#[λq=>?_,λq=>(nomatch q)];rcases q with ⟨_,⟨_,q⟩|⟨_,q⟩⟩|q
  ·exact absurd q no
  ·exact absurd q no
  ·split at q
   ·exact absurd rfl (vt.mp q).2.2.2.2
   ·cases q
 ·rw[if_neg e1];by_cases e2:a=x/\b=y
  ·obtain⟨rfl,rfl⟩:=e2;rw[if_pos (show a=a/\b=b from#[rfl,rfl])];have nz:d≠z:=λq=>e1 #[rfl,rfl,q];rw[or_iff_right λq=>nz q.1.symm];split
   ·rename_i t;rw[t,vt];exact#[λ_=>rfl,λ_=>#[rfl,rfl,i1.2.2.1,i1.2.2.2,λq=>nz q.symm]]
   ·rename_i t;exact#[λq=>(nomatch q),λq=>absurd q t]
  ·rw[if_neg e2,yU,decide_eq_true_iff,decide_eq_true_iff,CJ,or_iff_left,@eq_comm _ d];intro q
   split at q
   ·exact e2 #[(vt.mp q).1.symm,(vt.mp q).2.1.symm]
   ·cases q
theorem vB:∀{a b:List (List Key)},a.Perm b->(a.Pairwise λx y=>lx y x=false)->(b.Pairwise λx y=>lx y x=false)->a=b
 | [],b,p,_,_=>(List.nil_perm.mp p).symm
 | x::a,b,p,ha,hb=>by
  cases b with
  | nil=>exact absurd (List.perm_nil.mp p) (by simp)
  | cons y b =>
   obtain⟨h1,L4⟩:=QO.mp ha;obtain⟨h2,FI⟩:=QO.mp hb;have e:x=y:=by
    rcases yz.mp (p.mem_iff.mp<|yE ..) with e|hx
    ·exact e
    ·rcases yz.mp (p.mem_iff.mpr<|yE ..) with e|hy
     ·exact e.symm
     ·exact Ki (h2 x hx) (h1 y hy)
   subst e;rw[vB (abR x |>.mp p) L4 FI]
theorem JG {a b:Int×Int×Int} (h:k3 a=k3 b):a=b:=by
 obtain⟨x,y,z⟩:=a;obtain⟨u,v,r⟩:=b;unfold k3 at h;injection h with e1 h
 injection h with e2 h
 injection h with e3 _
 injection e1 with e1
 injection e2 with e2
 injection e3 with e3
 simp only at e1 e2 e3;rw[e1,e2,e3]
def Jm (c:Addr) (H H':Hp):Prop:=∀b u,b≠c->H b=some u->H' b=some u
theorem Jm.same {c:Addr} (f:Jm c H H1) (s:Same H1 H2):Jm c H H2:=λb u n e=>s _ _ (f b u n e)
theorem uH {a w:Nat} (h:a<w):jH (a:Int) (w:Int)=true:=by unfold jH;simp;omega
theorem Aq {w:Nat}{cl:DT} (hc:∀c∈cl,∃x y z:Nat,x<w/\y<h/\z<l/\c=((x:Int),(y:Int),(z:Int))):cl.all (uM (w:Int) (h:Int) (l:Int))=true:=y6.mpr λc hx=>by
 obtain⟨x,y,z,h1,h2,h3,rfl⟩:=hc c hx;show (jH (x:Int) (w:Int)&&jH (y:Int) (h:Int)&&jH (z:Int) (l:Int))=true;rw[uH h1,uH h2,uH h3];rfl
theorem uO {H':Hp}{a:Addr}{xs:List V} (e:Same H H') (h:jt K H a xs):jt K H' a xs:=by
 rcases h with (h|h)|h
 ·exact .inl (.inl<|e _ _ h)
 ·exact .inl (.inr (by obtain⟨o,q⟩:=h;exact#[o,e _ _ q]))
 ·exact .inr h
theorem wT {H':Hp}{a c:Addr}{xs:List V}{u:jF} (h:jt K H a xs) (hc:H c=some (.dT u)) (f:Jm c H H'):jt K H' a xs:=by
 rcases h with (h|⟨o,h⟩)|h
 ·exact .inl (.inl<|f _ _ (jA h hc) h)
 ·exact .inl (.inr #[o,f _ _ (jA h hc) h])
 ·exact .inr h
structure Bd (C:Addr) (H:Hp) (o dx c d:Addr) (w h l:Nat) (cs ds:jF):Prop where
 o:H o=some (.ins C dx<|fB w h l c d)
 c:H c=some (.dT cs)
 d:H d=some (.dT ds)
 C:ui cs w h l
 D:u9 ds w h
theorem Bd.same {H':Hp}{c:Addr}{w:Nat} (B:Bd C H o dx c d w h l cs ds) (s:Same H H'):Bd C H' o dx c d w h l cs ds:=#[s _ _ B.o,s _ _ B.c,s _ _ B.d,B.C,B.D]
theorem ui.sds {w:Nat} (T:ui cs w h l):∀kv∈cs,sd kv.1=[true,true,true]:=λkv EX=>by
 obtain⟨x,y,z,_,_,_,e⟩:=T.key kv EX;rw[e];rfl
theorem u9.sds {w:Nat} (T:u9 ds w h):∀kv∈ds,sd kv.1=[true,true]:=λkv EX=>by
 obtain⟨x,y,_,_,e⟩:=T.key kv EX;rw[e];rfl
def Vz:List Key->Int×Int×Int
 | [.inl x,.inl y,.inl z]=>(x,y,z)
 | _=>(0,0,0)
theorem UK:(jD cs k).isSome=true↔k∈cs.map (·.1):=by
 rw[<-Ud];constructor
 ·intro h;obtain⟨x,hx,e⟩:=QX.mp h;exact yf.mpr #[x,hx,of_decide_eq_true e]
 ·intro h;obtain⟨x,hx,e⟩:=yf.mp h;exact QX.mpr #[x,hx,decide_eq_true e]
theorem VW {w:Nat} (T:ui cs w h l) {ks:List (List Key)} (pm:ks.Perm (cs.map (·.1))):∃cells:List (Int×Int×Int),ks=cells.map k3/\cells.Nodup/\∀e,e∈cells↔Ue cs w h l e=true:=by
 have hk:∀k∈ks,∃x y z:Nat,x<w/\y<h/\z<l/\k=k3 ((x),(y),(z)):=λk hk=>by
  obtain⟨kv,h1,rfl⟩:=yf.mp<|pm.mem_iff.mp hk;exact T.key kv h1
 have e:ks=(ks.map Vz).map k3:=by
  rw[yS];exact ((Qx λk h=>by obtain⟨x,y,z,_,_,_,rfl⟩:=hk k h;rfl).trans<|aaB ks).symm
 refine#[_,e,?_,λc=>?_]
 ·have nk:=pm.nodup_iff.mpr T.nd;rw[e] at nk;exact List.Pairwise.of_map k3 (λa b h e=>h (by rw[e])) nk
 ·have m:c∈ks.map Vz↔k3 c∈ks:=by
   constructor
   ·intro h;obtain⟨k,h1,rfl⟩:=yf.mp h;obtain⟨x,y,z,_,_,_,rfl⟩:=hk k h1;exact h1
   ·intro h;exact yf.mpr #[_,h,rfl]
  rw[m,pm.mem_iff,<-UK];constructor
  ·intro h;unfold Ue;rw[h,Bool.and_true];obtain⟨x,y,z,a1,a2,a3,e⟩:=hk _<|pm.mem_iff.mpr<|UK.mp h;rw[JG e];show (jH (x) _&&jH (y) _&&jH (z) _)=true;rw[uH a1,uH a2,uH a3];rfl
  ·intro h;unfold Ue at h;rw[yU] at h;exact h.2
theorem jy.of_key {cl:DT} (k:jP H ps (cl.map k3)):jy H ps cl:=#[by rw[k.1,yb],λi p c h1 h2=>k.2 i p (k3 c) h1 (by rw[yo,h2];rfl)]
def l3 (c:Int×Int×Int):List Int:=[c.1,c.2.1,c.2.2]
theorem Aa {a b:Int×Int×Int} (h:l3 a=l3 b):a=b:=by
 obtain⟨x,y,z⟩:=a;obtain⟨u,v,r⟩:=b;unfold l3 at h;simpa using h
theorem jy.dt {c:Addr}{cl:DT}{u:jF} (C:jy H ps cl) (hc:H c=some (.dT u)):jy (upd H c<|.dT u') ps cl:=#[C.1,λi q d h1 h2=>by
 have e:=C.2 i q d h1 h2;rw[jj<|jA e hc];exact e]
theorem V4 {c p:Addr}{u:jF} (e:H p=some (.lst ys)) (hc:H c=some (.dT u)):upd H c (.dT u') p=some (.lst ys):=by
 rw[jj<|jA e hc];exact e
theorem jP.same {H':Hp}{bs:DZ}{ks:List (List Key)} (k:jP H bs ks) (s:Same H H'):jP H' bs ks:=#[k.1,λi p c h1 h2=>s _ _<|k.2 i p c h1 h2]
abbrev je:=Int×Int×Int
inductive Jr (N:je->List je) (s:je):je->Prop where
 | refl:Jr N s s
 | step {a b:je}:Jr N s a->b∈N a->Jr N s b
theorem Jr.trans {a b c:je} (h1:Jr N a b) (h2:Jr N b c):Jr N a c:=by
 induction h2 with
 | refl=>exact h1
 | step _ m ih=>exact .step ih m
structure Nb (N:je->List je) (cells:List je):Prop where
 on:∀a∈cells,∀b∈N a,b∈cells
 sym:∀a∈cells,∀b∈N a,a∈N b
theorem Jr.on {cells:List je} (B:Nb N cells) {a b:je} (ha:a∈cells) (h:Jr N a b):b∈cells:=by
 induction h with
 | refl=>exact ha
 | step _ m ih=>exact B.on _ ih _ m
theorem Jr.symm {cells:List je} (B:Nb N cells) {a b:je} (ha:a∈cells) (h:Jr N a b):Jr N b a:=by
 induction h with
 | refl=>exact .refl
 | @step c d h1 m ih=>exact Jr.trans (Jr.step .refl<|B.sym c (h1.on B ha) d m) ih
noncomputable def rB (N:je->List je) (c e:je):Bool:=@decide (Jr N c e) (Yu _)
theorem Vp {c:je}:rB N c e=true↔Jr N c e:=@decide_eq_true_iff _ (Yu _)
noncomputable def JF (N:je->List je) (cells:List je) (c:je):List je:=cells.filter (rB N c)
theorem uq {cells:List je} (B:Nb N cells) {c:je} (hc:c∈cells):e∈JF N cells c↔Jr N c e:=by
 unfold JF;rw[yZ,Vp];exact#[λh=>h.2,λh=>#[h.on B hc,h]]
theorem k6 {cells:List je} (B:Nb N cells) {a b:je} (ha:a∈cells) (h:Jr N a b):JF N cells b=JF N cells a:=by
 unfold JF;refine aak λe _=>?_;rw[y4,Vp,Vp];exact#[λg=>h.trans g,λg=>(h.symm B ha).trans g]
theorem cw (N:je->List je) (cells:List je) (c:je):(JF N cells c).length<=cells.length:=y8 _ _
noncomputable def Jk (N:je->List je) (cs:List je):List je:=cs.foldl (λrs c=>@ite _ (∃r∈rs,Jr N r c) (Yu _) rs<|rs++[c]) []
theorem m7 (N:je->List je) (cs:List je) (c:je):Jk N (cs++[c])=@ite _ (∃r∈Jk N cs,Jr N r c) (Yu _) (Jk N cs) (Jk N cs++[c]):=by
 unfold Jk;rw[aaM]
 rfl
structure Ch (N:je->List je) (cs rs:List je):Prop where
 sub:rs.Sublist cs
 cov:∀c∈cs,∃r∈rs,Jr N r c
 apart:rs.Pairwise λa b=>¬Jr N a b
 first:∀r∈rs,∃p q,cs=p++r::q/\∀e∈p,¬Jr N r e
theorem Vc {cells:List je} (B:Nb N cells) (cs:List je):(∀c∈cs,c∈cells)->Ch N cs (Jk N cs):=by
 have key:∀n,n<=cs.length->(∀c∈cs,c∈cells)->Ch N (cs.take n) (Jk N<|cs.take n):=by
  intro n
  induction n with
  | zero=>intro _ _;exact#[by simp [Jk],(λc h=>by simp at h),by simp [Jk],(λr h=>by simp [Jk] at h)]
  | succ n ih =>
   intro hn EK;have I:=ih (by lia) EK;have e:cs.take (n+1)=cs.take n++[cs[n]]:=by rw[Qm,yc _];rfl
   have hm:=EK _ (yV (show n<cs.length by lia));have HD:∀a∈cs.take n,a∈cells:=λa h=>EK a<|Qp h;rw[e,m7];generalize cs[n]=c at hm;generalize cs.take n=pre at I HD;by_cases h:∃r∈Jk N pre,Jr N r c
   ·rw[if_pos h];refine#[I.sub.trans<|abb _ _,λa ha=>?_,I.apart,λr hr=>?_]
    ·rcases yj.mp ha with ha|ha
     ·exact I.cov a ha
     ·rw[yi] at ha;subst ha;exact h
    ·obtain⟨p,q,e1,e2⟩:=I.first r hr;exact#[p,q++[c],by rw[e1];simp,e2]
   ·rw[if_neg h];refine#[I.sub.append<|List.Sublist.refl _,λa ha=>?_,?_,λr hr=>?_]
    ·rcases yj.mp ha with ha|ha
     ·obtain⟨r,h1,h2⟩:=I.cov a ha;exact#[r,yu _ h1,h2]
     ·rw[yi] at ha;subst ha;exact#[a,by simp,.refl]
    ·refine yC.mpr #[I.apart,by simp,λa ha b hb g=>?_];rw[yi] at hb;subst hb;exact h #[a,ha,g]
    ·rcases yj.mp hr with hr|hr
     ·obtain⟨p,q,e1,e2⟩:=I.first r hr;exact#[p,q++[c],by rw[e1];simp,e2]
     ·rw[yi] at hr;subst hr;refine#[pre,_,rfl,λe he g=>?_];obtain⟨r',h1,h2⟩:=I.cov e he;exact h #[r',h1,h2.trans<|g.symm B hm]
 intro EK;have:=key cs.length (yh _) EK;rwa [yW] at this
theorem p6 {cells:List je}{r:je}{p q:List je} (e:cells=p++r::q) (h:∀x∈p,¬Jr N r x):∃t,JF N cells r=r::t:=by
 have e1:(p.filter<|rB N r)=[]:=List.filter_eq_nil_iff.mpr λx hx=>by rw[Vp];exact h x hx
 refine#[q.filter<|rB N r,?_];unfold JF;rw[e,QH,e1,QP,List.filter_cons,if_pos<|Vp.mpr Jr.refl]
theorem Zp:∀{ls:List (List je)},(∀l∈ls,l.Nodup)->(ls.Pairwise λa b=>∀x∈a,∀y∈b,x≠y)->ls.flatten.Nodup
 | [],_,_=>by simp
 | l::ls,h1,h2=>by
  obtain⟨p1,p2⟩:=QO.mp h2;rw[List.flatten_cons];refine Qw.mpr #[h1 l<|yE ..,Zp (λa ha=>h1 a<|yH _ ha) p2,λa ha b hb=>?_];obtain⟨m,hm,hb⟩:=List.mem_flatten.mp hb;exact p1 m hm a ha b hb
theorem iQ {cells:List je} (B:Nb N cells) (nd:cells.Nodup):((Jk N cells).map<|JF N cells).flatten.Perm cells:=by
 have I:=Vc B cells λ_ h=>h;have on:∀r∈Jk N cells,r∈cells:=λr h=>I.sub.subset h;refine (y9 ?_ nd).mpr λe=>?_
 ·refine Zp (λl hl=>?_) ?_
  ·obtain⟨r,hr,rfl⟩:=yf.mp hl;exact nd.filter _
  ·refine yT.mpr (I.apart.imp_of_mem λ{a b} ha hb h=>?_);intro x hx y hy z;subst z;exact h (((uq B<|on a ha).mp hx).trans<|((uq B<|on b hb).mp hy).symm B<|on b hb)
 ·rw[List.mem_flatten];constructor
  ·rintro⟨l,hl,he⟩;obtain⟨r,hr,rfl⟩:=yf.mp hl;exact (yZ.mp he).1
  ·intro he;obtain⟨r,hr,g⟩:=I.cov e he;exact#[_,yf.mpr #[r,hr,rfl],(uq B<|on r hr).mpr g]
theorem ur {w h:Int}{cells:List je} (mem:∀e,e∈cells↔Ue cs w h l e=true):Nb (jJ cs ds w h l) cells:=by
 have cu:∀a b,b∈jJ cs ds w h l a->Ue cs w h l b=true:=λa b h=>(yZ.mp h).2;have on:∀a,Ue cs w h l a=true->uM w h l a=true:=λa h=>by unfold Ue at h;rw[yU] at h;exact h.1
 refine#[λa _ b hb=>(mem b).mpr<|cu a b hb,λa ha b hb=>?_];have ca:=(mem a).mp ha;have cb:=cu a b hb;have h1:=(NI (on a ca) cb).mp hb;refine (NI (on b cb) ca).mpr ?_;unfold xr at h1 ⊢;by_cases e:a=b
 ·rw[if_pos e] at h1;cases h1
 ·rw[if_neg e] at h1;rw[if_neg (λz=>e z.symm)];by_cases e2:a.1=b.1/\a.2.1=b.2.1
  ·rw[if_pos e2] at h1;rw[if_pos #[e2.1.symm,e2.2.symm],<-e2.1,<-e2.2];exact h1
  ·rw[if_neg e2] at h1;rw[if_neg (λz=>e2 #[z.1.symm,z.2.symm])];rw[yU,decide_eq_true_iff,decide_eq_true_iff] at h1 ⊢;refine#[h1.1.symm,?_];have:=h1.2
   split at this<;>split at this<;>split<;>split<;>omega
theorem U2:∀{a b:List je},a.Nodup->(∀x∈a,x∈b)->a.length<=b.length
 | [],_,_,_=>yL _
 | x::a,b,nd,h=>by
  obtain⟨n1,n2⟩:=Qo.mp nd;have hx:=h x<|yE ..;have:=U2 (a:=a) (b:=b.erase x) n2 λy hy=>(List.mem_erase_of_ne (λz=>n1 (by rw[<-z];exact hy))).mpr<|h y<|yH _ hy;rw[List.length_erase_of_mem hx] at this;have hp:0<b.length:=List.length_pos_of_mem hx;rw[Qa];omega
structure Vs (N:je->List je) (s:je) (ks todo:List je):Prop where
 nd:ks.Nodup
 st:s∈ks
 rc:∀k∈ks,Jr N s k
 cl:∀k∈ks,k ∉ todo->∀b∈N k,b∈ks
theorem Vs.all {ks:List je} (I:Vs N s ks []) (e:je):e∈ks↔Jr N s e:=by
 refine#[I.rc e,λh=>?_]
 induction h with
 | refl=>exact I.st
 | step _ m ih=>exact I.cl _ ih (by simp) _ m
theorem Vs.start (N:je->List je) (s:je):Vs N s [s] [s]:=#[by simp,by simp,λk h=>by rw[yi] at h;subst h;exact .refl,λk h n=>absurd h n]
theorem Vs.add {c:je}{ks:List je} (I:Vs N s ks todo) (hc:c∈ks) (he:e∈N c) (hn:e ∉ ks):Vs N s (ks++[e]) (todo++[e]):=by
 refine#[Qw.mpr #[I.nd,by simp,λa ha b hb z=>?_],yu _ I.st,λk hk=>?_,λk hk nt b hb=>?_]
 ·rw[yi] at hb;subst hb;subst z;exact hn ha
 ·rcases yj.mp hk with hk|hk
  ·exact I.rc k hk
  ·rw[yi] at hk;subst hk;exact .step (I.rc c hc) he
 ·rcases yj.mp hk with hk|hk
  ·exact yu _ (I.cl k hk (λz=>nt<|yu _ z) b hb)
  ·exact absurd (yr _ hk) nt
theorem Vs.done {c:je}{ks:List je} (I:Vs N s ks (c::t1++t2)) (h:∀b∈N c,b∈ks):Vs N s ks (t1++t2):=by
 refine#[I.nd,I.st,I.rc,λk hk nt b hb=>?_];by_cases e:k=c
 ·subst e;exact h b hb
 ·refine I.cl k hk (λz=>?_) b hb;rw[aaq] at z;rcases yz.mp z with z|z
  ·exact e z
  ·exact nt z
inductive zQ (N:je->List je) (s:je):je->Nat->Prop where
 | nil:zQ N s s 0
 | step {a b:je} {n:Nat}:zQ N s a n->b∈N a->zQ N s b (n+1)
theorem zQ.rch {a b:je}{n:Nat} (h:zQ N a b n):Jr N a b:=by
 induction h with
 | nil=>exact .refl
 | step _ hb ih=>exact .step ih hb
structure fM (N:je->List je) (s:je) (ks:List je) (lv:je->Nat):Prop where
 z:lv s=0
 par:∀e∈ks,e≠s->∃p∈ks,e∈N p/\lv e=lv p+1
 up:∀a∈ks,∀b∈N a,b∈ks/\lv b<=lv a+1
theorem fM.way {ks:List je} (L:fM N s ks lv):∀(n:Nat) (e:je),e∈ks->lv e=n->zQ N s e n
 | 0,e,he,h=>by
  by_cases hs:e=s
  ·rw[hs];exact .nil
  ·obtain⟨p,_,_,h2⟩:=L.par e he hs
   lia
 | n+1,e,he,h=>by
  by_cases hs:e=s
  ·rw[hs,L.z] at h;cases h
  ·obtain⟨p,hp,h1,h2⟩:=L.par e he hs;exact .step (L.way n p hp (by lia)) h1
theorem fM.least {ks:List je} (L:fM N s ks lv) (hs:s∈ks) {n:Nat} (h:zQ N s e n):e∈ks/\lv e<=n:=by
 induction h with
 | nil=>exact#[hs,by rw[L.z];exact yh _]
 | step _ hb ih =>
  obtain⟨h1,h2⟩:=L.up _ ih.1 _ hb;exact#[h1,by lia]
theorem wk {Oe:List (List Key)}{ns:List je} (pm:Oe.Perm (ns.map k3)):∃Io:List je,Oe=Io.map k3/\Io.Perm ns:=by
 have e:Oe=(Oe.map Vz).map k3:=by
  rw[yS];exact ((Qx λk h=>by
   obtain⟨x,_,rfl⟩:=yf.mp (pm.mem_iff.mp h)
   rfl).trans<|aaB Oe).symm
 refine#[Oe.map Vz,e,?_];have:=pm.map Vz;rw[yS] at this;have e2:ns.map (Vz∘k3)=ns:=(Qx λc _=>rfl).trans<|aaB ns;rwa [e2] at this
theorem vq {bk:jF}{ks:List je} (e:bk.map (·.1)=ks.map k3) {c:je}:(jD bk<|k3 c).isSome=true↔c∈ks:=by
 rw[UK,e];constructor
 ·intro h;obtain⟨d,hd,q⟩:=yf.mp h;rw[<-JG q];exact hd
 ·exact λh=>yf.mpr #[c,h,rfl]
theorem ad {bk:jF}{ks:List je} (e:bk.map (·.1)=ks.map k3) {c:je} (n:c ∉ ks):(jZ bk (k3 c) v).map (·.1)=(ks++[c]).map k3:=by
 have hv:jD bk (k3 c)=none:=by
  cases h:jD bk _ with
  | none=>rfl
  | some u=>exact absurd ((vq e).mp (by rw[h];rfl)) n
 rw[U8 _ hv,yk,yk,e];rfl
def zk (N:je->List je) (s:je) (ks:List je) (lv:je->Nat) (bk:jF) (H:Hp):Prop:=∀e∈ks,e≠s->∃q p,jD bk (k3 e)=some (.ref q)/\H q=some (.tup [.int p.1,.int p.2.1,.int p.2.2])/\p∈ks/\e∈N p/\lv e=lv p+1
theorem zk.keep {ks:List je}{bk:jF}{H':Hp} (p:zk N s ks lv bk H) (k:∀q u,H q=some (.tup u)->H' q=some (.tup u)):zk N s ks lv bk H':=λe he hn=>by
 obtain⟨q,c,h1,h2,h3⟩:=p e he hn;exact#[q,c,h1,k _ _ h2,h3]
def M5 (lv:je->Nat) (e:je) (d:Nat):je->Nat:=λx=>if x=e then d else lv x
theorem Ua {x:je}{d:Nat} (h:x≠e):M5 lv e d x=lv x:=if_neg h
theorem G2 (lv:je->Nat) (e:je) (d:Nat):M5 lv e d e=d:=if_pos rfl
theorem zk.add {c:je}{ks:List je}{bk:jF}{q:Addr} (p:zk N s ks lv bk H) (hc:c∈ks) (he:e∈N c) (hn:e ∉ ks) (hq:H q=some (.tup [.int c.1,.int c.2.1,.int c.2.2])):zk N s (ks++[e]) (M5 lv e<|lv c+1) (jZ bk (k3 e)<|.ref q) H:=λx hx hs=>by
 have cn:c≠e:=λz=>hn<|z▸hc;rcases yj.mp hx with hx|hx
 ·have xn:x≠e:=λz=>hn<|z▸hx;obtain⟨r,b,h1,h2,h3,h4,h5⟩:=p x hx hs;have bn:b≠e:=λz=>hn<|z▸h3;refine#[r,b,by rw[uP,if_neg (λz=>xn<|JG z)];exact h1,h2,yu _ h3,h4,by rw[Ua xn,Ua bn];exact h5]
 ·rw[yi] at hx;subst hx;exact#[q,c,by rw[uP,if_pos rfl],hq,yu _ hc,he,by rw[G2,Ua cn]]
structure zj (s:je) (ks Ew EC:List je) (lv:je->Nat) (d:Nat) (N:je->List je) (todo:List je):Prop where
 z:lv s=0
 e:∀x∈Ew,lv x=d
 f:∀x∈EC,lv x=d+1
 le:∀x∈ks,lv x<=d+1
 lo:∀x∈ks,x ∉ EC->lv x<=d
 up:∀a∈ks,a ∉ todo->∀b∈N a,lv b<=lv a+1
theorem zj.add {c:je}{ks:List je}{d:Nat} (L:zj s ks Ew EC lv d N todo) (hs:s∈ks) (hE:∀x∈Ew,x∈ks) (hF:∀x∈EC,x∈ks) (hc:lv c=d) (hn:e ∉ ks) (cl:∀k∈ks,k ∉ todo->∀b∈N k,b∈ks):zj s (ks++[e]) Ew (EC++[e]) (M5 lv e<|lv c+1) d N (todo++[e]):=by
 have ne:∀x∈ks,x≠e:=λx hx z=>hn<|z▸hx;refine#[by rw[Ua<|ne s hs];exact L.z,λx hx=>by rw[Ua<|ne x<|hE x hx];exact L.e x hx,λx hx=>?_,λx hx=>?_,λx hx LF=>?_,λa ha nt b hb=>?_]
 ·rcases yj.mp hx with hx|hx
  ·rw[Ua<|ne x<|hF x hx];exact L.f x hx
  ·rw[yi] at hx;subst hx;rw[G2,hc]
 ·rcases yj.mp hx with hx|hx
  ·rw[Ua<|ne x hx];exact L.le x hx
  ·rw[yi] at hx;subst hx;rw[G2,hc];exact yh _
 ·rcases yj.mp hx with hx|hx
  ·rw[Ua<|ne x hx];exact L.lo x hx λz=>LF (yu _ z)
  ·exact absurd (yr _ hx) LF
 ·rcases yj.mp ha with ha|ha
  ·have z₂:a ∉ todo:=λz=>nt<|yu _ z;rw[Ua<|ne a ha,Ua<|ne b<|cl a ha z₂ b hb];exact L.up a ha z₂ b hb
  ·exact absurd (yr _ ha) nt
theorem zj.done {c:je}{ks:List je}{d:Nat} (L:zj s ks Ew EC lv d N (c::t1++t2)) (hc:lv c=d) (h:∀b∈N c,b∈ks):zj s ks Ew EC lv d N (t1++t2):=by
 refine#[L.z,L.e,L.f,L.le,L.lo,λa ha nt b hb=>?_];by_cases e:a=c
 ·subst e;rw[hc];exact L.le b (h b hb)
 ·refine L.up a ha (λz=>?_) b hb;rw[aaq] at z;rcases yz.mp z with z|z
  ·exact e z
  ·exact nt z
theorem zj.next {ks:List je}{d:Nat} (L:zj s ks Ew EC lv d N EC):zj s ks EC [] lv (d+1) N EC :=
 #[L.z,L.f,(λx h=>by cases h),λx hx=>Nat.le_succ_of_le<|L.le x hx,λx hx _=>L.le x hx,L.up]
def ro (C:Addr):Sp:=λvs H Q _=>bL λ(o dx c d p:Addr) (w h l:Nat) (cs ds:jF) (s0:je)=>A7 (vs=[.ref o,.ref p]) (Bd C H o dx c d w h l cs ds) (l<=3) (cs.length<=1000) (H p=some (.tup [.int s0.1,.int s0.2.1,.int s0.2.2])) (Ue cs w h l s0=true) (∀(r:Addr) (bk:jF) (ks:List je) (H':Hp),Same H H'->H r=none->H' r=some (.dT bk)->bk.map (·.1)=ks.map k3->ks.Nodup->(∀e,e∈ks↔Jr (jJ cs ds w h l) s0 e)->(∃lv:je->Nat,fM (jJ cs ds w h l) s0 ks lv/\zk (jJ cs ds w h l) s0 ks lv bk H')->Q (.ref r) H')
theorem mT (T:Txt K mg t):jS P w K mg base 6 "spread" [FM,"start"] (ro t.jq):=by
 refine T.pj.ok [FM,"start","back","edge","farther",E0,YF] ?_;rintro _ H Q E ⟨o,dx,c,d,p,w,h,l,cs,ds,s0,rfl,B,l3,lc,hp,LG,q⟩;refine#[rfl,λEm A outer s hr=>#[_,(ji (jv 2<|qw (vL hr) (pv 1) zb) (ji (jv 3<|JL<|ja (pv 1) jf) (ji (zf jO (G8 (pv 3) (λ_=>rfl))<|ji (jv 4<|JL jf)<|ji (j7 jO (jV<|pv 3) (jw 5)<|jk<|j7 jO (jV<|jn (MT T)<|ja (pv 0)<|ja (pv 5) jf) (jw 6)<|jk<|j9 (uw<|vx (pv 6)<|pv 2) (ji (uJ (pv 2) (pv 6)<|pv 5)<|jk<|jQ<|UA Yc Yj Yh Uq (pv 4)<|ja (pv 6) jf) jW)<|jk<|jv 3<|pv 4)<|jk<|jC<|pv 2))),?_]];obtain⟨cells,He,RB,Ip⟩:=VW B.C<|aaR _;have ncl:=by have:=congrArg Yl He;rw[yb,yb] at this;exact this.symm
 have NB:=ur (ds:=ds) Ip;have Z₁:=(Ip s0).mpr LG;generalize eN:jJ cs ds w h l=N at NB q;refine λr Im=>#[p,k3 s0,rfl,jd,jB (jh hp Im) hp,?_];have s1:Same H (upd (upd H r<|.dT []) r<|.dT [(k3 s0,.non)]):=λb u e=>by rw[jj<|jh e Im,jj<|jh e Im];exact e
 have e1:upd (upd H r<|.dT []) r (.dT [(k3 s0,.non)]) r=some (.dT [(k3 s0,.non)]):=jd;refine JV ?_;dsimp only;generalize upd (upd H r<|.dT []) r (.dT [(k3 s0,.non)])=H1 at s1 e1 ⊢;refine#[(by show 1<=sizeLine;decide),λed hed=>?_];have s2:=jm (o:=.lst [.ref p]) (Same.refl H1) hed;have e2:upd H1 ed (.lst [.ref p]) ed=some (.lst<|[p].map V.ref):=jd;refine JV ?_;dsimp only;generalize upd H1 ed (.lst [.ref p])=H2 at s2 e2 ⊢;have EY:=Same.trans s1 s2;refine#[λm σ H'=>∃(ed:Addr) (v4 v5 v6:Option V) (bk:jF) (ks Ew:List je) (es:DZ),σ=[some _,some _,some _,some<|.ref ed,v4,v5,v6]/\Same H H'/\H' r=some (.dT bk)/\bk.map (·.1)=ks.map k3/\H' ed=some (.lst<|es.map V.ref)/\jy H' es Ew/\Vs N s0 ks Ew/\(∀e∈Ew,e∈ks)/\(∃lv d,zj s0 ks Ew [] lv d N Ew/\zk N s0 ks lv bk H')/\m=2*(cells.length - ks.length)+Ew.length.min 1,#[_,ed,_,_,_,_,_,_,_,rfl,EY,s2 _ _ e1,rfl,e2,#[rfl,λi q c h1 h2=>?_],Vs.start N s0,λe h=>h,#[_,0,#[rfl,λ_ _=>rfl,(λx h=>by cases h),λ_ _=>yL _,λ_ _ _=>yh _,λa ha hn=>absurd ha hn],λe he hn=>absurd (yi.mp he) hn],rfl],?_]
 ·match i with
  | 0=>cases h1;cases h2;exact EY _ _ hp
  | i+1=>cases h1
 rintro m σ H3 ⟨ed,v4,v5,v6,bk,ks,Ew,es,rfl,s3,Iq,Z₂,RD,C3,I3,WB,⟨g₁,d3,WC,WD⟩,em⟩;refine#[_,.inl #[_,jt.of RD,rfl],JP (λhf=>?_) λht=>?_]
 ·refine#[λσ' H'=>∃m',m'<m/\∃(ed:Addr) (v4 v5 v6:Option V) (bk:jF) (ks Ew:List je) (es:DZ),σ'=[some _,some _,some _,some _,v4,v5,v6]/\Same H H'/\H' r=some _/\bk.map _=ks.map k3/\H' ed=some _/\jy H' es Ew/\Vs N s0 ks Ew/\(∀e∈Ew,e∈ks)/\(∃lv d,zj s0 ks Ew _ lv d N Ew/\zk N s0 ks lv bk H')/\m'=2*(cells.length - ks.length)+Ew.length.min 1,λ_ _ h=>h,?_];have WE:0<Ew.length:=by
   rw[<-C3.1];cases es with
   | nil=>cases hf
   | cons a r=>exact Qf _
  refine#[(by show 0<=sizeLine;lia),λfa F0=>?_];have s4:=jm (o:=.lst []) (Same.refl H3) F0;have e4:upd H3 fa (.lst []) fa=some (.lst<|([]:DZ).map V.ref):=jd;refine JV ?_;dsimp only;generalize upd H3 fa (.lst [])=H4 at s4 e4 ⊢;have Of:H fa=none:=by
   cases e:H fa with
   | none=>rfl
   | some u=>rw[s3 _ _ e] at F0;cases F0
  have nfe:fa≠ed:=λz=>by rw[z,RD] at F0;cases F0
  have nfr:fa≠r:=λz=>by rw[z,Iq] at F0;cases F0
  have ner:=jA RD Iq;refine uZ (λσ H'=>E6 λ(v5 v6) (bk:jF) (Ep EC:List je) (fs)=>fA (σ=[some<|.ref o,some<|.ref p,some<|.ref r,some<|.ref ed,some<|.ref fa,v5,v6]) (Same H H') (H' r=some (.dT bk)) (bk.map (·.1)=Ep.map k3) (H' fa=some (.lst<|fs.map V.ref)) (jy H' fs EC) (Vs N s0 Ep EC) (∀e∈EC,e∈Ep) (∃lv,zj s0 Ep Ew EC lv d3 N EC/\zk N s0 Ep lv bk H')<|Ep.length=ks.length+EC.length) (λB' nx=>?_) ?_
  ·refine#[ed,rfl,#[_,jt.of<|s4 _ _ RD],Jt (λi σ H'=>E6 λ(v5 v6) (bk:jF) (Ep EC:List je) (fs)=>Dr (σ=[some _,some _,some _,some _,some _,v5,v6]) (Same H H') (H' r=some (.dT bk)) (bk.map _=Ep.map k3) (H' ed=some _) (jy H' es Ew) (H' fa=some (.lst<|fs.map V.ref)) (jy H' fs EC) (Vs N s0 Ep<|Ew.drop i++EC) (∀e∈Ew,e∈Ep) (∀e∈EC,e∈Ep) (∃lv,zj s0 Ep Ew EC lv d3 N (Ew.drop i++EC)/\zk N s0 Ep lv bk H')<|Ep.length=ks.length+EC.length) #[_,_,bk,ks,_,_,rfl,Same.trans s3 s4,s4 _ _ Iq,Z₂,s4 _ _ RD,C3.same s4,e4,#[rfl,(λi p c h=>by cases h)],by rw[yK];exact I3,WB,(λe h=>by cases h),#[g₁,by rw[yK];exact WC,WD.keep λq u e=>s4 _ _ e],rfl] (λi σ H' _ h_=>by obtain⟨_,_,_,_,_,_,_,_,_,_,e,_⟩:=h_;exact jt.of e) ?_ ?_]
   ·rintro i v σ H5 hv ⟨v5,v6,RE,Pg,FN,RF,rfl,s5,Og,RG,g₂,C5,HH,RH,I5,Oh,FO,⟨Lf,Ph,RI⟩,Ir⟩;obtain⟨pc,RJ,rfl⟩:=jX hv;have hi:i<Ew.length:=by rw[<-C5.1];exact (yd.mp RJ).1
    have HV:=C5.2 i pc _ RJ<|yc hi;have EK:=Oh _<|yV hi;have Oi:∀lv:je->Nat,(∀x∈Ew,lv x=d3)->lv _=d3:=λlv h=>h _<|yV hi;have G':=yN hi;generalize Ew[i]=cc at HV EK G' Oi;have B5:=B.same s5;refine#[o,dx,c,d,pc,w,h,_,_,_,l,cs,ds,rfl,B5.o,B5.c,B5.d,l3,HV,λnl bs Oe H6 s6 G₁ e6 ka pm up=>?_];obtain⟨Io,rfl,II⟩:=wk pm;have G₂:∀e,e∈Io↔e∈N cc:=λe=>by rw[II.mem_iff,<-eN]
    have CN6:=jy.of_key ka;have nnf:nl≠fa:=λz=>by rw[z,HH] at G₁;cases G₁
    refine#[nl,rfl,#[_,jt.of e6],Jt (λj σ H'=>E5 λ(v6) (bk:jF) (Ep EC:List je) (fs)=>Ds (σ=[some _,some _,some _,some _,some _,some _,v6]) (Same H H') (H' r=some (.dT bk)) (bk.map _=Ep.map k3) (H' ed=some _) (jy H' es Ew) (H' fa=some (.lst<|fs.map V.ref)) (jy H' fs EC) (H' nl=some _) (jy H' bs Io) (H' pc=some _) (Vs N s0 Ep<|Ew.drop i++EC) (∀e∈Ew,e∈Ep) (∀e∈EC,e∈Ep) (∃lv,zj s0 Ep Ew EC lv d3 N (Ew.drop i++EC)/\zk N s0 Ep lv bk H') (Ep.length=ks.length+EC.length) (cc∈Ep) (∀e∈Io.take j,e∈Ep)) #[_,RE,Pg,FN,RF,rfl,Same.trans s5 s6,s6 _ _ Og,RG,s6 _ _ g₂,C5.same s6,s6 _ _ HH,RH.same s6,e6,CN6,s6 _ _ HV,I5,Oh,FO,#[Lf,Ph,RI.keep λq u e=>s6 _ _ e],Ir,EK,(λe h=>by simp at h)] (λj σ H' _ h_=>by obtain⟨_,_,_,_,_,_,_,_,_,_,_,_,_,e,_⟩:=h_;exact jt.of e) ?_ ?_]
    ·rintro j v σ H7 hv ⟨v6',Pj,LH,Oj,Pk,rfl,s7,FP,IJ,Pm,C7,IK,RK,WG,Pn,Fv,I7,Iu,FQ,⟨RL,Ol,S7⟩,Om,Iv,RM⟩;obtain⟨pe,K',rfl⟩:=jX hv;have hj:j<Io.length:=by rw[<-Pn.1];exact (yd.mp K').1
     have ej:=yc hj;have RN:=Pn.2 j pe _ K' ej;have WH:=(G₂ _).mp<|yV hj;have tk:∀Ep:List je,(∀e∈Io.take j,e∈Ep)->Io[j]∈Ep->∀e∈Io.take _,e∈Ep:=λEp h1 h2 e he=>by
      rw[Qm,ej] at he;rcases yj.mp he with he|he
      ·exact h1 e he
      ·simp at he;subst he;exact h2
     generalize Io[j]=e at RN WH tk;have lk:LH.length<=cells.length:=U2 I7.nd λx hx=>(I7.rc x hx).on NB Z₁;have lb:Pj.length=LH.length:=by have:=congrArg Yl IJ;rw[yb,yb] at this;exact this
     refine#[r,_,rfl,ug.t (k:=k3 e) FP RN,JP (λhf=>?_) λht=>#[_,Pj,LH,Oj,Pk,rfl,s7,FP,IJ,Pm,C7,IK,RK,WG,Pn,Fv,I7,Iu,FQ,#[RL,Ol,S7],Om,Iv,tk LH RM<|(vq IJ).mp ht]];have Ey:e ∉ LH:=λz=>by rw[(vq IJ).mpr z] at hf;cases hf
     refine#[r,_,rfl,UL.t (k:=k3 e) FP RN (yP (show _<=1000 by omega) (by decide)),?_];have nrf:=nfr;have Iw:upd H7 r (.dT<|jZ Pj (k3 e)<|.ref pc) fa=some (.lst<|Pk.map V.ref):=V4 IK FP;have lf:Pk.length<=1000:=by rw[RK.1];lia
     refine#[.inl #[rfl,_,jt.of Iw],fa,_,_,rfl,rfl,Iw,by rw[yb];exact yP lf (by decide),_,_,_,_,Pk++[pe],rfl,λb u eb=>?_,jB (yG nrf) jd,ad IJ Ey,?_,?_,by rw[jd,yk];rfl,?_,?_,?_,?_,?_,λx hx=>yu _<|Iu x hx,λx hx=>?_,#[_,by rw[<-yQ];exact Ol.add I7.st Iu FQ (Oi RL Ol.e) Ey I7.cl,(S7.add Iv WH Ey Fv).keep λq u eq=>?_],by rw[ye,ye];lia,yu _ Iv,tk _ (λx hx=>yu _<|RM x hx) (by simp)]
     ·rw[jj<|jh eb Of,jj<|jh eb Im];exact s7 _ _ eb
     ·rw[jj<|yG nfe];exact V4 Pm FP
     ·exact (C7.dt FP).wr Iw
     ·exact ((RK.dt FP).snoc<|jB (jA RN FP) RN).wr Iw
     ·rw[jj nnf];exact V4 WG FP
     ·exact (Pn.dt FP).wr Iw
     ·have n:=jA Fv FP;rw[jj<|jA ((jj n).trans Fv) Iw,jj n];exact Fv
     ·have:=I7.add Iv WH Ey;rwa [yQ] at this
     ·rcases yj.mp hx with hx|hx
      ·exact yu _ (FQ x hx)
      ·exact yr _ hx
     ·have e8:upd H7 r (.dT<|jZ Pj (k3 e)<|.ref pc) q=some (.tup u):=by rw[jj<|jA eq FP];exact eq
      rw[jj<|jA e8 Iw];exact e8
    ·rintro σ H7 ⟨v6',Pj,LH,Oj,Pk,rfl,s7,FP,IJ,Pm,C7,IK,RK,WG,Pn,Fv,I7,Iu,FQ,⟨RL,Ol,S7⟩,Om,Iv,RM⟩;rw[yb,Pn.1,yW] at RM;have HE:∀b∈N cc,b∈LH:=λb hb=>RM b<|(G₂ b).mpr hb;rw[G'] at I7 Ol;exact#[_,_,Pj,LH,Oj,Pk,rfl,s7,FP,IJ,Pm,C7,IK,RK,I7.done HE,Iu,FQ,#[RL,Ol.done (Oi RL Ol.e) HE,S7],Om]
   ·rintro σ H5 ⟨v5,v6,RE,Pg,FN,RF,rfl,s5,Og,RG,g₂,C5,HH,RH,I5,Oh,FO,⟨Lf,Ph,RI⟩,Ir⟩;rw[yb,C5.1,List.drop_length,QP] at I5 Ph;exact nx _ _ #[_,_,RE,Pg,FN,RF,rfl,s5,Og,RG,HH,RH,I5,FO,#[Lf,Ph,RI],Ir]
  ·rintro σ H5 ⟨v5,v6,RE,Pg,FN,RF,rfl,s5,Og,RG,HH,RH,I5,FO,⟨Lf,Ph,RI⟩,Ir⟩;have lk:Pg.length<=cells.length:=U2 I5.nd λx hx=>(I5.rc x hx).on NB Z₁;refine#[_,?_,fa,_,_,_,RE,Pg,FN,RF,rfl,s5,Og,RG,HH,RH,I5,FO,#[Lf,_,Ph.next,RI],rfl];rw[em];have m1:Ew.length.min 1=1:=QW WE;have m2:FN.length.min 1<=FN.length:=aa0 _ _;have m3:FN.length.min 1<=1:=aar _ _;rw[m1]
   lia
 ·have he:Ew=[]:=by
   refine List.eq_nil_of_length_eq_zero ?_;rw[<-C3.1];cases es with
   | nil=>rfl
   | cons a r=>cases ht
  subst he;refine q r bk ks H3 s3 Im Iq Z₂ I3.nd (λe=>I3.all e) #[g₁,#[WC.z,λe he hn=>?_,λa ha b hb=>#[I3.cl a ha (by simp) b hb,WC.up a ha (by simp) b hb]],WD];obtain⟨_,p,_,_,h3,h4,h5⟩:=WD e he hn;exact#[p,h3,h4,h5]
structure CL (cs:jF) (w h l:Nat) (cells:List je):Prop where
 up:(cells.map k3).Pairwise λa b=>lx b a=false
 nd:cells.Nodup
 mem:∀e,e∈cells↔Ue cs w h l e=true
theorem CL.of {w:Nat} (T:ui cs w h l) {ks:List (List Key)} (pm:ks.Perm (cs.map (·.1))) (up:ks.Pairwise λa b=>lx b a=false):∃cells:List je,ks=cells.map k3/\CL cs w h l cells/\cells.length=cs.length:=by
 obtain⟨cells,e,nd,mem⟩:=VW T pm;have:=pm.length_eq;rw[e,yb,yb] at this;exact#[cells,e,#[e▸up,nd,mem],this]
theorem CL.eq {w:Nat}{cells:List je} (L:CL cs w h l cells) (T:ui cs w h l) {ks:List (List Key)} (pm:ks.Perm (cs.map (·.1))) (up:ks.Pairwise λa b=>lx b a=false):ks=cells.map k3:=by
 obtain⟨c2,e,L2,_⟩:=CL.of T pm up;subst e;exact vB (((y9 L2.nd L.nd).mpr λe=>by rw[L2.mem,L.mem]).map k3) up L.up
theorem Ka:∀{a b:List je},a.map k3=b.map k3->a=b
 | [],[],_=>rfl
 | [],_::_,h=>by cases h
 | _::_,[],h=>by cases h
 | x::a,y::b,h=>by
  rw[yR,yR] at h;injection h with h1 h2
  rw[JG h1,Ka h2]
theorem CL.uniq {w:Nat}{a b:List je} (A:CL cs w h l a) (B:CL cs w h l b):a=b:=Ka (vB (((y9 A.nd B.nd).mpr λe=>by rw[A.mem,B.mem]).map k3) A.up B.up)
theorem CL.len {w:Nat}{cells:List je} (L:CL cs w h l cells) (T:ui cs w h l):cells.length=cs.length:=by
 obtain⟨c2,e,nd,mem⟩:=VW T<|aaR _;have h1:=((y9 L.nd nd).mpr λe=>by rw[L.mem,mem]).length_eq;have h2:=congrArg Yl e;rw[yb,yb] at h2
 lia
theorem k7 {cells ks:List je}{Ep:List (List Key)}{s0:je} (B:Nb N cells) (hs:s0∈cells) (nd:cells.Nodup) (up:(cells.map k3).Pairwise λa b=>lx b a=false) (pm:Ep.Perm (ks.map k3)) (RO:Ep.Pairwise λa b=>lx b a=false) (nk:ks.Nodup) (mem:∀e,e∈ks↔Jr N s0 e):Ep=(JF N cells s0).map k3:=by
 refine vB (pm.trans<|aac k3 ?_) RO<|List.Pairwise.sublist (List.filter_sublist.map k3) up;exact (y9 nk<|nd.filter _).mpr λe=>by rw[mem];exact (uq B hs).symm
def vV (H:Hp) (as:DZ) (EA:List (List je)):Prop:=as.length=EA.length/\∀(i:Nat) (a:Addr) (l:List je),as[i]?=some a->EA[i]?=some l->∃bs:List Addr,H a=some (.lst<|bs.map V.ref)/\jy H bs l
theorem vV.same {H':Hp} (C:vV H as EA) (s:Same H H'):vV H' as EA:=#[C.1,λi a l h1 h2=>by
 obtain⟨bs,e,c⟩:=C.2 i a l h1 h2;exact#[bs,s _ _ e,c.same s]]
theorem vV.snoc {a:Addr}{bs:DZ}{l:List je} (C:vV H as EA) (e:H a=some (.lst<|bs.map V.ref)) (c:jy H bs l):vV H (as++[a]) (EA++[l]):=#[by rw[ye,ye,C.1];rfl,λi q d h1 h2=>by
 by_cases h:i<as.length
 ·rw[yn h] at h1;rw[yn<|C.1▸h] at h2;exact C.2 i q d h1 h2
 ·rw[yl (by lia)] at h1;rw[yl (by rw[<-C.1];lia),<-C.1] at h2;generalize i - as.length=m at h1 h2;cases m with
  | zero=>cases h1;cases h2;exact#[bs,e,c]
  | succ m=>cases h1]
theorem vV.wr (C:vV H as EA) (hD:H D=some (.lst ys)) (n:∀a∈as,a≠D):vV (upd H D<|.lst Pd) as EA:=#[C.1,λi a l h1 h2=>by
 obtain⟨bs,e,c⟩:=C.2 i a l h1 h2;exact#[bs,jB (n a<|yp h1) e,c.wr hD]]
theorem vV.dt {c:Addr}{u:jF} (C:vV H as EA) (hc:H c=some (.dT u)):vV (upd H c<|.dT u') as EA:=#[C.1,λi a l h1 h2=>by
 obtain⟨bs,e,k⟩:=C.2 i a l h1 h2;exact#[bs,V4 e hc,k.dt hc]]
theorem b9 {cells:List je} (B:Nb N cells) (nd:cells.Nodup) (on:∀r∈rs,r∈cells) (ap:rs.Pairwise λa b=>¬Jr N a b):((rs.map<|JF N cells).flatten).Nodup:=by
 refine Zp (λl hl=>?_) ?_
 ·obtain⟨r,hr,rfl⟩:=yf.mp hl;exact nd.filter _
 ·refine yT.mpr (ap.imp_of_mem λ{a b} ha hb h=>?_);intro x hx y hy z;subst z;exact h (((uq B<|on a ha).mp hx).trans<|((uq B<|on b hb).mp hy).symm B<|on b hb)
theorem pT {cells:List je} (B:Nb N cells) (nd:cells.Nodup) (on:∀r∈rs,r∈cells) (ap:rs.Pairwise λa b=>¬Jr N a b):((rs.map<|JF N cells).flatten).length<=cells.length:=U2 (b9 B nd on ap) λx hx=>by
 obtain⟨l,hl,h⟩:=List.mem_flatten.mp hx;obtain⟨r,hr,rfl⟩:=yf.mp hl;exact (yZ.mp h).1
def AL (C:Addr):Sp:=λvs H Q _=>E9 λ(o dx c d:Addr) (w h l:Nat) (cs ds:jF)=>A5 (vs=[.ref o]) (Bd C H o dx c d w h l cs ds) (l<=3) (cs.length<=1000) (∀(cells:List je) (r:Addr) (as:DZ) (H':Hp),CL cs w h l cells->Same H H'->H r=none->H' r=some (.lst<|as.map V.ref)->vV H' as ((Jk (jJ cs ds w h l) cells).map<|JF (jJ cs ds w h l) cells)->(∀a∈as,H a=none/\a≠r)->Q (.ref r) H')
theorem Ko (T:Txt K mg t):jS P w K mg base 7 "islands" [FM] (AL t.jq):=by
 refine T.fL.ok [FM,"found","seen",E0,"island","part"] ?_;rintro _ H Q E ⟨o,dx,c,d,w,h,l,cs,ds,rfl,B,l3,lc,q⟩;refine#[rfl,λEm A outer s hr=>#[_,(ji (jv 1<|JL jf) (ji (jv 2 Uc) (ji (j7 jO (jV<|uk (g6<|Ul T)<|pv 0) (jw 3) (jk (j9 (uw<|vx (pv 3)<|pv 2) (ji (jv 4 (jU (VU rfl) (by rfl) T.Ux Uu<|ja (jn (mT T)<|ja (pv 0)<|ja (pv 3) jf) jf))<|ji (jQ<|UA Yc Yj Yh Uq (pv 1)<|ja (pv 4) jf)<|jk<|j7 jO (jV<|pv 4) (jw 5)<|jk<|uJ (pv 2) (pv 5) VE) jW)))<|jk<|jC<|pv 1))),?_]];refine#[(by show 0<=sizeLine;lia),λfo WI=>?_];have s1:=jm (o:=.lst []) (Same.refl H) WI;have e1:upd H fo (.lst []) fo=some (.lst<|([]:DZ).map V.ref):=jd;refine JV ?_;dsimp only;generalize upd H fo (.lst [])=H1 at s1 e1 ⊢;refine λse K₁=>?_;have s2:=jm (o:=.dT []) (Same.refl H1) K₁;have e2:upd H1 se (.dT []) se=some (.dT []):=jd;refine JV ?_;dsimp only;generalize upd H1 se (.dT [])=H2 at s2 e2 ⊢;have EY:=Same.trans s1 s2;have nn:∀{H':Hp} {x:Addr},Same H H'->H' x=none->H x=none:=λ{H' x} s hx=>by
  cases e:H x with
  | none=>rfl
  | some u=>rw[s _ _ e] at hx;cases hx
 have WJ:=nn s1 K₁;have B2:=B.same EY;refine#[o,dx,_,rfl,B2.o,rfl,o,dx,c,d,w,h,l,cs,rfl,B2.o,B2.c,B.C.sds,λkq bs ks HJ ka pm up=>?_];obtain⟨cells,rfl,L,RQ⟩:=CL.of B.C pm up;have NB:=ur (ds:=ds) L.mem;generalize eN:jJ cs ds w h l=N at NB q;have RP:=λi=>Vc NB (cells.take i) λc hc=>Qp hc;have RR:∀i,∀r∈Jk N _,r∈cells:=λi r hr=>Qp<|(RP i).sub.subset hr;have s3:=jm (o:=.lst<|bs.map V.ref) (Same.refl H2) HJ;have e3:upd H2 kq (.lst<|bs.map V.ref) kq=some (.lst<|bs.map V.ref):=jd;have C3:=(jy.of_key ka).same s3;have nkf:kq≠fo:=λz=>by rw[z,s2 _ _ e1] at HJ;cases HJ
 skip
 generalize upd H2 kq (.lst<|bs.map V.ref)=H3 at s3 e3 C3 ⊢;have r0:Jk N (cells.take 0)=[]:=rfl;refine#[kq,rfl,#[_,jt.of e3],Jt (λi σ H'=>E5 λ(v3 v4 v5) (sn:jF) (as)=>fA (σ=[some _,some _,some _,v3,v4,v5]) (Same H H') (H' kq=some _) (jy H' bs cells) (H' fo=some (.lst<|as.map V.ref)) (vV H' as<|(Jk N<|cells.take i).map<|JF N cells) (∀a∈as,H a=none/\a≠fo) (H' se=some (.dT sn)) (∀e,(jD sn<|k3 e).isSome=true↔∃r∈Jk N (cells.take i),Jr N r e)<|sn.length<=((Jk N<|cells.take i).map<|JF N cells).flatten.length) #[_,_,_,_,_,rfl,Same.trans EY s3,e3,C3,s3 _ _<|s2 _ _ e1,#[rfl,(λi a l h=>by cases h)],(λa h=>by cases h),s3 _ _ e2,λe=>#[(λh=>by cases h),(λh_=>by obtain⟨r,h,_⟩:=h_;exact by cases h)],yL _] (λi σ H' _ h_=>by obtain⟨_,_,_,_,_,_,_,e,_⟩:=h_;exact jt.of e) ?_ ?_]
 ·rintro i v σ H4 hv ⟨v3,v4,v5,sn,as,rfl,s4,WK,C4,FR,Oo,Oq,RT,HK,WL⟩;obtain⟨pc,RJ,rfl⟩:=jX hv;have hi:i<cells.length:=by rw[<-C4.1];exact (yd.mp RJ).1
  have HV:=C4.2 i pc _ RJ<|yc hi;have EK:=yV hi;have WM:cells.take (i+1)=cells.take i++[cells[i]]:=by rw[Qm,yc hi];rfl
  have K₂:=RR i;have fl4:=pT NB L.nd K₂ (RP i).apart;have RS:=(RP i).sub.length_le;have M':(cells.take i).length<=cells.length:=by rw[yM];lia
  rw[WM,m7];generalize cells[i]=cc at HV EK;generalize cells.take i=pre at Oo HK WL K₂ fl4 RS M';have LG:=(L.mem cc).mp EK;refine#[se,_,rfl,ug.t (k:=k3 cc) RT HV,JP (λhf=>?_) λht=>?_]
  ·have Q5:¬∃r∈Jk N pre,Jr N r cc:=λz=>by rw[(HK cc).mpr z] at hf;cases hf
   rw[if_neg Q5];have B4:=B.same s4;refine#[o,dx,c,d,pc,w,h,l,cs,ds,cc,rfl,B4,l3,lc,HV,LG,λr bk ks H5 s5 hr5 er ek nk mem _=>?_];refine#[r,bk,[true,true,true],rfl,er,λkv EX=>?_,by decide,λil Ot Ep LD I9 II Hv=>?_]
   ·obtain⟨c0,_,e0⟩:=yf.mp<|ek▸yf.mpr #[kv,EX,rfl];rw[<-e0];rfl
   rw[ek] at II;rw[eN] at mem;have e:=k7 NB EK L.nd L.up II Hv nk mem;subst e;have s6:=jm (o:=.lst<|Ot.map V.ref) (Same.refl H5) LD;have e6:upd H5 il (.lst<|Ot.map V.ref) il=some (.lst<|Ot.map V.ref):=jd;have C6:=(jy.of_key I9).same s6;have WN:=nn (Same.trans s4 s5) LD;have WO:il≠fo:=λz=>by rw[z,s5 _ _ FR] at LD;cases LD
   refine JV ?_;dsimp only;generalize upd H5 il (.lst<|Ot.map V.ref)=H6 at s6 e6 C6 ⊢;have Ou:=Same.trans s5 s6;have HL:=Ou _ _ FR;have lis:=cw N cells cc;have las:as.length<=1000:=by rw[Oo.1,yb];lia
   refine#[.inl #[rfl,_,jt.of HL],fo,_,_,rfl,rfl,HL,by rw[yb];exact yP las (by decide),?_];have e7:upd H6 fo (.lst<|as.map V.ref++[.ref il]) fo=some (.lst<|(as++[il]).map V.ref):=by rw[jd,yk];rfl
   have s7:Same H (upd H6 fo<|.lst<|as.map V.ref++[.ref il]):=λb u e=>by rw[jj<|jh e WI];exact Ou _ _ (s4 _ _ e)
   have IJ:upd H6 fo (.lst<|as.map V.ref++[.ref il]) kq=some (.lst<|bs.map V.ref):=by rw[jj nkf];exact Ou _ _ WK
   have C7:jy (upd H6 fo<|.lst<|as.map V.ref++[.ref il]) bs cells:=(C4.same Ou).wr HL;have M₁:vV (upd H6 fo<|.lst<|as.map V.ref++[.ref il]) (as++[il]) ((Jk N pre++[cc]).map<|JF N cells):=by
    rw[yk];exact ((Oo.same Ou).wr HL λa ha=>(Oq a ha).2).snoc (jB WO e6) (C6.wr HL)
   have WQ:upd H6 fo (.lst<|as.map V.ref++[.ref il]) il=some (.lst<|Ot.map V.ref):=by rw[jj WO];exact e6
   have M₂:jy (upd H6 fo<|.lst<|as.map V.ref++[.ref il]) Ot _:=C6.wr HL;have n₂:upd H6 fo (.lst<|as.map V.ref++[.ref il]) se=some (.dT sn):=by rw[jj<|jA (Ou _ _ RT) HL];exact Ou _ _ RT
   dsimp only;generalize upd H6 fo (.lst<|as.map V.ref++[.ref il])=H7 at e7 s7 IJ C7 M₁ WQ M₂ n₂ ⊢;refine#[il,rfl,#[_,jt.of WQ],Jt (λj σ H'=>E2 λ(v5) (WR:jF)=>BY (σ=[some _,some _,some _,some _,some _,v5]) (Same H H') (H' kq=some _) (jy H' bs cells) (H' fo=some _) (vV H' _ _) (H' il=some _) (jy H' Ot _) (H' se=some (.dT WR)) (∀e,(jD WR<|k3 e).isSome=true↔((∃r∈Jk N pre,Jr N r e)\/e∈(JF N cells cc).take j))<|WR.length<=sn.length+j) #[_,sn,rfl,s7,IJ,C7,e7,M₁,WQ,M₂,n₂,λe=>by rw[HK e];simp,yh _] (λj σ H' _ h_=>by obtain⟨_,_,_,_,_,_,_,_,e,_⟩:=h_;exact jt.of e) ?_ ?_]
   ·rintro j v σ H8 hv ⟨Ov,WS,rfl,s8,WT,C8,Iw,WU,N₁,Po,Lh,Li,N₂⟩;obtain⟨pp,a₁,rfl⟩:=jX hv;have hj:j<(JF N cells cc).length:=by rw[<-Po.1];exact (yd.mp a₁).1
    have a₂:=Po.2 j pp _ a₁<|yc hj;have etj:(JF N cells cc).take (j+1)=(JF N cells cc).take j++[(JF N cells cc)[j]]:=by rw[Qm,yc hj];rfl
    rw[etj];generalize (JF N cells cc)[j]=ee at a₂;have lp:=J2 WS (k3 ee)<|.bl true;refine#[se,_,rfl,UL.t (k:=k3 ee) Lh a₂ (yP (show _<=10000 by lia) (by decide)),_,_,rfl,λb u e=>jB (jh e WJ)<|s8 _ _ e,V4 WT Lh,C8.dt Lh,V4 Iw Lh,WU.dt Lh,V4 N₁ Lh,Po.dt Lh,jd,λe=>?_,by lia];rw[uP,yj,yi,<-or_assoc,<-Li e];by_cases h:e=ee
    ·subst h;simp
    ·rw[if_neg (λz=>h<|JG z)];exact#[λg=>.inl g,λg=>g.elim id λz=>absurd z h]
   ·rintro σ H8 ⟨Ov,WS,rfl,s8,WT,C8,Iw,WU,N₁,Po,Lh,Li,N₂⟩;rw[yb,Po.1] at N₂;rw[yb,Po.1,yW] at Li;refine#[_,_,_,WS,_,rfl,s8,WT,C8,Iw,WU,λa ha=>?_,Lh,λe=>?_,?_]
    ·rcases yj.mp ha with ha|ha
     ·exact Oq a ha
     ·rw[yi] at ha;subst ha;exact#[WN,WO]
    ·rw[Li e,uq NB EK];constructor
     ·rintro (⟨r,h1,h2⟩|h)
      ·exact#[r,yu _ h1,h2]
      ·exact#[cc,by simp,h]
     ·rintro⟨r,h1,h2⟩;rcases yj.mp h1 with h1|h1
      ·exact .inl #[r,h1,h2]
      ·rw[yi] at h1;subst h1;exact .inr h2
    ·rw[yk,aaD,ye];show _<=_+((JF N cells cc)++[]).length;rw[yK];lia
  ·rw[if_pos<|(HK cc).mp ht];exact#[_,_,_,sn,as,rfl,s4,WK,C4,FR,Oo,Oq,RT,HK,WL]
 ·rintro σ H4 ⟨v3,v4,v5,sn,as,rfl,s4,WK,C4,FR,Oo,Oq,RT,HK,WL⟩;rw[yb,C4.1,yW] at Oo;exact q cells fo as H4 L s4 WI FR Oo Oq
noncomputable def ZC (N:je->List je) (cells:List je) (c:je):je:=(JF N cells c).headD (0,0,0)
theorem pZ {l:List je}{c:je} (h:c∈l):l.headD (0,0,0)∈l:=by
 cases l with
 | nil=>cases h
 | cons a l=>exact yE ..
theorem p9 {cells:List je} (B:Nb N cells) {c:je} (h:c∈cells):c∈JF N cells c:=(uq B h).mpr .refl
theorem cq {cells:List je} (B:Nb N cells) {c:je} (h:c∈cells):Jr N c (ZC N cells c):=(uq B h).mp (pZ<|p9 B h)
theorem ck {cells:List je} (B:Nb N cells) {a b:je} (ha:a∈cells) (hb:b∈cells):ZC N cells a=ZC N cells b↔Jr N a b:=by
 constructor
 ·intro e;have h1:=cq B ha;have h2:=cq B hb;rw[e] at h1;exact h1.trans (h2.symm B hb)
 ·intro h;unfold ZC;rw[k6 B ha h]
theorem KW {α:Type} (ls:List (List α)) {l:List α} (h:ls[i]?=some l):(ls.take<|i+1).flatten=(ls.take i).flatten++l:=by
 rw[YW,h,aaD];simp
theorem Mf {α:Type} (ls:List (List α)) (i:Nat):((ls.take i).flatten).Sublist ls.flatten:=by
 have e:ls.flatten=(ls.take i).flatten++(ls.drop i).flatten:=by rw[<-aaD,yX]
 rw[e];exact abb _ _
structure Gr (H:Hp) (r:Addr) (N:je->List je) (cells:List je) (hk:List je) (hv:jF):Prop where
 e:H r=some (.dT hv)
 keys:hv.map (·.1)=hk.map k3
 val:∀e∈hk,∃q,jD hv (k3 e)=some (.ref q)/\H q=some (.tup [.int (ZC N cells e).1,.int (ZC N cells e).2.1,.int (ZC N cells e).2.2])
theorem Gr.same {H':Hp}{cells:List je} (X:Gr H r N cells hk hv) (s:Same H H'):Gr H' r N cells hk hv :=
 #[s _ _ X.e,X.keys,λe he=>by obtain⟨q,h1,h2⟩:=X.val e he;exact#[q,h1,s _ _ h2]]
theorem Gr.put {q:Addr}{cells:List je} (X:Gr H r N cells hk hv) {c:je} (hc:c ∉ hk) (hq:H q=some (.tup [.int (ZC N cells c).1,.int (ZC N cells c).2.1,.int (ZC N cells c).2.2])):Gr (upd H r<|.dT<|jZ hv (k3 c)<|.ref q) r N cells (hk++[c]) (jZ hv (k3 c)<|.ref q):=by
 refine#[jd,ad X.keys hc,λe he=>?_];by_cases WV:e=c
 ·subst WV;exact#[q,by rw[uP,if_pos rfl],jB (jA hq X.e) hq]
 ·rcases yj.mp he with he|he
  ·obtain⟨p,h1,h2⟩:=X.val e he;exact#[p,by rw[uP,if_neg (λz=>WV<|JG z)];exact h1,jB (jA h2 X.e) h2]
  ·exact absurd (yi.mp he) WV
theorem oJ (e:hv.map (·.1)=hk.map k3):hv.length=hk.length:=by have:=congrArg Yl e;simpa using this
def wJ (C:Addr):Sp:=λvs H Q _=>E9 λ(o dx c d:Addr) (w h l:Nat) (cs ds:jF)=>A5 (vs=[.ref o]) (Bd C H o dx c d w h l cs ds) (l<=3) (cs.length<=1000) (∀(cells:List je) (r:Addr) (hk:List je) (hv:jF) (H':Hp),CL cs w h l cells->Same H H'->H r=none->hk.Perm cells->Gr H' r (jJ cs ds w h l) cells hk hv->Q (.ref r) H')
theorem qk (T:Txt K mg t):jS P w K mg base 8 "homes" [FM] (wJ t.jq):=by
 refine T.sZ.ok [FM,"least","island",E0] ?_;rintro _ H Q E ⟨o,dx,c,d,w,h,l,cs,ds,rfl,B,l3,lc,q⟩;refine#[rfl,λEm A outer s hr=>#[_,(ji (jv 1 Uc)<|ji (j7 jO (jV<|jn (Ko T)<|ja (pv 0) jf) (jw 2)<|jk<|j7 jO (jV<|pv 2) (jw 3)<|jk<|uJ (pv 1) (pv 3)<|ju uW (pv 2) jg)<|jk<|jC<|pv 1),?_]];refine uF (λ(r)=>[oR o,oR r,none,none]) (λr H'=>A3 _ _<|H' r=some _) (λB hB=>λr hr=>hB r _ #[jm (Same.refl H) hr,hr,jd]) ?_;intro r H1 i;have s1:=i.1;have Im:=i.2;have er:=i.3
 refine GN (λ(v2 v3) (_ _:Unit)=>[oR o,oR r,v2,v3]) (λ_ _ _ _ H'=>E3 λ(cells hk) (hv)=>A4 (CL cs w h l cells) (Same H H') (hk.Perm cells)<|Gr H' r (jJ cs ds w h l) cells hk hv) (λB' hB=>?_) ?_
 ·refine#[o,dx,c,d,w,h,l,cs,ds,rfl,B.same s1,l3,lc,λcells a as H2 L s2 ha ea LC na=>?_];have NB:=ur (ds:=ds) L.mem;generalize eN:jJ cs ds w h l=N at NB LC;have RP:=Vc NB cells λc hc=>hc;have RR:∀r∈Jk N cells,r∈cells:=λr hr=>RP.sub.subset hr;have WW:=iQ NB L.nd;have b₁:=b9 NB L.nd RR RP.apart;have Oa:=L.len B.C;have rf:r≠a:=λz=>by rw[z] at er;rw[er] at ha;cases ha
  have b₂:∀x∈(Jk N cells).map (JF N cells),∀e∈x,x.headD _=ZC N cells e:=λx hx e he=>by
   obtain⟨p,hp,rfl⟩:=yf.mp hx;unfold ZC;rw[k6 NB (RR p hp)<|(uq NB<|RR p hp).mp he]
  generalize (Jk N cells).map _=EA at LC WW b₁ b₂;have lenF:EA.flatten.length=cs.length:=by rw[WW.length_eq,Oa]
  refine#[a,rfl,#[_,jt.of ea],Jt (λi σ H'=>E3 λ(v2 v3) (hv)=>A3 (σ=[oR o,oR r,v2,v3]) (Jm r H2 H')<|Gr H' r N cells ((EA.take i).flatten) hv) #[_,_,_,rfl,λb u n e=>e,#[s2 _ _ er,rfl,(λe he=>nomatch he)]] (λi σ H' _ h=>by obtain⟨_,_,_,_,k,_⟩:=h;exact jt.of<|k _ _ (yG rf) ea) ?_ ?_]
  ·rintro i v σ H3 hx ⟨v2,v3,hv,rfl,off,X⟩;obtain⟨p,e1,rfl⟩:=jX hx;have hi:i<EA.length:=by rw[<-LC.1];exact (yd.mp e1).1
   have e2:=yc hi;obtain⟨bs,eb,Cb⟩:=LC.2 i p _ e1 e2;have ft:=KW EA e2;have WX:((EA.take i).flatten++EA[i]).Nodup:=by rw[<-ft];exact (Mf EA _).nodup b₁
   have lnT:((EA.take i).flatten++EA[i]).length<=1000:=by
    have:=(Mf EA<|i+1).length_le
    lia
   have hI:=b₂ _<|yV hi;have Pp:=off _ _ (λz=>by rw[z] at eb;rw[s2 _ _ er] at eb;cases eb) eb;have d₁:∀{H':Hp},Jm r H2 H'->jy H' bs _:=λ{H'} k=>#[Cb.1,λi p c h1 h2=>k _ _ (λz=>by have:=Cb.2 i p c h1 h2;rw[z,s2 _ _ er] at this;cases this)<|Cb.2 i p c h1 h2];rw[ft];generalize EA[i]=li at eb Cb WX lnT hI d₁;have pr:p≠r:=λz=>by rw[z,s2 _ _ er] at eb;cases eb
   refine#[p,rfl,#[_,jt.of Pp],Jt (λj σ H'=>E2 λ(v3) (hv)=>A3 (σ=[oR o,oR r,oR p,v3]) (Jm r H2 H')<|Gr H' r N cells ((EA.take i).flatten++li.take j) hv) #[_,hv,rfl,off,by rw[aaA,yK];exact X] (λj σ H' _ h=>by obtain⟨_,_,_,k,_⟩:=h;exact jt.of<|k _ _ pr eb) ?_ ?_]
   ·rintro j v σ H4 hx ⟨v3',d₂,rfl,EJ,X4⟩;obtain⟨b,g1,rfl⟩:=jX hx;have hj:j<li.length:=by rw[<-Cb.1];exact (yd.mp g1).1
    have g2:=yc hj;have C4:=d₁ EJ;have g3:=C4.2 j b _ g1 g2;have hm:=yV hj;have tk:li.take (j+1)=li.take j++[li[j]]:=by rw[Qm,g2];rfl
    have h0:0<li.length:=by lia
    have hb0:0<bs.length:=by rw[Cb.1];exact h0
    have b0:=yc hb0;have t0:=C4.2 0 _ _ b0<|yc h0;have hh:=hI _ hm;have hd0:li.headD (0,0,0)=li[0]:=by cases li with|nil=>exact absurd h0 (QB _)|cons x r=>rfl
    rw[hd0] at hh;rw[hh] at t0;have FY:li[j] ∉ (EA.take i).flatten++li.take j:=λz=>by
     have e5:li=li.take j++li[j]::li.drop (j+1):=by rw[List.getElem_cons_drop,yX]
     rw[e5,<-yQ] at WX;exact (Qw.mp WX).2.2 _ z _ (yE ..) rfl
    rw[tk,<-yQ];have lb:=oJ X4.keys;have M':((EA.take i).flatten++li.take j).length<=((EA.take i).flatten++li).length:=by rw[ye,ye,yM];lia
    generalize li[j]=cc at g3 t0 FY;have RU:=EJ _ _ pr eb;refine#[_,_,jt.of RU,UI (by rw[yo,b0];rfl),r,_,rfl,UL.t (k:=k3 cc) X4.e g3 (yP (show _<=1000 by lia) (by decide)),?_];exact#[_,_,rfl,λb u n e=>jB n<|EJ b u n e,X4.put FY t0]
   ·rintro σ H4 ⟨v3',d₂,rfl,EJ,X4⟩;rw[yb,Cb.1,yW] at X4;exact#[_,_,d₂,rfl,EJ,X4]
  ·rintro σ H3 ⟨v2,v3,hv,rfl,off,X⟩;rw[yb,LC.1,yW] at X;rw[<-eN] at X;refine hB v2 v3 () () _ #[cells,_,hv,L,λb u e=>off b u (jh e Im)<|s2 _ _<|s1 _ _ e,WW,X]
 rintro v2 v3 _ _ H2 ⟨cells,hk,hv,L,s2,pm,X⟩;exact q cells r hk hv H2 L s2 Im pm X
def wZ (o:Addr) (H H':Hp):Prop:=∀b u,b≠o->H b=some u->H' b=some u
def fK (x y w h:V):List (Str×V):=[(FS,x),(IN,y),(LT,w),(PK,h)]
theorem xI (x y w h:V):JM PK h (JM LT w<|JM IN y<|JM FS x [])=fK x y w h:=by kernel_rfl
theorem lu {i:HO} (s:Same H H1) (ho:H1 o=none) (Lj:H1 dx=none):Same H (L2.upd (L2.upd H1 dx<|.own o) o i):=λb u e=>by
 have e1:=s b u e;rw[jj<|jh e1 ho,jj<|jh e1 Lj];exact e1
theorem qg {H':Hp}{i:HO} (s:Same H H1) (ho:H1 o=none) (Lj:H1 dx=none) (k:wZ o (L2.upd (L2.upd H1 dx<|.own o) o i) H'):Same H H':=λb u e =>
 k b u (jh (s b u e) ho) (lu s ho Lj b u e)
def vR (x y:Int) (wd hg:Nat):List (Int×Int):=(Yk wd).flatMap λ(i:Nat)=>(Yk hg).map λ(j:Nat)=>(x+(i:Int),y+(j:Int))
theorem N9 (x y:Int) (n hg:Nat):vR x y (n+1) hg=vR x y n hg++(Yk hg).map λ(j:Nat)=>(x+(n:Int),y+(j:Int)):=by
 unfold vR;rw[Y8,QZ];simp
theorem Gb (x y:Int) (hg:Nat):∀n,(vR x y n hg).length=n*hg
 | 0=>by simp [vR]
 | n+1=>by rw[N9,ye,Gb x y hg n,yb,aaL,Nat.add_mul,Nat.one_mul]
def US (H:Hp) (ps:DZ) (pl:DU):Prop:=ps.length=pl.length/\∀(i:Nat) (p:Addr) (c:Int×Int),ps[i]?=some p->pl[i]?=some c->H p=some (.tup [.int c.1,.int c.2])
theorem US.nil:US H [] []:=#[rfl,λi p c h=>by cases h]
theorem US.same {H':Hp} (C:US H ps pl) (s:Same H H'):US H' ps pl:=#[C.1,λi p c h1 h2=>s _ _<|C.2 i p c h1 h2]
theorem US.app {qs:DZ}{cl dl:DU} (C:US H ps cl) (D:US H qs dl):US H (ps++qs) (cl++dl):=#[by rw[ye,ye,C.1,D.1],λi q d h1 h2=>by
 by_cases h:i<ps.length
 ·rw[yn h] at h1;rw[yn<|C.1▸h] at h2;exact C.2 i q d h1 h2
 ·rw[yl (by lia)] at h1;rw[yl (by rw[<-C.1];lia),<-C.1] at h2;exact D.2 _ q d h1 h2]
theorem US.one {p:Addr}{c:Int×Int} (h:H p=some (.tup [.int c.1,.int c.2])):US H [p] [c]:=#[rfl,λi q d h1 h2=>by
 cases i with
 | zero=>cases h1;cases h2;exact h
 | succ j=>cases h1]
theorem US.wr (C:US H ps pl) (hD:H D=some (.lst ys)):US (upd H D<|.lst Pd) ps pl:=#[C.1,λi q d h1 h2=>by
 have e:=C.2 i q d h1 h2;rw[jj<|jA e hD];exact e]
structure VT (H:Hp) (ps:DZ) (FA:List (List V)):Prop where
 len:ps.length=FA.length
 at_:∀(i:Nat) (p:Addr) (xs:List V),ps[i]?=some p->FA[i]?=some xs->H p=some (.tup xs)
theorem VT.same {H':Hp}{FA:List (List V)} (C:VT H ps FA) (s:Same H H'):VT H' ps FA:=#[C.len,λi p c h1 h2=>s _ _<|C.at_ i p c h1 h2]
abbrev bK:Int:=10000000000000000000000000000000000000000
def rF (xs:List V):Prop:=∃x y w h z:Int,xs=[.int x,.int y,.int w,.int h,.int z]/\(0<=x/\x<bK)/\(0<=y/\y<bK)/\(1<=w/\w<bK)/\(1<=h/\h<bK)/\(0<=z/\z<bK)
def fR (g w r k t:V):List (Str×V):=[(LE,g),(P3,w),(SB,r),(SC,k),("kept",t)]
theorem xJ (g w r k t:V):JM "kept" t (JM SC k<|JM SB r<|JM P3 w<|JM LE g [])=fR g w r k t:=by kernel_rfl
def nK (FA:List (List V)):Prop:=FA.length<=12/\∀xs∈FA,rF xs
def bG (K:DS):Sp:=λvs H Q _=>E2 λ(a:Addr) (ns:List Int)=>A3 (vs=[.ref a]) (jt K H a<|ns.map V.int) (Q .non H)
theorem ZJ (T:Txt K mg t):jS P w K mg base 2 "need_whole" [YD] (bG K):=by
 refine T.nF.ok [YD,YA] ?_;rintro _ H Q E ⟨a,ns,rfl,hq,q⟩;refine#[rfl,λEm A outer s hr=>#[_,(jk<|j7 jO (jV<|pv 0) (jw 1)<|jk<|j9 (uN<|JS<|jn (UJ T)<|ja (pv 1) jf) (jk JW) jW),?_]];refine#[a,rfl,#[_,hq],Jt (λi σ H2=>∃v,σ=[oR a,v]/\H2=H) #[_,rfl,rfl] (λi σ H2 _ #[_,_,e]=>by rw[e];exact hq) ?_ ?_]
 ·rintro i x σ H2 hx ⟨v,rfl,rfl⟩;obtain⟨n,_,rfl⟩:=yf.mp<|yp hx;exact#[n,rfl,uT #[_,rfl,rfl]]
 ·rintro σ H2 ⟨v,rfl,rfl⟩;exact q
def oz (K:DS):Sp:=λvs H Q _=>E2 λ(a:Addr) (ns:List Int)=>A5 (vs=[.ref a]) (jt K H a<|ns.map V.int) (ns≠[]) (∀n∈ns,1<=n) (Q .non H)
theorem G6 (T:Txt K mg t):jS P w K mg base 3 "need_from_one" [YD] (oz K):=by
 refine T.km.ok [YD] ?_;rintro _ H Q E ⟨a,ns,rfl,hq,Ey,h1,q⟩;refine#[rfl,λEm A outer s hr=>#[_,(ji (jQ<|jn (ZJ T)<|ja (pv 0) jf) (jk (j9 (j5 UU (jU Mw (by rfl) T.r6 rN<|ja (pv 0) jf) jg) (jk JW) jW))),?_]];exact#[a,ns,rfl,hq,a,ns,rfl,hq,List.length_pos_iff.mpr Ey,λM hM RV=>Jw (λh=>absurd (h1 M hM) (by lia)) λ_=>q]
def wD (K:DS) (C:Addr):Sp:=λvs H Q _=>E6 λ(o dx:Addr) (x y wd hg:Int)=>A5 (vs=[.ref o,.int x,.int y,.int wd,.int hg]) (H o=some (.ins C dx [])) (1<=wd) (1<=hg) (∀H',wZ o H H'->H' o=some (.ins C dx<|fK (.int x) (.int y) (.int wd)<|.int hg)->Q .non H')
theorem MM (T:Txt K mg t):kn P w K mg base 4 "Block" t.uU [EQ,FS,IN,LT,PK] (wD K t.uU):=by
 refine T.nh.ok T.tQ [EQ,FS,IN,LT,PK] ?_;rintro _ H Q E ⟨o,dx,x,y,wd,hg,rfl,ho,w1,h1,kQ⟩;refine#[rfl,λEm A outer s hr=>#[_,(ji (jQ<|jn (ZJ T)<|ja (JL<|ja (pv 1)<|ja (pv 2) jf) jf)<|ji (jQ<|jn (G6 T)<|ja (JL<|ja (pv 3)<|ja (pv 4) jf) jf)<|ji (u8 (pv 0) (pv 1) rfl)<|ji (u8 (pv 0) (pv 2) rfl)<|ji (u8 (pv 0) (pv 3) rfl)<|jk<|u8 (pv 0) (pv 4) rfl),?_]];refine#[Vy,λl hl=>#[l,[x,y],rfl,jt.of jd,?_]];refine#[Vy,λl2 hl2=>#[l2,[wd,hg],rfl,jt.of jd,List.cons_ne_nil _ _,λn hn=>?_,?_]]
 ·rcases yz.mp hn with rfl|hn
  ·exact w1
  ·rw[yi.mp hn];exact h1
 have s2:Same H (upd _ l2<|.lst [.int wd,.int hg]):=jm (jm (Same.refl H) hl) hl2;refine#[o,_,dx,_,rfl,s2 _ _ ho,T.Uv,T.Kk,(by decide),?_];refine#[o,_,dx,_,rfl,jd,T.Uv,T.Kl,Qd (by kernel_rfl),?_];refine#[o,_,dx,_,rfl,jd,T.Uv,T.ZG,Qd (by kernel_rfl),?_];refine#[o,_,dx,_,rfl,jd,T.Uv,T.ZF,Qd (by kernel_rfl),?_];refine kQ _ (λc u hc e=>?_) ?_
 ·rw[jj hc,jj hc,jj hc,jj hc];exact s2 _ _ e
 ·rw[jd,xI]
def rh:Sp:=λvs H Q _=>E4 λ(x y:Int) (wd hg:Nat)=>A4 (vs=[.int x,.int y,.int wd,.int hg]) (wd<=15) (hg<=15) (∀D ps H',Same H H'->H D=none->H' D=some (.lst<|ps.map V.ref)->US H' ps (vR x y wd hg)->Q (.ref D) H')
theorem MO (T:Txt K mg t):jS P w K mg base 1 "box_places" [FS,IN,LT,PK] rh:=by
 refine T.nv.ok [FS,IN,LT,PK,"places","column"] ?_;rintro _ H Q E ⟨x,y,wd,hg,rfl,w1,h1,q⟩;refine#[rfl,λEm A outer s hr=>#[_,(ji (jv 4<|JL jf) (ji (j7 jO (mY rfl rfl T.uX<|ja (pv 0)<|ja (jp Jc (pv 0)<|pv 2) jf) (jw 5) (jk (jQ (UA Yc Yi Yg U3 (pv 4) (ja (Jx (own:=["row"]) (UT (cl:=[("column",_)])) (mY rfl rfl T.uX<|ja (pv 1)<|ja (jp Jc (pv 1)<|pv 3) jf) (λ_ _ _ _ _=>jw 6) (λ_ _ _ _ _=>UF) (λ_ _ _ _ _=>(jN<|ja (pv 5)<|ja (pv 6) jf))) jf)))))<|jk<|jC<|pv 4)),?_]];refine#[cU,λD hD=>?_];have s0:=jm (o:=.lst []) (Same.refl H) hD;have n1:(x+(wd) - x).toNat=wd:=by lia
 have n2:(y+(hg) - y).toNat=hg:=by lia
 refine#[x,_,rfl,Uo (λi σ H2=>E2 λ(v) (ps)=>A4 (σ=[oI x,oI y,oI wd,oI hg,oR D,v]) (Same H H2) (H2 D=some (.lst<|ps.map V.ref))<|US H2 ps<|vR x y i hg) #[_,_,rfl,s0,jd,US.nil] ?_ ?_]
 ·rintro i σ H2 hi ⟨v,ps,rfl,s2,e2,C2⟩;rw[n1] at hi;refine#[.inl #[rfl,_,jt.of e2],y,_,rfl,dE (λD2 j ys H'=>∃qs:List Addr,A6 (ys=qs.map V.ref) _ (Same H2 H') (H' D2=some (.lst ys)) (ys.length=j) (US H' qs ((Yk j).map λ(j:Nat)=>(x+(i),y+(j))))) (by rw[n2];exact ym h1 (by decide)) (λD2 FK=>#[_,rfl,FK,jm (Same.refl _) FK,jd,rfl,US.nil]) (λD2 j ys H' h_=>by obtain⟨qs,_,_,_,e,l,_⟩:=h_;exact#[e,l]) ?_ ?_]
  ·rintro D2 j ys H' Qy Qn hj ⟨qs,rfl,d1,d2,d3,d4,d5⟩ hy;refine#[#[_,rfl,rfl],JE #[Vy,λp hp=>?_]];have WA:p≠D2:=λz=>by rw[z,d3] at hp;cases hp
   have sp:=jm (o:=.tup [.int<|x+(i:Int),.int<|y+(j:Int)]) (Same.refl H') hp;refine hy _ _ (jB (yG WA) d3) #[qs++[p],by rw[yk];rfl,d1,λb u e=>?_,jd,by rw[ye,d4];rfl,?_]
   ·have:=d2 b u e;rw[jj<|jh e d1,jj<|jh this hp];exact this
   ·rw[Y8,yk];exact ((d5.same sp).app<|US.one jd).wr (sp _ _ d3)
  ·rintro D2 ys H' FK ⟨qs,rfl,d1,d2,d3,d4,d5⟩;rw[n2] at d4 d5;have eD:=d2 _ _ e2;have l1:=C2.1;rw[Gb] at l1;have l2:i*hg<=15*15:=QI (by lia) h1;refine#[D,D2,_,_,rfl,rfl,eD,d3,?_,_,_,rfl,λb u e=>?_,by rw[jd,yk],?_]
   ·rw[d4,yb,l1];exact ym (show _<=1000 by lia) (by decide)
   ·rw[jj<|jh e hD];exact d2 _ _ (s2 _ _ e)
   ·rw[N9];exact ((C2.same d2).app d5).wr eD
 ·rintro σ H2 ⟨v,ps,rfl,s2,e2,C2⟩;rw[n1] at C2;exact q D ps H2 s2 hD e2 C2
def qW (C:Addr):Sp:=λvs H Q _=>E6 λ(o dx:Addr) (x y:Int) (wd hg:Nat)=>A5 (vs=[.ref o]) (H o=some (.ins C dx<|fK (.int x) (.int y) (.int wd)<|.int hg)) (wd<=15) (hg<=15) (∀D ps H',Same H H'->H D=none->H' D=some (.lst<|ps.map V.ref)->US H' ps (vR x y wd hg)->Q (.ref D) H')
theorem K7 (T:Txt K mg t):uQ P w K mg base 2 t.uU SL [EQ] (qW t.uU):=by
 refine T.Mm.ok T.Uv [EQ] ?_;rintro _ H Q E ⟨o,dx,x,y,wd,hg,rfl,ho,w1,h1,q⟩;refine#[rfl,λEm A outer s hr=>#[_,(jk<|jC<|jn (MO T)<|ja (jM<|pv 0)<|ja (jM<|pv 0)<|ja (jM<|pv 0)<|ja (jM<|pv 0) jf),?_]];refine#[o,_,dx,_,.int x,rfl,ho,T.Uv,T.Kk,by kernel_rfl,?_];refine#[_,_,_,_,_,rfl,ho,T.Uv,T.Kl,rfl,?_];refine#[_,_,_,_,_,rfl,ho,T.Uv,T.ZG,rfl,?_];exact#[_,_,_,_,_,rfl,ho,T.Uv,T.ZF,rfl,x,y,wd,hg,rfl,w1,h1,q]
def MX:Sp:=λvs H Q _=>E3 λ(n lo hi:Int)=>A4 (vs=[.int n,.int lo,.int hi]) (lo<=n) (n<=hi) (Q .non H)
theorem Kp (T:Txt K mg t):jS P w K mg base 2 "need_between" [YA,"least","most"] MX:=by
 refine T.KH.ok [YA,"least","most"] ?_;rintro _ H Q E ⟨n,lo,hi,rfl,l1,l2,q⟩;refine#[rfl,λEm A outer s hr=>#[_,(jk<|j9 (Vh (uN<|JS<|jn (UJ T)<|ja (pv 0) jf)<|vU<|uN<|ab vP vP (pv 1) (pv 0)<|pv 2).pt (jk JW) jW),?_]];exact#[n,rfl,uT #[_,rfl,Jw (λ_=>JP (λz=>of_decide_eq_false z l2) λ_=>q) λz=>absurd l1 z]]
def fc:Sp:=λvs H Q _=>E2 λ(p:Addr) (xs:List V)=>A4 (vs=[.ref p]) (H p=some (.tup xs)) (rF xs) (Q .non H)
theorem N1 (T:Txt K mg t):jS P w K mg base 2 "need_keep" [ST] fc:=by
 refine T.aR.ok [ST,YA] ?_;rintro _ H Q E ⟨p,xs,rfl,hp,⟨x,y,w,h,z,rfl,g1,g2,g3,g4,g5⟩,q⟩;refine#[rfl,λEm A outer s hr=>#[_,(ji (j9 (Vh (uN (JS (jU VS (by rfl) T.U4 UZ (ja (pv 0) (ja (z8 (v:=.ty "tuple") (by rfl) T.g8 gR rfl) jf))))) (vU (j5 Ks (jU Js (by rfl) T.vO vG<|ja (pv 0) jf) jg))).pt (jk JW) jW)<|ji (j7 jO (N8<|pv 0) (jw 1)<|jk<|j9 (Vh (uN<|JS<|jn (UJ T)<|ja (pv 1) jf)<|Vh (j5 UU (pv 1) jg)<|vU<|uN<|JS<|jn (bx T)<|ja (pv 1) jf).pt (jk JW) jW)<|jk<|j9 (Vh (j5 UU (ju jr (pv 0) jg) jg)<|vU<|j5 UU (ju jr (pv 0) jg) jg).pt (jk JW) jW),?_]];refine#[_,_,_,_,true,rfl,.tup hp,.ty _,by kernel_rfl,uT ?_];refine#[p,_,rfl,.inr<|jx.of hp,rfl,JP (λh5=>of_decide_eq_false h5 rfl) λ_=>?_];have gn:∀v∈[V.int x,.int y,.int w,.int h,.int z],∃n,v=.int n/\0<=n/\n<bK:=λv hv=>by
  simp only[yz,Qq,or_false] at hv;rcases hv with rfl|rfl|rfl|rfl|rfl
  ·exact#[_,rfl,g1]
  ·exact#[_,rfl,g2]
  ·exact#[_,rfl,by lia,g3.2]
  ·exact#[_,rfl,by lia,g4.2]
  ·exact#[_,rfl,g5]
 refine#[p,rfl,#[_,jx.of hp],tN (λi σ H2=>∃v,σ=[oR p,v]/\H2=H) #[_,rfl,rfl] (λi σ H2 _ #[_,_,e]=>by rw[e];exact jx.of hp) ?_ ?_]
 ·rintro i v σ H2 hx ⟨v',rfl,rfl⟩;obtain⟨n,rfl,n0,n1⟩:=gn v<|yp hx;exact#[n,rfl,uT (Jw (λz=>absurd z (by lia)) λ_=>#[n,rfl,JP (λhs=>of_decide_eq_false hs (by lia)) λ_=>#[_,rfl,rfl]])]
 ·rintro σ H2 ⟨v',rfl,rfl⟩;exact#[_,_,jx.of hp,UI rfl,Jw (λz=>absurd z (by lia)) λ_=>#[_,_,jx.of hp,UI rfl,Jw (λz=>absurd z (by lia)) λ_=>q]]
def bF:Sp:=λvs H Q _=>E3 λ(a:Addr) (ps:DZ) (FA:List (List V))=>A5 (vs=[.ref a]) (H a=some (.lst<|ps.map V.ref)) (VT H ps FA) (nK FA) (Q .non H)
theorem MS (T:Txt K mg t):jS P w K mg base 3 "need_keeps" [SC] bF:=by
 refine T.nB.ok [SC,ST] ?_;rintro _ H Q E ⟨a,ps,FA,rfl,ha,C,g,q⟩;refine#[rfl,λEm A outer s hr=>#[_,(ji (j9 (Vh (uN (JS (jU VS (by rfl) T.U4 UZ (ja (pv 0) (ja (z8 (v:=.ty "list") (by rfl) T.lC fV rfl) jf))))) (vU (j5 r9 (jU Js (by rfl) T.vO vG<|ja (pv 0) jf) (Va (v:=.int 12) (by rfl) T.Nt #[_,rfl])))).pt (jk JW) jW)<|jk<|j7 jO (jV<|pv 0) (jw 1)<|jk<|jQ<|jn (N1 T)<|ja (pv 1) jf),?_]];refine#[_,_,_,_,true,rfl,.lst ha,.ty _,by kernel_rfl,uT ?_];refine#[a,_,rfl,.inl<|jt.of ha,Jw (λz=>?_) λ_=>?_]
 ·have:=g.1;rw[yb,C.len] at z;exact absurd z (by lia)
 ·refine#[a,rfl,#[_,jt.of ha],Jt (λi σ H2=>∃v,σ=[oR a,v]/\H2=H) #[_,rfl,rfl] (λi σ H2 _ #[_,_,e]=>by rw[e];exact jt.of ha) ?_ ?_]
  ·rintro i x σ H2 hx ⟨v,rfl,rfl⟩;obtain⟨p,hp,rfl⟩:=jX hx;have hi:i<FA.length:=by rw[<-C.len];exact (yd.mp hp).1
   exact#[p,_,rfl,C.at_ i p _ hp<|yc hi,g.2 _<|yV hi,_,rfl,rfl]
  ·rintro σ H2 ⟨v,rfl,rfl⟩;exact q
def cZ (C:Addr):Sp:=λvs H Q _=>E8 λ(o dx:Addr) (g w r:Int) (a:Addr) (ps:DZ) (FA:List (List V))=>A9 (vs=[.ref o,.int g,.int w,.int r,.ref a]) (H o=some (.ins C dx [])) (H a=some (.lst<|ps.map V.ref)) (VT H ps FA) (0<=g/\g<=2) (1<=w/\w<=3) (0<=r/\r<=1) (nK FA) (∀l p H',wZ o H H'->H l=none->H p=none->l≠o->H' l=some (.lst<|ps.map V.ref)->H' p=some (.tup<|ps.map V.ref)->H' o=some (.ins C dx<|fR (.int g) (.int w) (.int r) (.ref l)<|.ref p)->Q .non H')
theorem MN (T:Txt K mg t):kn P w K mg base 4 "Rules" t.uV [EQ,LE,P3,SB,SC] (cZ t.uV):=by
 refine T.nu.ok T.tS [EQ,LE,P3,SB,SC] ?_;rintro _ H Q E ⟨o,dx,g,w,r,a,ps,FA,rfl,ho,ha,C,hg,hw,ED,gk,kQ⟩;refine#[rfl,λEm A outer s hr=>#[_,(ji (jQ (jn (Kp T) (ja (pv 1) (ja jg (ja (Va (v:=.int 2) (by rfl) T.dS #[_,rfl]) jf))))) (ji (jQ (jn (Kp T) (ja (pv 2) (ja jg (ja (Va (v:=.int 3) (by rfl) T.Nu #[_,rfl]) jf))))) (ji (jQ (jn (Kp T) (ja (pv 3) (ja jg (ja (Va (v:=.int 1) (by rfl) T.dU #[_,rfl]) jf))))) (ji (jQ<|jn (MS T)<|ja (pv 4) jf) (ji (u8 (pv 0) (pv 1) rfl) (ji (u8 (pv 0) (pv 2) rfl) (ji (u8 (pv 0) (pv 3) rfl) (ji (u8 (pv 0) (zB nY (by rfl) T.lC fV<|ja (pv 4) jf) rfl) (jk (u8 (pv 0) (zB ZB (by rfl) T.g8 gR<|ja (pv 4) jf) rfl)))))))))),?_]];refine#[g,0,2,rfl,hg.1,hg.2,?_];refine#[w,1,3,rfl,hw.1,hw.2,?_];refine#[r,0,1,rfl,ED.1,ED.2,?_];refine#[a,ps,FA,rfl,ha,C,gk,?_];refine#[o,_,dx,_,rfl,ho,T.Uw,T.gs,(by decide),?_];refine#[o,_,dx,_,rfl,jd,T.Uw,T.zX,Qd (by kernel_rfl),?_];refine#[o,_,dx,_,rfl,jd,T.Uw,T.gu,Qd (by kernel_rfl),?_];have Ow:=jA ha ho;refine#[a,_,rfl,.inl (jt.of (by rw[jj Ow,jj Ow,jj Ow];exact ha)),λl hl=>?_];have LJ:l≠o:=λz=>by rw[z,jd] at hl;cases hl
 have Hl:=by rw[jj LJ,jj LJ,jj LJ] at hl;exact hl
 have nal:=jh ha Hl;refine#[o,_,dx,_,rfl,jB (yG LJ) jd,T.Uw,T.K6,Qd (by kernel_rfl),?_];refine#[a,_,rfl,.inl #[jt.of (by rw[jj Ow,jj nal,jj Ow,jj Ow,jj Ow];exact ha),λp hp=>?_]];have Pq:p≠o:=λz=>by rw[z,jd] at hp;cases hp
 have e₁:p≠l:=λz=>by rw[z,jj LJ,jd] at hp;cases hp
 have Hp:=by rw[jj Pq,jj e₁,jj Pq,jj Pq,jj Pq] at hp;exact hp
 refine#[o,_,dx,_,rfl,jB (yG Pq) jd,T.Uw,T.ZH,Qd (by kernel_rfl),?_];refine kQ l p _ (λc u hc e=>?_) Hl Hp LJ ?_ ?_ ?_
 ·rw[jj hc,jj<|jh e Hp,jj hc,jj<|jh e Hl,jj hc,jj hc,jj hc];exact e
 ·rw[jj LJ,jj<|yG e₁,jj LJ];exact jd
 ·rw[jj Pq];exact jd
 ·rw[jd,xJ]
def Mc (x y z:Int) (n:Nat):List je:=(vR x y n n).map λq=>(q.1,q.2,z)
theorem c6 (x y z:Int) (n:Nat):(Mc x y z n).length=n*n:=by unfold Mc;rw[yb,Gb]
def JT (c:je) (g:Nat):List je:=Mc (c.1 - g) (c.2.1 - g) c.2.2 (2*g+1)
def rp:Sp:=λvs H Q _=>E3 λ(p:Addr) (c:je) (n:Nat)=>A5 (vs=[.ref p,.int n]) (H p=some (.tup [.int c.1,.int c.2.1,.int c.2.2])) (1<=n) (n<=7) (∀D ps H',Same H H'->H D=none->H' D=some (.lst<|ps.map V.ref)->jy H' ps (Mc c.1 c.2.1 c.2.2 n)->Q (.ref D) H')
theorem z6 (T:Txt K mg t):jS P w K mg base 6 "square_from" [YG,LT] rp:=by
 refine T.Mu.ok [YG,LT] ?_;rintro _ H Q E ⟨p,c,n,rfl,hp,n1,n7,q⟩;refine#[rfl,λEm A outer s hr=>#[_,(jk (jC (Jx (own:=["place"]) (UT) (jV<|uk (Kj<|K7 T)<|za (MM T)<|ja (ju jr (pv 0) jg)<|ja (ju jr (pv 0) jg)<|ja (pv 1)<|ja (pv 1) jf) (λ_ _ _ _ _=>jw 2) (λ_ _ _ _ _=>UF) (λ_ _ _ _ _=>(jp (N2 rfl) (pv 2)<|jN<|ja (ju jr (pv 0) jg) jf))))),?_]];have S:=jx.of (K:=K) hp;refine#[_,_,S,rfl,_,_,S,rfl,λo dx ho Lj Ey=>#[o,dx,_,_,_,_,rfl,jd,by lia,by lia,λH1 k1 e1=>#[rfl,?_]]]
 ·have s1:=qg (Same.refl H) ho Lj k1;have FZ:=s1 _ _ hp;refine#[o,dx,_,rfl,e1,by kernel_rfl,o,dx,_,_,n,n,rfl,e1,by lia,by lia,λD ps H2 s2 hD eD CP=>?_];have lp:ps.length<=49:=by
   rw[CP.1,Gb];exact QI n7 n7
  have Fe:=s2 _ _ FZ;refine#[D,rfl,#[_,jt.of eD],uj (xs:=ps.map V.ref) (λD2 i ys H'=>∃qs:List Addr,A6 (ys=qs.map V.ref) _ (Same H2 H') (H' D2=some (.lst ys)) (ys.length<=i) (jy H' qs (((vR c.1 c.2.1 n n).take i).map λq=>(q.1,q.2,c.2.2)))) (by rw[yb];exact ym lp (by decide)) (λD2 FK=>#[[],rfl,FK,jm (Same.refl _) FK,jd,yh _,#[rfl,(λi p c h=>nomatch h)]]) (λD2 i ys H' h_=>by obtain⟨qs,_,_,d2,e,l,_⟩:=h_;exact#[e,l,jt.of<|d2 _ _ eD]) ?_ ?_]
  ·rintro D2 i v ys H' Qy Qn hi ⟨qs,rfl,d1,d2,d3,d4,d5⟩ hy _;obtain⟨p2,Hx,rfl⟩:=jX hi;have El:i<(vR c.1 c.2.1 n n).length:=by rw[<-CP.1];exact (yd.mp Hx).1
   have eq2:=yc El;have WY:=d2 _ _<|CP.2 i p2 _ Hx eq2;have WM:(vR c.1 c.2.1 n n).take (i+1)=(vR c.1 c.2.1 n n).take i++[(vR _ _ n n)[i]]:=by rw[Qm,eq2];rfl
   rw[WM] at hy;generalize (vR _ _ n n)[i]=qq at WY hy;refine#[#[_,rfl,rfl],JE (#[_,_,jx.of<|d2 _ _ Fe,rfl,cV,λt1 S8=>?_])];refine#[p2,t1,[.int _,.int _],_,rfl,rfl,jx.of<|jB (jh WY S8) WY,jx.of jd,by simp,Za,(λz=>by cases z),λ_ p3 Hx=>?_];have st:=jm (o:=.tup [.int c.2.2]) (Same.refl H') S8;have Fj:=st _ _ d3;generalize upd H' t1 (.tup [.int c.2.2])=H3 at Hx st Fj;have n2:=jh Fj Hx;have Ho:=jm (o:=.tup<|[.int qq.1,.int qq.2]++[.int c.2.2]) (Same.refl H3) Hx;refine hy _ _ (Ho _ _ Fj) #[qs++[p3],by rw[yk];rfl,d1,λb u e=>?_,jd,by rw[ye];exact Qb d4,?_]
   ·rw[jj<|jh e d1];exact Ho _ _ (st _ _<|d2 _ _ e)
   ·rw[yk];exact (((d5.same st).same Ho).snoc jd).wr (Ho _ _ Fj)
  ·rintro D2 ys H' FK ⟨qs,rfl,d1,d2,d3,d4,d5⟩;rw[yb,CP.1,yW] at d5;have nn:∀{H':Hp} {x:Addr},Same H H'->H' x=none->H x=none:=λ{H' x} s hx=>by
    cases e:H x with
    | none=>rfl
    | some u=>rw[s _ _ e] at hx;cases hx
   exact q D2 qs H' (Same.trans s1<|Same.trans s2 d2) (nn (Same.trans s1 s2) d1) d3 d5
def qS:Sp:=λvs H Q _=>E3 λ(p:Addr) (c:je) (g:Nat)=>A4 (vs=[.ref p,.int g]) (H p=some (.tup [.int c.1,.int c.2.1,.int c.2.2])) (g<=2) (∀D ps H',Same H H'->H D=none->H' D=some (.lst<|ps.map V.ref)->jy H' ps (JT c g)->Q (.ref D) H')
theorem mR (T:Txt K mg t):jS P w K mg base 7 "around" [E0,"far"] qS:=by
 refine T.oX.ok [E0,"far"] ?_;rintro _ H Q E ⟨p,c,g,rfl,hp,g2,q⟩;refine#[rfl,λEm A outer s hr=>#[_,(jk<|jC<|jn (z6 T)<|ja (jN<|ja (jp JR (ju jr (pv 0) jg)<|pv 1)<|ja (jp JR (ju jr (pv 0) jg)<|pv 1)<|ja (ju jr (pv 0) jg) jf)<|ja (jp Jc (jp U5 jg<|pv 1) jg) jf),?_]];have S:=jx.of (K:=K) hp;refine#[_,_,S,rfl,_,_,S,rfl,_,_,S,rfl,Za,λp2 Fe=>?_];have s1:=jm (o:=.tup [.int<|c.1 - g,.int<|c.2.1 - g,.int c.2.2]) (Same.refl H) Fe;refine#[.inl #[by decide,by decide],p2,(c.1 - g,c.2.1 - g,c.2.2),2*g+1,rfl,jd,by lia,by lia,λD ps H' s2 hD eD C=>q D ps H' (Same.trans s1 s2) ?_ eD C];cases e:H D with
 | none=>rfl
 | some u=>rw[s1 _ _ e] at hD;cases hD
def qX:Sp:=λvs H Q _=>E8 λ(p k:Addr) (c:je) (x y wd hg z:Int)=>A4 (vs=[.ref p,.ref k]) (H p=some (.tup [.int c.1,.int c.2.1,.int c.2.2])) (H k=some (.tup [.int x,.int y,.int wd,.int hg,.int z])) (Q (.bl<|decide (x<=c.1/\c.1<x+wd/\y<=c.2.1/\c.2.1<y+hg/\c.2.2=z)) H)
theorem eC (T:Txt K mg t):jS P w K mg base 1 "in_keep" [E0,ST] qX:=by
 refine T.fF.ok [E0,ST,"across","down"] ?_;rintro _ H Q E ⟨p,k,c,x,y,wd,hg,z,rfl,hp,hk,q⟩;refine#[rfl,λEm A outer s hr=>#[_,(ji (jv 2<|vp vP UU (ju jr (pv 1) jg) (ju jr (pv 0) jg)<|jp Jc (ju jr (pv 1) jg)<|ju jr (pv 1) jg)<|ji (jv 3<|vp vP UU (ju jr (pv 1) jg) (ju jr (pv 0) jg)<|jp Jc (ju jr (pv 1) jg)<|ju jr (pv 1) jg)<|jk<|jC<|u7 (pv 2)<|u7 (pv 3)<|U6<|vy Uz (ju jr (pv 0) jg)<|ju jr (pv 1) jg),?_]];have S:=jx.of (K:=K) hp;have SK:=jx.of (K:=K) hk;refine ZL [oR p,oR k,some<|.bl<|decide (x<=c.1)&&decide (c.1<x+wd),none] (λH'=>H=H') (λB hB=>?_) ?_
 ·refine#[_,_,SK,rfl,_,_,S,rfl,_,rfl,Jw (λh1=>?_) λh1=>?_]
  ·refine#[_,_,SK,rfl,_,_,SK,rfl,?_];have:=hB H rfl;rw[decide_eq_true h1,QM] at this;exact this
  ·have:=hB H rfl;rw[decide_eq_false h1,QU] at this;exact this
 intro H1 e;subst e;refine ZL [oR p,oR k,some<|.bl<|decide (x<=c.1)&&decide (c.1<x+wd),some<|.bl<|decide (y<=c.2.1)&&decide (c.2.1<y+hg)] (λH'=>H=H') (λB hB=>?_) ?_
 ·refine#[_,_,SK,rfl,_,_,S,rfl,_,rfl,Jw (λh1=>?_) λh1=>?_]
  ·refine#[_,_,SK,rfl,_,_,SK,rfl,?_];have:=hB H rfl;rw[decide_eq_true h1,QM] at this;exact this
  ·have:=hB H rfl;rw[decide_eq_false h1,QU] at this;exact this
 intro H1 e;subst e;refine#[_,rfl,?_];have e1:∀b1 b2:Bool,decide (x<=c.1/\c.1<x+wd/\y<=c.2.1/\c.2.1<y+hg/\c.2.2=z)=((decide _&&decide _)&&((decide _&&decide _)&&decide (V.int _=V.int z))):=λ_ _=>by
  rw[y4];simp only[yU,decide_eq_true_eq,V.int.injEq];exact#[λ⟨a,b,c,d,e⟩=>#[#[a,b],#[c,d],e],λ⟨⟨a,b⟩,⟨c,d⟩,e⟩=>#[a,b,c,d,e]]
 rw[e1 true true] at q;refine V2 (λh1=>#[_,rfl,V2 (λh2=>#[_,_,S,rfl,_,_,SK,rfl,rfl,?_]) λh2=>?_]) λh1=>?_
 ·rw[h1,h2,QM,QM] at q;exact q
 ·rw[h1,h2,QM,QU] at q;exact q
 ·rw[h1,QU] at q;exact q
abbrev K5:=Int×Int×Int×Int×Int
def GD (k:K5):List V:=[.int k.1,.int k.2.1,.int k.2.2.1,.int k.2.2.2.1,.int k.2.2.2.2]
def kX (c:je) (k:K5):Bool:=decide (k.1<=c.1/\c.1<k.1+k.2.2.1/\k.2.1<=c.2.1/\c.2.1<k.2.1+k.2.2.2.1/\c.2.2=k.2.2.2.2)
def Kc (H:Hp):V->K5
 | .ref p=>match H p with|some (.tup [.int a,.int b,.int c,.int d,.int e])=>(a,b,c,d,e)|_=>(0,0,0,0,0)
 | _=>(0,0,0,0,0)
theorem mP {p:Addr}{k:K5} (h:H p=some (.tup<|GD k)):Kc H (.ref p)=k:=by
 show (match H p with|some (.tup [.int a,.int b,.int c,.int d,.int e])=>(a,b,c,d,e)|_=>(0,0,0,0,0))=k;rw[h]
 rfl
def uK (H:Hp) (ps:DZ) (ks:List K5):Prop:=VT H ps (ks.map GD)
theorem uK.same {H':Hp} (C:uK H ps ks) (s:Same H H'):uK H' ps ks:=VT.same C s
theorem uK.at_ (C:uK H ps ks) {p:Addr} {k:K5} (h1:ps[i]?=some p) (h2:ks[i]?=some k):H p=some (.tup<|GD k):=VT.at_ C i p _ h1 (by rw[yo,h2];rfl)
theorem uK.len (C:uK H ps ks):ps.length=ks.length:=by have:=VT.len C;simpa using this
theorem uK.mem (C:uK H ps ks) {p:Addr} (h:p∈ps):∃k∈ks,H p=some (.tup<|GD k):=by
 obtain⟨i,hi,rfl⟩:=yO h;have h2:i<ks.length:=by rw[<-C.len];exact hi
 exact#[_,yV h2,C.at_ (yc hi)<|yc h2]
theorem uK.map {β:Type} (C:uK H ps ks) (f:K5->β):(ps.map V.ref).map (λv=>f<|Kc H v)=ks.map f:=by
 refine QF (by simp [C.len]) λi h1 h2=>?_;have g1:=by simpa using h1
 have g2:=by simpa using h2
 rw[Qh,Qh,Qh,mP<|C.at_ (yc g1)<|yc g2]
def qY (K:DS):Sp:=λvs H Q _=>E5 λ(p a:Addr) (c:je) (ps:DZ) (ks:List K5)=>A6 (vs=[.ref p,.ref a]) (H p=some (.tup [.int c.1,.int c.2.1,.int c.2.2])) (jx K H a<|ps.map V.ref) (uK H ps ks) (ks.length<=100) (∀H',Same H H'->Q (.bl<|ks.any<|kX c) H')
theorem eI (T:Txt K mg t):jS P w K mg base 2 "is_kept" [E0,SC] (qY K):=by
 refine T.fJ.ok [E0,SC] ?_;rintro _ H Q E ⟨p,a,c,ps,ks,rfl,hp,ha,C,hl,q⟩;refine#[rfl,λEm A outer s hr=>#[_,(jk (jC (jU (KO rfl) (by rfl) T.BE Bq (ja (Jx (own:=[ST]) (UT) (N8<|pv 1) (λ_ _ _ _ _=>jw 2) (λ_ _ _ _ _=>UF) (λ_ _ _ _ _=>(jn (eC T)<|ja (pv 0)<|ja (pv 2) jf))) jf)))),?_]];refine#[a,rfl,#[_,ha],dD (λ_=>true) (λv=>.bl<|kX c<|Kc H v) ha (by rw[yb,C.len];exact ym hl (by decide)) (λx hx H' Qy Qn s' hy _=>?_) λD H' hD s' eD=>?_]
 ·obtain⟨k,hk,rfl⟩:=yf.mp hx;obtain⟨k5,_,e⟩:=C.mem hk;refine#[#[_,rfl,rfl],JE #[p,k,c,_,_,_,_,_,rfl,s' _ _ hp,s' _ _ e,?_]];have:=hy rfl _<|Same.refl H';rw[mP e] at this;exact this
 ·rw[List.filter_eq_self.mpr (λ_ _=>rfl)] at eD;have e2:(ps.map V.ref).map (λv=>V.bl<|kX c<|Kc H v)=(ks.map<|kX c).map V.bl:=by rw[C.map λk=>V.bl _,yS];rfl
  rw[e2] at eD;have:=q H' s';refine#[D,_,rfl,jt.of eD,?_];rw[List.any_map];exact this
abbrev Nk:=List (Key ⊕ List Key)
abbrev nO:Od:=Jl ZE
def k2 (p:Int×Int):List Key:=[.inl p.1,.inl p.2]
def V0 (p:je×je):Nk:=[.inl<|.inr LE,.inr<|k3 p.1,.inr<|k3 p.2]
def Zn (c:je):Nk:=[.inl<|.inr ST,.inr<|k3 c]
def G9 (p:(Int×Int)×je):Nk:=[.inl<|.inr SB,.inr<|k2 p.1,.inr<|k3 p.2]
def kh (c:je):Nk:=[.inl<|.inr P3,.inr<|k3 c]
theorem v3 {a:Addr}{c:je} (h:H a=some (.tup [.int c.1,.int c.2.1,.int c.2.2])):(Jl Jq).V_ H (.ref a) (k3 c):=#[a,_,rfl,h,.cons rfl<|.cons rfl<|.cons rfl .nil]
theorem v2 {a:Addr}{c:Int×Int} (h:H a=some (.tup [.int c.1,.int c.2])):(Jl Jq).V_ H (.ref a) (k2 c):=#[a,_,rfl,h,.cons rfl<|.cons rfl .nil]
theorem iE {p a b:Addr}{c d:je} (h:H p=some (.tup [.str LE,.ref a,.ref b])) (ha:H a=some (.tup [.int c.1,.int c.2.1,.int c.2.2])) (hb:H b=some (.tup [.int d.1,.int d.2.1,.int d.2.2])):nO.V_ H (.ref p) (V0 (c,d)) :=
 #[p,_,rfl,h,.cons rfl<|.cons (v3 ha)<|.cons (v3 hb) .nil]
theorem cy {p a:Addr}{c:je} (h:H p=some (.tup [.str ST,.ref a])) (ha:H a=some (.tup [.int c.1,.int c.2.1,.int c.2.2])):nO.V_ H (.ref p) (Zn c):=#[p,_,rfl,h,.cons rfl<|.cons (v3 ha) .nil]
theorem oQ {p a:Addr}{c:je} (h:H p=some (.tup [.str P3,.ref a])) (ha:H a=some (.tup [.int c.1,.int c.2.1,.int c.2.2])):nO.V_ H (.ref p) (kh c):=#[p,_,rfl,h,.cons rfl<|.cons (v3 ha) .nil]
theorem l8 {p a b:Addr}{c:Int×Int}{d:je} (h:H p=some (.tup [.str SB,.ref a,.ref b])) (ha:H a=some (.tup [.int c.1,.int c.2])) (hb:H b=some (.tup [.int d.1,.int d.2.1,.int d.2.2])):nO.V_ H (.ref p) (G9 (c,d)) :=
 #[p,_,rfl,h,.cons rfl<|.cons (v2 ha)<|.cons (v3 hb) .nil]
def zx (c d:je):Bool:=JD Jq (k3 c) (k3 d)
theorem Zj (c d:je):uS Jq (k3 c) (k3 d):=by
 unfold k3 uS;exact#[rfl,λ_=>by exact#[rfl,λ_=>by exact#[rfl,λ_=>by trivial]]]
def J0 (cl:List je) (g:Nat) (f:je->je->Bool):List Nk:=cl.flatMap λc=>((JT c g).filter<|f c).map λd=>V0 (c,d)
theorem dW (cl:List je) (c:je) (g:Nat) (f:je->je->Bool):J0 (cl++[c]) g f=J0 cl g f++((JT c g).filter<|f c).map λd=>V0 (c,d):=by
 unfold J0;rw[QZ];simp
theorem Zi (c:je) (h:g<=2):(JT c g).length<=25:=by
 unfold JT;rw[c6];exact QI (show 2*g+1<=5 by lia) (show 2*g+1<=5 by lia)
theorem zr (h:g<=2) (f:je->je->Bool):∀cl:List je,(J0 cl g f).length<=cl.length*25
 | []=>yh _
 | c::cl=>by
  have ih:=zr h f cl;have h2:=Zi c h;have h3:=y8 (f c)<|JT c g;have e:J0 (c::cl) g f=((JT c g).filter<|f c).map (λd=>V0 (c,d))++J0 cl g f:=by unfold J0;rw[QR]
  rw[e,ye,yb,Qa]
  lia
theorem jL.off {H':Hp}{bs:DZ}{ks:List Nk} (x:jL nO H bs ks) (hf:H fa=some (.lst ys)) (k:Jm fa H H'):jL nO H' bs ks:=jL.mono x λp xs e=>k _ _ (jA e hf) e
theorem jL.len {bs:DZ}{ks:List Nk} (x:jL nO H bs ks):bs.length=ks.length:=ue x
theorem jL.snoc {bs:DZ}{ks:List Nk}{p:Addr}{k:Nk} (x:jL nO H bs ks) (h:nO.V_ H (.ref p) k):jL nO H (bs++[p]) (ks++[k]):=jL.app x (.cons h .nil)
theorem Jm.refl (c:Addr) (H:Hp):Jm c H H:=λ_ _ _ e=>e
theorem Jm.trans {c:Addr} (a:Jm c H H1) (b:Jm c H1 H2):Jm c H H2:=λx u n e=>b x u n (a x u n e)
theorem Jm.upd {c:Addr} (o:HO):Jm c H (upd H c o):=λx u n e=>by rw[jj n];exact e
theorem Jm.cells {c:Addr}{H':Hp} (k:Jm c H H') (hc:H c=some (.lst ys)) (C:jy H ps cl):jy H' ps cl:=#[C.1,λi p x h1 h2=>k _ _ (jA (C.2 i p x h1 h2) hc)<|C.2 i p x h1 h2]
noncomputable def fG (N:je->List je) (cells:List je) (c d:je):Bool:=zx c d&&(decide (d∈cells)&&!rB N c d)
def AK (C:Addr):Sp:=λvs H Q _=>Gq λ(o dx c d:Addr) (w h l g:Nat) (cs ds:jF)=>A6 (vs=[.ref o,.int g]) (Bd C H o dx c d w h l cs ds) (l<=3) (cs.length<=1000) (g<=2) (∀(cells hk:List je) (r:Addr) (fs:DZ) (H':Hp),CL cs w h l cells->hk.Perm cells->Same H H'->H r=none->H' r=some (.lst<|fs.map V.ref)->jL nO H' fs (J0 hk g<|fG (jJ cs ds w h l) cells)->Q (.ref r) H')
theorem MP (T:Txt K mg t):jS P w K mg base 9 "gap_breaks" [FM,LE] (AK t.jq):=by
 refine T.nw.ok [FM,LE,"home","found",E0,YF] ?_;rintro _ H Q E ⟨o,dx,c,d,w,h,l,g,cs,ds,rfl,B,Pt,lc,g2,q⟩;refine#[rfl,λEm A outer s hr=>#[_,(ji (jv 2<|jn (qk T)<|ja (pv 0) jf) (ji (jv 3<|JL jf) (ji (z9 (j7 jO (ze rfl<|pv 2) (jw 4) (jk (j7 jO (jV<|jn (mR T)<|ja (pv 4)<|ja (pv 1) jf) (jw 5) (jk (j9 (af (j5 (Ar (Jl Jq) hr.units (by decide)) (pv 4)<|pv 5)<|af (uw<|cL (pv 5)<|pv 2)<|cQ<|j5 (lP hr.units0) (vZ (pv 2)<|pv 4)<|vZ (pv 2)<|pv 5).pt (jk<|jQ<|UA Yc Yj Yh Uq (pv 3)<|ja (jN<|ja U7<|ja (pv 4)<|ja (pv 5) jf) jf) jW))))))<|jk<|jC<|pv 3))),?_]];refine GN (λ(r) (cells hk) (hv)=>[oR o,oI g,oR r,none,none,none]) (λr cells hk hv H'=>A5 _ _ _ _ _) (λB' hB=>#[o,dx,c,d,w,h,l,cs,ds,rfl,B,Pt,lc,λcells r hk hv H' L s1 hr pm X=>hB r cells hk hv H' #[L,s1,hr,pm,X]]) ?_;rintro r cells hk hv H1 ⟨L,s1,Im,pm,X⟩;have NB:=ur (ds:=ds) L.mem;generalize jJ cs ds w h l=N at NB X q;refine uF (λ(fa)=>[oR o,oI g,oR r,oR fa,none,none]) (λfa H'=>A3 _ _<|H' fa=some _) (λB hB=>#[cU,λfa hf=>hB fa _ #[jm (Same.refl H1) hf,hf,jd]]) ?_;rintro fa H2 ⟨s2,F0,ef⟩;have X2:=X.same s2;refine gE (λ(v4 v5)=>[oR o,oI g,oR r,oR fa,v4,v5]) (λ_ _ H'=>∃fs:List Addr,A3 (Same H1 H') (H' fa=some (.lst<|fs.map V.ref))<|jL nO H' fs<|J0 hk g<|fG N cells) (λB' hB=>?_) ?_
 ·refine#[r,hv,rfl,X2.e,λob xs hz hm kt dr=>?_];obtain⟨Z,zs,zn,zt⟩:=VZ X2.e hz hm kt dr;have RW:=jA X2.e ef;have Fl:=zs _ _ (yG RW) ef;have lk:=oJ X.keys;have Ox:∀e∈hk,∃q,jD hv _=some _/\upd H2 r _ q=some _:=λe he=>by
   obtain⟨q,h1,h2⟩:=X2.val e he;exact#[q,h1,zs _ _ (jA h2 X2.e) h2]
  generalize upd H2 r (zM r ob)=H3 at Z zs zn zt Fl Ox;refine Zl Z (λi σ H'=>E3 λ(v4 v5) (fs)=>A4 (σ=[oR o,oI g,oR r,oR fa,v4,v5]) (Jm fa H3 H') (H' fa=some (.lst<|fs.map V.ref))<|jL nO H' fs<|J0 (hk.take i) g<|fG N cells) #[_,_,_,rfl,Jm.refl _ _,Fl,.nil] (λi σ H' _ h=>by obtain⟨_,_,_,_,k,_⟩:=h;exact k _ _ RW Z.e) ?_ ?_
  ·rintro i kv p σ H4 EX hp ⟨v4,v5,fs,rfl,off,FR,NA⟩;have hi:i<hk.length:=by rw[<-lk];exact (yd.mp EX).1
   have ek:kv.1=k3 hk[i]:=by
    have:=congrArg (λl=>l[i]?) X.keys;simp only[yo,EX,yc hi] at this;exact Yb this
   rw[ek] at hp;have tk:hk.take (i+1)=hk.take i++[hk[i]]:=by rw[Qm,yc hi];rfl
   have EK:=yV hi;have lg:=zr g2 (fG N cells)<|hk.take i;have e₂:(hk.take i).length<=1000:=by rw[yM];have:=pm.length_eq;have:=L.len B.C;omega
   rw[tk,dW];generalize hk[i]=cc at hp EK;have IL:H4 p=some (.tup [.int _,.int _,.int _]):=off _ _ (jA hp Fl) hp;have IW:=pm.mem_iff.mp EK;refine#[p,cc,g,rfl,IL,g2,λD ps H5 s5 hD eD CP=>?_];have fD:=jh FR hD;have la:=Zi cc g2;refine#[D,rfl,#[_,jt.of eD],Jt (λj σ H'=>E2 λ(v5) (fs)=>A4 (σ=[oR o,oI g,oR r,oR fa,oR p,v5]) (Jm fa H5 H') (H' fa=some (.lst<|fs.map V.ref)) (jL nO H' fs (J0 _ g _++(((JT cc g).take j).filter<|fG N cells cc).map λd=>V0 (cc,d)))) #[_,fs,rfl,Jm.refl _ _,s5 _ _ FR,by rw[aaA,aaW,aaK,yK];exact jL.mono NA λp xs e=>s5 _ _ e] (λj σ H' _ h=>by obtain⟨_,_,_,k,_⟩:=h;exact jt.of<|k _ _ (yG fD) eD) ?_ ?_]
   ·rintro j v σ H6 hx ⟨Ov,Ta,rfl,Fb,HL,Pu⟩;obtain⟨b,g1,rfl⟩:=jX hx;have hj:j<(JT cc g).length:=by rw[<-CP.1];exact (yd.mp g1).1
    have gg:=yc hj;have HH:=s5 _ _ FR;have Lk:=(Fb.cells HH CP).2 j b _ g1 gg;have WZ:(JT cc g).take (j+1)=(JT cc g).take j++[(JT cc g)[j]]:=by rw[Qm,gg];rfl
    have lfj:=y8 (fG N cells cc)<|(JT cc g).take j;have ltj:((JT cc g).take j).length<=25:=by rw[yM];omega
    rw[WZ,QH];generalize (JT cc g)[j]=dd at Lk;have Iy:=λx u n e=>Fb x u n<|s5 _ _<|off x u n e;have Z6:Fz P _ H6 r ob hv xs:=#[Iy _ _ RW Z.e,Z.hm,Z.kt.keeps λb ys e=>Iy _ _ (jA e Fl) e,Z.dr,Z.hz];have W0:=Iy _ _ (jA hp Fl) hp;have no:∀{X:Prop},fG N cells cc dd=false->(E2 λ(v5) (fs)=>A4 ([oR o,oI g,oR r,oR fa,oR p,oR b]=[oR o,oI g,oR r,oR fa,oR p,v5]) _ (H6 fa=some (.lst<|fs.map V.ref)) (jL nO H6 fs (J0 _ g _++(((JT cc g).take j).filter _++[dd].filter (fG N cells cc)).map λd=>V0 (cc,d)))):=λ{X} hf=>#[_,Ta,rfl,Fb,HL,by
     rw[abj (by rw[hf];exact yA),aaW,yK];exact Pu]
    refine#[_,_,v3 W0,v3 Lk,Zj cc dd,V2 (λh1=>?_) λh1=>uT (no (X:=True) (by unfold fG;rw[show zx cc dd=false from h1,QU]))];refine#[r,_,rfl,UW.z (k:=k3 dd) Z6 Lk,V2 (λh2=>?_) λh2=>uT (no (X:=True) (by
     unfold fG;have:dd ∉ cells:=λz=>by rw[(vq X.keys).mpr<|pm.mem_iff.mpr z] at h2;cases h2
     rw[decide_eq_false this,QU,Y0]))]
    have f₁:=(vq X.keys).mp h2;have W2:=pm.mem_iff.mp f₁;obtain⟨q1,w1,t1⟩:=Ox cc EK;obtain⟨q2,w2,t2⟩:=Ox dd f₁;have t1':=Iy _ _ (jA t1 Fl) t1;have t2':=Iy _ _ (jA t2 Fl) t2
    refine#[r,_,rfl,by rw[<-w1];exact UW.z Z6 W0,r,_,rfl,by rw[<-w2];exact UW.z Z6 Lk,q1,q2,l3 _,l3 _,rfl,rfl,jx.of t1',jx.of t2',JP (λh3=>?_) λh3=>no (X:=True) (by
     unfold fG;have e:=Aa<|of_decide_eq_true h3;rw[Vp.mpr<|(ck NB IW W2).mp e,abe,Y0,Y0])]
    have hf:fG N cells cc dd=true:=by
     unfold fG;have e:=λz=>of_decide_eq_false h3 (by rw[(ck NB IW W2).mpr z]);have:rB N cc dd=false:=by
      cases hh:rB N cc dd with
      | false=>rfl
      | true=>exact absurd (Vp.mp hh) e
     rw[show zx cc dd=true from h1,decide_eq_true W2,this];rfl
    refine#[.inl #[rfl,_,jt.of HL],Za,λp7 RX=>?_];refine VL RX λH7 s7 e7=>?_;have IK:=s7 _ _ HL;refine#[fa,_,_,rfl,rfl,IK,?_,_,Ta++[p7],rfl,λx u n e=>jB n<|s7 _ _<|Fb x u n e,by rw[jd,yk];rfl,?_]
    ·rw[yb,jL.len Pu,ye,yb];exact yP (show _<=30000 by omega) (by decide)
    ·rw[abi hf,aaW,yk,<-yQ];exact jL.off (jL.snoc (jL.mono Pu λp xs e=>s7 _ _ e)<|iE e7 (s7 _ _ W0)<|s7 _ _ Lk) IK (Jm.upd _)
   ·rintro σ H6 ⟨Ov,Ta,rfl,Fb,HL,Pu⟩;rw[yb,CP.1,yW] at Pu;exact#[_,_,Ta,rfl,λx u n e=>Fb x u n<|s5 _ _<|off x u n e,HL,Pu]
  ·rintro σ H4 ⟨v4,v5,fs,rfl,off,FR,NA⟩;rw[lk,yW] at NA;have Z4:Fz P _ H4 r ob hv xs:=#[off _ _ RW Z.e,Z.hm,Z.kt.keeps λb ys e=>off _ _ (jA e Fl) e,Z.dr,Z.hz];refine#[r,ob,hv,xs,Z4,hB v4 v5 _ #[fs,λx u e=>?_,jB (yG RW) FR,jL.mono NA λp xs e=>jB (jA e Z4.e) e]];by_cases h:x=r
   ·subst h;rw[X.e] at e;cases e;exact jd
   ·rw[jj h];exact off x u (jh e F0) (zs _ _ h<|s2 _ _ e)
 rintro v4 v5 H3 ⟨fs,s3,Fl,NA⟩;have Of:H fa=none:=by
  cases e:H fa with
  | none=>rfl
  | some u=>rw[s1 _ _ e] at F0;cases F0
 exact q cells hk fa fs H3 L pm (Same.trans s1 s3) Of Fl NA
theorem Zk {g:TG}{k:Nat}{a:Addr} (f:je->Bool) (gN:je->Nk) (hz:cl.length<=sizeLine) (ha:H a=some (.lst<|ps.map V.ref)) (C:jy H ps cl)
  (hg:∀(r:Addr) (c:je) (H':Hp) (Qy:VK) (Qn:Hp->Prop),Same H H'->H' r=some (.tup [.int c.1,.int c.2.1,.int c.2.2])->(f c=true->∀H2 p,Same H' H2->nO.V_ H2 (.ref p) (gN c)->Qy (.ref p) H2)->(f c=false->∀H2,Same H' H2->Qn H2)->g (.ref r) (σ++Yd k none) H' λσ2 H2=>(∃zs,σ2=σ++zs/\zs.length=k)/\tc σ2 H2 λb H3=>if b=true then te σ2 H3 Qy else Qn H3)
  (q:∀D rs H',Same H H'->H D=none->H' D=some (.lst<|rs.map V.ref)->jL nO H' rs ((cl.filter f).map gN)->Q (.ref D) H'):vm k g tc te σ Q (ZU K a) H:=by
 refine uj (xs:=ps.map V.ref) (λD i ys H'=>A5 _ (Same H H') (H' D=some (.lst ys)) (ys.length<=i) (∃rs:List Addr,ys=rs.map V.ref/\jL nO H' rs (((cl.take i).filter f).map gN))) (by rw[yb,C.1];exact hz) (λD hD=>#[hD,jm (Same.refl _) hD,jd,yh _,_,rfl,.nil]) (λD i ys H' h_=>by obtain⟨_,d2,e,l,_⟩:=h_;exact#[e,l,jt.of<|d2 _ _ ha]) ?_ ?_
 ·rintro D i v ys H' Qy Qn hx ⟨d1,d2,d3,d4,rs,rfl,C'⟩ hy hn;obtain⟨r,FL,rfl⟩:=jX hx;have hi:i<cl.length:=by rw[<-C.1];exact (yd.mp FL).1
  have hs:=yc hi;have er:=d2 _ _<|C.2 i r _ FL hs;have tk:∀b:Bool,f cl[i]=b->((cl.take _).filter f).map gN=((cl.take i).filter f).map gN++(if b=true then [gN cl[i]] else []):=λb hb=>by
   rw[YW,hs,QH,yk];cases b<;>simp [hb]
  generalize cl[i]=cc at er tk;refine hg r cc H' Qy Qn d2 er (λhb H2 p s2 hp=>?_) λhb H2 s2=>?_
  ·have Fj:=s2 _ _ d3;refine hy _ _ Fj #[d1,λb u e=>?_,jd,by rw[ye];exact Qb d4,rs++[p],by rw[yk];rfl,?_]
   ·rw[jj<|jh e d1];exact s2 _ _ (d2 _ _ e)
   ·rw[tk true hb,if_pos rfl];exact jL.off (jL.snoc (jL.mono C' λp xs e=>s2 _ _ e) hp) Fj (Jm.upd _)
  ·refine hn _ #[d1,Same.trans d2 s2,s2 _ _ d3,by omega,rs,rfl,?_];rw[tk false hb,if_neg (by decide),yK];exact jL.mono C' λp xs e=>s2 _ _ e
 ·rintro D ys H3 hD ⟨d1,d2,d3,d4,rs,rfl,C'⟩;rw[yb,C.1,yW] at C';exact q D rs H3 d2 d1 d3 C'
def jT (cs:jF) (c:je):Bool:=(jD cs<|k3 c).isSome
def U0 (cl:List je) (ks:List K5):List Nk:=(cl.filter λc=>ks.any<|kX c).map Zn
theorem none_of {H':Hp}{x:Addr} (s:Same H H') (hx:H' x=none):H x=none:=by
 cases e:H x with
 | none=>rfl
 | some u=>rw[s _ _ e] at hx;cases hx
theorem gc {a b:Int×Int} (h:k2 a=k2 b):a=b:=by
 obtain⟨x,y⟩:=a;obtain⟨u,v⟩:=b;unfold k2 at h;simp at h;rw[h.1,h.2]
def gK:List Key->Int×Int
 | [.inl x,.inl y]=>(x,y)
 | _=>(0,0)
theorem Nw {w:Nat} (T:u9 ds w h) {ks:List (List Key)} (pm:ks.Perm (ds.map (·.1))):∃hl:List (Int×Int),ks=hl.map k2:=by
 refine#[ks.map gK,?_];rw[yS];refine ((Qx λk hk=>?_).trans<|aaB ks).symm;obtain⟨kv,EX,rfl⟩:=yf.mp<|pm.mem_iff.mp hk;obtain⟨x,y,_,_,e⟩:=T.key kv EX;show k2 _=kv.1;rw[e];rfl
theorem US.of_key (k:jP H ps (pl.map k2)):US H ps pl:=#[by rw[k.1,yb],λi p c h1 h2=>k.2 i p (k2 c) h1 (by rw[yo,h2];rfl)]
def zg (h:Int×Int) (rm:Nat) (cop:je->Bool) (z:Nat):List Nk:=if cop (h.1,h.2,(z:Int))=true then ((JT (h.1,h.2,(z:Int)) rm).filter λc=>!cop c).map λc=>G9 (h,c) else []
def uf (hl:DU) (L rm:Nat) (cop:je->Bool):List Nk:=hl.flatMap λh=>(Yk L).flatMap (zg h rm cop)
theorem eU (hl:DU) (h:Int×Int) (L rm:Nat) (cop:je->Bool):uf (hl++[h]) L rm cop=uf hl L rm cop++(Yk L).flatMap (zg h rm cop):=by
 unfold uf;rw[QZ];simp
theorem qI (h:Int×Int) (hr:rm<=2) (cop:je->Bool) (z:Nat):(zg h rm cop z).length<=25:=by
 unfold zg;split
 ·rw[yb];exact ym (y8 _ _) (Zi _ hr)
 ·exact yL _
theorem ke (h:Int×Int) (hr:rm<=2) (cop:je->Bool):∀L:Nat,((Yk L).flatMap<|zg h rm cop).length<=L*25
 | 0=>yh _
 | L+1=>by
  rw[Y8,QZ,ye];have:=ke h hr cop L;have:=qI h hr cop L;simp only[QR,aaT,yK]
  lia
theorem Vq {L rm:Nat} (hr:rm<=2) (cop:je->Bool):∀hl:List (Int×Int),(uf hl L rm cop).length<=hl.length*(L*25)
 | []=>yL _
 | h::hl=>by
  have ih:=Vq (L:=L) hr cop hl;have e:uf (h::hl) L rm cop=(Yk L).flatMap (zg h rm cop)++uf hl L rm cop:=by unfold uf;rw[QR]
  rw[e,ye,Qa,Nat.succ_mul];have:=ke h hr cop L
  lia
def qZ (K:DS) (C:Addr):Sp:=λvs H Q _=>w5 λ(o dx c d a:Addr) (w h l:Nat) (cs ds:jF) (ps:DZ) (ks:List K5)=>A7 (vs=[.ref o,.ref a]) (Bd C H o dx c d w h l cs ds) (cs.length<=1000) (jx K H a<|ps.map V.ref) (uK H ps ks) (ks.length<=12) (∀(cells:List je) (r:Addr) (fs:DZ) (H':Hp),CL cs w h l cells->Same H H'->H r=none->H' r=some (.lst<|fs.map V.ref)->jL nO H' fs (U0 cells ks)->Q (.ref r) H')
theorem qN {H':Hp}{a:Addr}{xs:List V} (e:Same H H') (h:jx K H a xs):jx K H' a xs:=by
 rcases h with (h|h)|h
 ·exact .inl (.inl<|e _ _ h)
 ·exact .inl (.inr (by obtain⟨o,q⟩:=h;exact#[o,e _ _ q]))
 ·exact .inr h
theorem K8 (T:Txt K mg t):jS P w K mg base 4 "keep_breaks" [FM,SC] (qZ K t.jq):=by
 refine T.Mq.ok [FM,SC] ?_;rintro _ H Q E ⟨o,dx,c,d,a,w,h,l,cs,ds,ps,ks,rfl,B,lc,ha,CK,lk,q⟩;refine#[rfl,λEm A outer s hr=>#[_,(jk (jC (Jx (own:=[E0]) (UT) (jV<|uk (g6<|Ul T)<|pv 0) (λ_ _ _ _ _=>jw 2) (λ_ _ _ _ _=>UG<|JS<|jn (eI T)<|ja (pv 2)<|ja (pv 1) jf) (λ_ _ _ _ _=>(jN<|ja U7<|ja (pv 2) jf))))),?_]];refine#[o,dx,_,rfl,B.o,rfl,o,dx,c,d,w,h,l,cs,rfl,B.o,B.c,B.C.sds,λkq bs Ep HJ ka pm up=>?_];obtain⟨cells,rfl,L,RQ⟩:=CL.of B.C pm up;have s1:=jm (o:=.lst<|bs.map V.ref) (Same.refl H) HJ;have e1:upd H kq (.lst<|bs.map V.ref) kq=some (.lst<|bs.map V.ref):=jd;have C1:=(jy.of_key ka).same s1;generalize upd H kq (.lst<|bs.map V.ref)=H1 at s1 e1 C1;refine#[kq,rfl,#[_,jt.of e1],Zk (λc=>ks.any<|kX c) Zn (ym (show _<=1000 by omega) (by decide)) e1 C1 (λr cc H2 Qy Qn s2 er hy hn=>?_) λD rs H2 s2 hD eD NA=>?_]
 ·refine#[#[_,rfl,rfl],r,a,cc,ps,ks,rfl,er,qN (Same.trans s1 s2) ha,CK.same<|Same.trans s1 s2,by omega,λH3 s3=>V2 (λht=>?_) λhf=>hn hf H3 s3];refine#[Vy,λp hp=>?_];have s4:=jm (o:=.tup [.str ST,.ref r]) (Same.refl H3) hp;exact hy ht _ p (Same.trans s3 s4) (cy jd<|s4 _ _<|s3 _ _ er)
 ·exact q cells D rs H2 L (Same.trans s1 s2) (none_of s1 hD) eD NA
theorem Zz (pm:(hl.map k2).Perm (ds.map (·.1))):hl.length=ds.length:=by have:=pm.length_eq;simpa using this
theorem Jm.bd {H':Hp}{c:Addr}{w:Nat} (k:Jm fa H H') (hf:H fa=some (.lst ys)) (B:Bd C H o dx c d w h l cs ds):Bd C H' o dx c d w h l cs ds :=
 #[k _ _ (jA B.o hf) B.o,k _ _ (jA B.c hf) B.c,k _ _ (jA B.d hf) B.d,B.C,B.D]
def AQ (C:Addr):Sp:=λvs H Q _=>Gq λ(o dx c d:Addr) (w h l rm:Nat) (cs ds:jF)=>A6 (vs=[.ref o,.int rm]) (Bd C H o dx c d w h l cs ds) (l<=3) (ds.length<=1000) (rm<=2) (∀(hl:DU) (r:Addr) (fs:DZ) (H':Hp),(hl.map k2).Perm (ds.map (·.1))->Same H H'->H r=none->H' r=some (.lst<|fs.map V.ref)->jL nO H' fs (uf hl l rm<|jT cs)->Q (.ref r) H')
theorem MU (T:Txt K mg t):jS P w K mg base 8 "rim_breaks" [FM,SB] (AQ t.jq):=by
 refine T.nH.ok [FM,SB,"found","hole","z","middle"] ?_;rintro _ H Q E ⟨o,dx,c,d,w,h,l,rm,cs,ds,rfl,B,Pt,ld,r2,q⟩;refine#[rfl,λEm A outer s hr=>#[_,(ji (jv 2<|JL jf) (ji (j7 jO (jV<|uk (Kj<|zZ T)<|pv 0) (jw 3) (jk (j7 jO (uE rfl T.uX<|ja (jM<|pv 0) jf) (jw 4) (ji (jv 5<|jp z7 (pv 3)<|jN<|ja (pv 4) jf) (jk (j9 (uw<|gD (pv 5)<|jM<|pv 0) (jk (jQ (UA Yc Yi Yg U3 (pv 2) (ja (Jx (own:=[E0]) (UT (cl:=[("hole",_),(FM,_)])) (jV<|jn (mR T)<|ja (pv 5)<|ja (pv 1) jf) (λ_ _ _ _ _=>jw 6) (λ_ _ _ _ _=>UG<|uw<|vx (pv 6)<|jM<|pv 0) (λ_ _ _ _ _=>(jN<|ja U7<|ja (pv 3)<|ja (pv 6) jf))) jf)))) jW))))))<|jk<|jC<|pv 2)),?_]];refine uF (λ(fa)=>[oR o,oI rm,oR fa,none,none,none]) (λfa H'=>A3 _ _<|H' fa=some _) (λB hB=>#[cU,λfa hf=>hB fa _ #[jm (Same.refl H) hf,hf,jd]]) ?_;rintro fa H1 ⟨s1,F0,ef⟩;have B1:=B.same s1;refine og (λ(v3 v4 v5:Option V)=>[oR o,oI rm,oR fa,v3,v4,v5]) (λ_ _ _ H'=>E2 λ(hl) (fs)=>A4 ((hl.map k2).Perm<|ds.map (·.1)) (Same H H') (H' fa=some (.lst<|fs.map V.ref))<|jL nO H' fs<|uf hl l rm<|jT cs) (λB' hB=>?_) ?_
 ·refine#[o,dx,_,rfl,B1.o,rfl,o,dx,c,d,w,h,l,ds,rfl,B1.o,B1.d,B.D.sds,λkq bs ks HJ ka pm up=>?_];obtain⟨hl,rfl⟩:=Nw B.D pm;have s2:=jm (o:=.lst<|bs.map V.ref) (Same.refl H1) HJ;have e2:upd H1 kq (.lst<|bs.map V.ref) kq=some (.lst<|bs.map V.ref):=jd;have C2:=(US.of_key ka).same s2;have IM:=s2 _ _ ef;have fk:=jh ef HJ;generalize upd H1 kq (.lst<|bs.map V.ref)=H2 at s2 e2 C2 IM;have B2:=B1.same s2;have lh:=Zz pm;refine#[kq,rfl,#[_,jt.of e2],Jt (λi σ H'=>E4 λ(v3 v4 v5:Option V) (fs)=>A4 (σ=[oR o,oI rm,oR fa,v3,v4,v5]) (Jm fa H2 H') (H' fa=some (.lst<|fs.map V.ref))<|jL nO H' fs<|uf (hl.take i) l rm<|jT cs) #[_,_,_,_,rfl,Jm.refl _ _,IM,.nil] (λi σ H' _ h=>by obtain⟨_,_,_,_,_,k,_⟩:=h;exact jt.of<|k _ _ (yG fk) e2) ?_ ?_]
  ·rintro i v σ H3 hx ⟨v3,v4,v5,fs,rfl,off,Fl,NA⟩;obtain⟨p,e1,rfl⟩:=jX hx;have hi:i<hl.length:=by rw[<-C2.1];exact (yd.mp e1).1
   have g1:=yc hi;have hp:=C2.2 i p _ e1 g1;have tk:hl.take (i+1)=hl.take i++[hl[i]]:=by rw[Qm,g1];rfl
   have lr:=Vq (L:=l) r2 (jT cs)<|hl.take i;have e₂:(hl.take i).length<=1000:=by rw[yM];omega
   rw[tk,eU];generalize hl[i]=hh at hp;have Hx:=off _ _ (jA hp IM) hp;have B3:=off.bd IM B2;have lr2:(uf _ l rm _).length<=75000:=ym lr (ym (QI e₂ (show l*25<=75 by omega)) (by decide));refine#[_,_,_,_,_,rfl,B3.o,T.jz,T.JA,rfl,l,rfl,by omega,by omega,Uo (n:=l) (λj σ H'=>E3 λ(v4 v5) (fs)=>A4 (σ=[oR o,oI rm,oR fa,oR p,v4,v5]) (Jm fa H3 H') (H' fa=some (.lst<|fs.map V.ref))<|jL nO H' fs<|uf _ l rm _++(Yk j).flatMap (zg hh rm<|jT cs)) #[_,_,fs,rfl,Jm.refl _ _,Fl,by rw[List.range_zero,aaT,yK];exact NA] ?_ ?_]
   ·rintro z σ H4 hz ⟨v4',Ov,RY,rfl,EJ,FR,IP⟩;have IL:=EJ _ _ (jA Hx Fl) Hx;have B4:=EJ.bd Fl B3;have lz:=ke hh r2 (jT cs) z;have e0:(0)+(z:Int)=(z):=by omega
    rw[e0,Y8,QZ,<-yQ];simp only[QR,aaT,yK];refine uF (λ(m)=>[oR o,oI rm,oR fa,oR p,oI z,oR m]) (λm H'=>Same H4 H'/\H' m=some (.tup [.int hh.1,.int hh.2,.int z])) (λB hB=>#[cV,λt1 S8=>?_]) ?_
    ·have st:=jm (o:=.tup [.int (z:Int)]) (Same.refl H4) S8;refine#[p,t1,_,_,rfl,rfl,jx.of<|st _ _ IL,jx.of jd,by simp,Za,(λz=>by cases z),λ_ m hm=>hB m _ #[jm st hm,jd]]
    rintro m H5 ⟨s5,em⟩;have B5:=B4.same s5;have HH:=s5 _ _ FR;refine#[_,_,_,_,_,rfl,B5.o,T.jz,T.JK,rfl,c,_,rfl,ug.t (k:=k3 (hh.1,hh.2,(z))) B5.c em,V2 (λht=>?_) λhf=>?_]
    ·have Oy:jT cs _=true:=ht;refine#[.inl #[rfl,_,jt.of HH],m,(hh.1,hh.2,(z)),rm,rfl,em,r2,λD ps H6 s6 hD eD CP=>?_];have la:=Zi (hh.1,hh.2,(z)) r2;have hp6:=s6 _ _<|s5 _ _ IL;have B6:=B5.same s6;refine#[D,rfl,#[_,jt.of eD],Zk (λc=>!jT cs c) (λc=>G9 (hh,c)) (ym la (by decide)) eD CP (λr cc H7 Qy Qn s7 er hy hn=>?_) λD2 rs H7 s7 FK HG f₂=>?_]
     ·have B7:=B6.same s7;refine#[#[_,rfl,rfl],#[_,_,_,_,_,rfl,B7.o,T.jz,T.JK,rfl,c,_,rfl,ug.t (k:=k3 cc) B7.c er,JP (λi'=>?_) λTY=>hn (by rw[show jT cs cc=true from TY];rfl) H7<|Same.refl _]];refine#[Za,λp8 hp8=>?_];have s8:=jm (o:=.tup [.str SB,.ref p,.ref r]) (Same.refl H7) hp8;exact hy (by rw[show jT cs cc=false from i'];rfl) _ p8 s8 (l8 jd (s8 _ _<|s7 _ _ hp6)<|s8 _ _ er)
     ·have IK:=s7 _ _<|s6 _ _ HH;have fD2:=jh (s6 _ _ HH) FK;have lN:rs.length<=25:=by
       rw[jL.len f₂,yb];exact ym (y8 _ _) la
      refine#[fa,D2,_,_,rfl,rfl,IK,HG,?_,_,_,_,rfl,λx u n e=>jB n<|s7 _ _<|s6 _ _<|s5 _ _<|EJ x u n e,by rw[jd,yk],?_]
      ·rw[yb,yb,jL.len IP,ye];exact ym (show _<=80000 by omega) (by decide)
      ·have:zg hh rm _ z=((JT _ rm).filter _).map _:=if_pos Oy;rw[this];exact jL.off (jL.app (jL.mono IP λp xs e=>s7 _ _<|s6 _ _<|s5 _ _ e) f₂) IK (Jm.upd _)
    ·have Oy:jT cs _=false:=hf;have:zg hh rm (jT cs) z=[]:=if_neg (by rw[Oy];exact yA);rw[this,yK];exact#[_,_,RY,rfl,λx u n e=>s5 _ _<|EJ x u n e,HH,jL.mono IP λp xs e=>s5 _ _ e]
   ·rintro σ H4 ⟨v4',Ov,RY,rfl,EJ,FR,IP⟩;exact#[_,_,_,RY,rfl,off.trans EJ,FR,IP]
  ·rintro σ H3 ⟨v3,v4,v5,fs,rfl,off,Fl,NA⟩;rw[yb,C2.1,yW] at NA;exact hB v3 v4 v5 _ #[hl,fs,pm,λx u e=>off x u (jh e F0)<|s2 _ _<|s1 _ _ e,Fl,NA]
 rintro v3 v4 v5 H2 ⟨hl,fs,pm,s2,IM,NA⟩;exact q hl fa fs H2 pm s2 F0 IM NA
def kC (H:Hp):V->je
 | .ref p=>match H p with|some (.tup [.int a,.int b,.int c])=>(a,b,c)|_=>(0,0,0)
 | _=>(0,0,0)
theorem mF {p:Addr}{c:je} (h:H p=some (.tup [.int c.1,.int c.2.1,.int c.2.2])):kC H (.ref p)=c:=by
 show (match H p with|some (.tup [.int a,.int b,.int c])=>(a,b,c)|_=>(0,0,0))=c;rw[h]
theorem jy.mapF {β:Type} (C:jy H ps cl) (f:je->β):(ps.map V.ref).map (λv=>f<|kC H v)=cl.map f:=by
 refine QF (by simp [C.1]) λi h1 h2=>?_;have g1:=by simpa using h1
 have g2:=by simpa using h2
 rw[Qh,Qh,Qh,mF<|C.2 i _ _ (yc g1)<|yc g2]
theorem jy.memF (C:jy H ps cl) {p:Addr} (h:p∈ps):∃c∈cl,H p=some (.tup [.int c.1,.int c.2.1,.int c.2.2]):=by
 obtain⟨i,hi,rfl⟩:=yO h;have h2:i<cl.length:=by rw[<-C.1];exact hi
 exact#[_,yV h2,C.2 i _ _ (yc hi)<|yc h2]
def U9 (c:je) (n:Nat):List je:=Mc c.1 c.2.1 c.2.2 n
def zm (cl:List je) (cop:je->Bool) (n:Nat) (e:je):Bool:=cl.any λc=>(U9 c n).all cop&&decide (e∈U9 c n)
theorem nW (cl:List je) (c:je) (cop:je->Bool) (n:Nat) (e:je):zm (cl++[c]) cop n e=(zm cl cop n e||((U9 c n).all cop&&decide (e∈U9 c n))):=by
 unfold zm;rw[List.any_append];simp
def VH (cl cells:List je) (cop:je->Bool) (n:Nat):List Nk:=(cl.filter λe=>!zm cells cop n e).map kh
def AW (C:Addr):Sp:=λvs H Q _=>Gq λ(o dx c d:Addr) (w h l n:Nat) (cs ds:jF)=>A6 (vs=[.ref o,.int n]) (Bd C H o dx c d w h l cs ds) (cs.length<=1000) (1<=n) (n<=3) (∀(cells:List je) (r:Addr) (fs:DZ) (H':Hp),CL cs w h l cells->Same H H'->H r=none->H' r=some (.lst<|fs.map V.ref)->jL nO H' fs (VH cells cells (jT cs) n)->Q (.ref r) H')
theorem Kr (T:Txt K mg t):jS P w K mg base 8 "width_breaks" [FM,P3] (AW t.jq):=by
 refine T.KJ.ok [FM,P3,"broad",YG,"square",E0] ?_;rintro _ H Q E ⟨o,dx,c,d,w,h,l,n,cs,ds,rfl,B,lc,n1,n3,q⟩;refine#[rfl,λEm A outer s hr=>#[_,(ji (jv 2 Uc) (ji (j7 jO (jV<|uk (g6<|Ul T)<|pv 0) (jw 3) (ji (jv 4<|jn (z6 T)<|ja (pv 3)<|ja (pv 1) jf) (jk (j9 (JS (jU (KN rfl) (by rfl) T.BD Bp (ja (V9 (N0:=[FM,P3,"broad",YG,"square",".cell"]) (own:=[E0]) (UT (cl:=[(FM,_)])) (jV<|pv 4) (λ_ _ _ _ _=>jw 6) (λ_ _ _ _ _=>UF) (λ_ _ _ _ _=>(N4<|gD (pv 6)<|jM<|pv 0))) jf))) (jk<|j7 jO (jV<|pv 4) (jw 5)<|jk<|uJ (pv 2) (pv 5) VE) jW)))) (jk (jC (V9 (N0:=[FM,P3,"broad",YG,"square",".cell"]) (own:=[E0]) (UT (cl:=[("broad",_)])) (jV<|uk (g6<|Ul T)<|pv 0) (λ_ _ _ _ _=>jw 6) (λ_ _ _ _ _=>UG<|uw<|vx (pv 6)<|pv 2) (λ_ _ _ _ _=>(jN<|ja U7<|ja (pv 6) jf))))))),?_]];refine uF (λ(br)=>[oR o,oI n,oR br,none,none,none]) (λbr H'=>A3 _ _<|H' br=some _) (λB hB=>λbr hf=>hB br _ #[jm (Same.refl H) hf,hf,jd]) ?_;rintro br H1 ⟨s1,W3,eb⟩;have B1:=B.same s1;refine GN (λ(v3 v4 v5:Option V) (cells)=>[oR o,oI n,oR br,v3,v4,v5]) (λ_ _ _ cells H'=>∃bt:jF,A4 (CL cs w h l cells) (Same H H') (H' br=some (.dT bt)) (∀e,(jD bt<|k3 e).isSome=zm cells (jT cs) n e)) (λB' hB=>?_) ?_
 ·refine#[o,dx,_,rfl,B1.o,rfl,o,dx,c,d,w,h,l,cs,rfl,B1.o,B1.c,B.C.sds,λkq bs ks HJ ka pm up=>?_];obtain⟨cells,rfl,L,RQ⟩:=CL.of B.C pm up;have s2:=jm (o:=.lst<|bs.map V.ref) (Same.refl H1) HJ;have e2:upd H1 kq (.lst<|bs.map V.ref) kq=some (.lst<|bs.map V.ref):=jd;have C2:=(jy.of_key ka).same s2;have Pw:=s2 _ _ eb;have bk:=jh eb HJ;generalize upd H1 kq (.lst<|bs.map V.ref)=H2 at s2 e2 C2 Pw;have B2:=B1.same s2;have nb:∀{x:Addr} {u:HO},H1 x=some u->u≠.dT _->x≠br:=λhx hu z=>by rw[z,eb] at hx;cases hx;exact hu rfl
  have cbr:c≠br:=λz=>by have:=B.c;rw[z,W3] at this;cases this
  refine#[kq,rfl,#[_,jt.of e2],Jt (λi σ H'=>E4 λ(v3 v4 v5:Option V) (bt:jF)=>A5 (σ=[oR o,oI n,oR br,v3,v4,v5]) (Jm br H2 H') (H' br=some (.dT bt)) (bt.length<=i*49) (∀e,(jD bt<|k3 e).isSome=zm (cells.take i) (jT cs) n e)) #[_,_,_,_,rfl,Jm.refl _ _,Pw,yL _,λe=>rfl] (λi σ H' _ h=>by obtain⟨_,_,_,_,_,k,_⟩:=h;exact jt.of<|k _ _ (yG bk) e2) ?_ ?_]
  ·rintro i v σ H3 hx ⟨v3,v4,v5,bt,rfl,off,Pp,i₁,Iz⟩;obtain⟨p,e1,rfl⟩:=jX hx;have hi:i<cells.length:=by rw[<-C2.1];exact (yd.mp e1).1
   have g1:=yc hi;have hp:=C2.2 i p _ e1 g1;have tk:cells.take (i+1)=cells.take i++[cells[i]]:=by rw[Qm,g1];rfl
   rw[tk];generalize cells[i]=cc at hp;have Hx:=off _ _ (jA hp Pw) hp;have B3:Bd t.jq H3 o dx c d w h l cs ds:=#[off _ _ (jA B2.o Pw) B2.o,off _ _ cbr B2.c,off _ _ (λz=>by have:=B.d;rw[z,W3] at this;cases this) B2.d,B.C,B.D];refine gE (λ(sq) (ps)=>[oR o,oI n,oR br,oR p,oR sq,v5]) (λsq ps H'=>A4 _ _ _<|jy H' ps<|U9 cc n) (λB hB=>#[p,cc,n,rfl,Hx,n1,by omega,λD ps H' s' hD eD C=>hB D ps _ #[s',hD,eD,C]]) ?_;rintro sq ps H4 ⟨s4,hsq,es,C4⟩;have ls:(U9 cc n).length<=49:=by
    unfold U9;rw[c6];exact QI (show n<=7 by omega) (show n<=7 by omega)
   have lp:ps.length<=49:=by rw[C4.1];exact ls
   have B4:=B3.same s4;have eb4:=s4 _ _ Pp;refine#[sq,rfl,#[_,jt.of es],ia (λ_=>true) (λv=>.bl<|jT cs<|kC H4 v) (jt.of es) (by rw[yb];exact ym lp (by decide)) (λx hx H' Qy Qn s' hy _=>?_) λD hD=>?_]
   ·obtain⟨r,hr,rfl⟩:=yf.mp hx;obtain⟨e,_,ee⟩:=C4.memF hr;have B5:=B4.same s';refine#[#[_,rfl,rfl],JE<|#[_,_,_,_,_,rfl,B5.o,T.jz,T.JK,rfl,c,_,rfl,ug.t (k:=k3 e) B5.c<|s' _ _ ee,?_]];have:=hy rfl;rw[mF ee] at this;exact this
   have e5:(((ps.map V.ref).filter λ_=>true).map λv=>V.bl<|jT cs<|kC H4 v)=((U9 cc n).map<|jT cs).map V.bl:=by
    rw[List.filter_eq_self.mpr (λ_ _=>rfl),C4.mapF λc=>V.bl _,yS];rfl
   rw[e5];refine VL hD λH5 s5 eD5=>?_;have HE:((U9 cc n).map<|jT cs).all id=(U9 cc n).all (jT cs):=by rw[abm];rfl
   have IQ:=Same.trans s4 s5;refine#[D,_,rfl,jt.of eD5,?_];rw[HE];refine V2 (λht=>?_) λhf=>?_
   ·have W4:=s5 _ _ es;have C5:=C4.same s5;have Px:=s5 _ _ eb4;have sqb:=jA W4 Px;refine#[sq,rfl,#[_,jt.of W4],Jt (λj σ H'=>E2 λ(v5) (W5:jF)=>A5 (σ=[oR o,oI n,oR br,oR p,oR sq,v5]) (Jm br H5 H') (H' br=some (.dT W5)) (W5.length<=i*49+j) (∀e,(jD W5<|k3 e).isSome=(zm (cells.take i) (jT cs) n e||decide (e∈(U9 cc n).take j)))) #[_,bt,rfl,Jm.refl _ _,Px,i₁,λe=>by rw[Iz e];simp] (λj σ H' _ h=>by obtain⟨_,_,_,k,_⟩:=h;exact jt.of<|k _ _ sqb W4) ?_ ?_]
    ·rintro j v σ H6 hx ⟨Ov,W6,rfl,Fb,Lk,i₂,IA⟩;obtain⟨r,f1,rfl⟩:=jX hx;have hj:j<(U9 cc n).length:=by rw[<-C5.1];exact (yd.mp f1).1
     have f2:=yc hj;have er:=C5.2 j r _ f1 f2;have WZ:(U9 cc n).take (j+1)=(U9 cc n).take j++[(U9 cc n)[j]]:=by rw[Qm,f2];rfl
     rw[WZ];generalize (U9 cc n)[j]=ee at er;have er6:=Fb _ _ (jA er Px) er;refine#[br,_,rfl,UL.t (k:=k3 ee) Lk er6 (yP (show _<=60000 by omega) (by decide)),?_];refine#[_,_,rfl,λx u n e=>jB n<|Fb x u n e,jd,by have:=J2 W6 (k3 ee)<|.bl true;omega,λe=>?_];rw[uP];by_cases W7:e=ee
     ·subst W7;rw[if_pos rfl];simp
     ·rw[if_neg (λz=>W7<|JG z),IA e];simp [W7]
    ·rintro σ H6 ⟨Ov,W6,rfl,Fb,Lk,i₂,IA⟩;rw[yb,C5.1] at i₂ IA;rw[yW] at IA;refine#[_,_,_,W6,rfl,λx u n e=>Fb x u n<|IQ _ _<|off x u n e,Lk,by omega,λe=>?_];rw[IA e,nW,ht,QM]
   ·refine#[_,_,_,bt,rfl,λx u n e=>IQ _ _<|off x u n e,IQ _ _ Pp,by omega,λe=>?_];rw[Iz e,nW,hf,QU,Bool.or_false]
  ·rintro σ H3 ⟨v3,v4,v5,bt,rfl,off,Pp,i₁,Iz⟩;rw[yb,C2.1,yW] at Iz;exact hB v3 v4 v5 cells _ #[bt,L,λx u e=>off x u (jh e W3)<|s2 _ _<|s1 _ _ e,Pp,Iz]
 rintro v3 v4 v5 cells H2 ⟨bt,L,s2,Pw,W8⟩;have B2:=B.same s2;refine#[o,dx,_,rfl,B2.o,rfl,o,dx,c,d,w,h,l,cs,rfl,B2.o,B2.c,B.C.sds,λkq bs ks HJ ka pm up=>?_];obtain rfl:=L.eq B.C pm up;have RQ:=L.len B.C;have s3:=jm (o:=.lst<|bs.map V.ref) (Same.refl H2) HJ;have e3:upd H2 kq (.lst<|bs.map V.ref) kq=some (.lst<|bs.map V.ref):=jd;have C3:=(jy.of_key ka).same s3;generalize upd H2 kq (.lst<|bs.map V.ref)=H3 at s3 e3 C3;refine#[kq,rfl,#[_,jt.of e3],Zk (λe=>!zm cells (jT cs) n e) kh (ym (show _<=1000 by omega) (by decide)) e3 C3 (λr cc H4 Qy Qn s4 er hy hn=>?_) λD rs H4 s4 hD eD NA=>?_]
 ·refine#[#[_,rfl,rfl],br,_,rfl,ug.t (k:=k3 cc) (s4 _ _<|s3 _ _ Pw) er,?_];rw[W8 cc];refine V2 (λht=>?_) λhf=>hn hf H4<|Same.refl _;refine#[Vy,λp hp=>?_];have s5:=jm (o:=.tup [.str P3,.ref r]) (Same.refl H4) hp;exact hy ht _ p s5 (oQ jd<|s5 _ _ er)
 ·exact q cells D rs H4 L (Same.trans s2<|Same.trans s3 s4) (none_of (Same.trans s2 s3) hD) eD NA
def Vk (k:Nk):Prop:=(∃p,k=V0 p)\/(∃c,k=Zn c)\/(∃p,k=G9 p)\/∃c,k=kh c
theorem Br (c d:Int×Int):uS Jq (k2 c) (k2 d):=#[rfl,λ_=>#[rfl,λ_=>trivial]]
theorem UE {a b:Str}{xs ys:Nk} (h:a≠b):uS ZE (.inl (.inr a)::xs) (.inl (.inr b)::ys):=#[rfl,λe=>absurd (aaJ<|aad e) h]
theorem bV {a b:Nk} (ha:Vk a) (hb:Vk b):uS ZE a b:=by
 rcases ha with ⟨p,rfl⟩|⟨p,rfl⟩|⟨p,rfl⟩|⟨p,rfl⟩<;>rcases hb with ⟨q,rfl⟩|⟨q,rfl⟩|⟨q,rfl⟩|⟨q,rfl⟩
 ·exact#[rfl,λ_=>#[Zj _ _,λ_=>#[Zj _ _,λ_=>trivial]]]
 ·exact UE (by decide)
 ·exact UE (by decide)
 ·exact UE (by decide)
 ·exact UE (by decide)
 ·exact#[rfl,λ_=>#[Zj _ _,λ_=>trivial]]
 ·exact UE (by decide)
 ·exact UE (by decide)
 ·exact UE (by decide)
 ·exact UE (by decide)
 ·exact#[rfl,λ_=>#[Br _ _,λ_=>#[Zj _ _,λ_=>trivial]]]
 ·exact UE (by decide)
 ·exact UE (by decide)
 ·exact UE (by decide)
 ·exact UE (by decide)
 ·exact#[rfl,λ_=>#[Zj _ _,λ_=>trivial]]
theorem cf {k:Nk} (h:Vk k):∃(c:Key) (r:Nk),k=.inl c::r/\c.isLeft=false:=by
 rcases h with ⟨p,rfl⟩|⟨p,rfl⟩|⟨p,rfl⟩|⟨p,rfl⟩<;>exact#[_,_,rfl,rfl]
theorem mL {f:je->je->Bool}:∀k∈J0 cl g f,Vk k:=λk hk=>by
 obtain⟨c,_,h⟩:=List.mem_flatMap.mp hk;obtain⟨d,_,rfl⟩:=yf.mp h;exact .inl #[_,rfl]
theorem Kd:∀k∈U0 cl ks,Vk k:=λk hk=>by
 obtain⟨d,_,rfl⟩:=yf.mp hk;exact .inr (.inl #[_,rfl])
theorem m8:∀k∈uf hl L rm cop,Vk k:=λk hk=>by
 obtain⟨h,_,h1⟩:=List.mem_flatMap.mp hk;obtain⟨z,_,h2⟩:=List.mem_flatMap.mp h1;unfold zg at h2
 split at h2
 ·obtain⟨d,_,rfl⟩:=yf.mp h2;exact .inr (.inr<|.inl #[_,rfl])
 ·cases h2
theorem Mj {cells:List je}{n:Nat}:∀k∈VH cl cells cop n,Vk k:=λk hk=>by
 obtain⟨d,_,rfl⟩:=yf.mp hk;exact .inr (.inr<|.inr #[_,rfl])
def Z3 (cells:List je) (hl:DU) (f:je->je->Bool) (cop:je->Bool) (l g n rm:Nat) (ks:List K5):List Nk :=
 ((J0 cells g f++U0 cells ks)++uf hl l rm cop)++VH cells cells cop n
theorem Am {a b c d:List Nk} (ha:∀k∈a,Vk k) (hb:∀k∈b,Vk k) (hc:∀k∈c,Vk k) (hd:∀k∈d,Vk k):∀k∈((a++b)++c)++d,Vk k:=λk hk=>by
 rcases yj.mp hk with hk|hk
 ·rcases yj.mp hk with hk|hk
  ·rcases yj.mp hk with hk|hk
   ·exact ha k hk
   ·exact hb k hk
  ·exact hc k hk
 ·exact hd k hk
theorem pF {cells:List je}{f:je->je->Bool}{n:Nat}:∀k∈Z3 cells hl f cop l g n rm ks,Vk k:=Am mL Kd m8 Mj
theorem VA (cl:List je) (ks:List K5):(U0 cl ks).length<=cl.length:=by unfold U0;rw[yb];exact y8 _ _
theorem Ml (cl cells:List je) (cop:je->Bool) (n:Nat):(VH cl cells cop n).length<=cl.length:=by unfold VH;rw[yb];exact y8 _ _
structure ku (K:DS) (C:Addr) (H:Hp) (ru dx kp:Addr) (ps:DZ) (g n rm:Nat) (kv:V) (ks:List K5):Prop where
 o:H ru=some (.ins C dx<|fR (.int g) (.int n) (.int rm) kv<|.ref kp)
 k:H kp=some (.tup<|ps.map V.ref)
 kk:uK H ps ks
 b:g<=2/\1<=n/\n<=3/\rm<=1/\ks.length<=12
theorem ku.same {H':Hp}{n:Nat}{kv:V} (X:ku K C H ru dx kp ps g n rm kv ks) (s:Same H H'):ku K C H' ru dx kp ps g n rm kv ks:=#[s _ _ X.o,s _ _ X.k,X.kk.same s,X.b]
theorem ku.off {H':Hp}{n:Nat}{kv:V} (X:ku K C H ru dx kp ps g n rm kv ks) (hf:H fa=some (.lst ys)) (k:Jm fa H H'):ku K C H' ru dx kp ps g n rm kv ks :=
 #[k _ _ (jA X.o hf) X.o,k _ _ (jA X.k hf) X.k,#[X.kk.1,λi p xs h1 h2=>k _ _ (jA (X.kk.2 i p xs h1 h2) hf)<|X.kk.2 i p xs h1 h2],X.b]
def qV (K:DS) (t:Adr):Sp:=λvs H Q _=>w6 λ(o dx c d ru Et kp:Addr) (w h l g n rm:Nat) (cs ds:jF) (ps:DZ) (kv:V) (ks:List K5)=>A7 (vs=[.ref o,.ref ru]) (Bd t.jq H o dx c d w h l cs ds) (l<=3) (cs.length<=1000) (ds.length<=1000) (ku K t.uV H ru Et kp ps g n rm kv ks) (∀(cells:List je) (hl:DU) (r:Addr) (fs:DZ) (bk:List Nk) (H':Hp),CL cs w h l cells->(hl.map k2).Perm (ds.map (·.1))->Same H H'->H r=none->H' r=some (.lst<|fs.map V.ref)->jL nO H' fs bk->bk.Perm (Z3 cells hl (fG (jJ cs ds w h l) cells) (jT cs) l g n rm ks)->(bk.Pairwise λa b=>JD ZE b a=false)->Q (.ref r) H')
theorem lH (T:Txt K mg t):jS P w K mg base 10 "breaks" [FM,"rules"] (qV K t):=by
 refine T.oZ.ok [FM,"rules","found"] ?_;rintro _ H Q E ⟨o,dx,c,d,ru,Et,kp,w,h,l,g,n,rm,cs,ds,ps,kv,ks,rfl,B,Pt,lc,ld,R,q⟩;refine#[rfl,λEm A outer s hr=>#[_,(ji (jv 2<|jn (MP T)<|ja (pv 0)<|ja (jM<|pv 1) jf) (ji (jQ<|UA Yc Yi Yg U3 (pv 2)<|ja (jn (K8 T)<|ja (pv 0)<|ja (jM<|pv 1) jf) jf) (ji (jQ<|UA Yc Yi Yg U3 (pv 2)<|ja (jn (MU T)<|ja (pv 0)<|ja (jM<|pv 1) jf) jf) (ji (jQ<|UA Yc Yi Yg U3 (pv 2)<|ja (jn (Kr T)<|ja (pv 0)<|ja (jM<|pv 1) jf) jf) (jk (jC (jU (Z5 (O:=Jl Jq) (hd:=zH Jq) hr.units (by decide)) (by rfl) T.Ux Uu<|ja (pv 2) jf))))))),?_]];obtain⟨b1,b2,b3,b4,b5⟩:=R.b;refine GN (λ(fa) (fs) (cells hk)=>[oR o,oR ru,oR fa]) (λfa fs cells hk H'=>A6 _ _ _ _ _ _) (λB' hB=>#[_,_,_,_,_,rfl,R.o,T.Uw,T.gs,rfl,o,dx,c,d,w,h,l,g,cs,ds,rfl,B,Pt,lc,b1,λcells hk r fs H' L pm s1 hr er NA=>hB r fs cells hk _ #[L,pm,s1,hr,er,NA]]) ?_;rintro fa fs cells hk H1 ⟨L,o₁,s1,F0,Oz,o₂⟩;have RQ:=L.len B.C;have lk:=o₁.length_eq;have lg:=zr b1 (fG (jJ cs ds w h l) cells) hk;refine uF (λ(fs)=>[oR o,oR ru,oR fa]) (λfs H'=>A3 (Jm fa H1 H') (H' fa=some (.lst<|fs.map V.ref))<|jL nO H' fs<|J0 hk g (fG (jJ cs ds w h l) cells)++U0 cells ks) (λB' hB=>?_) ?_
 ·have R1:=R.same s1;refine#[.inl #[rfl,_,jt.of Oz],#[_,_,_,_,_,rfl,R1.o,T.Uw,T.ZH,rfl,o,dx,c,d,kp,w,h,l,cs,ds,ps,ks,rfl,B.same s1,lc,jx.of R1.k,R1.kk,b5,λEj r fr H2 L' s2 hr er RZ=>?_]];obtain rfl:=L.uniq L';refine#[fa,r,_,_,rfl,rfl,s2 _ _ Oz,er,?_,hB _ _ #[λx u n e=>jB n<|s2 _ _ e,by rw[jd,yk],?_]]
  ·rw[yb,yb,jL.len o₂,jL.len RZ];have:=VA cells ks;exact ym (show _<=30000 by omega) (by decide)
  ·exact jL.off (jL.app (jL.mono o₂ λp xs e=>s2 _ _ e) RZ) (s2 _ _ Oz) (Jm.upd _)
 rintro fs2 H2 ⟨Hf,IM,RZ⟩;have B2:=Hf.bd Oz<|B.same s1;have R2:=(R.same s1).off Oz Hf;refine gE (λ(fs) (hl)=>[oR o,oR ru,oR fa]) (λfs hl H'=>A4 ((hl.map k2).Perm<|ds.map (·.1)) (Jm fa H1 H') (H' fa=some (.lst<|fs.map V.ref))<|jL nO H' fs<|(J0 hk g (fG (jJ cs ds w h l) cells)++U0 cells ks)++uf hl l rm (jT cs)) (λB' hB=>?_) ?_
 ·refine#[.inl #[rfl,_,jt.of IM],#[_,_,_,_,_,rfl,R2.o,T.Uw,T.gu,rfl,o,dx,c,d,w,h,l,rm,cs,ds,rfl,B2,Pt,ld,by omega,λhl r fr H3 R0 s3 hr er R5=>?_]];refine#[fa,r,_,_,rfl,rfl,s3 _ _ IM,er,?_,hB _ hl _ #[R0,λx u n e=>jB n<|s3 _ _<|Hf x u n e,by rw[jd,yk],?_]]
  ·rw[yb,yb,jL.len RZ,jL.len R5,ye];have:=VA cells ks;have lr:=Vq (L:=l) (show rm<=2 by omega) (jT cs) hl;have lh:=Zz R0;have lr2:(uf hl l rm _).length<=75000:=ym lr (ym (QI (show hl.length<=1000 by omega) (show l*25<=75 by omega)) (by decide));exact ym (show _<=120000 by omega) (by decide)
  ·exact jL.off (jL.app (jL.mono RZ λp xs e=>s3 _ _ e) R5) (s3 _ _ IM) (Jm.upd _)
 rintro fs3 hl H3 ⟨R0,OA,Fl,R5⟩;have B3:=OA.bd Oz<|B.same s1;have R3:=(R.same s1).off Oz OA;have lrm:(uf hl l rm<|jT cs).length<=75000:=by
  have lr:=Vq (L:=l) (show rm<=2 by omega) (jT cs) hl;have lh:=Zz R0;exact ym lr (ym (QI (show hl.length<=1000 by omega) (show l*25<=75 by omega)) (by decide))
 refine uF (λ(fs)=>[oR o,oR ru,oR fa]) (λfs H'=>A3 (Jm fa H1 H') (H' fa=some (.lst<|fs.map V.ref))<|jL nO H' fs<|((J0 hk g (fG (jJ cs ds w h l) cells)++U0 cells ks)++uf hl l rm (jT cs))++VH cells cells (jT cs) n) (λB' hB=>?_) ?_
 ·refine#[.inl #[rfl,_,jt.of Fl],#[_,_,_,_,_,rfl,R3.o,T.Uw,T.zX,rfl,o,dx,c,d,w,h,l,n,cs,ds,rfl,B3,lc,b2,b3,λEj r fr H4 L' s4 hr er IP=>?_]];obtain rfl:=L.uniq L';refine#[fa,r,_,_,rfl,rfl,s4 _ _ Fl,er,?_,hB _ _ #[λx u n e=>jB n<|s4 _ _<|OA x u n e,by rw[jd,yk],?_]]
  ·rw[yb,yb,jL.len R5,jL.len IP,ye,ye];have:=VA cells ks;have:=Ml cells cells (jT cs) n;exact ym (show _<=120000 by omega) (by decide)
  ·exact jL.off (jL.app (jL.mono R5 λp xs e=>s4 _ _ e) IP) (s4 _ _ Fl) (Jm.upd _)
 rintro RY H4 ⟨EJ,FR,IP⟩;have aB:=Am (mL (cl:=hk) (g:=g) (f:=fG (jJ cs ds w h l) cells)) (Kd (cl:=cells) (ks:=ks)) (m8 (hl:=hl) (L:=l) (rm:=rm) (cop:=jT cs))<|Mj (cl:=cells) (cells:=cells) (cop:=jT cs) (n:=n);refine#[fa,RY,_,false,rfl,FR,IP,λk hk=>cf<|aB k hk,λa ha b hb=>bV (aB a ha)<|aB b hb,λr Fg Ep p₁ NA5 pm5 OB=>?_];have Py:Same H H4:=λx u e=>EJ x u (jh e F0)<|s1 _ _ e;have s5:=jm (o:=.lst<|Fg.map V.ref) (Same.refl H4) p₁;refine q cells hl r Fg Ep _ L R0 (Same.trans Py s5) (none_of Py p₁) jd (jL.mono NA5 λp xs e=>s5 _ _ e) (pm5.trans ?_) OB;exact (((List.Perm.flatMap_right _ o₁).append_right _).append_right _).append_right _
structure fE (N:je->List je) (a b:je) (n:Nat):Prop where
 way:zQ N a b n
 least:∀m,zQ N a b m->n<=m
def am (C:Addr):Sp:=λvs H Q _=>w5 λ(o dx c d p:Addr) (w h l x y z:Int) (cs:jF)=>A6 (vs=[.ref o,.ref p]) (H o=some (.ins C dx<|fB w h l c d)) (H c=some (.dT cs)) (H p=some (.tup [.int x,.int y,.int z])) (Ue cs w h l (x,y,z)=true) (∀H',Same H H'->Q .non H')
theorem K9 (T:Txt K mg t):jS P w K mg base 5 "need_copper" [FM,E0] (am t.jq):=by
 refine T.Ms.ok [FM,E0] ?_;rintro _ H Q E ⟨o,dx,c,d,p,w,h,l,x,y,z,cs,rfl,ho,hc,hp,LG,q⟩;refine#[rfl,λEm A outer s hr=>#[_,(jk<|j9 (Vh (uN<|JS<|Jy (pv 0) (vi T)<|ja (pv 1) jf)<|vU<|uN<|JS<|Jy (pv 0) (Vm T)<|ja (ju jr (pv 1) jg)<|ja (ju jr (pv 1) jg)<|ja (ju jr (pv 1) jg) jf).pt (jk JW) jW),?_]];have S:jx K H p _:=jx.of hp;have hb:=LG;unfold Ue at hb;rw[yU] at hb;refine#[o,dx,_,rfl,ho,rfl,o,dx,c,d,p,w,h,l,x,y,z,rfl,ho,hp,JP (λhf=>absurd (hb.1.symm.trans hf) (by decide)) λht=>?_];refine#[o,dx,_,rfl,ho,rfl,_,_,S,rfl,_,_,S,rfl,_,_,S,rfl,o,dx,c,d,w,h,l,x,y,z,cs,rfl,ho,hc,λH' s'=>JP (λhf=>absurd (LG.symm.trans hf) (by decide)) λi'=>q H' s']
def Cr (c:je):List Int:=[c.1,c.2.1,c.2.2]
theorem qi {l:List je}{f:je->Nat}{n:Nat} (h:∀i x,l[i]?=some x->f x+i=n):l.Nodup:=by
 refine QJ.mpr λi j hi hj EF e=>?_;have h1:=h i _<|yc hi;have h2:=h j _<|yc hj;rw[e] at h1
 lia
theorem qO {l:List je}{c:je}{x:je} (h:(l++[c])[i]?=some x):(i<l.length/\l[i]?=some x)\/(i=l.length/\x=c):=by
 by_cases hi:i<l.length
 ·rw[yn hi] at h;exact .inl #[hi,h]
 ·rw[yl (by lia)] at h;obtain⟨d,hd⟩:∃d,i - l.length=d:=#[_,rfl];rw[hd] at h;cases d with
  | zero=>cases h;exact .inr #[by lia,rfl]
  | succ d=>cases h
theorem m9 (l:List je) (c:je):(l++[c])[l.length]?=some c:=by
 rw[yl<|yh _,Y1];rfl
def AU (C:Addr):Sp:=λvs H Q _=>bM λ(o dx c d p r:Addr) (w h l:Nat) (cs ds:jF) (one other:je)=>fA (vs=[.ref o,.ref p,.ref r]) (Bd C H o dx c d w h l cs ds) (l<=3) (cs.length<=900) (H p=some (.tup [.int one.1,.int one.2.1,.int one.2.2])) (H r=some (.tup [.int other.1,.int other.2.1,.int other.2.2])) (Ue cs w h l one=true) (Ue cs w h l other=true) (¬Jr (jJ cs ds w h l) other one->∀H',Same H H'->Q .non H') (∀(D:Addr) (bs:DZ) (n:Nat) (H':Hp),Same H H'->H D=none->H' D=some (.lst<|bs.map V.ref)->fE (jJ cs ds w h l) other one n->bs.length=n+1->Q (.ref D) H')
theorem t6 (T:Txt K mg t):jS P w K mg base 7 "walk" [FM,"one",YF] (AU t.jq):=by
 refine T.w9.ok [FM,"one",YF,"back",SL] ?_;rintro _ H Q E ⟨o,dx,c,d,p,r,w,h,l,cs,ds,one,other,rfl,B,l3,lc,hp,ED,hc1,FV,q0,q1⟩;refine#[rfl,λEm A outer s hr=>#[_,(ji (jQ<|jn (K9 T)<|ja (pv 0)<|ja (pv 1) jf)<|ji (jQ<|jn (K9 T)<|ja (pv 0)<|ja (pv 2) jf)<|ji (jv 3<|jn (mT T)<|ja (pv 0)<|ja (pv 2) jf)<|ji (j9 (uw<|vx (pv 1)<|pv 3) (jk<|jC zb) jW)<|ji (jv 4<|JL<|ja (pv 1) jf)<|ji (zf jO (j5 (lP hr.units0) (ju uW (pv 4)<|Kx gL jg)<|pv 2)<|jk<|jQ<|UA Yc Yj Yh Uq (pv 4)<|ja (Ga (pv 3)<|ju uW (pv 4)<|Kx gL jg) jf)<|jk<|jC<|pv 4),?_]];obtain⟨cells,He,RB,Ip⟩:=VW B.C<|aaR _;have RQ:=by have:=congrArg Yl He;rw[yb,yb] at this;exact this.symm
 have NB:=ur (ds:=ds) Ip;have EI:=(Ip other).mpr FV;refine#[o,dx,c,d,p,w,h,l,_,_,_,cs,rfl,B.o,B.c,hp,hc1,λH1 s1=>?_];refine#[o,dx,c,d,r,w,h,l,_,_,_,cs,rfl,s1 _ _ B.o,s1 _ _ B.c,s1 _ _ ED,FV,λH2 s2=>?_];have EY:=Same.trans s1 s2;refine#[o,dx,c,d,r,w,h,l,cs,ds,other,rfl,B.same EY,l3,by lia,EY _ _ ED,FV,λba bk ks H3 s3 hba eb ek nk mem #[lv,LV,PA]=>?_];have FT:=Same.trans EY s3;refine JV ?_;dsimp only;have hko:=(mem other).mpr .refl;have lks:ks.length<=cells.length:=U2 nk λx hx=>((mem x).mp hx).on NB EI;refine#[ba,_,rfl,ug.t (k:=k3 one) eb<|FT _ _ hp,JP (λhf=>?_) λht=>?_]
 ·refine q0 (λz=>?_) H3 FT;rw[(vq ek).mpr<|(mem one).mpr z] at hf;cases hf
 have I0:=(vq ek).mp ht;refine#[(by show 1<=sizeLine;decide),λD hD=>?_];have s4:=jm (o:=.lst [.ref p]) (Same.refl H3) hD;have e4:upd H3 D (.lst [.ref p]) D=some (.lst<|(([]:DZ)++[p]).map V.ref):=jd;refine JV ?_;dsimp only;generalize upd H3 D (.lst [.ref p])=H4 at s4 e4 ⊢;have Pf:H D=none:=by
  cases e:H D with
  | none=>rfl
  | some u=>rw[FT _ _ e] at hD;cases hD
 have Fi:=Same.trans FT s4;have nDb:ba≠D:=λz=>by rw[z] at eb;rw[eb] at hD;cases hD
 refine#[λm σ H'=>∃(bs:DZ) (q:Addr) (pl:List je) (c:je),σ=[some _,some _,some _,some _,some _]/\Same H H'/\H' D=some (.lst<|(bs++[q]).map V.ref)/\jy H' (bs++[q]) (pl++[c])/\(∀x∈pl++[c],x∈ks)/\(∀i x,(pl++[c])[i]?=some x->lv x+i=lv one)/\H' ba=some _/\zk _ other ks lv bk H'/\m=lv c,#[_,_,p,[],one,rfl,Fi,e4,#[rfl,λi q c h1 h2=>?_],λx hx=>?_,λi x hx=>?_,s4 _ _ eb,PA.keep λq u e=>s4 _ _ e,rfl],?_]
 ·match i with
  | 0=>cases h1;cases h2;exact Fi _ _ hp
  | i+1=>cases h1
 ·rw[QP,yi] at hx;rw[hx];exact I0
 ·match i with
  | 0=>cases hx;rfl
  | i+1=>cases hx
 rintro m σ H5 ⟨bs,qq,pl,cc,rfl,s5,e5,C5,W9,Lf,Px,P5,em⟩;have PB:=by
  have hl:=C5.1;have hl2:=by simpa using hl
  refine C5.2 pl.length qq cc ?_<|m9 pl cc;rw[<-hl2,yl<|yh _,Y1];rfl
 have p₂:vF ((bs++[qq]).map V.ref) (-1)=some (.ref qq):=by
  rw[yk];exact pC _ _
 have IW:=W9 cc (by simp);have lc5:=Lf pl.length cc<|m9 pl cc;have nd5:=qi Lf;have Ir:=U2 nd5 W9;have Og:=s5 _ _ ED;refine#[1,rfl,_,_,jt.of e5,p₂,qq,r,Cr cc,Cr other,rfl,rfl,jx.of PB,jx.of Og,JP (λhf=>?_) λht=>?_]
 ·have Ey:cc≠other:=λz=>of_decide_eq_false hf (by rw[z]);refine#[λσ' H'=>∃m',m'<m/\∃(bs:DZ) (q:Addr) (pl:List je) (c:je),σ'=[some _,some _,some _,some _,some _]/\Same H H'/\H' D=some _/\jy H' _ _/\(∀x∈pl++[c],x∈ks)/\(∀i x,(pl++[c])[i]?=some x->lv x+i=lv one)/\H' ba=some _/\zk _ other ks lv bk H'/\m'=lv c,λ_ _ h=>h,?_];obtain⟨q2,pp,v1,v2,v3,v4,v5⟩:=P5 cc IW Ey;have dg:=ug.t (k:=k3 cc) Px PB;rw[v1] at dg;have hinN:pp∈jJ cs ds w h l cc:=NB.sym pp (((mem pp).mp v3).on NB EI) cc v4;have hb:bs.length<=900:=by
   have:=C5.1;rw[ye] at this
   lia
  refine#[.inl #[rfl,_,jt.of e5],1,rfl,_,_,jt.of e5,p₂,ba,_,rfl,dg,D,_,_,rfl,rfl,e5,?_,_,by lia,_,q2,_,pp,rfl,λb u e=>?_,by rw[jd,yk (l₁:=bs++[qq])];rfl,(C5.snoc v2).wr e5,λx hx=>?_,λi x hx=>?_,jB nDb Px,P5.keep λq u e=>?_,rfl]
  ·rw[yb,ye];exact yP (show bs.length+1<=1000 by lia) (by decide)
  ·rw[jj<|jh e Pf];exact s5 _ _ e
  ·rcases yj.mp hx with hx|hx
   ·exact W9 x hx
   ·rw[yi] at hx;rw[hx];exact v3
  ·rcases qO hx with ⟨_,h1⟩|⟨rfl,rfl⟩
   ·exact Lf i x h1
   ·rw[ye];have h2:([cc]).length=1:=rfl
    lia
  ·rw[jj<|jA e e5];exact e
 ·have he:cc=other:=by
   have:=of_decide_eq_true ht;injection this with a1 a2
   injection a2 with a2 a3
   injection a3 with a3 _
   exact QQ a1 (QQ a2 a3)
  subst he;have hl:(bs++[qq]).length=lv one+1:=by
   have h1:=C5.1;have h2:=LV.z;rw[ye] at h1 ⊢;rw[ye] at h1;have h4:([cc]).length=1:=rfl
   lia
  exact q1 D _ _ H5 s5 Pf e5 #[LV.way _ one I0 rfl,λm h=>(LV.least hko h).2] hl
def Zb (h:Nat) (p:Int×Int):Int×Int:=((h:Int) - 1 - p.2,p.1)
def ZD (w:Nat) (p:Int×Int):Int×Int:=((w:Int) - 1 - p.1,p.2)
def g3 (g:Int×Int->Int×Int) (c:je):je:=((g (c.1,c.2.1)).1,(g (c.1,c.2.1)).2,c.2.2)
def zS (ds:jF) (p:Int×Int):Bool:=(jD ds<|k2 p).isSome
theorem uY {w h l:Int}{c:je}:uM w h l c=true↔(0<=c.1/\c.1<w)/\(0<=c.2.1/\c.2.1<h)/\(0<=c.2.2/\c.2.2<l):=by
 simp [uM,jH,and_assoc]
theorem Jv {w h:Int}{p:Int×Int}:(jH p.1 w&&jH p.2 h)=true↔(0<=p.1/\p.1<w)/\(0<=p.2/\p.2<h):=by
 simp [jH,and_assoc]
structure dz (g:Int×Int->Int×Int) (w h w' h':Nat):Prop where
 on:∀p,(jH p.1 w&&jH p.2 h)=true->(jH (g p).1 w'&&jH (g p).2 h')=true
 inj:∀p q,g p=g q->p=q
theorem K2 (w h:Nat):dz (Zb h) w h h w:=#[λp hp=>by
 rw[Jv] at hp ⊢;unfold Zb;simp only;omega,λp q e=>by
 unfold Zb at e;injection e with e1 e2
 exact QQ e2 (by lia)]
theorem K1 (w h:Nat):dz (ZD w) w h w h:=#[λp hp=>by
 rw[Jv] at hp ⊢;unfold ZD;simp only;omega,λp q e=>by
 unfold ZD at e;injection e with e1 e2
 exact QQ (by lia) e2]
theorem iC {g:Int×Int->Int×Int} (hg:∀p q,g p=g q->p=q) (a b:je) (e:g3 g a=g3 g b):a=b:=by
 unfold g3 at e;injection e with e1 e2
 injection e2 with e2 e3
 have:=hg _ _<|QQ e1 e2;injection this with a1 a2
 exact QQ a1 (QQ a2 e3)
theorem Bu {g:Int×Int->Int×Int}{w h':Nat} (L:dz g w h w' h') {c:je} (hc:uM w h l c=true):uM w' h' l (g3 g c)=true:=by
 rw[uY] at hc ⊢;have:=Jv.mp<|L.on (c.1,c.2.1)<|Jv.mpr #[hc.1,hc.2.1];exact#[this.1,this.2,hc.2.2]
structure bP (g:Int×Int->Int×Int) (cs ds En Eo:jF):Prop where
 c:∀e,jT En (g3 g e)=jT cs e
 h:∀p,zS Eo (g p)=zS ds p
 lc:En.length<=cs.length
 lh:Eo.length<=ds.length
theorem uz {α β:Type}{f:α->β} (hf:∀a b,f a=f b->a=b) {l:List α} {a:α}:f a∈l.map f↔a∈l :=
 #[λh=>by obtain⟨b,hb,e⟩:=yf.mp h;rw[<-hf b a e];exact hb,λh=>Qr h]
theorem Gx (e:je):∀(cl:List je) (cs:jF),jT (UH cs cl) e=(jT cs e||decide (e∈cl))
 | [],cs=>by simp [UH]
 | c::r,cs=>by
  show jT (UH (jZ cs (k3 c)<|.bl true) r) e=_;rw[Gx e r];unfold jT;rw[uP];by_cases h:e=c
  ·rw[if_pos (by rw[h])];simp [h]
  ·rw[if_neg (λz=>h<|JG z)];simp [h]
def vT (ds:jF) (hl:DU):jF:=hl.foldl (λt p=>jZ t (k2 p)<|.bl true) ds
theorem eT (ds:jF) (hl:DU) (p:Int×Int):vT ds (hl++[p])=jZ (vT ds hl) (k2 p) (.bl true):=by
 unfold vT;rw[aaM];rfl
theorem mM (e:Int×Int):∀(hl:DU) (ds:jF),zS (vT ds hl) e=(zS ds e||decide (e∈hl))
 | [],ds=>by simp [vT]
 | c::r,ds=>by
  show zS (vT (jZ ds (k2 c)<|.bl true) r) e=_;rw[mM e r];unfold zS;rw[uP];by_cases h:e=c
  ·rw[if_pos (by rw[h])];simp [h]
  ·rw[if_neg (λz=>h<|gc z)];simp [h]
theorem m5 (hl:DU):∀ds:jF,(vT ds hl).length<=ds.length+hl.length:=by
 induction hl with
 | nil=>intro cs;exact yh _
 | cons c r ih =>
  intro cs;have h1:=ih<|jZ cs (k2 c)<|.bl true;have h2:=J2 cs (k2 c)<|.bl true;show (vT (jZ cs _ _) r).length<=_;rw[Qa];lia
theorem Ve {x:Int}{w:Nat} (h:0<=x/\x<w):∃n:Nat,n<w/\x=n:=#[x.toNat,by omega,by lia]
theorem Me {w:Nat}:∀(hl:DU) (ds:jF),u9 ds w h->(∀p∈hl,(jH p.1 w&&jH p.2 h)=true)->u9 (vT ds hl) w h
 | [],ds,T,_=>T
 | c::r,ds,T,hc=>by
  obtain⟨⟨x,y⟩,rfl⟩:∃q,q=c:=#[c,rfl];have:=Jv.mp<|hc (x,y)<|yE ..;obtain⟨a,ha,rfl⟩:=Ve this.1;obtain⟨b,hb,rfl⟩:=Ve this.2;exact Me r _ (T.put ha hb) λc h=>hc c (yH _ h)
theorem wX {w:Nat} (hc:∀c∈cl,uM w h l c=true):ui (UH [] cl) w h l:=gG cl [] (ui.nil w h l) λc hx=>by
 obtain⟨x,y,z⟩:=c;have:=uY.mp<|hc _ hx;obtain⟨a,ha,rfl⟩:=Ve this.1;obtain⟨b,hb,rfl⟩:=Ve this.2.1;obtain⟨d,hd,rfl⟩:=Ve this.2.2;exact#[a,b,d,ha,hb,hd,rfl]
theorem xC {w:Nat} (T:ui cs w h l) (h1:jT cs e=true):uM w h l e=true:=by
 obtain⟨kv,h2,e2⟩:=yf.mp<|UK.mp h1;obtain⟨x,y,z,hx,hy,hz,e3⟩:=T.key kv h2;rw[e3] at e2;rw[<-JG (a:=((x),(y),(z))) e2];refine uY.mpr ?_;simp only
 lia
theorem kI {w:Nat} (T:ui cs w h l) (e:je):Ue cs w h l e=jT cs e:=by
 show (uM w h l e&&jT cs e)=_;cases h1:jT cs e with
 | false=>rw[Y0]
 | true=>rw[xC T h1];rfl
theorem Bw {w:Nat} (T:u9 ds w h) {p:Int×Int} (h1:zS ds p=true):(jH p.1 w&&jH p.2 h)=true:=by
 obtain⟨kv,h2,e2⟩:=yf.mp<|UK.mp h1;obtain⟨x,y,hx,hy,e3⟩:=T.key kv h2;rw[e3] at e2;rw[<-gc (a:=((x),(y))) e2];refine Jv.mpr ?_;simp only
 lia
theorem tY (pm:(hl.map k2).Perm (ds.map (·.1))) (p:Int×Int):p∈hl↔zS ds p=true:=by
 rw[<-uz (λa b=>gc),pm.mem_iff];exact UK.symm
theorem jP.snoc {ks:List (List Key)}{p:Addr} (C:jP H ps ks) (hp:H p=some (.tup<|k.map kV)):jP H (ps++[p]) (ks++[k]):=#[by rw[ye,ye,C.1];rfl,λi q d h1 h2=>by
 by_cases hi:i<ps.length
 ·rw[yn hi] at h1;rw[yn (by rw[<-C.1];exact hi)] at h2;exact C.2 i q d h1 h2
 ·have hj:i=ps.length:=by
   have:=(yd.mp h1).1;rw[ye] at this;have h3:([p]:DZ).length=1:=rfl
   lia
  subst hj;rw[yl<|yh _,Y1] at h1;rw[yl (by rw[C.1];exact yh _),C.1,Y1] at h2;cases h1;cases h2;exact hp]
theorem jP.wr {ks:List (List Key)}{u u':HO} (C:jP H ps ks) (hD:H D=some u) (n:∀xs,u≠.tup xs):jP (upd H D u') ps ks:=#[C.1,λi q d h1 h2=>by
 have e:=C.2 i q d h1 h2
 rw[jj (λz=>by rw[z,hD] at e;injection e with e;exact n _ e)];exact e]
theorem zp {α:Type}{g:TG}{k:Nat}{a:Addr}{xs:List α} (key Hg:α->List Key) (hz:xs.length<=sizeLine) (ha:H a=some (.lst<|ps.map V.ref)) (C:jP H ps (xs.map key))
  (hg:∀(r:Addr) (x:α) (H':Hp) (Qy:VK) (Qn:Hp->Prop),x∈xs->Same H H'->H' r=some (.tup<|(key x).map kV)->(∀p H2,Same H' H2->H2 p=some (.tup<|(Hg x).map kV)->Qy (.ref p) H2)->g (.ref r) (σ++Yd k none) H' λσ2 H2=>(∃zs,σ2=σ++zs/\zs.length=k)/\tc σ2 H2 λb H3=>if b=true then te σ2 H3 Qy else Qn H3)
  (q:∀D rs H',Same H H'->H D=none->H' D=some (.lst<|rs.map V.ref)->jP H' rs (xs.map Hg)->Q (.ref D) H'):vm k g tc te σ Q (ZU K a) H:=by
 have hl:ps.length=xs.length:=by rw[C.1,yb]
 refine uj (λD i ys H'=>H D=none/\Same H H'/\H' D=some (.lst ys)/\ys.length<=i/\∃rs:List Addr,ys=rs.map V.ref/\jP H' rs ((xs.take i).map Hg)) (by rw[yb,hl];exact hz) (λD hD=>#[hD,jm (Same.refl _) hD,jd,yh _,[],rfl,#[rfl,λi p c h=>by cases h]]) (λD i ys H' hv=>#[hv.2.2.1,hv.2.2.2.1,jt.of<|hv.2.1 _ _ ha]) ?_ ?_
 ·rintro D i v ys H' Qy Qn hx ⟨d1,d2,d3,d4,rs,rfl,C'⟩ hy hn;obtain⟨r,FL,rfl⟩:=jX hx;have hi:i<xs.length:=by rw[<-hl];exact (yd.mp FL).1
  have hs:=yc hi;have er:=d2 _ _ (C.2 i r _ FL (by rw[yo,hs];rfl));refine hg r _ H' Qy Qn (yV hi) d2 er λp H2 s2 ep=>?_;have Fj:=s2 _ _ d3;refine hy _ _ Fj #[d1,λb u e=>?_,jd,by rw[ye];exact Qb d4,rs++[p],by rw[yk];rfl,?_]
  ·rw[jj<|jh e d1];exact s2 _ _ (d2 _ _ e)
  ·rw[YW,hs,yk];exact jP.wr (jP.snoc (jP.same C' s2) ep) Fj (by intro xs z;cases z)
 ·rintro D ys H3 hD ⟨d1,d2,d3,d4,rs,rfl,C'⟩;rw[yb,hl,yW] at C';exact q D rs H3 d2 d1 d3 C'
def Ke (st:Stmt):Arguments×Expr×Scope×Pos:=match Jo st with
 | [.Return (some<|.Call _ [_,_,.Lambda a b sc p] _ _) _]=>(a,b,sc,p)
 | _=>({ posonlyargs:=[],args:=[],vararg:=none,kwonlyargs:=[],kw_defaults:=[],kwarg:=none,defaults:=[] },.Name "" #[0,0,0,0],{ kind:=.function,names:=[],isGenerator:=false,isCoroutine:=false },#[0,0,0,0])
abbrev qT:Str:="Board.turned"++YS++"<lambda>"
abbrev qM:Str:="Board.mirrored"++YS++"<lambda>"
def sH (C f c a:Addr) (q:Str) (st:Stmt) (g:Nat->Nat->Int×Int->Int×Int):Sp:=λvs H Q _=>E9 λ(x y:Int) (o dx cc d:Addr) (w h l:Nat)=>A6 (vs=[.int x,.int y]) (H f=some (ZW f q (Ke st).1 (Ke st).2.1 (Ke st).2.2.1 [(EQ,a)] c)) (H c=some (Ur c q)) (VQ H a<|.ref o) (H o=some (.ins C dx<|fB w h l cc d)) (∀p,H p=none->Q (.ref p) (upd H p<|.tup [.int (g w h (x,y)).1,.int (g w h (x,y)).2]))
theorem cB {a p:Addr}{u:HO} (hp:uu H [(EQ,a)] p=none) (q:∀p,H p=none->Q (.ref p) (upd H p u)):(∀q∈[((EQ:Str),a)],upd (uu H [(EQ,a)]) p u q.2=none)->Q (.ref p) (Zw H (upd (uu H [(EQ,a)]) p u) [(EQ,a)]):=by
 intro z;rw[qG z];refine q p ?_;have n:p ∉ ([((EQ:Str),a)]).map (·.2):=λe=>by
  have e':=by simpa using e
  have:=z (EQ,a) (by simp);rw[<-e',jd] at this;cases this
 rw[j8 n] at hp;exact hp
theorem sX {a:Addr}{fs:List (Str×V)} (hF:VQ H a v) (ho:H o=some (.ins C dx fs)):uu H [(EQ,a)] o=some (.ins C dx fs):=by
 obtain⟨ob,e,_⟩:=hF;rw[j8 (λz=>by
  have z':=by simpa using z
  rw[z',e] at ho;cases ho)]
 exact ho
theorem tG (T:Txt K mg t) (f c a:Addr):Calls P w K mg base 2 f (sH t.jq f c a qT ve λ_ h=>Zb h):=by
 intro A outer s H us vs Q hr e0 r h;obtain⟨x,y,o,dx,cc,d,w',h',l',rfl,hf,hc,hF,ho,q⟩:=h;refine NF (zw (ps:=[FS,IN]) rfl rfl rfl (by decide +kernel) (by decide +kernel) (by decide +kernel) rfl) (λ_ _=>fU λ_ _=>rfl) hr e0 r rfl hf hc (.cons hF .nil) λFC=>?_;refine#[_,(jN<|ja (jp JR (jp JR (jM (pv 2) rfl) jg)<|pv 1)<|ja (pv 0) jf),?_];refine#[o,_,dx,_,_,rfl,sX hF ho,T.jz,T.Ji,rfl,(by show 2<=sizeLine;decide),λp hp=>cB hp q]
theorem tF (T:Txt K mg t) (f c a:Addr):Calls P w K mg base 2 f (sH t.jq f c a qM UB λw _=>ZD w):=by
 intro A outer s H us vs Q hr e0 r h;obtain⟨x,y,o,dx,cc,d,w',h',l',rfl,hf,hc,hF,ho,q⟩:=h;refine NF (zw (ps:=[FS,IN]) rfl rfl rfl (by decide +kernel) (by decide +kernel) (by decide +kernel) rfl) (λ_ _=>fU λ_ _=>rfl) hr e0 r rfl hf hc (.cons hF .nil) λFC=>?_;refine#[_,(jN<|ja (jp JR (jp JR (jM (pv 2) rfl) jg)<|pv 0)<|ja (pv 1) jf),?_];refine#[o,_,dx,_,_,rfl,sX hF ho,T.jz,T.Jj,rfl,(by show 2<=sizeLine;decide),λp hp=>cB hp q]
def tj (P:Ee) (w:World) (K:DS) (mg:DV) (base:Heap) (H:Hp) (f:Addr) (g:Int×Int->Int×Int):Prop :=
 zN H f/\∃sp,Calls P w K mg base 2 f sp/\∀H' x y Q,Same H H'->(∀p,H' p=none->Q (.ref p) (upd H' p<|.tup [.int (g (x,y)).1,.int (g (x,y)).2]))->sp [.int x,.int y] H' Q (λ_ _ _=>False)
theorem zN.same {H':Hp}{f:Addr} (x:zN H f) (s:Same H H'):zN H' f:=let ⟨a,b,c,d,e,g,h⟩:=x;#[a,b,c,d,e,g,s _ _ h]
def oA (P:Ee) (w:World) (K:DS) (mg:DV) (base:Heap) (C:Addr):Sp:=λvs H Q _=>bM λ(o dx c d f:Addr) (w0 h0 l w' h':Nat) (cs ds:jF) (g:Int×Int->Int×Int)=>fA (vs=[.ref o,.int w',.int h',.ref f]) (Bd C H o dx c d w0 h0 l cs ds) (cs.length<=450) (ds.length<=450) (1<=w'/\w'<=12) (1<=h'/\h'<=12) (1<=l/\l<=3) (dz g w0 h0 w' h') (tj P w K mg base H f g) (∀o2 Et c2 d2 En Eo H',Same H H'->H o2=none->H c2=none->H d2=none->c2≠d2->Bd C H' o2 Et c2 d2 w' h' l En Eo->bP g cs ds En Eo->Q (.ref o2) H')
theorem V8 (T:Txt K mg t):uQ P w K mg base 6 t.jq "redrawn" [EQ,LT,PK,"place"] (oA P w K mg base t.jq):=by
 refine T.kj.ok T.jz [EQ,LT,PK,"place",YF,"hole"] ?_;rintro _ H Q E ⟨o,dx,c,d,f,w0,h0,l,w',h',cs,ds,g,rfl,B,lc,lh,bw,bh,bl,L,⟨hF,sp,hC,HC⟩,q⟩;refine#[rfl,λEm A outer s hr=>#[_,(ji (jv 4<|za (ZI T)<|ja (pv 1)<|ja (pv 2)<|ja (jM<|pv 0) jf) (ji (jQ (Jy (pv 4) (gA T) (ja (Jx (own:=[FS,IN,"z"]) (UT (cl:=[("place",_)])) (jV<|uk (g6<|Ul T)<|pv 0) (λ_ _ _ _ _=>zd (n:=3)<|Jn (jw 6)<|Jn (jw 7)<|Jn (jw 8) Vb) (λ_ _ _ _ _=>UF) (λ_ _ _ _ _=>(jp (N2 (K:=K) rfl) (mX (k:=2) (P:=P) (w:=w) (K:=K) (mg:=mg) (base:=base) rfl rfl rfl rfl rfl (pv 3) hr.m<|ja (pv 6)<|ja (pv 7) jf)<|jN<|ja (pv 8) jf))) jf))) (ji (j7 jO (jV (Jx (own:=[FS,IN]) (UT (cl:=[("place",_)])) (jV<|uk (Kj<|zZ T)<|pv 0) (λ_ _ _ _ _=>zd (n:=2)<|Jn (jw 6)<|Jn (jw 7) Vb) (λ_ _ _ _ _=>UF) (λ_ _ _ _ _=>(mX (k:=2) (P:=P) (w:=w) (K:=K) (mg:=mg) (base:=base) rfl rfl rfl rfl rfl (pv 3) hr.m<|ja (pv 6)<|ja (pv 7) jf)))) (jw 5)<|jk<|jQ<|Jy (pv 4) (zY T)<|ja (ju jr (pv 5) jg)<|ja (ju jr (pv 5) jg) jf)<|jk<|jC<|pv 4))),?_]];refine#[o,_,dx,_,_,rfl,B.o,T.jz,T.JA,rfl,λo2 Et EI OC Lc=>?_];refine#[o2,Et,_,_,_,rfl,jd,by lia,by lia,by lia,λc2 d2 H1 fr1 eo ec ed nc nd IS HF IB=>?_];refine#[rfl,?_];refine JV ?_;dsimp only;have s1:Same H H1:=λb u e=>fr1 b u (jh e EI) (by rw[jj<|jh e EI,jj<|jh e OC];exact e);have R6:=by
  rw[jj HF,jj (λz=>by rw[z,jd] at nc;cases nc)] at nc;exact nc
 have La:=by
  rw[jj IB,jj (λz=>by rw[z,jd] at nd;cases nd)] at nd;exact nd
 have B1:=B.same s1;have F1:=zN.same hF s1;refine uZ (λσ H'=>∃ET,A6 (σ=[some<|.ref o,some<|.int w',some<|.int h',some<|.ref f,some<|.ref o2,none]) (Jm c2 H1 H') (H' c2=some (.dT ET)) (ui ET w' h' l) (∀e,jT ET (g3 g e)=jT cs e)<|ET.length<=cs.length) (λR nx=>?_) ?_
 ·refine#[o2,Et,_,rfl,eo,rfl,o,dx,_,rfl,B1.o,rfl,o,dx,c,d,w0,h0,l,cs,rfl,B1.o,B1.c,B1.C.sds,λr bs ks ED ka pm up=>?_];obtain⟨Xa,rfl,La,IC⟩:=VW B1.C pm;have Xb:=by have:=pm.length_eq;simpa using this
  have s2:=jm (o:=.lst<|bs.map V.ref) (Same.refl H1) ED;have er:upd H1 r (.lst<|bs.map V.ref) r=some (.lst<|bs.map V.ref):=jd;generalize upd H1 r (.lst<|bs.map V.ref)=H2 at s2 er ⊢;refine#[r,rfl,#[_,jt.of er],zp k3 (λc=>k3<|g3 g c) (by rw[Xb];exact ym lc (by decide)) er (jP.same ka s2) (λr x H3 Qy Qn hx s3 Iq hy=>?_) λD rs H3 s3 hD eD kD=>?_]
  ·have OD:=Same.trans s2 s3;have FT:=Same.trans s1 OD;refine#[_,jx.of Iq,rfl,#[_,rfl,rfl],JE #[f,rfl,zN.same F1 OD,zN.same F1 OD,sp,hC,HC H3 _ _ _ FT λp hp=>?_]];have s4:=jm (o:=.tup [.int (g (x.1,x.2.1)).1,.int (g (x.1,x.2.1)).2]) (Same.refl H3) hp;have ep:upd H3 p (.tup [.int (g (x.1,x.2.1)).1,.int (g (x.1,x.2.1)).2]) p=some (.tup [.int (g (x.1,x.2.1)).1,.int (g (x.1,x.2.1)).2]):=jd;generalize upd H3 p (.tup [.int (g (x.1,x.2.1)).1,.int (g (x.1,x.2.1)).2])=H4 at s4 ep ⊢;refine#[(by show 1<=sizeLine;decide),λp3 Hx=>?_];have s5:=jm (o:=.tup [.int x.2.2]) (Same.refl H4) Hx;have e5:upd H4 p3 (.tup [.int x.2.2]) p3=some (.tup [.int x.2.2]):=jd;refine#[p,p3,_,_,rfl,rfl,jx.of<|s5 _ _ ep,jx.of e5,by simp,(by show 3<=sizeLine;decide),λz=>(by cases z),λ_ p4 IL=>hy p4 _ (Same.trans s4<|Same.trans s5<|jm (Same.refl _) IL) jd]
  ·have OD:=Same.trans s2 s3;have Fx:jy H3 rs (Xa.map<|g3 g):=jy.of_key (by rw[yS];exact kD);have OE:∀c∈Xa.map (g3 g),uM w' h' l c=true:=λc hc=>by
    obtain⟨x,hx,rfl⟩:=yf.mp hc;have:=(IC x).mp hx;unfold Ue at this;rw[yU] at this;exact Bu L this.1
   refine#[o2,Et,c2,d2,D,rs,_,w',h',l,_,rfl,OD _ _ eo,eD,Fx,OD _ _ ec,?_,y6.mpr OE,nx _ _ #[_,rfl,λb u n e=>?_,jd,wX OE,λe=>?_,?_]]
   ·rw[yb,Xb];show 0+_<=1000
    lia
   ·rw[jj n];exact OD _ _ e
   ·rw[Gx];show (false||_)=_;rw[abf,<-kI B1.C e,y4,decide_eq_true_iff,uz<|iC L.inj,IC]
   ·have:=Zv (Xa.map<|g3 g) [];rw[yb,Xb] at this;simpa using this
 ·rintro σ H2 ⟨ET,rfl,Hf,FV,tc2,pc2,ln2⟩;have dc:=yG IS;have EY:Same H H2:=λb u e=>Hf b u (jh e R6)<|s1 _ _ e;have B2:=B.same EY;have q₁:=Hf _ _ (yG HF) eo;have ed2:=Hf _ _ dc ed;refine uZ (λσ H'=>E2 λ(v) (EM:jF)=>A6 (σ=[some<|.ref o,some<|.int w',some<|.int h',some<|.ref f,some<|.ref o2,v]) (Jm d2 H2 H') (H' d2=some (.dT EM)) (u9 EM w' h') (∀p,zS EM (g p)=zS ds p)<|EM.length<=ds.length) (λR nx=>?_) ?_
  ·refine#[o,dx,_,rfl,B2.o,rfl,o,dx,c,d,w0,h0,l,ds,rfl,B2.o,B2.d,B2.D.sds,λr bs ks ED ka pm up=>?_];obtain⟨hl1,rfl⟩:=Nw B2.D pm;have q₂:=Zz pm;have IC:=tY pm;have s3:=jm (o:=.lst<|bs.map V.ref) (Same.refl H2) ED;have er:upd H2 r (.lst<|bs.map V.ref) r=some (.lst<|bs.map V.ref):=jd;generalize upd H2 r (.lst<|bs.map V.ref)=H3 at s3 er ⊢;refine#[r,rfl,#[_,jt.of er],zp k2 (λc=>k2<|g c) (by rw[q₂];exact ym lh (by decide)) er (jP.same ka s3) (λr x H4 Qy Qn hx s4 er4 hy=>?_) λD rs H4 s4 hD eD kD=>?_]
   ·have Fi:=Same.trans EY<|Same.trans s3 s4;exact#[_,jx.of er4,rfl,#[_,rfl,rfl],JE #[f,rfl,zN.same hF Fi,zN.same hF Fi,sp,hC,HC H4 _ _ _ Fi λp hp=>hy p _ (jm (Same.refl _) hp) jd]]
   ·have Ll:=Same.trans s3 s4;have Xc:=Ll _ _ ed2;have Xd:jP H4 rs ((hl1.map g).map k2):=by rw[yS];exact kD
    have on:∀p∈hl1.map g,(jH _ w'&&jH _ h')=true:=λp hp=>by
     obtain⟨x,hx,rfl⟩:=yf.mp hp;exact L.on x (Bw B2.D<|(IC x).mp hx)
    have ln:(hl1.map g).length=ds.length:=by rw[yb,q₂]
    have has:∀p,g p∈hl1.map g↔zS ds p=true:=λp=>by rw[uz L.inj,IC]
    generalize hl1.map g=hl2 at Xd on ln has;have Tb:rs.length=hl2.length:=by rw[Xd.1,yb]
    have Dd:=jA eD Xc;refine#[D,rfl,#[_,jt.of eD],Jt (λi σ H'=>A3 (∃v,σ=[some _,some _,some _,some _,some _,v]) (Jm d2 H4 H')<|H' d2=some (.dT<|vT _<|hl2.take i)) #[#[_,rfl],λb u _ e=>e,Xc] (λi σ H' _ h_=>by obtain⟨_,f,_⟩:=h_;exact jt.of<|f _ _ Dd eD) ?_ ?_]
    ·rintro i v σ H5 hx ⟨⟨v5,rfl⟩,f5,e5⟩;obtain⟨p,FL,rfl⟩:=jX hx;have hi:i<hl2.length:=by rw[<-Tb];exact (yd.mp FL).1
     have hs:=yc hi;have ep:=Xd.2 i p _ FL (by rw[yo,hs];rfl);have pd:=jA ep Xc;have S:jx K H5 p [.int _,.int _]:=jx.of<|f5 _ _ pd ep;have r₁:=f5 _ _ (yG IB)<|Ll _ _ q₁;have r₂:=m5 (hl2.take i) [];rw[yM] at r₂;refine#[o2,Et,_,rfl,r₁,rfl,_,_,S,rfl,_,_,S,rfl,o2,Et,c2,d2,w',h',l,_,_,_,rfl,r₁,e5,(by simp at r₂;lia),on _<|yV hi,λq hq=>#[#[_,rfl],λb u n e=>?_,?_]]
     ·rw[jj n,jj<|jh (f5 _ _ n e) hq];exact f5 _ _ n e
     ·rw[jd,YW,hs];show _=some (HO.dT<|vT _<|hl2.take i++[hl2[i]]);rw[eT];rfl
    ·rintro σ H5 ⟨⟨v5,rfl⟩,f5,e5⟩;rw[yb,Tb,yW] at e5;refine nx _ _ #[_,_,rfl,λb u n e=>f5 b u n<|Ll _ _ e,e5,Me hl2 _ (u9.nil w' h') on,λp=>?_,?_]
     ·rw[mM];show (false||_)=_;rw[abf,y4,decide_eq_true_iff,has]
     ·have:=m5 hl2 [];simp at this;lia
  ·rintro σ H3 ⟨v,EM,rfl,f3,e3,td3,pd3,ln3⟩;have FT:Same H H3:=λb u e=>f3 b u (jh e La)<|EY _ _ e;exact q o2 Et c2 d2 ET EM H3 FT EI R6 La IS #[f3 _ _ (yG IB) q₁,f3 _ _ IS FV,e3,tc2,td3] #[pc2,pd3,ln2,ln3]
theorem Bd.unf {c a:Addr}{w:Nat} (B:Bd C H o dx c d w h l cs ds) (e:H a=some (Ut a oc)):Bd C (unf H a) o dx c d w h l cs ds :=
 #[by rw[Um (λz=>by have:=B.o;rw[z,e] at this;cases this)];exact B.o,by rw[Um (λz=>by have:=B.c;rw[z,e] at this;cases this)];exact B.c,by rw[Um (λz=>by have:=B.d;rw[z,e] at this;cases this)];exact B.d,B.C,B.D]
theorem cI {p:Addr}{H':Hp}{a:Addr} (s:vW p H H1) (hn:H1 a=none) (s2:Same (upd H1 a<|Ut a oc) H'):vW p H (unf H' a):=λb u nb e=>by
 have e1:=s b u nb e;have n:=jh e1 hn;rw[Um n];exact s2 _ _ (jB n e1)
theorem Bd.offP {p:Addr}{H':Hp}{c:Addr}{w:Nat}{qs} (B:Bd C H o dx c d w h l cs ds) (hp:H p=some (.tbl qs)) (s:vW p H H'):Bd C H' o dx c d w h l cs ds :=
 #[s _ _ (jA B.o hp) B.o,s _ _ (jA B.c hp) B.c,s _ _ (jA B.d hp) B.d,B.C,B.D]
def sI (C pl:Addr) (pos:Pos) (qu:Str) (g:Nat->Nat->Int×Int->Int×Int) (tw:Bool):Sp:=λvs H Q _=>E9 λ(o dx c d:Addr) (w h l:Nat) (cs ds:jF)=>A9 (vs=[.ref o]) (Bd C H o dx c d w h l cs ds) (cs.length<=450) (ds.length<=450) (1<=w/\w<=12) (1<=h/\h<=12) (1<=l/\l<=3) (zl H pl pos qu) (∀o2 Et c2 d2 En Eo H',vW pl H H'->(∃qs,H' pl=some (.tbl qs))->Bd C H' o2 Et c2 d2 (bif tw then h else w) (bif tw then w else h) l En Eo->bP (g w h) cs ds En Eo->Q (.ref o2) H')
theorem Kn (T:Txt K mg t) (hB:vC mg base):uQ P w K mg base 7 t.jq "turned" [EQ] (sI t.jq t.Jd (Ke ve).2.2.2 qT (λ_ h=>Zb h) true):=by
 obtain⟨fd,F,b⟩:=T.KG;refine#[T.jz,_,fd,T.KL,F.okX KA (λvs H Q E h=>?_) (λA outer s H vs Q E hr h=>?_),b]
 ·obtain⟨o,dx,c,d,w,h,l,cs,ds,rfl,_⟩:=h
  rfl
 ·obtain⟨o,dx,c,d,w',h',l,cs,ds,rfl,B,lc,lh,bw,bh,bl,tb,q⟩:=h;refine#[_,(jk (jC (N5 (i:=0) (pv 0) (V8 T) hr.m (ja (jM<|pv 0) (ja (jM<|pv 0) (ja (cM rfl rfl (by rfl) rfl T.zu hB) jf))) rfl rfl rfl rfl))),?_];refine#[o,dx,_,rfl,B.o,rfl,o,_,dx,_,_,rfl,B.o,T.jz,T.Ji,rfl,o,_,dx,_,_,rfl,B.o,T.jz,T.Jj,rfl,tb,λcc f H1 off OF hf ef PB=>#[_,rfl,λhn oc EO=>?_]];obtain⟨ps,hP,_⟩:=id tb;obtain⟨Xe,R7,_⟩:=id OF;have s2:=jm (o:=Ut (s.heap.objs.size+1) oc) (Same.refl H1) hn;have ea:upd H1 (s.heap.objs.size+1) (Ut (s.heap.objs.size+1) oc) (s.heap.objs.size+1)=some (Ut (s.heap.objs.size+1) oc):=jd;refine#[o,dx,c,d,f,w',h',l,h',w',cs,ds,_,rfl,(B.offP hP off).same s2,lc,lh,bh,bw,bl,K2 w' h',#[#[_,_,_,_,_,_,s2 _ _ ef],_,tG T f cc _,λH' x y Q s3 k=>#[x,y,o,dx,c,d,w',h',l,rfl,s3 _ _<|s2 _ _ ef,s3 _ _<|s2 _ _ PB,#[oc,s3 _ _ jd,EO],(((B.offP hP off).same s2).same s3).o,k]],λo2 Et c2 d2 En Eo H' s3 n1 n2 n3 IS B2 L2=>?_];have eF:=s3 _ _ ea;exact q o2 Et c2 d2 En Eo _ (cI off hn s3) #[Xe,by rw[Um<|jh R7 hn];exact s3 _ _<|s2 _ _ R7] (B2.unf eF) L2
theorem Gn (T:Txt K mg t) (hB:vC mg base):uQ P w K mg base 7 t.jq "mirrored" [EQ] (sI t.jq t.j0 (Ke UB).2.2.2 qM (λw _=>ZD w) false):=by
 obtain⟨fd,F,b⟩:=T.GR;refine#[T.jz,_,fd,T.GT,F.okX Go (λvs H Q E h=>?_) (λA outer s H vs Q E hr h=>?_),b]
 ·obtain⟨o,dx,c,d,w,h,l,cs,ds,rfl,_⟩:=h
  rfl
 ·obtain⟨o,dx,c,d,w',h',l,cs,ds,rfl,B,lc,lh,bw,bh,bl,tb,q⟩:=h;refine#[_,(jk (jC (N5 (i:=0) (pv 0) (V8 T) hr.m (ja (jM<|pv 0) (ja (jM<|pv 0) (ja (cM rfl rfl (by rfl) rfl T.Vw hB) jf))) rfl rfl rfl rfl))),?_];refine#[o,dx,_,rfl,B.o,rfl,o,_,dx,_,_,rfl,B.o,T.jz,T.Jj,rfl,o,_,dx,_,_,rfl,B.o,T.jz,T.Ji,rfl,tb,λcc f H1 off OF hf ef PB=>#[_,rfl,λhn oc EO=>?_]];obtain⟨ps,hP,_⟩:=id tb;obtain⟨Xe,R7,_⟩:=id OF;have s2:=jm (o:=Ut (s.heap.objs.size+1) oc) (Same.refl H1) hn;have ea:upd H1 (s.heap.objs.size+1) (Ut (s.heap.objs.size+1) oc) (s.heap.objs.size+1)=some (Ut (s.heap.objs.size+1) oc):=jd;refine#[o,dx,c,d,f,w',h',l,w',h',cs,ds,_,rfl,(B.offP hP off).same s2,lc,lh,bw,bh,bl,K1 w' h',#[#[_,_,_,_,_,_,s2 _ _ ef],_,tF T f cc _,λH' x y Q s3 k=>#[x,y,o,dx,c,d,w',h',l,rfl,s3 _ _<|s2 _ _ ef,s3 _ _<|s2 _ _ PB,#[oc,s3 _ _ jd,EO],(((B.offP hP off).same s2).same s3).o,k]],λo2 Et c2 d2 En Eo H' s3 n1 n2 n3 IS B2 L2=>?_];have eF:=s3 _ _ ea;exact q o2 Et c2 d2 En Eo _ (cI off hn s3) #[Xe,by rw[Um<|jh R7 hn];exact s3 _ _<|s2 _ _ R7] (B2.unf eF) L2
structure Uh where
 W:Int
 Hh:Int
 L:Nat
 pr:je->Option Int
 ch:Int->Int->Option Int
def Uh.on (f:Uh) (c:je):Prop:=0<=c.1/\c.1<f.W/\0<=c.2.1/\c.2.1<f.Hh/\0<=c.2.2/\c.2.2<(f.L:Int)
structure Uh.Ok (f:Uh):Prop where
 w:1<=f.W/\f.W<=12
 h:1<=f.Hh/\f.Hh<=12
 l:1<=f.L/\f.L<=3
 on:∀c n,f.pr c=some n->f.on c
 pos:∀c n,f.pr c=some n->0<n
 cp:∀x y n,f.ch x y=some n->0<n
def vQ:Option Int->V|none=>.non|some n=>.int n
abbrev t3 (c:je):List V:=[.int c.1,.int c.2.1,.int c.2.2]
def AN (H0:Hp) (f:Uh):Sp:=λvs H Q _=>E2 λ(p:Addr) (c:je)=>A5 (vs=[.ref p]) (Same H0 H) (H p=some (.tup<|t3 c)) (f.on c) (∀H',Same H H'->Q (vQ<|f.pr c) H')
def AT (H0:Hp) (f:Uh):Sp:=λvs H Q _=>E2 λ(x y:Int)=>A4 (vs=[.int x,.int y]) (Same H0 H) (0<=x/\x<f.W/\0<=y/\y<f.Hh) (∀H',Same H H'->Q (vQ<|f.ch x y) H')
section
variable (P:Ee) (w:World) (K:DS) (mg:DV) (base:Heap)
structure rK (H0:Hp) (fp ft:Addr) (f:Uh):Prop where
 ok:f.Ok
 cp:Calls P w K mg base 2 fp (AN H0 f)
 ct:Calls P w K mg base 2 ft (AT H0 f)
 up:FnU H0 fp
 ut:FnU H0 ft
end
theorem _root_.L2.FnU.same {f:Addr}{H':Hp} (u:FnU H f) (o:Same H H'):FnU H' f:=by
 obtain⟨a,b,c,d,e,g,h,z⟩:=u;exact#[a,b,c,d,e,g,h,o _ _ z]
theorem _root_.L2.Same.nn {H':Hp} (x:Same H H') {p:Addr} (hp:H' p=none):H p=none:=none_of x hp
theorem jy.mono {H':Hp} (C:jy H ps cl) (k:∀p xs,H p=some (.tup xs)->H' p=some (.tup xs)):jy H' ps cl:=#[C.1,λi p c h1 h2=>k _ _<|C.2 i p c h1 h2]
theorem jy.nil:jy H [] []:=#[rfl,λi p c h=>by cases h]
theorem jy.at_ (C:jy H ps cl) {p:Addr} (h:ps[i]?=some p):∃c,cl[i]?=some c/\H p=some (.tup<|t3 c):=by
 have hi:i<cl.length:=by rw[<-C.1];exact (yd.mp h).1
 exact#[_,yc hi,C.2 i p _ h<|yc hi]
def Uk (W Hh:Int) (c:je):Bool:=decide (0<=c.1)&&decide (c.1<W)&&(decide (0<=c.2.1)&&decide (c.2.1<Hh))
def C0:Sp:=λvs H Q _=>E6 λ(s p:Addr) (W Hh L:Int) (c:je)=>A4 (vs=[.ref s,.ref p]) (H s=some (.tup [.int W,.int Hh,.int L])) (H p=some (.tup<|t3 c)) (Q (.bl<|Uk W Hh c) H)
theorem eG (T:Txt K mg t):jS P w K mg base 1 "in_size" [SZ,E0] C0:=by
 refine T.fH.ok [SZ,E0] ?_;rintro _ H Q E ⟨sz,p,W,Hh,L,⟨x,y,z⟩,rfl,hs,hp,q⟩;refine#[rfl,λEm A outer s hr=>#[_,(jk<|jC<|u7 (vp vP UU jg (ju jr (pv 1) jg)<|ju jr (pv 0) jg)<|U6<|vp vP UU jg (ju jr (pv 1) jg)<|ju jr (pv 0) jg),?_]];have Sp:jx K H p [.int x,.int y,.int z]:=jx.of hp;have Ss:jx K H sz _:=jx.of hs;have no:Uk W Hh _=false->Q _ H:=λe=>by rwa [e] at q
 refine#[_,_,Sp,rfl,_,rfl,Jw (λg1=>#[_,_,Ss,rfl,_,rfl,Jw (λg2=>?_) λg2=>no (by simp [Uk,g2])]) λg1=>#[false,rfl,uT (no (by simp [Uk,g1]))]];refine#[_,_,Sp,rfl,_,rfl,Jw (λg3=>#[_,_,Ss,rfl,?_]) λg3=>no (by simp [Uk,g3])];have e:Uk W Hh (x,y,z)=decide (y<Hh):=by simp [Uk,g1,g2,g3]
 rwa [e] at q
def UR (H:Hp) (rs:DZ) (l:List (je×V)):Prop:=rs.length=l.length/\∀(i:Nat) (r:Addr) (s:je×V),rs[i]?=some r->l[i]?=some s->∃p,H r=some (.tup [.ref p,s.2])/\H p=some (.tup<|t3 s.1)
theorem UR.mono {H':Hp}{rs:DZ}{l:List (je×V)} (C:UR H rs l) (k:∀p xs,H p=some (.tup xs)->H' p=some (.tup xs)):UR H' rs l:=#[C.1,λi r s h1 h2=>let ⟨p,a,b⟩:=C.2 i r s h1 h2;#[p,k _ _ a,k _ _ b]]
theorem UR.nil:UR H [] []:=#[rfl,λi p c h=>by cases h]
theorem UR.app {qs:DZ}{cl dl:List (je×V)} (C:UR H ps cl) (D:UR H qs dl):UR H (ps++qs) (cl++dl):=#[by rw[ye,ye,C.1,D.1],λi q d h1 h2=>by
 by_cases h:i<ps.length
 ·rw[yn h] at h1;rw[yn<|C.1▸h] at h2;exact C.2 i q d h1 h2
 ·rw[yl (by lia)] at h1;rw[yl (by rw[<-C.1];lia),<-C.1] at h2;exact D.2 _ q d h1 h2]
theorem UR.one {p:Addr}{s:je×V} (h1:H r=some (.tup [.ref p,s.2])) (h2:H p=some (.tup<|t3 s.1)):UR H [r] [s]:=#[rfl,λi q d g1 g2=>by
 cases i with
 | zero=>cases g1;cases g2;exact#[p,h1,h2]
 | succ m=>cases g1]
theorem UR.at_ {cl:List (je×V)} (C:UR H ps cl) (h:ps[i]?=some r):∃s p,cl[i]?=some s/\H r=some (.tup [.ref p,s.2])/\H p=some (.tup<|t3 s.1):=by
 have h1:=(yd.mp h).1;have h2:i<cl.length:=by rw[<-C.1];exact h1
 obtain⟨p,a,b⟩:=C.2 i _ _ h<|yc h2;exact#[_,p,yc h2,a,b]
def iV (l:List (je×Int)):List (je×V):=l.map λs=>(s.1,.int s.2)
theorem iN (a b:List (je×Int)):iV (a++b)=iV a++iV b:=yk
def JH (f:Uh) (cl:List je) (m:Int):List (je×Int):=cl.filterMap λc=>(f.pr c).map λn=>(c,n+m)
theorem GK (f:Uh) (a b:List je) (m:Int):JH f (a++b) m=JH f a m++JH f b m:=abr
theorem JO {α:Type}{l:List α}{x:α} (h:l[i]?=some x):l.take (i+1)=l.take i++[x]:=by rw[Qm,h];rfl
theorem UC {α:Type}{l:List α}{n:Nat} (h:l.length=n):l.take n=l:=by rw[<-h,yW]
theorem _root_.L2.Same.put {x y:HO} (o:Same H H2) (hr:H2 r=none) (d:H D=none):Same H (L2.upd (L2.upd H2 r x) D y):=λb u e=>by rw[jj<|jh e d,jj<|jh (o b u e) hr];exact o b u e
def rj (P:Ee) (w:World) (K:DS) (mg:DV) (base:Heap):Sp:=λvs H Q _=>E8 λ(H0:Hp) (fp ft:Addr) (f:Uh) (lc:Addr) (ps:DZ) (cl:List je) (m:Int)=>A8 (vs=[.ref fp,.ref lc,.int m]) (rK P w K mg base H0 fp ft f) (Same H0 H) (H lc=some (.lst<|ps.map V.ref)) (jy H ps cl) (∀c∈cl,f.on c) (cl.length<=100) (∀D rs H',Same H H'->H D=none->H' D=some (.lst<|rs.map V.ref)->UR H' rs (iV<|JH f cl m)->Q (.ref D) H')
theorem lI (T:Txt K mg t):jS P w K mg base 3 "priced" [TD,SL,"more"] (rj P w K mg base):=by
 refine T.pf.ok [TD,SL,"more","prices"] ?_;rintro _ H Q E ⟨H0,fp,ft,f,lc,ps,cl,m,rfl,Wd,off,Oi,C,Fw,hl,q⟩;refine#[rfl,λEm A outer s hr=>#[_,(ji (me 3 (own:=[E0]) (UT) (jV<|pv 1) (λ_ _ _ _ _=>jw 4) (λ_ _ _ _ _=>UF) (λ_ _ _ _ _=>(jN<|ja (pv 4)<|ja (G7 (k:=2) rfl rfl rfl rfl rfl (pv 0) hr.m<|ja (pv 4) jf) jf))) (jk (jC (Jx (own:=[E0,YA]) (UT) (jV<|pv 3) (λ_ _ _ _ _=>zd (n:=2)<|Jn (jw 4)<|Jn (jw 5) Vb) (λ_ _ _ _ _=>UG<|uw<|g9<|pv 5) (λ_ _ _ _ _=>(jN<|ja (pv 4)<|ja (jp Jc (pv 5)<|pv 2) jf)))))),?_]];have lz:(ps.map V.ref).length<=sizeLine:=by rw[yb,C.1];exact ym hl (by decide)
 refine uF (λ(D)=>[oR fp,oR lc,some<|.int m,oR D]) (λD H'=>A3 (Same H H') (H D=none) (∃rs,H' D=some (.lst<|rs.map V.ref)/\UR H' rs (cl.map λc=>(c,vQ<|f.pr c)))) (λB hB=>?_) ?_
 ·refine#[lc,rfl,#[_,jt.of Oi],uj (λD i ys H'=>A7 (Same H H') _ (H' D=some (.lst ys)) (H' lc=some _) (i<=cl.length) (ys.length=i) (∃rs:List Addr,ys=rs.map V.ref/\UR H' rs ((cl.take i).map λc=>(c,vQ<|f.pr c)))) lz (λD hD=>#[jm (Same.refl H) hD,hD,jd,jm (Same.refl H) hD _ _ Oi,yL _,rfl,_,rfl,UR.nil]) (λD i ys H' hv=>#[hv.3,aav hv.6,jt.of hv.4]) ?_ ?_]
  ·rintro D i x ys H' Qy Qn hx ⟨o1,d1,e1,l1,i1,y1,rs,rfl,R⟩ hy HX;obtain⟨p,hp,rfl⟩:=jX hx;obtain⟨c,hc,ep⟩:=C.at_ hp;have ic:=(yd.mp hc).1;have Sa:=o1 _ _ ep;have U1:=Wd.up.same<|off.trans o1;refine#[#[_,rfl,rfl],JE #[fp,rfl,U1,U1,_,Wd.cp,p,c,rfl,off.trans o1,Sa,Fw c<|yp hc,λH2 o2=>#[Vy,λr hr=>?_]]];have Ht:=o2 _ _ e1;have PD:=o2 _ _ l1;have Sb:=yG<|jh Ht hr;have kt:∀q xs,H' q=some (.tup xs)->upd (upd H2 r<|.tup [.ref p,vQ<|f.pr c]) D (.lst<|rs.map V.ref++[.ref r]) q=some _:=λq xs e=>by
    have e2:=o2 q _ e;rw[jj<|jA e2 Ht,jj<|jh e2 hr];exact e2
   refine hy _ _ (jB (jh Ht hr) Ht) #[Same.put (o1.trans o2) hr d1,d1,jd,by rw[jj<|jh Oi d1,jj<|jh PD hr];exact PD,ic,by rw[ye,y1];rfl,rs++[r],by rw[yk];rfl,?_];rw[JO hc,yk];exact (R.mono kt).app (UR.one (jB Sb jd)<|kt p _ Sa)
  ·rintro D ys H' hD ⟨o1,d1,e1,l1,i1,y1,rs,rfl,R⟩;rw[yb,C.1] at R;rw[UC rfl] at R;exact hB D H' #[o1,d1,rs,e1,R]
 rintro D H1 ⟨o1,d1,rs,e1,R⟩;refine#[D,rfl,#[_,jt.of e1],uj (λE i ys H'=>A6 (Same H1 H') _ (H' E=some (.lst ys)) (ys.length<=i) (i<=cl.length) (∃LK:List Addr,ys=LK.map V.ref/\UR H' LK (iV<|JH f (cl.take i) m))) (by rw[yb,R.1,yb];exact ym hl (by decide)) (λE hE=>#[jm (Same.refl H1) hE,hE,jd,yL _,yL _,_,rfl,UR.nil]) (λE i ys H' hv=>#[hv.3,hv.4,jt.of<|hv.1 _ _ e1]) ?_ ?_]
 ·rintro E i x ys H' Qy Qn hx ⟨s1,hE,eE,y1,i1,LK,rfl,R'⟩ hy HX;obtain⟨r,ED,rfl⟩:=jX hx;obtain⟨s,p,hs,er,ep⟩:=R.at_ ED;obtain⟨c,hc,rfl⟩:=jX hs;have ic:=(yd.mp hc).1;refine#[_,jx.of<|s1 _ _ er,rfl,#[_,rfl,rfl],?_];have tk:=JO hc;cases OG:f.pr c with
  | none =>
   rw[OG] at er;refine HX _ #[s1,hE,eE,by lia,ic,LK,rfl,?_];rw[tk,GK,show JH f [c] m=[] by simp [JH,OG],yK];exact R'
  | some v =>
   rw[OG] at er;refine#[Vy,λr2 FC=>?_];have nE:=yG<|jh eE FC;have kt:∀q xs,H' q=some (.tup xs)->upd (upd H' r2<|.tup [.ref p,.int<|v+m]) E (.lst<|LK.map V.ref++[.ref r2]) q=some _:=λq xs e=>by
    rw[jj<|jA e eE,jj<|jh e FC];exact e
   refine hy _ _ (jB (jh eE FC) eE) #[Same.put s1 FC hE,hE,jd,by rw[ye];exact Qb y1,ic,LK++[r2],by rw[yk];rfl,?_];rw[tk,GK,show JH f [c] m=[(c,v+m)] by simp [JH,OG],iN];exact (R'.mono kt).app (UR.one (jB nE jd)<|kt p _<|s1 _ _ ep)
 ·rintro E ys H' hE ⟨s1,_,eE,y1,i1,LK,rfl,R'⟩;rw[yb,R.1,yb,UC rfl] at R';have sE:=o1.nn hE;exact q E LK H' (o1.trans s1) sE eE R'
def uA (f:Uh) (c:je):List (je×Int):=JH f ((UN c).filter<|Uk f.W f.Hh) 0++(match f.ch c.1 c.2.1 with|none=>[]|some m=>JH f (uc c f.L) m)
theorem tP {c d:je} (hc:f.on c) (hd:d∈(UN c).filter (Uk f.W f.Hh)):f.on d:=by
 obtain⟨h1,h2⟩:=yZ.mp hd;simp only[Uk,yU,decide_eq_true_eq] at h2;obtain⟨⟨a1,a2⟩,a3,a4⟩:=h2;have hz:d.2.2=c.2.2:=by
  simp only[UN,yz,Qq,or_false] at h1;rcases h1 with rfl|rfl|rfl|rfl<;>rfl
 exact#[a1,a2,a3,a4,by rw[hz];exact hc.2.2.2.2.1,by rw[hz];exact hc.2.2.2.2.2]
theorem qp {c d:je} (hc:f.on c) (hd:d∈uc c f.L):f.on d:=by
 obtain⟨k,hk,rfl⟩:=yf.mp hd;have:=Qs.mp (yZ.mp hk).1;exact#[hc.1,hc.2.1,hc.2.2.1,hc.2.2.2.1,by lia,by lia]
theorem mW (c:je) (n:Nat):(uc c n).length<=n:=by
 unfold uc;rw[yb];exact ym (y8 _ _) (by rw[aaL];exact yh _)
theorem Vg (f:Uh) (cl:List je) (m:Int):(JH f cl m).length<=cl.length:=abc _ _
theorem Nx (l:List (je×Int)):(iV l).length=l.length:=yb ..
def wN (P:Ee) (w:World) (K:DS) (mg:DV) (base:Heap):Sp:=λvs H Q _=>E7 λ(H0:Hp) (fp ft:Addr) (f:Uh) (sz p:Addr) (c:je)=>A7 (vs=[.ref sz,.ref fp,.ref ft,.ref p]) (rK P w K mg base H0 fp ft f) (Same H0 H) (H sz=some (.tup [.int f.W,.int f.Hh,.int f.L])) (H p=some (.tup<|t3 c)) (f.on c) (∀D rs H',Same H H'->H D=none->H' D=some (.lst<|rs.map V.ref)->UR H' rs (iV<|uA f c)->Q (.ref D) H')
theorem ql (T:Txt K mg t):jS P w K mg base 4 "steps" [SZ,TD,YB,E0] (wN P w K mg base):=by
 refine T.tf.ok [SZ,TD,YB,E0,"found","hole"] ?_;rintro _ H Q E ⟨H0,fp,ft,f,sz,p,c,rfl,Wd,off,hsz,hp,Fw,q⟩;refine#[rfl,λEm A outer s hr=>#[_,(ji (jv 4 (jn (lI T) (ja (pv 1) (ja (Jx (own:=["spot"]) (UT (cl:=[(SZ,_)])) (jV<|jn (mS T)<|ja (pv 3) jf) (λ_ _ _ _ _=>jw 6) (λ_ _ _ _ _=>UG<|JS<|jn (eG T)<|ja (pv 0)<|ja (pv 6) jf) (λ_ _ _ _ _=>(pv 6)))<|ja jg jf))))<|ji (jv 5<|G7 (k:=2) (P:=P) (w:=w) (K:=K) (mg:=mg) (base:=base) rfl rfl rfl rfl rfl (pv 2) hr.m<|ja (ju jr (pv 3) jg)<|ja (ju jr (pv 3) jg) jf)<|ji (j9 (uw<|g9<|pv 5) (jk<|jQ<|UA Yc Yi Yg U3 (pv 4)<|ja (jn (lI T)<|ja (pv 1)<|ja (jn (Vx T)<|ja (pv 3)<|ja (ju jr (pv 0) jg) jf)<|ja (pv 5) jf) jf) jW)<|jk<|jC<|pv 4),?_]];refine uF (λ(D)=>[oR sz,oR fp,oR ft,oR p,oR D,none]) (λD H'=>A3 (Same H H') (H D=none) (∃rs,H' D=some (.lst<|rs.map V.ref)/\UR H' rs (iV<|JH f ((UN c).filter<|Uk f.W f.Hh) 0))) (λB hB=>?_) ?_
 ·refine#[p,_,_,_,rfl,hp,λD1 ps H1 s1 hD1 e1 C1=>#[D1,rfl,#[_,jt.of e1],uj (λE i ys H'=>A6 (Same H1 H') _ (H' E=some (.lst ys)) (ys.length<=i) (i<=4) (∃qs:List Addr,ys=qs.map V.ref/\jy H' qs (((UN c).take i).filter<|Uk f.W f.Hh))) (by rw[yb,C1.1];show 4<=sizeLine;decide) (λE hE=>#[jm (Same.refl H1) hE,hE,jd,yL _,yL _,_,rfl,jy.nil]) (λE i ys H' hv=>#[hv.3,hv.4,jt.of<|hv.1 _ _ e1]) ?_ ?_]]
  ·rintro E i x ys H' Qy Qn hx ⟨s2,hE,eE,y1,i1,qs,rfl,R⟩ hy HX;obtain⟨r,ED,rfl⟩:=jX hx;obtain⟨d,hd,er⟩:=C1.at_ ED;have ic:i<4:=(yd.mp hd).1;have HU:=Same.trans s1 s2;refine#[#[_,rfl,rfl],sz,r,f.W,f.Hh,f.L,d,rfl,HU _ _ hsz,s2 _ _ er,?_];rw[JO hd,QH] at hy HX;refine V2 (λg=>hy _ _ eE #[λb u e=>?_,hE,jd,by rw[ye];exact Qb y1,ic,qs++[r],by rw[yk];rfl,?_]) λg=>HX _ #[s2,hE,eE,by lia,ic,qs,rfl,?_]
   ·rw[jj<|jh e hE];exact s2 b u e
   ·have e5:[d].filter (Uk f.W f.Hh)=[d]:=by simp [g]
    rw[e5];have kt:∀q xs,H' q=some (.tup xs)->upd H' E (.lst<|qs.map V.ref++[.ref r]) q=some _:=λq xs e=>by rw[jj<|jA e eE];exact e
    exact (R.mono kt).snoc (kt _ _<|s2 _ _ er)
   ·have e5:[d].filter (Uk f.W f.Hh)=[]:=by simp [g]
    rw[e5,yK];exact R
  ·rintro E ys H' hE ⟨s2,_,eE,y1,i1,qs,rfl,R⟩;rw[yb,C1.1,UC rfl] at R;have HU:=Same.trans s1 s2;have l4:((UN c).filter<|Uk f.W f.Hh).length<=4:=y8 _ _;have hE0:=Same.nn s1 hE;refine#[H0,fp,ft,f,E,qs,_,0,rfl,Wd,off.trans HU,eE,R,λd hd=>tP Fw hd,ym l4 (by decide),λD rs H2 o2 hD e2 R2=>?_];exact hB D H2 #[HU.trans o2,Same.nn HU hD,rs,e2,R2]
 rintro D H1 ⟨o1,d1,rs,e1,R⟩;have FZ:=o1 _ _ hp;have Xf:=o1 _ _ hsz;have ut:=Wd.ut.same<|off.trans o1;refine ZL [oR sz,oR fp,oR ft,oR p,oR D,some<|vQ<|f.ch c.1 c.2.1] (λH'=>Same H1 H') (λB hB=>?_) ?_
 ·refine#[ft,rfl,ut,_,_,jx.of FZ,rfl,_,_,jx.of FZ,rfl,ut,_,Wd.ct,_,_,rfl,off.trans o1,#[Fw.1,Fw.2.1,Fw.2.2.1,Fw.2.2.2.1],λH' o=>hB _ o]
 intro H2 o2;have e2:=o2 _ _ e1;have R2:=R.mono (λ_ _ e=>o2 _ _ e);have Fe:=o2 _ _ FZ;have hsz2:=o2 _ _ Xf;cases Fn:f.ch c.1 c.2.1 with
 | none =>
  refine (q D rs H2 (o1.trans o2) d1 e2 ?_);unfold uA;rw[Fn,yK];exact R2
 | some m =>
  have hL:=Wd.ok.l.2;have lo:=mW c f.L;have l4:(JH f ((UN c).filter<|Uk f.W f.Hh) 0).length<=4:=ym (Vg _ _ _)<|y8 _ _;have lp:=Vg f (uc c f.L) m;refine#[.inl #[rfl,_,jt.of e2],_,_,jx.of hsz2,rfl,p,_,_,_,f.L,rfl,Fe,by lia,λD3 ps H3 s3 hD3 e3 C3=>#[H0,fp,ft,f,D3,ps,uc c f.L,m,rfl,Wd,((off.trans o1).trans o2).trans s3,e3,C3,λd hd=>qp Fw hd,by lia,λD4 t₁ H4 o4 hD4 e4 R4=>?_]];have t₂:=o4 _ _<|s3 _ _ e2;have R24:=(R2.mono λp xs e=>s3 _ _ e).mono λ_ _ e=>o4 _ _ e;have len:(rs.map V.ref).length+(t₁.map V.ref).length<=sizeLine:=by
   rw[yb,yb,R.1,R4.1,Nx,Nx];exact ym (show _<=7 by lia) (by decide)
  have kt:∀q xs,H4 q=some (.tup xs)->upd H4 D (.lst<|rs.map V.ref++t₁.map V.ref) q=some _:=λq xs e=>by rw[jj<|jA e t₂];exact e
  refine#[D,D4,_,_,rfl,rfl,t₂,e4,len,q D _ _ (λb u e=>?_) d1 (by rw[jd,yk]) ?_]
  ·rw[jj<|jh e d1];exact o4 _ _ (s3 _ _<|o2 _ _<|o1 _ _ e)
  ·unfold uA;rw[Fn,iN];exact (R24.mono kt).app (R4.mono kt)
def xi (H:Hp) (es:DZ) (ns:List Int):Prop:=es.length=ns.length/\∀(i:Nat) (e:Addr) (n:Int),es[i]?=some e->ns[i]?=some n->∃xs,H e=some (.tup (.int n::xs))
theorem Cp {xs:List V}{n:Int}:vF (.int n::xs) 0=some (.int n):=UI (j:=0) (by simp)
def BN:Sp:=λvs H Q _=>E6 λ(wt e:Addr) (es:DZ) (ns:List Int) (n:Int) (xs:List V)=>A7 (vs=[.ref wt,.ref e]) (H wt=some (.lst<|es.map V.ref)) (xi H es ns) (ns.Pairwise λa b=>b<=a) (H e=some (.tup (.int n::xs))) (es.length<=100000) (∀i,i<=es.length->(∀(j:Nat) m,j<i->ns[j]?=some m->n<m)->(∀(j:Nat) m,i<=j->ns[j]?=some m->m<=n)->Q .non (upd H wt<|.lst<|(es.take i++[e]++es.drop i).map V.ref))
theorem lJ (T:Txt K mg t):jS P w K mg base 1 "put_in" ["waiting","entry"] BN:=by
 refine T.pi.ok ["waiting","entry","low",PK,"middle"] ?_;rintro _ H Q E ⟨wt,e,es,ns,n,xs,rfl,hw,N,srt,he,hl,q⟩;refine#[rfl,λEm A outer s hr=>#[_,(ji (jv 2 jg) (ji (jv 3 (jU Js (by rfl) T.vO vG<|ja (pv 0) jf))<|ji (zf jO (j5 UU (pv 2)<|pv 3)<|ji (jv 4<|jp Je (jp Jc (pv 2)<|pv 3) jg)<|jk<|j9 (j5 r9 (ju jr (ju uW (pv 0)<|pv 4) jg)<|ju jr (pv 1) jg) (jk<|jv 2<|jp Jc (pv 4) jg)<|jk<|jv 3<|pv 4)<|jk<|jQ<|UA Yc PySem.F.slot_list_insert PySem.F.type_list_insert lB (pv 0)<|ja (pv 2)<|ja (pv 1) jf)),?_]];refine ZL [oR wt,oR e,some _,none,none] (λH'=>H'=H) (λB hB=>hB _ rfl) ?_;rintro H1 rfl;refine ZL [oR wt,oR e,some<|.int 0,some<|.int es.length,none] (λH'=>H'=H1) (λB hB=>?_) ?_
 ·have:=hB _ rfl;refine#[wt,_,rfl,.inl<|jt.of hw,?_];rw[yb];exact this
 rintro H2 rfl;refine gE (λ(lo:Nat) (v)=>[oR wt,oR e,some<|.int lo,some<|.int lo,v]) (λlo _ H'=>A4 (H'=H2) (lo<=es.length) (∀(j:Nat) m,j<lo->ns[j]?=some m->n<m) (∀(j:Nat) m,lo<=j->ns[j]?=some m->m<=n)) (λB hB=>?_) ?_
 ·refine#[λm σ H'=>∃(lo hi:Nat) (v:Option V),m=hi - lo/\σ=[oR wt,oR e,some<|.int lo,some<|.int hi,v]/\H'=H2/\lo<=hi/\hi<=es.length/\(∀(j:Nat) m,j<lo->ns[j]?=some m->n<m)/\∀(j:Nat) m,hi<=j->ns[j]?=some m->m<=n,#[_,0,es.length,none,rfl,rfl,rfl,yL _,yh _,λj m h=>absurd h<|Qt _,λj m h e=>?_],?_]
  ·have:=(yd.mp e).1;rw[<-N.1] at this
   lia
  rintro mm σ H' ⟨lo,hi,v,rfl,rfl,rfl,h1,h2,h3,h4⟩;refine Jw (λEl=>#[_,λ_ _ h=>h,?_]) λF8=>?_
  ·have hlt':lo<hi:=by lia
   have em:((lo)+(hi)) / 2=(((lo+hi) / 2:Nat):Int):=by lia
   generalize hmid:(lo+hi) / 2=mid at em;have m1:lo<=mid:=by lia
   have m2:mid<hi:=by lia
   have m3:mid<es.length:=by lia
   have m4:mid<ns.length:=by rw[<-N.1];exact m3
   have ge:=yc m3;have gn:=yc m4;obtain⟨ys,ey⟩:=N.2 mid _ _ ge gn;generalize es[mid]=em_ at ge ey;generalize ns[mid]=nm at gn ey;have pw:∀(i j:Nat) a b,i<=j->ns[i]?=some a->ns[j]?=some b->b<=a:=λi j a b EF ea eb=>by
    obtain⟨i1,rfl⟩:=yd.mp ea;obtain⟨j1,rfl⟩:=yd.mp eb;rcases aag EF with z|rfl
    ·exact QJ.mp srt i j i1 j1 z
    ·exact aaC _
   refine#[#[by decide,by decide],?_];refine#[_,.ref em_,jt.of hw,(congrArg _ em).trans (UI (by rw[yo,ge];rfl)),_,_,jx.of ey,Cp,_,_,jx.of he,Cp,Jw (λg=>?_) λg=>?_]
   ·refine#[_,by omega,mid+1,hi,some<|.int<|((lo)+(hi)) / 2,rfl,?_,rfl,by lia,h2,λj m hj ej=>?_,h4]
    ·rw[Int.natCast_add,<-em];rfl
    have:=pw j mid m nm (by lia) ej gn
    lia
   ·refine#[_,by omega,lo,mid,some<|.int<|((lo)+(hi)) / 2,rfl,?_,rfl,m1,by lia,h3,λj m hj ej=>?_]
    ·rw[<-em];rfl
    ·have:=pw mid j nm m hj gn ej
     lia
  ·have:lo=hi:=by lia
   subst this;exact hB lo v _ #[rfl,h2,h3,h4]
 rintro lo v H3 ⟨rfl,h1,h2,h3⟩;refine#[.inl #[rfl,_,jt.of hw],wt,_,_,_,rfl,rfl,hw,?_,by lia,by lia,?_]
 ·rw[yb];exact yP hl (by decide)
 ·have:=q lo h1 h2 h3;rw[yk,yk,List.map_take,List.map_drop] at this;rw[yY,Qz (by rw[yb];exact h1)];exact this
abbrev JY:=je×Int×Option je
def Zg (H:Hp):V->Option je->Prop
 | .non,none=>True
 | .ref q,some c=>H q=some (.tup<|t3 c)
 | _,_=>False
def ZZ (H:Hp) (v:V) (x:JY):Prop:=∃a pv,v=.ref a/\H a=some (.tup [.int x.2.1,pv])/\Zg H pv x.2.2
def Kv (H:Hp) (Ei:List (List Key×V)) (rl:List JY):Prop:=Paired (λ(kv:List Key×V) (x:JY)=>kv.1=k3 x.1/\ZZ H kv.2 x) Ei rl
theorem Zg.mono {H':Hp} (k:∀p xs,H p=some (.tup xs)->H' p=some (.tup xs)) {o:Option je} (h:Zg H v o):Zg H' v o:=by
 cases v<;>cases o<;>first|exact h|exact k _ _ h
theorem ZZ.mono {H':Hp} (k:∀p xs,H p=some (.tup xs)->H' p=some (.tup xs)) {x:JY} (h:ZZ H v x):ZZ H' v x:=by
 obtain⟨a,pv,h1,h2,h3⟩:=h;exact#[a,pv,h1,k _ _ h2,h3.mono k]
theorem Kv.mono {H':Hp} (k:∀p xs,H p=some (.tup xs)->H' p=some (.tup xs)) (h:Kv H Ei rl):Kv H' Ei rl:=Paired.mapP h λ_ _ r=>#[r.1,r.2.mono k]
theorem Kv.none (h:Kv H Ei rl) {c:je} (n:c ∉ rl.map (·.1)):jD Ei (k3 c)=Option.none:=by
 unfold Kv at h
 induction h with
 | nil=>rfl
 | @cons kv x l m r _ ih =>
  rw[yR,yz,not_or] at n;rw[Jg (λe=>n.1<|JG<|e.symm.trans r.1)];exact ih n.2
theorem Kv.find (h:Kv H Ei rl) (nd:(rl.map (·.1)).Nodup) {x:JY} (hx:x∈rl):∃v,jD Ei (k3 x.1)=some v/\ZZ H v x:=by
 unfold Kv at h
 induction h with
 | nil=>cases hx
 | @cons kv y l m r _ ih =>
  rw[yR,Qo] at nd;rcases yz.mp hx with rfl|hx
  ·exact#[_,Ju r.1,r.2]
  ·rw[Jg (λe=>nd.1<|JG (r.1.symm.trans e)▸yf.mpr #[x,hx,rfl])];exact ih nd.2 hx
theorem Kv.some (h:Kv H Ei rl) {c:je} (e:jD Ei (k3 c)=some v):∃x∈rl,x.1=c/\ZZ H v x:=by
 unfold Kv at h
 induction h with
 | nil=>cases e
 | @cons kv y l m r _ ih =>
  by_cases z:kv.1=k3 c
  ·rw[Ju z] at e;cases e;exact#[y,yE ..,JG<|r.1.symm.trans z,r.2]
  ·rw[Jg z] at e;obtain⟨x,h1,h2⟩:=ih e;exact#[x,yH _ h1,h2]
theorem Kv.has (h:Kv H Ei rl) (c:je):(jD Ei<|k3 c).isSome=true↔c∈rl.map (·.1):=by
 constructor
 ·intro e;obtain⟨v,e⟩:=Qk.mp e;obtain⟨x,h1,h2,_⟩:=h.some e;exact h2▸yf.mpr #[x,h1,rfl]
 ·intro e;cases z:jD Ei (k3 c) with
  | some v=>rfl
  | none =>
   exfalso;unfold Kv at h
   induction h with
   | nil=>cases e
   | @cons kv y l m r _ ih =>
    rw[yR] at e;by_cases q:kv.1=k3 c
    ·rw[Ju q] at z;cases z
    ·rw[Jg q] at z;rcases yz.mp e with e|e
     ·exact q (e▸r.1)
     ·exact ih e z
theorem Kv.len (h:Kv H Ei rl):Ei.length=rl.length:=Paired.length h
def pz (f:Uh) (st:List je) (rl:List JY):Prop:=∀(i:Nat) (x:JY),rl[i]?=some x->(x.2.2=none/\x.2.1=0/\x.1∈st)\/∃(j:Nat) (y:JY) (cost:Int),j<i/\rl[j]?=some y/\x.2.2=some y.1/\(x.1,cost)∈uA f y.1/\x.2.1=y.2.1+cost
def wR:Sp:=λvs H Q _=>E7 λ(p R:Addr) (Ei:List (List Key×V)) (f:Uh) (st:List je) (rl:List JY) (x:JY)=>A9 (vs=[.ref p,.ref R]) (H p=some (.tup<|t3 x.1)) (H R=some (.dT Ei)) (Kv H Ei rl) ((rl.map (·.1)).Nodup) (pz f st rl) (x∈rl) (rl.length<=1000) (∀D ys H',Same H H'->H' D=some (.lst ys)->Q (.ref D) H')
theorem lK (T:Txt K mg t):jS P w K mg base 1 "way_to" [E0,YK] wR:=by
 refine T.pk.ok [E0,YK,SL] ?_;rintro _ H Q E ⟨p,R,Ei,f,st,rl,x,rfl,hp,hR,kv,nd,tr,hx,hl,q⟩;refine#[rfl,λEm A outer s hr=>#[_,(ji (jv 2<|JL jf)<|ji (zf jO (uw<|g9<|pv 0)<|ji (jQ<|UA Yc Yj Yh Uq (pv 2)<|ja (pv 0) jf)<|jk<|jv 0<|ju jr (Ga (pv 1)<|pv 0) jg)<|ji (jQ<|lU Yc PySem.F.slot_list_reverse PySem.F.type_list_reverse eB<|pv 2)<|jk<|jC<|pv 2),?_]];refine uF (λ(D)=>[oR p,oR R,oR D]) (λD H'=>A3 _ _<|H' D=some _) (λB hB=>#[cU,λD hD=>hB D _ #[jm (Same.refl H) hD,hD,jd]]) ?_;rintro D H1 ⟨s1,hD,eD⟩;refine uF (λ(v)=>[some v,oR R,oR D]) (λv H'=>∃ys:List V,Same H H'/\H' D=some (.lst ys)) (λB hB=>?_) ?_
 ·refine#[λm σ H'=>∃(v:V) (ys:List V),σ=[some v,oR R,oR D]/\Same H H'/\H' D=some (.lst ys)/\ys.length+m<=1001/\((v=.non/\m=0)\/∃(pc:Addr) (y:JY),v=.ref pc/\H' pc=some (.tup<|t3 y.1)/\0<m/\rl[m - 1]?=some y),?_,?_]
  ·obtain⟨i,hi,ei⟩:=yO hx;exact#[i+1,_,_,rfl,s1,eD,(by show 0+(i+1)<=1001;lia),.inr #[p,x,rfl,s1 _ _ hp,Qf _,(by rw[Nat.add_sub_cancel,yc hi,ei])]]
  rintro m σ H' ⟨v,ys,rfl,s2,e2,len,hv⟩;rcases hv with ⟨rfl,rfl⟩|⟨pc,y,rfl,HV,m0,ey⟩
  ·exact (hB _ _ #[ys,s2,e2])
  ·refine#[_,λ_ _ h=>h,?_];have yin:=yp ey;refine#[.inl #[rfl,_,jt.of e2],D,_,_,rfl,rfl,e2,yP (show _<=1001 by lia) (by decide),?_];obtain⟨v,ev,a,pv,rfl,ea,LM⟩:=kv.find nd yin;have s3:Same H (upd H' D<|.lst<|ys++[.ref pc]):=λb u e=>by rw[jj<|jh e hD];exact s2 b u e
   have e3:upd H' D (.lst<|ys++[.ref pc]) D=some (.lst<|ys++[.ref pc]):=jd;have Sd:upd H' D (.lst<|ys++[.ref pc]) pc=some (.tup<|t3 y.1):=by rw[jj<|jA HV e2];exact HV
   generalize upd H' D (.lst<|ys++[.ref pc])=H3 at s3 e3 Sd;have l3:(ys++[V.ref pc]).length=ys.length+1:=by rw[ye];rfl
   refine#[R,.ref a,rfl,ev▸ug.t (s3 _ _ hR) Sd,_,pv,jx.of<|s3 _ _ ea,rfl,?_];rcases tr _ y ey with ⟨t1,_⟩|⟨j,z,cost,hj,ez,t1,_⟩
   ·rw[t1] at LM;exact#[0,m0,pv,_,rfl,s3,e3,by lia,.inl #[by cases pv<;>first|rfl|exact LM.elim,rfl]]
   ·rw[t1] at LM;obtain⟨q,rfl,hq⟩:∃q,pv=.ref q/\H q=some (.tup<|t3 z.1):=by cases pv<;>first|exact LM.elim|exact#[_,rfl,LM]
    exact#[j+1,by omega,_,_,rfl,s3,e3,by omega,.inr #[q,z,rfl,s3 _ _ hq,Qf _,by exact ez]]
 rintro v H2 ⟨ys,s2,e2⟩;refine#[.inl #[rfl,_,jt.of e2],D,_,rfl,rfl,e2,?_];exact q D _ _ (λb u e=>jB (jh e hD)<|s2 b u e) jd
abbrev Vj:=Int×je×Option je
theorem GL {m:Int}{s:je×Int} (h:s∈JH f cl m):s.1∈cl/\∃n,f.pr s.1=some n/\s.2=n+m:=by
 obtain⟨c,hc,e⟩:=Qu.mp h;obtain⟨n,hn,rfl⟩:=yI.mp e;exact#[hc,n,hn,rfl]
theorem az (ok:f.Ok) {c:je} {s:je×Int} (h:s∈uA f c):(∃n,f.pr s.1=some n)/\0<s.2:=by
 rcases yj.mp h with h|h
 ·obtain⟨_,n,hn,e⟩:=GL h;exact#[#[n,hn],by have:=ok.pos _ _ hn;lia]
 ·cases hc:f.ch c.1 c.2.1 with
  | none=>rw[hc] at h;cases h
  | some m =>
   rw[hc] at h;obtain⟨_,n,hn,e⟩:=GL h;exact#[#[n,hn],by have:=ok.pos _ _ hn;have:=ok.cp _ _ _ hc;lia]
theorem rq (ok:f.Ok) (c:je):(uA f c).length<=7:=by
 unfold uA;rw[ye];have h1:(JH f ((UN c).filter<|Uk f.W f.Hh) 0).length<=4:=ym (Vg _ _ _)<|y8 _ _;have h3:=ok.l.2;split
 ·show _+0<=7;lia
 ·rename_i m hm;have h2:=Vg f (uc c f.L) m;have h4:=mW c f.L
  lia
structure Dj (f:Uh) (st:List je) (wl:List Vj) (rl:List JY) (ex:je->je×Int->Prop):Prop where
 srt:wl.Pairwise λa b=>b.1<=a.1
 nd:(rl.map (·.1)).Nodup
 on:∀x∈rl,∃n,f.pr x.1=some n
 nn:∀x∈rl,0<=x.2.1
 mono:∀x∈rl,∀e∈wl,x.2.1<=e.1
 wt:∀e∈wl,(∃n,f.pr e.2.1=some n)/\0<=e.1/\((e.2.2=none/\e.1=0/\e.2.1∈st)\/∃y∈rl,∃cost,e.2.2=some y.1/\(e.2.1,cost)∈uA f y.1/\e.1=y.2.1+cost)
 tree:pz f st rl
 rel:∀x∈rl,∀s∈uA f x.1,(∃y∈rl,y.1=s.1/\y.2.1<=x.2.1+s.2)\/(x.2.1+s.2,s.1,some x.1)∈wl\/ex x.1 s
 sta:∀c∈st,(∃n,f.pr c=some n)->(∃x∈rl,x.1=c/\x.2.1=0)\/(0,c,none)∈wl
abbrev NO:je->je×Int->Prop:=λ_ _=>False
def Ug (f:Uh) (st:List je):List Vj:=(st.filter λc=>(f.pr c).isSome).map λc=>(0,c,none)
theorem mV {e:Vj}:e∈Ug f st↔∃c∈st,(∃n,f.pr c=some n)/\e=(0,c,none):=by
 unfold Ug;rw[yf];constructor
 ·rintro⟨c,h,rfl⟩;obtain⟨h1,h2⟩:=yZ.mp h;exact#[c,h1,Qk.mp h2,rfl]
 ·rintro⟨c,h1,h2,rfl⟩;exact#[c,yZ.mpr #[h1,Qk.mpr h2],rfl]
theorem Dj.start (f:Uh) (st:List je):Dj f st (Ug f st) [] NO where
 srt:=by
  unfold Ug;rw[yT];exact List.pairwise_of_forall λ_ _=>aaC _
 nd:=YX
 on:=λx h=>nomatch h
 nn:=λx h=>nomatch h
 mono:=λx h=>nomatch h
 wt:=λe h=>by
  obtain⟨c,h1,h2,rfl⟩:=mV.mp h;exact#[h2,aaC _,.inl #[rfl,rfl,h1]]
 tree:=λi x h=>nomatch h
 rel:=λx h=>nomatch h
 sta:=λc h1 h2=>.inr (mV.mpr #[c,h1,h2,rfl])
section
variable {f:Uh}{st:List je}{wl:List Vj}{rl:List JY}{e:Vj}
theorem cC (s:(wl++[e]).Pairwise λa b=>b.1<=a.1):(wl.Pairwise λa b=>b.1<=a.1)/\∀a∈wl,e.1<=a.1:=by
 rw[yC] at s;exact#[s.1,λa ha=>s.2.2 a ha e<|yi.mpr rfl]
theorem Dj.skip (d:Dj f st (wl++[e]) rl NO) (h:e.2.1∈rl.map (·.1)):Dj f st wl rl NO:=by
 obtain⟨s1,s2⟩:=cC d.srt;have old:∀a∈wl,a∈wl++[e]:=λa ha=>yu _ ha;have le:e∈wl++[e]:=yr _<|yi.mpr rfl;obtain⟨z,hz,ez⟩:=yf.mp h;refine#[s1,d.nd,d.on,d.nn,λx hx a ha=>d.mono x hx a<|old a ha,λa ha=>d.wt a<|old a ha,d.tree,λx hx s hs=>?_,λc hc ho=>?_]
 ·rcases d.rel x hx s hs with z1|z1|z1
  ·exact .inl z1
  ·rcases yj.mp z1 with z1|z1
   ·exact .inr (.inl z1)
   ·have e1:=yi.mp z1;have:=d.mono z hz e le;rw[<-e1] at ez this;exact .inl #[z,hz,ez,this]
  ·exact z1.elim
 ·rcases d.sta c hc ho with z1|z1
  ·exact .inl z1
  ·rcases yj.mp z1 with z1|z1
   ·exact .inr z1
   ·have e1:=yi.mp z1;have h1:=d.mono z hz e le;have h2:=d.nn z hz;rw[<-e1] at ez h1;have h1:z.2.1<=0:=h1;exact .inl #[z,hz,ez,by lia]
theorem Dj.take (d:Dj f st (wl++[e]) rl NO) (h:e.2.1 ∉ rl.map (·.1)):Dj f st wl (rl++[(e.2.1,e.1,e.2.2)]) (λa s=>a=e.2.1/\s∈uA f e.2.1):=by
 obtain⟨s1,s2⟩:=cC d.srt;have old:∀a∈wl,a∈wl++[e]:=λa ha=>yu _ ha;have le:e∈wl++[e]:=yr _<|yi.mpr rfl;have new:(e.2.1,e.1,e.2.2)∈rl++[(e.2.1,e.1,e.2.2)]:=yr _<|yi.mpr rfl;have OH:∀x∈rl,x∈rl++[(e.2.1,e.1,e.2.2)]:=λa ha=>yu _ ha;obtain⟨w1,w2,w3⟩:=d.wt e le;have cs:∀{x:JY},x∈rl++[(e.2.1,e.1,e.2.2)]->x∈rl\/x=(e.2.1,e.1,e.2.2):=λhx=>by
  rcases yj.mp hx with z|z
  ·exact .inl z
  ·exact .inr (yi.mp z)
 refine#[s1,?_,λx hx=>?_,λx hx=>?_,λx hx a ha=>?_,λa ha=>?_,λi x hx=>?_,λx hx s hs=>?_,λc hc ho=>?_]
 ·rw[yk,Qw];refine#[d.nd,Qo.mpr #[by simp,YX],λa ha b hb=>?_];rw[yi.mp hb];exact λz=>h ((show a=e.2.1 from z)▸ha)
 ·rcases cs hx with z|rfl
  ·exact d.on x z
  ·exact w1
 ·rcases cs hx with z|rfl
  ·exact d.nn x z
  ·exact w2
 ·rcases cs hx with z|rfl
  ·exact d.mono x z a (old a ha)
  ·exact s2 a ha
 ·obtain⟨a1,a2,a3⟩:=d.wt a<|old a ha;refine#[a1,a2,?_];rcases a3 with z|⟨y,hy,z⟩
  ·exact .inl z
  ·exact .inr #[y,OH y hy,z]
 ·by_cases hi:i<rl.length
  ·rw[yn hi] at hx;rcases d.tree i x hx with z|⟨j,y,cost,hj,hy,z⟩
   ·exact .inl z
   ·exact .inr #[j,y,cost,hj,by rw[yn (by lia)];exact hy,z]
  ·rw[yl (by lia)] at hx;have i0:i - rl.length=0:=by
    cases z:i - rl.length with
    | zero=>rfl
    | succ m=>rw[z] at hx;cases hx
   rw[i0] at hx;cases hx;rcases w3 with ⟨z1,z2,z3⟩|⟨y,hy,cost,z1,z2,z3⟩
   ·exact .inl #[z1,z2,z3]
   ·obtain⟨j,hj,ej⟩:=yO hy;exact .inr #[j,y,cost,by lia,by rw[yn hj,yc hj,ej],z1,z2,z3]
 ·rcases cs hx with z|rfl
  ·rcases d.rel x z s hs with ⟨y,hy,z1⟩|z1|z1
   ·exact .inl #[y,OH y hy,z1]
   ·rcases yj.mp z1 with z1|z1
    ·exact .inr (.inl z1)
    ·have e1:=yi.mp z1;refine .inl #[_,new,?_,?_]
     ·rw[<-e1]
     ·rw[<-e1];exact aaC _
   ·exact z1.elim
  ·exact .inr (.inr #[rfl,hs])
 ·rcases d.sta c hc ho with ⟨x,hx,z1⟩|z1
  ·exact .inl #[x,OH x hx,z1]
  ·rcases yj.mp z1 with z1|z1
   ·exact .inr z1
   ·have e1:=yi.mp z1;exact .inl #[_,new,by rw[<-e1],by rw[<-e1]]
variable {c:je}{n:Int}{p:Option je}{i:Nat}{s:je×Int}
theorem Dj.stepOld (ok:f.Ok) (d:Dj f st wl rl (λa s=>a=c/\s∈(uA f c).drop i)) (hm:∀x∈rl,x.2.1<=n) (hc:∀x∈rl,x.1=c->x.2.1=n) (hs:(uA f c)[i]?=some s) (h:s.1∈rl.map (·.1)):Dj f st wl rl (λa s=>a=c/\s∈(uA f c).drop (i+1)):=by
 refine#[d.srt,d.nd,d.on,d.nn,d.mono,d.wt,d.tree,λx hx s' Se=>?_,d.sta];rcases d.rel x hx s' Se with z|z|⟨z1,z2⟩
 ·exact .inl z
 ·exact .inr (.inl z)
 ·have i1:=(yd.mp hs).1;rw[yN i1,(yd.mp hs).2] at z2;rcases yz.mp z2 with rfl|z2
  ·obtain⟨y,hy,ey⟩:=yf.mp h;have h1:=hm y hy;have h2:=hc x hx z1;have h3:=(az ok<|yp hs).2;exact .inl #[y,hy,ey,by lia]
  ·exact .inr (.inr #[z1,z2])
theorem Dj.stepNew (ok:f.Ok) (d:Dj f st wl rl (λa s=>a=c/\s∈(uA f c).drop i)) (hm:∀x∈rl,x.2.1<=n) (Sf:(c,n,p)∈rl) (hs:(uA f c)[i]?=some s) {k:Nat} (hk:k<=wl.length)
  (h1:∀(j:Nat) m,j<k->(wl.map (·.1))[j]?=some m->n+s.2<m) (h2:∀(j:Nat) m,k<=j->(wl.map (·.1))[j]?=some m->m<=n+s.2) :
  Dj f st (wl.take k++[(n+s.2,s.1,some c)]++wl.drop k) rl (λa s=>a=c/\s∈(uA f c).drop (i+1)):=by
 obtain⟨o1,o2⟩:=az ok<|yp hs;have n0:=d.nn _ Sf;have n0:0<=n:=n0;have mem:∀a,a∈wl.take k++[(n+s.2,s.1,some c)]++wl.drop k↔a∈wl\/a=(n+s.2,s.1,some c):=λa=>by
  conv=>rhs;rw[<-yX k wl]
  simp only[yj,yi];constructor
  ·rintro ((z|z)|z)
   ·exact .inl (.inl z)
   ·exact .inr z
   ·exact .inl (.inr z)
  ·rintro ((z|z)|z)
   ·exact .inl (.inl z)
   ·exact .inr z
   ·exact .inl (.inr z)
 have tk:∀a∈wl.take k,n+s.2<a.1:=λa ha=>by
  obtain⟨j,hj,rfl⟩:=yO ha;rw[yM] at hj;rw[YY];exact h1 j _ (by lia) (by rw[yo,yc _];rfl)
 have dp:∀a∈wl.drop k,a.1<=n+s.2:=λa ha=>by
  obtain⟨j,hj,rfl⟩:=yO ha;rw[Ql] at hj;rw[YZ];exact h2 (k+j) _ (by lia) (by rw[yo,yc _];rfl)
 have sp:=d.srt;rw[<-yX k wl,yC] at sp;refine#[?_,d.nd,d.on,d.nn,λx hx a ha=>?_,λa ha=>?_,d.tree,λx hx s' Se=>?_,λb hb ho=>?_]
 ·rw[yQ,yC];refine#[sp.1,QO.mpr #[λa ha=>dp a ha,sp.2.1],λa ha b hb=>?_];rcases yz.mp hb with rfl|hb
  ·exact Int.le_of_lt (tk a ha)
  ·exact sp.2.2 a ha b hb
 ·rcases (mem a).mp ha with z|rfl
  ·exact d.mono x hx a z
  ·have:=hm x hx;show x.2.1<=n+s.2
   lia
 ·rcases (mem a).mp ha with z|rfl
  ·exact d.wt a z
  ·exact#[o1,by lia,.inr #[_,Sf,_,rfl,yp hs,rfl]]
 ·rcases d.rel x hx s' Se with z|z|⟨z1,z2⟩
  ·exact .inl z
  ·exact .inr (.inl<|(mem _).mpr<|.inl z)
  ·have i1:=(yd.mp hs).1;rw[yN i1,(yd.mp hs).2] at z2;rcases yz.mp z2 with rfl|z2
   ·have ex:x=(c,n,p):=by
     have h3:=d.nd;obtain⟨a,ha,ea⟩:=yO hx;obtain⟨b,hb,eb⟩:=yO Sf;have:a=b:=(abE (by rw[yb];exact ha) h3).mp (by rw[yo,yo,yc ha,yc hb,ea,eb];show some x.1=some c;rw[z1]);subst this;rw[<-ea,eb]
    rw[ex];exact .inr (.inl<|(mem _).mpr<|.inr rfl)
   ·exact .inr (.inr #[z1,z2])
 ·rcases d.sta b hb ho with z|z
  ·exact .inl z
  ·exact .inr ((mem _).mpr<|.inl z)
theorem Dj.weak {ex ex':je->je×Int->Prop} (d:Dj f st wl rl ex) (h:∀a s,ex a s->ex' a s):Dj f st wl rl ex':=#[d.srt,d.nd,d.on,d.nn,d.mono,d.wt,d.tree,λx hx s hs=>by
 rcases d.rel x hx s hs with z|z|z
 ·exact .inl z
 ·exact .inr (.inl z)
 ·exact .inr<|.inr<|h _ _ z,d.sta]
structure uB (f:Uh) (st:List je) (rl:List JY):Prop where
 nd:(rl.map (·.1)).Nodup
 on:∀x∈rl,∃n,f.pr x.1=some n
 nn:∀x∈rl,0<=x.2.1
 tree:pz f st rl
 rel:∀x∈rl,∀s∈uA f x.1,∃y∈rl,y.1=s.1/\y.2.1<=x.2.1+s.2
 sta:∀c∈st,(∃n,f.pr c=some n)->∃x∈rl,x.1=c/\x.2.1=0
theorem Dj.fin (d:Dj f st [] rl NO):uB f st rl:=#[d.nd,d.on,d.nn,d.tree,λx hx s hs=>by
 rcases d.rel x hx s hs with z|z|z
 ·exact z
 ·cases z
 ·exact z.elim,λc hc ho=>by
 rcases d.sta c hc ho with z|z
 ·exact z
 ·cases z]
end
theorem GI:∀(n:Nat) (l:List Nat),l.Nodup->(∀x∈l,x<n)->l.length<=n
 | 0,l,_,h=>by
  cases l with
  | nil=>exact yh _
  | cons a r=>exact absurd (h a<|yE ..) (Qt _)
 | n+1,l,nd,h=>by
  have h1:=GI n (l.filter λx=>decide (x≠n)) (List.filter_sublist.nodup nd) (λx hx=>by
   obtain⟨a,b⟩:=yZ.mp hx;have:=h x a;have:x≠n:=by simpa using b
   lia)
  have h2:l.length<=(l.filter λx=>decide (x≠n)).length+1:=by
   clear h h1
   induction l with
   | nil=>simp
   | cons a r ih =>
    rw[Qo] at nd;by_cases e:a=n
    ·have:(r.filter λx=>decide (x≠n))=r:=List.filter_eq_self.mpr λx hx=>by
      have:x≠n:=λz=>nd.1 (by rw[e,<-z];exact hx);simpa using this
     rw[abj (by simpa using e),this,Qa]
     lia
    ·rw[abi (by simpa using e),Qa,Qa];have:=ih nd.2;omega
  lia
def rQ (c:je):Nat:=c.1.toNat*36+c.2.1.toNat*3+c.2.2.toNat
theorem pJ (ok:f.Ok) {c:je} (h:f.on c):∃a b d:Nat,c=(↑a,↑b,↑d)/\a<12/\b<12/\d<3:=by
 obtain⟨x,y,z⟩:=c;obtain⟨a1,a2,a3,a4,a5,a6⟩:=h;obtain⟨a,rfl⟩:=aat a1;obtain⟨b,rfl⟩:=aat a3;obtain⟨d,rfl⟩:=aat a5;exact#[a,b,d,rfl,Int.ofNat_lt.mp (aaI a2 (by have:=ok.w.2;omega)),Int.ofNat_lt.mp (aaI a4 (by have:=ok.h.2;omega)),Int.ofNat_lt.mp (aaI a6 (by have:=ok.l.2;omega))]
theorem fZ (ok:f.Ok) (nd:cl.Nodup) (on:∀c∈cl,f.on c):cl.length<=432:=by
 have N:=λc hc=>pJ ok<|on c hc;have inj:∀c∈cl,∀d∈cl,rQ c=rQ d->c=d:=λc hc d hd e=>by
  obtain⟨a,b,k,rfl,_,h2,h3⟩:=N c hc;obtain⟨a',b',k',rfl,_,g2,g3⟩:=N d hd;have e:a*36+b*3+k=a'*36+b'*3+k':=e;obtain rfl:k=k':=by lia
  obtain rfl:b=b':=by lia
  obtain rfl:a=a':=by lia
  rfl
 have:=GI 432 _ (by
  rw[aa7,yT];refine List.Pairwise.imp_of_mem (λ{a b} ha hb Ey e=>Ey<|inj a ha b hb e) nd) (λx hx=>by
  obtain⟨c,hc,rfl⟩:=yf.mp hx;obtain⟨a,b,k,rfl,h1,h2,h3⟩:=N c hc;show a*36+b*3+k<432
  lia)
 rwa [yb] at this
def JJ (H:Hp) (es:DZ) (l:List Vj):Prop:=es.length=l.length/\∀(i:Nat) (e:Addr) (x:Vj),es[i]?=some e->l[i]?=some x->∃pc pv,H e=some (.tup [.int x.1,.ref pc,pv])/\H pc=some (.tup<|t3 x.2.1)/\Zg H pv x.2.2
theorem JJ.mono {H':Hp}{l:List Vj} (C:JJ H es l) (k:∀p xs,H p=some (.tup xs)->H' p=some (.tup xs)):JJ H' es l:=#[C.1,λi e x h1 h2=>let ⟨pc,pv,a,b,c⟩:=C.2 i e x h1 h2;#[pc,pv,k _ _ a,k _ _ b,c.mono k]]
theorem JJ.nil:JJ H [] []:=#[rfl,λi p c h=>by cases h]
theorem JJ.app {qs:DZ}{cl dl:List Vj} (C:JJ H ps cl) (D:JJ H qs dl):JJ H (ps++qs) (cl++dl):=#[by rw[ye,ye,C.1,D.1],λi q d h1 h2=>by
 by_cases h:i<ps.length
 ·rw[yn h] at h1;rw[yn<|C.1▸h] at h2;exact C.2 i q d h1 h2
 ·rw[yl (by lia)] at h1;rw[yl (by rw[<-C.1];lia),<-C.1] at h2;exact D.2 _ q d h1 h2]
theorem JJ.one {e pc:Addr}{pv:V}{x:Vj} (h1:H e=some (.tup [.int x.1,.ref pc,pv])) (h2:H pc=some (.tup<|t3 x.2.1)) (h3:Zg H pv x.2.2):JJ H [e] [x]:=#[rfl,λi q d g1 g2=>by
 cases i with
 | zero=>cases g1;cases g2;exact#[pc,pv,h1,h2,h3]
 | succ m=>cases g1]
theorem JJ.take {l:List Vj} (C:JJ H es l) (k:Nat):JJ H (es.take k) (l.take k):=#[by rw[yM,yM,C.1],λi e x h1 h2=>by
 rw[aaE] at h1 h2
 split at h1
 ·rename_i h;rw[if_pos h] at h2;exact C.2 i e x h1 h2
 ·cases h1]
theorem JJ.drop {l:List Vj} (C:JJ H es l) (k:Nat):JJ H (es.drop k) (l.drop k):=#[by rw[Ql,Ql,C.1],λi e x h1 h2=>by
 rw[aaF] at h1 h2;exact C.2 _ e x h1 h2]
theorem JJ.nums {l:List Vj} (C:JJ H es l):xi H es (l.map (·.1)):=#[by rw[yb];exact C.1,λi e n h1 h2=>by
 obtain⟨x,hx,rfl⟩:=jX h2;obtain⟨pc,pv,a,_⟩:=C.2 i e x h1 hx;exact#[_,a]]
theorem JJ.last {l:List Vj}{e:Addr}{x:Vj} (C:JJ H (es++[e]) (l++[x])):JJ H es l/\∃pc pv,H e=some (.tup [.int x.1,.ref pc,pv])/\H pc=some (.tup<|t3 x.2.1)/\Zg H pv x.2.2:=by
 have hl:=by have:=C.1;rw[ye,ye] at this;exact Yx this
 have h1:=C.take es.length;rw[abQ,hl,abQ] at h1;exact#[h1,C.2 es.length e x (by rw[yl<|yh _,Y1];rfl) (by rw[hl,yl<|yh _,Y1];rfl)]
theorem Kv.snoc (h:Kv H Ei rl) {x:JY} (r:ZZ H v x):Kv H (Ei++[(k3 x.1,v)]) (rl++[x]):=Zs h (.cons #[rfl,r] .nil)
theorem cY {α:Type} (l:List α):l=[]\/∃r a,l=r++[a]:=by
 rcases List.eq_nil_or_concat l with h|⟨r,a,h⟩
 ·exact .inl h
 ·exact .inr #[r,a,by rw[h,List.concat_eq_append]]
theorem mU (f:Uh) (a b:List je):Ug f (a++b)=Ug f a++Ug f b:=by unfold Ug;rw[QH,yk]
theorem lR (f:Uh) (a:List je):(Ug f a).length<=a.length:=by unfold Ug;rw[yb];exact y8 _ _
theorem uB.few {wl:List Vj}{ex:je->je×Int->Prop} (ok:f.Ok) (d:Dj f st wl rl ex):rl.length<=432:=by
 have:=fZ ok d.nd (λc hc=>by
  obtain⟨x,hx,rfl⟩:=yf.mp hc;obtain⟨n,hn⟩:=d.on x hx;exact ok.on _ _ hn)
 rwa [yb] at this
def BO (P:Ee) (w:World) (K:DS) (mg:DV) (base:Heap):Sp:=λvs H Q _=>E8 λ(H0:Hp) (fp ft:Addr) (f:Uh) (sz ls:Addr) (ps:DZ) (st:List je)=>A9 (vs=[.ref sz,.ref fp,.ref ft,.ref ls]) (rK P w K mg base H0 fp ft f) (Same H0 H) (H sz=some (.tup [.int f.W,.int f.Hh,.int f.L])) (H ls=some (.lst<|ps.map V.ref)) (jy H ps st) (∀c∈st,f.on c) (st.length<=5) (∀R Ei rl H',Same H H'->H R=none->H' R=some (.dT Ei)->Kv H' Ei rl->uB f st rl->rl.length<=432->Q (.ref R) H')
theorem md (T:Txt K mg t):jS P w K mg base 5 "spread_wave" [SZ,TD,YB,YH] (BO P w K mg base):=by
 refine T.Mt.ok [SZ,TD,YB,YH,"waiting",YK,"entry",E0,YF,"cost"] ?_;rintro _ H Q E ⟨H0,fp,ft,f,sz,ls,ps,st,rfl,Wd,off,hsz,HM,C,Fw,Fp,q⟩;refine#[rfl,λEm A outer s hr=>#[_,(ji (me 4 (own:=["start"]) (UT (cl:=[(TD,_)])) (jV<|pv 3) (λ_ _ _ _ _=>jw 10) (λ_ _ _ _ _=>UG<|uw<|g9<|G7 (k:=2) (P:=P) (w:=w) (K:=K) (mg:=mg) (base:=base) rfl rfl rfl rfl rfl (pv 1) hr.m<|ja (pv 10) jf) (λ_ _ _ _ _=>(jN<|ja jg<|ja (pv 10)<|ja zb jf))) (ji (jv 5 Uc) (ji (zf jO (G8 (pv 4) (λ_=>rfl))<|ji (jv 6<|lU Yc PySem.F.slot_list_pop PySem.F.type_list_pop Ao<|pv 4)<|ji (jv 7<|ju jr (pv 6) jg)<|ji (j9 (uw<|gD (pv 7)<|pv 5) (jk bC) jW)<|ji (uJ (pv 5) (pv 7)<|jN<|ja (ju jr (pv 6) jg)<|ja (ju jr (pv 6) jg) jf)<|jk<|j7 jO (jV<|jn (ql T)<|ja (pv 0)<|ja (pv 1)<|ja (pv 2)<|ja (pv 7) jf) (zd<|Jn (jw 8)<|Jn (jw 9) Vb)<|jk<|j9 (uw<|vx (pv 8)<|pv 5) (jk<|jQ<|jn (lJ T)<|ja (pv 4)<|ja (jN<|ja (jp Jc (ju jr (pv 6) jg)<|pv 9)<|ja (pv 8)<|ja (pv 7) jf) jf) jW)<|jk<|jC<|pv 5))),?_]];have lz:(ps.map V.ref).length<=sizeLine:=by rw[yb,C.1];exact ym Fp (by decide)
 refine uF (λ(W)=>[oR sz,oR fp,oR ft,oR ls,oR W,none,none,none,none,none]) (λW H'=>A3 (Same H H') (H W=none) (∃es,H' W=some (.lst<|es.map V.ref)/\JJ H' es (Ug f st))) (λB hB=>?_) ?_
 ·refine#[ls,rfl,#[_,jt.of HM],uj (λD i ys H'=>A7 (Same H H') _ (H' D=some (.lst ys)) (H' ls=some _) (i<=st.length) (ys.length<=i) (∃es:List Addr,ys=es.map V.ref/\JJ H' es (Ug f<|st.take i))) lz (λD hD=>#[jm (Same.refl H) hD,hD,jd,jm (Same.refl H) hD _ _ HM,yL _,yL _,_,rfl,JJ.nil]) (λD i ys H' hv=>#[hv.3,hv.6,jt.of hv.4]) ?_ ?_]
  ·rintro D i x ys H' Qy Qn hx ⟨o1,d1,e1,l1,i1,y1,es,rfl,R⟩ hy HX;obtain⟨p,hp,rfl⟩:=jX hx;obtain⟨c,hc,ep⟩:=C.at_ hp;have ic:=(yd.mp hc).1;have Sa:=o1 _ _ ep;have U1:=Wd.up.same<|off.trans o1;have tk:=JO hc;refine#[#[_,rfl,rfl],fp,rfl,U1,U1,_,Wd.cp,p,c,rfl,off.trans o1,Sa,Fw c<|yp hc,λH2 o2=>?_];have Ht:=o2 _ _ e1;have PD:=o2 _ _ l1;cases OG:f.pr c with
   | none =>
    refine uT (HX _ #[o1.trans o2,d1,Ht,PD,ic,by lia,es,rfl,?_]);rw[tk,mU,show Ug f [c]=[] by simp [Ug,OG],yK];exact R.mono (λ_ _ e=>o2 _ _ e)
   | some v =>
    refine JE #[Za,λr hr=>?_];have Sb:=yG<|jh Ht hr;have kt:∀q xs,H' q=some (.tup xs)->upd (upd H2 r<|.tup [.int 0,.ref p,.non]) D (.lst<|es.map V.ref++[.ref r]) q=some _:=λq xs e=>by
     have e2:=o2 q _ e;rw[jj<|jA e2 Ht,jj<|jh e2 hr];exact e2
    refine hy _ _ (jB (jh Ht hr) Ht) #[Same.put (o1.trans o2) hr d1,d1,jd,by rw[jj<|jh HM d1,jj<|jh PD hr];exact PD,ic,by rw[ye];exact Qb y1,es++[r],by rw[yk];rfl,?_];rw[tk,mU,show Ug f [c]=[(0,c,none)] by simp [Ug,OG]];exact (R.mono kt).app (JJ.one (pv:=.non) (jB Sb jd) (kt p _ Sa) trivial)
  ·rintro D ys H' hD ⟨o1,d1,e1,l1,i1,y1,es,rfl,R⟩;rw[yb,C.1] at R;rw[UC rfl] at R;exact hB D H' #[o1,d1,es,e1,R]
 rintro W H1 ⟨o1,hW,es0,eW,Ee0⟩;refine uF (λ(R)=>[oR sz,oR fp,oR ft,oR ls,oR W,oR R,none,none,none,none]) (λR H'=>A3 _ _<|H' R=some _) (λB hB=>λR hR=>hB R _ #[jm (Same.refl H1) hR,hR,jd]) ?_;rintro R H2 ⟨s2,w₁,eR⟩;have hR:=o1.nn w₁;have Xg:=jh eW w₁;refine GN (λ(v6 v7 v8 v9)=>[oR sz,oR fp,oR ft,oR ls,oR W,oR R,v6,v7,v8,v9]) (λ_ _ _ _ H'=>E2 λEi rl=>A5 (Same H H') (H' R=some (.dT Ei)) (Kv H' Ei rl) (uB f st rl)<|rl.length<=432) (λB hB=>?_) ?_
 ·refine#[λm σ H'=>∃(es:DZ) (wl:List Vj) (Ei:List _) (rl:List JY) (v6 v7 v8 v9:Option V),m=wl.length+8*(500 - rl.length)/\σ=[oR sz,oR fp,oR ft,oR ls,oR W,oR R,v6,v7,v8,v9]/\Same H H'/\H' W=some (.lst<|es.map V.ref)/\JJ H' es wl/\H' R=some (.dT Ei)/\Kv H' Ei rl/\Dj f st wl rl NO/\wl.length<=5+7*rl.length,#[_,es0,_,_,_,none,none,none,none,rfl,rfl,o1.trans s2,s2 _ _ eW,Ee0.mono λ_ _ e=>s2 _ _ e,eR,.nil,Dj.start f st,ym (lR f st) (by omega)],?_];rintro m σ H' ⟨es,wl,Ei,rl,v6,v7,v8,v9,rfl,rfl,o3,Sg,Xh,PH,PJ,dj,hw⟩;have few:=uB.few Wd.ok dj;rcases cY es with rfl|⟨FD,e,rfl⟩
  ·have:=List.length_eq_zero_iff.mp Xh.1.symm;subst this;exact#[false,.inl #[_,jt.of Sg,rfl],uT<|hB _ _ _ _ _ #[Ei,rl,o3,PH,PJ,dj.fin,few]]
  rcases cY wl with rfl|⟨PL,x,rfl⟩
  ·have:=Xh.1;rw[ye] at this;cases this
  refine#[true,.inl #[_,jt.of Sg,by simp],JE #[_,λ_ _ h=>h,?_]];obtain⟨Hi,pc,pv,ee,HV,LM⟩:=Xh.last;have lw:(PL++[x]).length=PL.length+1:=by rw[ye];rfl
  refine ZL [oR sz,oR fp,oR ft,oR ls,oR W,oR R,oR e,v7,v8,v9] (λH4=>H4=upd H' W (.lst<|FD.map V.ref)) (λB EB=>?_) ?_
  ·refine#[.inl #[rfl,_,jt.of Sg],W,_,.ref e,rfl,rfl,Sg,by simp,?_];have:=EB _ rfl;rw[show ((FD++[e]).map V.ref).dropLast=FD.map V.ref by simp];exact this
  rintro H4 rfl;have Sh:∀q xs,H' q=some (.tup xs)->upd H' W (.lst<|FD.map V.ref) q=some _:=λq xs e=>by rw[jj<|jA e Sg];exact e
  have o4:Same H (upd H' W<|.lst<|FD.map V.ref):=λb u e=>by rw[jj<|jh e hW];exact o3 b u e
  have Xi:upd H' W (.lst<|FD.map V.ref) W=some (.lst<|FD.map V.ref):=jd;have Si:upd H' W (.lst<|FD.map V.ref) R=some (.dT Ei):=by rw[jj<|yG Xg];exact PH
  have OI:=PJ.mono Sh;have Sj:=Sh _ _ ee;have Lm:=Sh _ _ HV;have Sk:=LM.mono Sh;have Hi:=Hi.mono Sh;generalize upd H' W (.lst<|FD.map V.ref)=H4 at o4 Xi Si OI Sj Lm Sk Hi;refine ZL [oR sz,oR fp,oR ft,oR ls,oR W,oR R,oR e,oR pc,v8,v9] (λH5=>H5=H4) (λB EB=>#[_,_,jx.of Sj,rfl,EB _ rfl]) ?_;rintro H5 rfl;refine ZL [oR sz,oR fp,oR ft,oR ls,oR W,oR R,oR e,oR pc,v8,v9] (λH6=>H6=H5/\x.2.1 ∉ rl.map (·.1)) (λB EB=>?_) ?_
  ·refine#[R,_,rfl,ug.t (k:=k3 _) Si Lm,V2 (λg=>?_) λg=>EB _ #[rfl,λz=>by rw[(OI.has _).mpr z] at g;cases g]];have EK:=(OI.has _).mp g;exact#[_,by lia,FD,PL,Ei,rl,_,_,_,_,rfl,rfl,o4,Xi,Hi,Si,OI,dj.skip EK,by lia]
  rintro H6 ⟨rfl,OJ⟩;have w₂:=dj.take OJ;have lr:(rl++[(x.2.1,x.1,x.2.2)]).length=rl.length+1:=by rw[ye];rfl
  have Xj:=uB.few Wd.ok w₂;rw[lr] at Xj;refine ZL [oR sz,oR fp,oR ft,oR ls,oR W,oR R,oR e,oR pc,v8,v9] (λH7=>∃ID,A7 (Same H H7) (H7 W=some (.lst<|FD.map V.ref)) (JJ H7 FD PL) (H7 R=some (.dT ID)) (Kv H7 ID<|rl++[(x.2.1,x.1,x.2.2)]) (H7 e=some (.tup [.int x.1,.ref pc,pv]))<|H7 pc=some (.tup<|t3 x.2.1)) (λB EB=>?_) ?_
  ·refine#[_,_,jx.of Sj,rfl,_,pv,jx.of Sj,rfl,Vy,λv hv=>?_];refine VL hv λH7 sv ev=>?_;refine#[R,_,rfl,UL.t (k:=k3 _) (sv _ _ Si) (sv _ _ Lm) (by rw[OI.len];exact yP (by omega) (by decide)),?_];have kt:∀q xs,H7 q=some (.tup xs)->upd H7 R (.dT<|jZ Ei (k3 x.2.1)<|.ref v) q=some _:=λq xs e=>by rw[jj<|jA e<|sv _ _ Si];exact e
   have HW:=λq xs e=>kt q xs<|sv _ _ e;refine EB _ #[_,λb u e=>?_,?_,Hi.mono HW,jd,?_,HW _ _ Sj,HW _ _ Lm]
   ·rw[jj<|jh e hR];exact sv _ _ (o4 b u e)
   ·rw[jj Xg];exact sv _ _ Xi
   ·have:=(OI.mono HW).snoc (x:=(x.2.1,x.1,x.2.2)) #[v,pv,rfl,kt _ _ ev,Sk.mono HW];rwa [<-U8 _ (OI.none OJ)] at this
  rintro H7 ⟨ID,o7,x₁,Ee7,eR7,kv7,Pm,Fv⟩;have Xk:=o7 _ _ hsz;obtain⟨pn,hpn⟩:=(dj.wt x<|yr _<|yi.mpr rfl).1;have Sf:(x.2.1,x.1,x.2.2)∈rl++[(x.2.1,x.1,x.2.2)]:=yr _<|yi.mpr rfl;have x₂:∀y∈rl++[(x.2.1,x.1,x.2.2)],y.2.1<=x.1:=λy hy=>by
   rcases yj.mp hy with z|z
   ·exact dj.mono y z x (yr _<|yi.mpr rfl)
   ·rw[yi.mp z];exact aaC _
  have TX:∀y∈rl++[(x.2.1,x.1,x.2.2)],y.1=x.2.1->y.2.1=x.1:=λy hy ey=>by
   rcases yj.mp hy with z|z
   ·exact absurd (yf.mpr #[y,z,ey]) OJ
   ·rw[yi.mp z]
  generalize hrl:rl++[(x.2.1,x.1,x.2.2)]=rl7 at *;refine#[H0,fp,ft,f,sz,pc,_,rfl,Wd,off.trans o7,Xk,Fv,Wd.ok.on _ _ hpn,λD rs H8 o8 hD eD R8=>?_];have nDW:=yG<|jh x₁ hD;have l7:=rq Wd.ok x.2.1;have Tb:rs.length=(uA f x.2.1).length:=by rw[R8.1,Nx]
  have Tc:∀q xs,H7 q=some (.tup xs)->H8 q=some _:=λ_ _ e=>o8 _ _ e;refine#[D,rfl,#[_,jt.of eD],Jt (λi σ H'=>E4 λ(Ln) (OK) (v8 v9)=>BZ (σ=[oR sz,oR fp,oR ft,oR ls,oR W,oR R,oR e,oR pc,v8,v9]) (Same H H') (H' W=some (.lst<|Ln.map V.ref)) (JJ H' Ln OK) (H' R=some _) (Kv H' ID rl7) (H' e=some _) (H' pc=some _) (H' D=some _) (UR H' rs _) (Dj f st OK rl7 (λa s=>a=x.2.1/\s∈(uA f _).drop i))<|OK.length<=PL.length+i)
   #[FD,PL,_,_,rfl,o7.trans o8,o8 _ _ x₁,Ee7.mono Tc,o8 _ _ eR7,kv7.mono Tc,Tc _ _ Pm,Tc _ _ Fv,eD,R8,w₂,yh _] (λi σ H' _ h=>by obtain⟨_,_,_,_,_,_,_,_,_,_,_,_,z,_⟩:=h;exact jt.of z) ?_ ?_]
  ·rintro i v σ H9 hv ⟨Ln,OK,v8',v9',rfl,o9,Sl,PM,Sn,So,Td,Lo,Xl,R9,PN,Sq⟩;obtain⟨r,ED,rfl⟩:=jX hv;obtain⟨s',p,hs,er,ep⟩:=R9.at_ ED;unfold iV at hs;obtain⟨s,Xm,rfl⟩:=jX hs;dsimp only at er ep;refine#[_,jx.of er,rfl,xO ?_];refine#[R,_,rfl,ug.t (k:=k3 _) Sn ep,JP (λg=>?_) λg=>?_]
   ·refine#[_,_,jx.of Td,rfl,Za,λne Ey=>?_];refine VL Ey λOL Fc A₁=>?_;have OM:=PM.mono λ_ _ e=>Fc _ _ e;have i1:=(yd.mp Xm).1;refine#[W,ne,Ln,_,_,_,rfl,Fc _ _ Sl,OM.nums,yT.mpr PN.srt,A₁,by rw[PM.1];lia,λj hj h1 h2=>?_];have kt:∀q xs,OL q=some (.tup xs)->upd OL W (.lst<|(Ln.take j++[ne]++Ln.drop j).map V.ref) q=some _:=λq xs e=>by rw[jj<|jA e<|Fc _ _ Sl];exact e
    have HW:=λq xs e=>kt q xs<|Fc _ _ e;refine#[_,_,_,_,rfl,λb u e=>?_,jd,?_,?_,So.mono HW,HW _ _ Td,HW _ _ Lo,?_,R9.mono HW,PN.stepNew Wd.ok x₂ Sf Xm (by rw[<-PM.1];exact hj) h1 h2,?_]
    ·rw[jj<|jh e hW];exact Fc _ _ (o9 b u e)
    ·exact (((OM.take j).mono kt).app<|JJ.one (x:=(x.1+s.2,s.1,some _)) (kt _ _ A₁) (HW _ _ ep)<|HW _ _ Lo).app ((OM.drop j).mono kt)
    ·rw[jj<|yG Xg];exact Fc _ _ Sn
    ·rw[jj nDW];exact Fc _ _ Xl
    ·simp only[ye,yM,Ql,abq];omega
   ·exact#[Ln,OK,_,_,rfl,o9,Sl,PM,Sn,So,Td,Lo,Xl,R9,PN.stepOld Wd.ok x₂ TX Xm<|(So.has _).mp g,by lia]
  ·rintro σ H9 ⟨Ln,OK,v8',v9',rfl,o9,Sl,PM,Sn,So,Td,Lo,Xl,R9,PN,Sq⟩;rw[yb,Tb] at PN Sq;have Xn:=PN.weak (ex':=NO) λa s z=>by rw[aau<|yh _] at z;cases z.2
   rw[lw] at hw ⊢;exact#[_,by lia,Ln,OK,ID,rl7,_,_,_,_,rfl,rfl,o9,Sl,PM,Sn,So,Xn,by lia]
 rintro v6 v7 v8 v9 H3 ⟨Ei,rl,o3,PH,PJ,fin,few⟩;exact q R Ei rl H3 o3 hR PH PJ fin few
def Ub (rl:List JY):List (List Key×V):=rl.map λx=>(k3 x.1,.int x.2.1)
theorem NR (a b:List JY):Ub (a++b)=Ub a++Ub b:=yk
theorem V7 (a:List JY):(Ub a).length=a.length:=yb ..
theorem gv {c:je} (h:c ∉ rl.map (·.1)):jD (Ub rl) (k3 c)=none:=by
 induction rl with
 | nil=>rfl
 | cons x r ih =>
  rw[yR,yz,not_or] at h;show jD ((k3 _,V.int _)::Ub r) _=none;rw[Jg (λe=>h.1 (JG e).symm)];exact ih h.2
theorem zA (nd:(rl.map (·.1)).Nodup) {x:JY} (h:x∈rl):jD (Ub rl) (k3 x.1)=some (.int x.2.1):=by
 induction rl with
 | nil=>cases h
 | cons y r ih =>
  rw[yR,Qo] at nd;show jD ((k3 _,V.int _)::Ub r) _=_;rcases yz.mp h with rfl|h
  ·exact Ju rfl
  ·rw[Jg (p:=(k3 y.1,V.int _)) (λe=>nd.1<|(JG e)▸yf.mpr #[x,h,rfl])];exact ih nd.2 h
theorem NS (nd:(rl.map (·.1)).Nodup) (c:je):(jD (Ub rl)<|k3 c).isSome=true↔c∈rl.map (·.1):=by
 constructor
 ·intro e;by_cases h:c∈rl.map (·.1)
  ·exact h
  ·rw[gv h] at e;cases e
 ·intro h;obtain⟨x,hx,rfl⟩:=yf.mp h;rw[zA nd hx]
  rfl
theorem aj (nd:(rl.map (·.1)).Nodup) {x y:JY} (hx:x∈rl) (hy:y∈rl) (e:x.1=y.1):x=y:=by
 obtain⟨a,ha,ea⟩:=yO hx;obtain⟨b,hb,eb⟩:=yO hy;have:a=b:=(abE (by rw[yb];exact ha) nd).mp (by rw[yo,yo,yc ha,yc hb,ea,eb];show some x.1=some _;rw[e]);subst this;rw[<-ea,eb]
def vn (rl:List JY) (gl:List je):List (Int×je):=gl.filterMap λg=>(rl.find? λx=>decide (x.1=g)).map λx=>(x.2.1,g)
theorem mI (rl:List JY) (a b:List je):vn rl (a++b)=vn rl a++vn rl b:=abr
theorem b8 (nd:(rl.map (·.1)).Nodup) {x:JY} (h:x∈rl):(rl.find? λy=>decide (y.1=x.1))=some x:=by
 cases e:rl.find? λy=>decide (y.1=x.1) with
 | none =>
  have:=List.find?_eq_none.mp e x h;simp at this
 | some y=>rw[aj nd (aah e) h (of_decide_eq_true (by simpa using aaV e))]
theorem ir (nd:(rl.map (·.1)).Nodup) {x:JY} (h:x∈rl):vn rl [x.1]=[(x.2.1,x.1)]:=by
 unfold vn;rw[QY,b8 nd h]
 rfl
theorem pL {g:je} (h:g ∉ rl.map (·.1)):vn rl [g]=[]:=by
 unfold vn;have:(rl.find? λy=>decide _)=none:=List.find?_eq_none.mpr λx hx=>by
  have:x.1≠g:=λe=>h<|e▸yf.mpr #[x,hx,rfl];simpa using this
 rw[QY,this]
 rfl
theorem iq {e:Int×je} (h:e∈vn rl gl):e.2∈gl/\∃x∈rl,x.1=e.2/\x.2.1=e.1:=by
 obtain⟨g,hg,e1⟩:=Qu.mp h;obtain⟨x,hx,rfl⟩:=yI.mp e1;exact#[hg,x,aah hx,of_decide_eq_true (by simpa using aaV hx),rfl]
theorem mQ (nd:(rl.map (·.1)).Nodup) {x:JY} (hx:x∈rl) (hg:x.1∈gl):(x.2.1,x.1)∈vn rl gl:=Qu.mpr #[x.1,hg,by rw[b8 nd hx];rfl]
theorem ip (rl:List JY) (gl:List je):(vn rl gl).length<=gl.length:=abc _ _
abbrev eK (e:Int×je):List (Key ⊕ List Key):=[.inl<|.inl e.1,.inr<|k3 e.2]
theorem CN (a b:Int×je):uS ZE (eK a) (eK b):=by
 unfold eK uS;exact#[rfl,λ_=>by exact#[Zj _ _,λ_=>by trivial]]
theorem Dy {a b:Int×je} (h:JD ZE (eK a) (eK b)=false):b.1<=a.1:=by
 by_cases e:a.1=b.1
 ·omega
 ·have:JD ZE (eK a) (eK b)=decide (a.1<b.1):=by
   show (if (Y5 _)=Y5 _ then _ else _)=_;rw[if_neg (λz=>e<|aad<|aad z)]
   rfl
  rw[this] at h;have:=of_decide_eq_false h;omega
def my (H:Hp) (es:DZ) (l:List (Int×je)):Prop:=Paired (λ(e:Addr) (x:Int×je)=>∃p,H e=some (.tup [.int x.1,.ref p])/\H p=some (.tup<|t3 x.2)) es l
theorem my.mono {H':Hp}{l:List (Int×je)} (C:my H es l) (k:∀p xs,H p=some (.tup xs)->H' p=some (.tup xs)):my H' es l:=Paired.mapP C λ_ _ #[p,a,b]=>#[p,k _ _ a,k _ _ b]
theorem my.nat {l:List (Int×je)} (C:my H es l):jL (Jl ZE) H es (l.map eK):=by
 unfold my at C
 induction C with
 | nil=>exact .nil
 | @cons e x a b r _ ih =>
  obtain⟨p,h1,h2⟩:=r;exact .cons #[e,_,rfl,h1,.cons rfl<|.cons #[p,_,rfl,h2,.cons rfl<|.cons rfl<|.cons rfl .nil] .nil] ih
def gP (T M:Addr) (gl:List je) (rl:List JY) (H':Hp):Prop :=
 ((∀g∈gl,g ∉ rl.map (·.1))/\H' T=some (.tup [.str "shut",.ref M])) \/
 ∃(D:Addr) (x:JY),H' T=some (.tup [.str "way",.ref D,.int x.2.1,.ref M])/\x∈rl/\x.1∈gl/\∀y∈rl,y.1∈gl->x.2.1<=y.2.1
def AV (P:Ee) (w:World) (K:DS) (mg:DV) (base:Heap):Sp:=λvs H Q _=>bL λ(H0:Hp) (fp ft:Addr) (f:Uh) (sz ls lg:Addr) (ps qs:DZ) (st gl:List je)=>BZ (vs=[.ref sz,.ref fp,.ref ft,.ref ls,.ref lg]) (rK P w K mg base H0 fp ft f) (Same H0 H) (H sz=some (.tup [.int f.W,.int f.Hh,.int f.L])) (H ls=some (.lst<|ps.map V.ref)) (jy H ps st) (∀c∈st,f.on c) (st.length<=5) (H lg=some (.lst<|qs.map V.ref)) (jy H qs gl) (gl.length<=5) (∀T M rl H',Same H H'->H T=none->H M=none->H' M=some (.dT<|Ub rl)->uB f st rl->rl.length<=432->gP T M gl rl H'->Q (.ref T) H')
theorem t7 (T:Txt K mg t):jS P w K mg base 6 "wave" [SZ,TD,YB,YH,"goals"] (AV P w K mg base):=by
 refine T.xa.ok [SZ,TD,YB,YH,"goals",YK,YD,E0,"ends","end"] ?_;rintro _ H Q E ⟨H0,fp,ft,f,sz,ls,lg,ps,qs,st,gl,rfl,Wd,off,hsz,HM,C,Fw,Fp,Xo,CG,hgl,q⟩;refine#[rfl,λEm A outer s hr=>#[_,(ji (jv 5<|jn (md T)<|ja (pv 0)<|ja (pv 1)<|ja (pv 2)<|ja (pv 3) jf) (ji (jv 6 Uc) (ji (z9<|j7 jO (ze rfl<|pv 5) (jw 7)<|jk<|uJ (pv 6) (pv 7)<|ju jr (vZ (pv 5)<|pv 7) jg) (ji (me 8 (own:=["goal"]) (UT (cl:=[(YD,_)])) (jV<|pv 4) (λ_ _ _ _ _=>jw 10) (λ_ _ _ _ _=>UG<|uw<|qr (P:=P) (w:=w) rfl rfl (vL hr) (pv 10)<|pv 6) (λ_ _ _ _ _=>(jN (ja (lV (P:=P) (w:=w) rfl rfl (vL hr) (pv 6) (pv 10) (λ_ _=>rfl))<|ja (pv 10) jf)))) (ji (j9 (uN (G8 (pv 8) (λ_=>rfl))) (jk<|jC<|jN<|ja U7<|ja (pv 6) jf) jW) (ji (jv 9 (jU (fY (Jl ZE) rfl hr.units (by decide)) (by rfl) T.r6 rN<|ja (pv 8) jf))<|jk<|jC<|jN<|ja U7<|ja (jn (lK T)<|ja (ju jr (pv 9) jg)<|ja (pv 5) jf)<|ja (ju jr (pv 9) jg)<|ja (pv 6) jf)))))),?_]];refine uF (λ(R)=>[oR sz,oR fp,oR ft,oR ls,oR lg,oR R,none,none,none,none]) (λR H'=>E2 λEi rl=>A6 _ _ _ _ _ _) (λB hB=>#[H0,fp,ft,f,sz,ls,ps,st,rfl,Wd,off,hsz,HM,C,Fw,Fp,λR Ei rl H' o hR e kv fin few=>hB R H' #[Ei,rl,o,hR,e,kv,fin,few]]) ?_;rintro R H1 ⟨Ei,rl,o1,hR,eR,kv,fin,few⟩;refine uF (λ(M)=>[oR sz,oR fp,oR ft,oR ls,oR lg,oR R,oR M,none,none,none]) (λM H'=>A3 _ _<|H' M=some _) (λB hB=>λM hM=>hB M _ #[jm (Same.refl H1) hM,hM,jd]) ?_;rintro M H2 ⟨s2,Xp,eM⟩;have hM:=o1.nn Xp;have ON:=yG<|jh eR Xp;have PQ:=s2 _ _ eR;have Xq:=kv.mono λ_ _ e=>s2 _ _ e;refine uF (λ(v7)=>[oR sz,oR fp,oR ft,oR ls,oR lg,oR R,oR M,v7,none,none]) (λ_ H'=>(∀b u,b≠M->H2 b=some u->H' b=some u)/\H' M=some (.dT<|Ub rl)) (λB hB=>?_) ?_
 ·refine#[R,Ei,rfl,PQ,λo xs hz hm kt dr=>?_];obtain⟨Z,Ez,Xr,back⟩:=VZ PQ hz hm kt dr;refine Zl Z (λi σ H'=>∃v7:Option V,A3 (σ=[oR sz,oR fp,oR ft,oR ls,oR lg,oR R,oR M,v7,none,none]) (∀b u,b≠M->upd H2 R _ b=some u->H' b=some u)<|H' M=some (.dT<|Ub<|rl.take i)) #[_,rfl,λb u _ e=>e,Ez _ _ ON eM] (λi σ H' _ h=>by obtain⟨_,_,z,_⟩:=h;exact z _ _ (yG ON) Z.e) ?_ ?_
  ·rintro i kv0 p σ H' h1 h2 ⟨v7,rfl,EW,e3⟩;have hi:i<rl.length:=by rw[<-kv.len];exact (yd.mp h1).1
   have gx:=yc hi;generalize rl[i]=x at gx;have Xs:=yp gx;obtain⟨Xt,Sr,Ij⟩:∃Xt,Ei[i]?=some Xt/\Xt.1=k3 _/\ZZ H2 _ x:=by
    obtain⟨g1,e1⟩:=yd.mp h1;obtain⟨g2,e2⟩:=yd.mp gx;have:=u6 Xq g1 g2;rw[e1,e2] at this;exact#[kv0,h1,this]
   rw[h1] at Sr;cases Sr;obtain⟨ek,a,pv,ev,ea,LM⟩:=Ij;obtain⟨v,vv,_,_,_,_,_⟩:=Xq.find fin.nd Xs;have vk:=vj (by
    have:Ei.map (·.1)=rl.map λx=>k3 x.1:=by
     refine QF (by rw[yb,yb,kv.len]) λj j1 j2=>?_;rw[yb] at j1 j2;rw[Qh,Qh];exact (u6 Xq j1 j2).1
    rw[this];have nd:=fin.nd;rw[aa7,yT] at nd ⊢;exact nd.imp λh e=>h<|JG e) (yp h1)
   have Eu:∀q ys,H2 q=some (.tup ys)->H' q=some _:=λq ys e=>EW _ _ (jA e eM)<|Ez _ _ (jA e PQ) e;have ES:=EW _ _ (λz=>by
    rw[z,jj ON,eM] at h2;cases h2) h2
   have Z':Fz P w H' R o Ei xs:=#[EW _ _ (yG ON) Z.e,Z.hm,kt.keeps λb ys e=>Eu _ _ e,Z.dr,Z.hz];refine#[R,.ref a,rfl,by rw[<-ev];exact vk▸UW.z Z' ES,_,_,jx.of<|Eu _ _ ea,rfl,?_];rw[ek] at ES;have lt:(rl.take i).length=i:=by rw[yM];lia
   refine#[M,_,rfl,UL.t e3 ES (by rw[V7,lt];exact yP (show _<=432 by lia) (by decide)),_,rfl,λb u nb e=>jB nb<|EW b u nb e,?_];rw[jd,JO gx,NR,U8 _<|gv ?_]
   ·rfl
   ·intro z;obtain⟨y,hy,ey⟩:=yf.mp z;have nd:=fin.nd;have e5:rl=rl.take i++x::rl.drop (i+1):=by
     obtain⟨g2,e2⟩:=yd.mp gx;rw[<-e2,<-yN g2,yX]
    rw[e5,yk,Qw] at nd;exact nd.2.2 _ (yf.mpr #[y,hy,rfl]) _ (by exact yE ..) ey
  ·rintro σ H' ⟨v7,rfl,EW,e3⟩;rw[kv.len,UC rfl] at e3;have Eu:∀q ys,H2 q=some (.tup ys)->H' q=some _:=λq ys e=>EW _ _ (jA e eM)<|Ez _ _ (jA e PQ) e;refine#[R,o,Ei,xs,#[EW _ _ (yG ON) Z.e,Z.hm,kt.keeps λb ys e=>Eu _ _ e,Z.dr,Z.hz],hB _ _ #[λb u nb e=>?_,jB ON e3]];by_cases z:b=R
   ·subst z;rw[PQ] at e;cases e;exact jd
   ·rw[jj z];exact EW _ _ nb (Ez _ _ z e)
 rintro v7 H3 ⟨EW,Xu⟩;have kT3:∀q ys,H1 q=some (.tup ys)->H3 q=some _:=λq ys e=>EW _ _ (jh e Xp)<|s2 _ _ e;have o3:Same H H3:=λb u e=>EW _ _ (jh e hM)<|s2 _ _<|o1 b u e;have PH:=EW _ _ (yG ON) PQ;have PJ:=kv.mono kT3;have Su:=o3 _ _ Xo;have CG3:=CG.same o3;refine uF (λ(D)=>[oR sz,oR fp,oR ft,oR ls,oR lg,oR R,oR M,v7,oR D,none]) (λD H'=>A3 (Same H3 H') (H3 D=none) (∃es:List Addr,H' D=some (.lst<|es.map V.ref)/\my H' es (vn rl gl))) (λB hB=>?_) ?_
 ·refine#[lg,rfl,#[_,jt.of Su],uj (λD i ys H'=>A6 (Same H3 H') _ (H' D=some (.lst ys)) (ys.length<=i) (i<=gl.length) (∃es:List Addr,ys=es.map V.ref/\my H' es (vn rl<|gl.take i))) (by rw[yb,CG.1];exact ym hgl (by decide)) (λD hD=>#[jm (Same.refl H3) hD,hD,jd,yL _,yL _,_,rfl,.nil]) (λD i ys H' hv=>#[hv.3,hv.4,jt.of<|hv.1 _ _ Su]) ?_ ?_]
  ·rintro D i x ys H' Qy Qn hx ⟨s4,hD,eD,y1,i1,es,rfl,Hi⟩ hy HX;obtain⟨p,hp,rfl⟩:=jX hx;obtain⟨g,hg,ep⟩:=CG3.at_ hp;have ic:=(yd.mp hg).1;have tk:=JO hg;have RU:=s4 _ _ ep;have A₂:=s4 _ _ Xu;refine#[#[_,rfl,rfl],M,_,rfl,UW.t (k:=k3 g) A₂ RU,V2 (λz=>?_) λz=>HX _ #[s4,hD,eD,by lia,ic,es,rfl,?_]]
   ·obtain⟨y,B₁,rfl⟩:=yf.mp<|(NS fin.nd g).mp z;refine#[M,_,rfl,(zA fin.nd B₁)▸UW.t A₂ RU,Vy,λr hr=>?_];have Sb:=yG<|jh eD hr;have kt:∀q xs,H' q=some (.tup xs)->upd (upd H' r<|.tup [.int y.2.1,.ref p]) D (.lst<|es.map V.ref++[.ref r]) q=some _:=λq xs e=>by
     rw[jj<|jA e eD,jj<|jh e hr];exact e
    refine hy _ _ (jB (jh eD hr) eD) #[Same.put s4 hr hD,hD,jd,by rw[ye];exact Qb y1,ic,es++[r],by rw[yk];rfl,?_];rw[tk,mI,ir fin.nd B₁];exact Zs (Hi.mono kt) (.cons #[p,jB Sb jd,kt _ _ RU] .nil)
   ·rw[tk,mI,pL (λh=>by rw[(NS fin.nd g).mpr h] at z;cases z),yK];exact Hi
  ·rintro D ys H' hD ⟨s4,_,eD,y1,i1,es,rfl,Hi⟩;rw[yb,CG.1,UC rfl] at Hi;exact hB D H' #[s4,hD,es,eD,Hi]
 rintro D H4 ⟨s4,hD3,es,eD,Hi⟩;have o4:=o3.trans s4;have Sv:=Paired.length Hi;have le5:=ip rl gl;have fresh:∀{q:Addr},H4 q=none->H q=none:=λh=>o4.nn h;refine ZL [oR sz,oR fp,oR ft,oR ls,oR lg,oR R,oR M,v7,oR D,none] (λH5=>H5=H4/\es≠[]) (λB hB=>?_) ?_
 ·refine#[_,.inl #[_,jt.of eD,rfl],JP (λz=>?_) λz=>hB _ #[rfl,λe=>by rw[e] at z;cases z]];have e0:es=[]:=by
   cases es with
   | nil=>rfl
   | cons a r=>cases z
  have e1:=by
   rw[e0] at Sv;exact List.length_eq_zero_iff.mp Sv.symm
  refine#[Vy,λT hT=>?_];have s8:=jm (o:=.tup [.str "shut",.ref M]) (Same.refl H4) hT;refine q T M rl _ (o4.trans s8) (fresh hT) hM (s8 _ _<|s4 _ _ Xu) fin few (.inl #[λg hg hgr=>?_,jd]);obtain⟨x,hx,rfl⟩:=yf.mp hgr;have:=mQ fin.nd hx hg;rw[e1] at this;cases this
 rintro H5 ⟨rfl,Ey⟩;refine og (λ(e) (x) (p)=>[oR sz,oR fp,oR ft,oR ls,oR lg,oR R,oR M,v7,oR D,oR e]) (λe x p H6=>A6 (H6=H5) (x∈rl) (x.1∈gl) (∀y∈rl,y.1∈gl->x.2.1<=y.2.1) (H5 e=some (.tup [.int x.2.1,.ref p]))<|H5 p=some (.tup<|t3 x.1)) (λB hB=>?_) ?_
 ·refine#[D,es,_,rfl,eD,Hi.nat,Ey,λa ha b hb=>?_,λi e k h1 h2 h3=>?_]
  ·obtain⟨a',_,rfl⟩:=yf.mp ha;obtain⟨b',_,rfl⟩:=yf.mp hb;exact CN a' b'
  ·rw[yo] at h2;obtain⟨z,hz,rfl⟩:=yI.mp h2;obtain⟨z1,x,hx,ex,en⟩:=iq<|yp hz;obtain⟨g1,e1⟩:=yd.mp h1;obtain⟨g2,e2⟩:=yd.mp hz;obtain⟨p,p1,p2⟩:=u6 Hi g1 g2;rw[e1,e2] at p1;rw[e2] at p2;refine hB e x p _ #[rfl,hx,ex▸z1,λy hy hyg=>?_,en▸p1,ex▸p2];have:=Dy<|h3 _<|yf.mpr #[_,mQ fin.nd hy hyg,rfl];rw[en];exact this
 rintro e x p H6 ⟨rfl,hx,hxg,RV,ee,ep⟩;refine#[_,_,jx.of ee,rfl,p,R,Ei,f,st,rl,x,rfl,ep,s4 _ _ PH,PJ.mono (λ_ _ e=>s4 _ _ e),fin.nd,fin.tree,hx,by lia,λW ys H7 s7 eW=>?_];refine#[_,_,jx.of<|s7 _ _ ee,rfl,DD,λT hT=>?_];have s8:=jm (o:=.tup [.str "way",.ref W,.int x.2.1,.ref M]) (Same.refl H7) hT;have B₂:=Same.trans s7 s8;exact q T M rl _ (o4.trans B₂) (fresh<|Same.nn s7 hT) hM (B₂ _ _<|s4 _ _ Xu) fin few (.inr #[W,x,jd,hx,hxg,RV])
def AJ (K:DS):Sp:=λvs H Q _=>E3 λ(a:Addr) (ns:List Int) (k:Int)=>A4 (vs=[.ref a,.int k]) (jt K H a<|ns.map V.int) (0<=k) (∀c:Int,Q (.int c) H)
theorem uI (T:Txt K mg t):jS P w K mg base 1 "_law_cell_at" [IO,T0] (AJ K):=by
 refine T.Mr.ok [IO,T0] ?_;rintro _ H Q E ⟨a,ns,k,rfl,hq,h0,q⟩;refine#[rfl,λEm A outer s hr=>#[_,(ji (j9 (j5 UU (pv 1) (jU Js (by rfl) T.vO vG<|ja (pv 0) jf)) (jk<|jC<|ju uW (pv 0)<|pv 1) jW)<|jk<|jC jg),?_]];refine#[a,_,rfl,.inl hq,Jw (λEl=>?_) λF8=>q 0];rw[yb] at El;have F9:k.toNat<ns.length:=by lia
 have hz:(ns.map V.int)[k.toNat]?=some (V.int ns[k.toNat]):=by rw[yo,yc F9];rfl
 have C₁:=UI hz;rw[show ((k.toNat))=k by lia] at C₁;exact#[_,_,hq,C₁,q _]
def BM:Sp:=λvs H Q _=>E2 λ(c k:Int)=>vs=[.int c,.int k]/\∀r,0<=r->r<2147483647->Q (.int r) H
theorem gB (T:Txt K mg t):jS P w K mg base 1 "_law_mixed" [PP,T0] BM:=by
 refine T.aM.ok [PP,T0,"_law_number"] ?_;rintro _ H Q E ⟨c,k,rfl,q⟩;refine#[rfl,λEm A outer s hr=>#[_,(ji (jv 2<|jp j6 (jp U5 (jp Jc (jp Jc (jp j6 (pv 0) jg)<|jp U5 jg<|pv 1) jg) jg) jg)<|ji (jv 2<|jp j6 (jp U5 (pv 2)<|jp Jc (jp Je (pv 2) jg) jg) jg)<|jk<|jC<|jp j6 (jp U5 (jp j6 (jp Jc (pv 2)<|jp U5 jg<|pv 1) jg)<|jp Jc (jp Je (pv 2) jg) jg) jg),?_]];refine#[(by show (0)<2147483647;decide),.inl #[by decide,by decide],.inr #[by decide,by decide],(by show (0)<2147483647;decide),?_];have h0:0<=(c % 2147483647+7919*k+1)*48271 % 2147483647:=Qj _ (by decide);have h1:(c % 2147483647+7919*k+1)*48271 % 2147483647<2147483647:=Qe _ (by decide);obtain⟨n,hn⟩:∃n,n=(c % 2147483647+7919*k+1)*48271 % 2147483647:=#[_,rfl];rw[<-hn] at h0 h1;refine#[#[by decide,by decide],.inl #[by lia,by lia],(by show (0)<2147483647;decide),?_];have g0:0<=n*(n / 1009+69621) % 2147483647:=Qj _ (by decide);have g1:n*(n / 1009+69621) % 2147483647<2147483647:=Qe _ (by decide);obtain⟨m,hm⟩:∃m,m=n*(n / 1009+69621) % 2147483647:=#[_,rfl];rw[<-hm] at g0 g1;have u0:0<=(m+104729*k) % 2147483647:=Qj _ (by decide);have u1:(m+104729*k) % 2147483647<2147483647:=Qe _ (by decide);refine#[.inl #[by decide,by decide],(by show (0)<2147483647;decide),#[by decide,by decide],.inl #[by omega,by omega],(by show (0)<2147483647;decide),?_];exact q _ (Qj _ (by decide)) (Qe _ (by decide))
def AR:Sp:=λvs H Q _=>E4 λ(c:Int) (n w:Nat) (b:Bool)=>A4 (vs=[.int c,.int n,.int w,.bl b]) (n<=40) (w<=12) (∀(p:Addr) (ns:List Int) (H':Hp),Same H H'->H p=none->H' p=some (.lst<|ns.map V.int)->ns.length=n->Q (.ref p) H')
theorem bA (T:Txt K mg t):jS P w K mg base 2 "_law_rows" [PP,"_law_many",YL,YI] AR:=by
 refine T.dq.ok [PP,"_law_many",YL,YI,YT,"_law_rest",T0,"_law_draw"] ?_;rintro _ H Q E ⟨c,n,w,b,rfl,hn,hw,q⟩;refine#[rfl,λEm A outer s hr=>#[_,(ji (jv 4<|JL jf)<|ji (jv 5<|pv 0)<|ji (j7 jO (uE rfl T.uX<|ja (pv 1) jf) (jw 6)<|ji (jv 7<|pv 5)<|ji (j9 (Vh (JS<|pv 3)<|vU (af (j5 Uz (pv 5) jg)<|cQ<|j5 Ks (pv 0) jg).pt).pt (jk<|jv 7<|jp BG (jp Je (jn (gB T)<|ja (pv 0)<|ja (pv 6) jf) jg)<|jp U5 (jp Je (jn (gB T)<|ja (pv 0)<|ja (jp Jc (pv 6) jg) jf) jg)<|jp j6 (pv 0) jg)<|jk<|jv 5<|jp N3 (pv 5)<|pv 2)<|jk<|jQ<|UA Yc Yj Yh Uq (pv 4)<|ja (jp j6 (pv 7)<|jp At jg<|pv 2) jf)<|jk<|jC<|pv 4),?_]];refine#[(by show 0<=sizeLine;lia),λp hp=>?_];have s1:Same H (upd H p<|.lst []):=jm (Same.refl H) hp;refine#[_,rfl,by lia,by lia,Uo (λk σ H'=>E4 λ(r) (v6 v7) (ns)=>A4 (σ=[some _,some _,some _,some _,some _,some<|.int r,v6,v7]) (Same H H') (H' p=some (.lst<|ns.map V.int))<|ns.length=k) #[c,_,_,[],rfl,s1,jd,rfl] ?_ ?_]
 ·rintro k σ H2 hk ⟨r,v6,v7,ns,rfl,s2,e2,ll⟩;rw[yY] at hk;have e0:(0)+(k:Int)=(k):=by lia
  rw[e0];refine JV ?_;refine uZ (λσ H'=>σ=[some _,some _,some _,some _,some _,some _,some _,some _]/\H2=H') (λB nx=>nx _ _ #[rfl,rfl]) ?_;rintro _ _ ⟨rfl,rfl⟩;refine uZ (λσ H'=>E2 λ(LN draw:Int)=>σ=[some<|.int c,some<|.int n,some<|.int w,some<|.bl b,some<|.ref p,some<|.int LN,some<|.int<|k,some<|.int draw]/\H'=H2) (λB nx=>?_) ?_
  ·have two:(0:Int)<2:=by decide
   have go:=λ(x)=>nx _ H2 #[r,x,rfl,rfl];cases b with
   | true =>
    exact#[c,_,rfl,λx1 _ _=>#[#[by decide,by decide],c,_,rfl,λx2 _ _=>#[#[by decide,by decide],two,.inr #[by omega,by omega],go _]]]
   | false =>
    refine#[rfl,Jw (λg1=>#[rfl,JP (λg2=>?_) λg2=>?_]) λg1=>?_]
    ·exact#[c,_,rfl,λx1 _ _=>#[#[by decide,by decide],c,_,rfl,λx2 _ _=>#[#[by decide,by decide],two,.inr #[by omega,by omega],go _]]]
    ·exact#[(by omega),nx _ _ #[_,_,rfl,rfl]]
    ·exact#[(by omega),nx _ _ #[_,_,rfl,rfl]]
  ·rintro σ H3 ⟨LN,draw,rfl,rfl⟩;have pw:(0:Int)<1*2^((w:Int)).toNat:=by rw[Int.one_mul];exact Int.pow_pos (by decide)
   refine#[.inl #[rfl,_,jt.of e2],#[by omega,by lia,by decide],pw,p,_,_,rfl,rfl,e2,?_,_,_,_,ns++[draw % (1*2^(w:Int).toNat)],rfl,λb u e=>?_,?_,?_]
   ·rw[yb,ll];exact yP (show k<=100 by lia) (by decide)
   ·rw[jj<|jh e hp];exact s2 _ _ e
   ·rw[jd,yk];rfl
   ·rw[ye,ll];rfl
 ·rintro σ H2 ⟨r,v6,v7,ns,rfl,s2,e2,ll⟩;rw[yY] at ll;exact q p ns H2 s2 hp e2 ll
def Dt (w h l:Nat) (c:je):Prop:=∃x y z:Nat,x<w/\y<h/\z<l/\c=((x:Int),(y:Int),(z:Int))
structure zP (w h l:Nat):Prop where
 w:1<=w/\w<=12
 h:1<=h/\h<=12
 l:1<=l/\l<=3
def fb (K:DS) (C:Addr):Sp:=λvs H Q _=>E2 λ(a:Addr) (sc:List Int)=>A3 (vs=[.ref a]) (jt K H a<|sc.map V.int) (∀(o dx cc d:Addr) (w h l:Nat) (cs ds:jF) (H':Hp),Same H H'->zP w h l->Bd C H' o dx cc d w h l cs ds->cs.length<=432->ds.length<=144->Q (.ref o) H')
theorem NU (T:Txt K mg t):jS P w K mg base 6 "_law_board" [IO] (fb K t.jq):=by
 refine T.aJ.ok [IO,PP,YU,YI,FB,T0,YM,W1,XL] ?_;rintro _ H Q E ⟨a,sc,rfl,ha,q⟩;refine#[rfl,λEm A outer s hr=>#[_,(ji (jv 1<|jn (uI T)<|ja (pv 0)<|ja jg jf) (ji (jv 2<|jN<|ja (jp Jc jg<|jp j6 (pv 1) jg)<|ja (jp Jc jg<|jp j6 (jp Je (pv 1) jg) jg)<|ja (jp Jc jg<|jp j6 (jp Je (pv 1) jg) jg) jf) (ji (jv 3<|vy Uz (jp j6 (jp Je (pv 1) jg) jg) jg) (ji (jv 4<|za (ZI T)<|ja (ju jr (pv 2) jg)<|ja (ju jr (pv 2) jg)<|ja (ju jr (pv 2) jg) jf) (ji (j7 jO (N7 rfl rfl T.GH<|ja (jn (bA T)<|ja (jn (uI T)<|ja (pv 0)<|ja jg jf)<|ja (jp U5 (ju jr (pv 2) jg)<|ju jr (pv 2) jg)<|ja (ju jr (pv 2) jg)<|ja (pv 3) jf) jf) (zd<|Jn (jw 5)<|Jn (jw 6) Vb) (jk (jQ (Jy (pv 4) (gA T) (ja (V9 (N0:=[IO,PP,YU,YI,FB,T0,YM,"._law_x",XL]) (own:=[W1]) (UT (cl:=[(YU,_),(YM,_),(T0,_)])) (uE rfl T.uX<|ja (ju jr (pv 2) jg) jf) (λ_ _ _ _ _=>jw 9) (λ_ _ _ _ _=>UG<|j5 Uz (jp lM (jp N3 (pv 6)<|pv 9) jg) jg) (λ_ _ _ _ _=>(jN<|ja (pv 9)<|ja (jp j6 (pv 5)<|ju jr (pv 2) jg)<|ja (jp Je (pv 5)<|ju jr (pv 2) jg) jf))) jf))))) (ji (j7 jO (N7 rfl rfl T.GH<|ja (jn (bA T)<|ja (jn (uI T)<|ja (pv 0)<|ja jg jf)<|ja (ju jr (pv 2) jg)<|ja (ju jr (pv 2) jg)<|ja (pv 3) jf) jf) (zd<|Jn (jw 8)<|Jn (jw 6) Vb) (jk (j7 jO (jV (V9 (N0:=[IO,PP,YU,YI,FB,T0,YM,"._law_x",XL]) (own:=[W1]) (UT (cl:=[(YM,_)])) (uE rfl T.uX<|ja (ju jr (pv 2) jg) jf) (λ_ _ _ _ _=>jw 9) (λ_ _ _ _ _=>UG<|j5 Uz (jp lM (jp N3 (pv 6)<|pv 9) jg) jg) (λ_ _ _ _ _=>(pv 9)))) (jw 7)<|jk<|jQ<|Jy (pv 4) (zY T)<|ja (pv 7)<|ja (pv 8) jf)))<|jk<|jC<|pv 4)))))),?_]];refine uF (λ(c)=>[oR a,some _,none,none,none,none,none,none,none]) (λ_ H'=>H'=H) (λB hB=>#[a,sc,0,rfl,ha,by decide,λc=>hB c _ rfl]) ?_;rintro c H0 rfl;refine GN (λ(p) (_ _ _)=>[oR a,some<|.int c,oR p,none,none,none,none,none,none]) (λp w h l H'=>A3 (Same H0 H') (zP w h l)<|H' p=some (.tup [.int w,.int h,.int l])) (λB hB=>?_) ?_
 ·refine#[(by show (0)<12;decide),#[by decide,by decide],(by show (0)<12;decide),#[by decide,by decide],(by show (0)<3;decide),Za,λp hp=>?_];have ew:((1+c % 12).toNat)=1+c % 12:=by lia
  have eh:((1+c / 12 % 12).toNat)=1+c / 12 % 12:=by lia
  have el:((1+c / 144 % 3).toNat)=1+c / 144 % 3:=by lia
  exact hB p (1+c % 12).toNat (1+c / 12 % 12).toNat (1+c / 144 % 3).toNat _ #[jm (Same.refl H0) hp,#[by lia,by lia,by lia],by rw[jd,ew,eh,el]]
 rintro p w' h l H1 ⟨s1,Z,e1⟩;have T1:∀{H':Hp},Same H1 H'->jx K H' p _:=λs=>jx.of<|s _ _ e1;have s0:=Same.refl H1;refine uF (λ(mx:Bool)=>[oR a,some _,oR p,some _,none,none,none,none,none]) (λ_ H'=>H'=H1) (λB hB=>#[#[by decide,by decide],(by show (0)<2;decide),rfl,hB _ _ rfl]) ?_;rintro mx H1 rfl;refine GN (λ(o dx cc d)=>[oR a,some<|.int c,oR p,some<|.bl mx,oR o,none,none,none,none]) (λo dx cc d H'=>A5 (Same H1 H') (H1 cc=none) (H1 d=none) (cc≠d)<|Bd t.jq H' o dx cc d w' h l [] []) (λB hB=>?_) ?_
 ·refine#[_,_,T1 s0,rfl,_,_,T1 s0,rfl,_,_,T1 s0,rfl,λo dx ho Lj Lc=>?_];refine#[o,dx,_,_,_,rfl,jd,by have:=Z.w;lia,by have:=Z.h;lia,by have:=Z.l;lia,λcc d H4 fr4 eo ec ed nc nd IS HF IB=>?_];refine#[rfl,hB o dx cc d _ #[λb u e=>fr4 b u (jh e ho) (by rw[jj<|jh e ho,jj<|jh e Lj];exact e),?_,?_,IS,eo,ec,ed,ui.nil _ _ _,u9.nil _ _]]
  ·rw[jj HF,jj (λz=>by rw[z,jd] at nc;cases nc)] at nc;exact nc
  ·rw[jj IB,jj (λz=>by rw[z,jd] at nd;cases nd)] at nd;exact nd
 rintro o dx cc d H4 ⟨Py,R6,La,IS,B4⟩;have hhl:=QI Z.h.2 Z.l.2;have Te:=Z.w.2;have h1:=Z.h.1;have h12:=Z.h.2;have pc:=jh e1 R6;have pd:=jh e1 La;have Tf:=Py _ _ e1;have Sw:=uO (Same.trans s1 Py) ha;have T4:jx K H4 p _:=jx.of Tf;have RC:=jA B4.o B4.c;have Xv:=jA B4.o B4.d;refine GN (λ(v5 v6 v7 v8)=>[oR a,some<|.int c,oR p,some<|.bl mx,oR o,v5,v6,v7,v8]) (λ_ _ _ _ H'=>∃cs,A4 (Jm cc H4 H') (H' cc=some (.dT cs)) (ui cs w' h l)<|cs.length<=432) (λB hB=>?_) ?_
 ·refine#[a,sc,1,rfl,Sw,by decide,λc1=>#[_,_,T4,rfl,_,_,T4,rfl,.inl #[by lia,by lia],_,_,T4,rfl,c1,_,w',mx,by rfl,by lia,Te,λr ns H5 s5 hr5 er ln=>?_]];refine#[r,rfl,#[_,jt.of er],mJ (λk σ H'=>E5 λ(v5 v6 v7 v8) (cs:jF)=>A6 (σ=[oR a,some _,oR p,some _,oR o,v5,v6,v7,v8]) (Jm cc H4 H') (H' r=some _) (H' cc=some (.dT cs)) (ui cs w' h l)<|cs.length<=12*k) #[_,_,_,_,_,rfl,λb u _ e=>s5 _ _ e,er,s5 _ _ B4.c,ui.nil _ _ _,yL _] (λk σ H' _ h_=>by obtain⟨_,_,_,_,_,_,_,f,_⟩:=h_;exact jt.of f) ?_ ?_]
  ·rintro k x p7 σ H7 hx RX ⟨v5,v6,v7,v8,cs,rfl,f7,FP,Xw,Xx,C₂⟩;obtain⟨rr,err,rfl⟩:=jX hx;have hk:k<h*l:=by rw[<-ln];exact (yd.mp err).1
   have s8:=jm (o:=.tup [.int k,.int rr]) (Same.refl H7) RX;refine#[_,jx.of jd,rfl,xO ?_];show sL _ _ _ _;generalize upd H7 p7 (.tup [.int k,.int rr])=H8 at s8;have f8:=f7.same s8;have D₁:=s8 _ _ Xw;have Sx:=s8 _ _ FP;refine#[o,dx,_,rfl,f8 _ _ RC B4.o,rfl,_,_,jx.of<|f8 _ _ pc Tf,rfl,_,rfl,by lia,by lia,zF (λD i ys H'=>E2 λ(ps) (cl:List je)=>A7 (ys=ps.map V.ref) (H' D=some (.lst ys)) _ (Same H8 H') (jy H' ps cl) (∀c∈cl,Dt w' h l c)<|ys.length<=i) (by exact ym Te (by decide)) (λD hD=>#[[],[],rfl,jd,hD,jm (Same.refl H8) hD,#[rfl,by simp],(λc h=>nomatch h),yh _]) (λD i ys H' h_=>by obtain⟨ps,cl,_,e,_,_,_,_,hl⟩:=h_;exact#[e,hl]) ?_ ?_]
   ·rintro D i ys H9 Qy Qn hi ⟨ps,cl,rfl,eD,nD,s9,ce,ci,hl⟩ hy hn;rw[yY] at hi;have hz:(0:Int)<=0+(i):=by lia
    refine#[#[_,rfl,rfl],hz,rfl,Jw (λe=>?_) λe=>hn _ #[ps,cl,rfl,eD,nD,s9,ce,ci,by lia]];have S9:jx K H9 p _:=jx.of<|s9 _ _<|f8 _ _ pc Tf;refine#[_,_,S9,rfl,by lia,_,_,S9,rfl,#[by lia,by lia],Za,λq hq=>?_];have nDq:=jh eD hq;refine hy _ _ (jB nDq eD) #[_,cl++[(0+(i:Int),(k) % (h:Int),(k) / (h:Int))],by rw[yk];rfl,jd,nD,λb u e=>?_,ce.add hq eD,λx hx=>?_,by rw[ye];exact Qb hl]
    ·rw[jj<|jh e nD,jj<|jh (s9 _ _ e) hq];exact s9 _ _ e
    ·rcases yj.mp hx with hx|hx
     ·exact ci x hx
     ·rw[yi.mp hx];exact#[i,_,_,hi,Nat.mod_lt _ h1,Nat.div_lt_of_lt_mul hk,by rw[aaw];rfl]
   ·rintro D ys H9 hD ⟨ps,cl,rfl,eD,nD,s9,ce,ci,hl⟩;rw[yY] at hl;have f9:=f8.same s9;have lp:cl.length<=12:=by rw[yb] at hl;rw[<-ce.1];lia
    have k36:k<36:=by lia
    refine#[o,dx,cc,d,D,ps,cl,w',h,l,cs,rfl,f9 _ _ RC B4.o,eD,ce,s9 _ _ D₁,by lia,Aq ci,_,_,_,_,_,rfl,λb u n e=>?_,?_,jd,gG cl cs Xx ci,?_]
    ·rw[jj n];exact f9 _ _ n e
    ·rw[jj<|jA (s9 _ _ Sx)<|s9 _ _ D₁];exact s9 _ _ Sx
    ·have:=Zv cl cs
     lia
  ·rintro σ H7 ⟨v5,v6,v7,v8,cs,rfl,f7,FP,Xw,Xx,C₂⟩;rw[yb,ln] at C₂;exact hB _ _ _ _ _ #[cs,f7,Xw,Xx,by lia]
 rintro v5 v6 v7 v8 H6 ⟨cs,f6,ec6,tc6,lc6⟩;have ha6:=wT Sw B4.c f6;have D₂:=f6 _ _ pc Tf;have T6:jx K H6 p _:=jx.of D₂;have Xy:=f6 _ _ RC B4.o;have ed6:=f6 _ _ (yG IS) B4.d;refine GN (λ(v5 v6 v7 v8)=>[oR a,some<|.int c,oR p,some<|.bl mx,oR o,v5,v6,v7,v8]) (λ_ _ _ _ H'=>∃ds,A4 (Jm d H6 H') (H' d=some (.dT ds)) (u9 ds w' h)<|ds.length<=144) (λB hB=>?_) ?_
 ·refine#[a,sc,2,rfl,ha6,by decide,λc1=>#[_,_,T6,rfl,_,_,T6,rfl,c1,h,w',mx,rfl,by lia,Te,λr ns H7 s7 hr7 er ln=>?_]];refine#[r,rfl,#[_,jt.of er],mJ (λk σ H'=>E5 λ(v5 v6 v7 v8) (ds:jF)=>A6 (σ=[oR a,some _,oR p,some _,oR o,v5,v6,v7,v8]) (Jm d H6 H') (H' r=some _) (H' d=some (.dT ds)) (u9 ds w' h)<|ds.length<=12*k) #[_,_,_,_,_,rfl,λb u _ e=>s7 _ _ e,er,s7 _ _ ed6,u9.nil _ _,yL _] (λk σ H' _ h_=>by obtain⟨_,_,_,_,_,_,_,f,_⟩:=h_;exact jt.of f) ?_ ?_]
  ·rintro k x p7 σ H8 hx RX ⟨v5,v6,v7,v8,ds,rfl,f8,Sx,Sy,Sz,SA⟩;obtain⟨rr,err,rfl⟩:=jX hx;have hk:k<h:=by rw[<-ln];exact (yd.mp err).1
   have s9:=jm (o:=.tup [.int k,.int rr]) (Same.refl H8) RX;refine#[_,jx.of jd,rfl,xO ?_];generalize upd H8 p7 (.tup [.int k,.int rr])=H9 at s9 ⊢;have f9:=f8.same s9;have E₁:=s9 _ _ Sy;have er9:=s9 _ _ Sx;refine#[_,_,jx.of<|f9 _ _ pd D₂,rfl,_,rfl,by lia,by lia,zF (λD i ys H'=>∃xs:List Nat,A6 (ys=xs.map (λn:Nat=>V.int n)) (H' D=some (.lst ys)) _ (Same H9 H') (∀n∈xs,n<w')<|ys.length<=i) (by exact ym Te (by decide)) (λD hD=>#[[],rfl,jd,hD,jm (Same.refl H9) hD,(λc h=>nomatch h),yh _]) (λD i ys H' h_=>by obtain⟨xs,_,e,_,_,_,hl⟩:=h_;exact#[e,hl]) ?_ ?_]
   ·rintro D i ys OL Qy Qn hi ⟨xs,rfl,eD,nD,Fc,ci,hl⟩ hy hn;rw[yY] at hi;have hz:(0:Int)<=0+(i):=by lia
    refine#[#[_,rfl,rfl],hz,rfl,Jw (λe=>?_) λe=>hn _ #[xs,rfl,eD,nD,Fc,ci,by lia]];refine hy _ _ eD #[xs++[i],by rw[yk,aaw];rfl,jd,nD,λb u e=>?_,λx hx=>?_,by rw[ye];exact Qb hl]
    ·rw[jj<|jh e nD];exact Fc _ _ e
    ·rcases yj.mp hx with hx|hx
     ·exact ci x hx
     ·rw[yi.mp hx];exact hi
   ·rintro D ys OL hD ⟨xs,rfl,eD,nD,Fc,ci,hl⟩;rw[yY,yb] at hl;have f10:=f9.same Fc;have nDd:=yG<|jh E₁ nD;refine#[D,rfl,#[_,jt.of eD],Jt (λj σ H'=>E3 λ(v6 v7) (Eo:jF)=>A7 (σ=[oR a,some _,oR p,some _,oR o,v5,v6,v7,some _]) (Jm d H6 H') (H' r=some _) (H' D=some _) (H' d=some (.dT Eo)) (u9 Eo w' h)<|Eo.length<=12*k+j) #[_,_,ds,rfl,f10,Fc _ _ er9,eD,Fc _ _ E₁,Sz,SA] (λj σ H' _ h_=>by obtain⟨_,_,_,_,_,_,f,_⟩:=h_;exact jt.of f) ?_ ?_]
    ·rintro j x σ SE hx ⟨v6,v7,Eo,rfl,PR,IE,OO,Lp,OP,SF⟩;obtain⟨xx,E₂,rfl⟩:=jX hx;have EK:=ci xx<|yp E₂;have jl:=(yd.mp E₂).1;refine#[o,dx,_,rfl,PR _ _ Xv Xy,rfl,o,dx,cc,d,w',h,l,_,_,Eo,rfl,PR _ _ Xv Xy,Lp,by lia,by rw[uH EK,uH hk];rfl,λq hq=>#[_,_,_,rfl,λb u n e=>?_,?_,?_,jd,OP.put EK hk,?_]]
     ·rw[jj n,jj<|jh (PR _ _ n e) hq];exact PR _ _ n e
     ·rw[jj<|jA IE Lp,jj<|jh IE hq];exact IE
     ·rw[jj nDd,jj<|jh OO hq];exact OO
     ·have:=J2 Eo [.inl<|xx,.inl<|k] (.bl true)
      lia
    ·rintro σ SE ⟨v6,v7,Eo,rfl,PR,IE,OO,Lp,OP,SF⟩;rw[yb] at SF;exact#[_,_,_,_,Eo,rfl,PR,IE,Lp,OP,by lia]
  ·rintro σ H8 ⟨v5,v6,v7,v8,ds,rfl,f8,Sx,Sy,Sz,SA⟩;rw[yb,ln] at SA;exact hB _ _ _ _ _ #[ds,f8,Sy,Sz,by lia]
 rintro v5 v6 v7 v8 H8 ⟨ds,f8,Sy,Sz,SA⟩;refine q o dx cc d w' h l cs ds H8 (λb u e=>?_) Z #[f8 _ _ Xv Xy,f8 _ _ IS ec6,Sy,tc6,Sz] lc6 SA;have Rc:=s1 _ _ e;exact f8 _ _ (jh Rc La) (f6 _ _ (jh Rc R6)<|Py _ _ Rc)
structure nN (G:je->je) (N N':je->List je):Prop where
 inj:∀a b,G a=G b->a=b
 sur:∀e,∃c,G c=e
 nr:∀c e,e∈N c↔G e∈N' (G c)
section
variable {G:je->je}{N N':je->List je}{a b:je}
theorem nN.rch (I:nN G N N'):Jr N a b↔Jr N' (G a) (G b):=by
 constructor
 ·intro h
  induction h with
  | refl=>exact .refl
  | step _ m ih=>exact .step ih ((I.nr _ _).mp m)
 ·have key:∀e,Jr N' (G a) e->∀b,e=G b->Jr N a b:=λe h=>by
   induction h with
   | refl=>intro b e;rw[I.inj _ _ e];exact .refl
   | @step x y _ m ih =>
    intro b e;obtain⟨c,rfl⟩:=I.sur x;exact .step (ih c rfl) ((I.nr _ _).mpr<|e▸m)
  exact λh=>key _ h b rfl
theorem nN.way (I:nN G N N') {n:Nat}:zQ N a b n↔zQ N' (G a) (G b) n:=by
 constructor
 ·intro h
  induction h with
  | nil=>exact .nil
  | step _ m ih=>exact .step ih ((I.nr _ _).mp m)
 ·have key:∀e n,zQ N' (G a) e n->∀b,e=G b->zQ N a b n:=λe n h=>by
   induction h with
   | nil=>intro b e;rw[I.inj _ _ e];exact .nil
   | @step x y _ _ m ih =>
    intro b e;obtain⟨c,rfl⟩:=I.sur x;exact .step (ih c rfl) ((I.nr _ _).mpr<|e▸m)
  exact λh=>key _ _ h b rfl
theorem nN.dst (I:nN G N N') {n m:Nat} (h:fE N a b n) (h':fE N' (G a) (G b) m):n=m :=
 abP (h.least _<|I.way.mpr h'.way) (h'.least _<|I.way.mp h.way)
end
def gF (f:Bool) (w h:Nat):Int×Int->Int×Int:=bif f then ZD w else Zb h
abbrev wF (f:Bool) (w h:Nat):Nat:=bif !f then h else w
abbrev hF (f:Bool) (w h:Nat):Nat:=bif !f then w else h
def fI (f:Bool):Int:=bif f then 1 else 0
def G3 (f:Bool) (w h:Nat):je->je:=g3 (gF f w h)
theorem uh {f:Bool}{w:Nat} (a b:je) (e:G3 f w h a=G3 f w h b):a=b:=by
 refine iC (λp q e=>?_) a b e;cases f
 ·exact (K2 w h).inj p q e
 ·exact (K1 w h).inj p q e
theorem Nr {f:Bool}{w:Nat} (q:Int×Int):∃p,gF f w h p=q:=by
 cases f
 ·exact#[(q.2,(h) - 1 - q.1),by show ((h) - 1 - ((h) - 1 - q.1),q.2)=q;rw[show (h) - 1 - ((h) - 1 - q.1)=q.1 by lia]]
 ·exact#[((w) - 1 - q.1,q.2),by show ((w) - 1 - ((w) - 1 - q.1),q.2)=q;rw[show (w) - 1 - ((w) - 1 - q.1)=q.1 by lia]]
theorem UX {f:Bool}{w:Nat} (e:je):∃c,G3 f w h c=e:=by
 obtain⟨p,hp⟩:=Nr (f:=f) (w:=w) (h:=h) (e.1,e.2.1);exact#[(p.1,p.2,e.2.2),by show ((gF f w h p).1,(gF f w h p).2,e.2.2)=e;rw[hp]]
theorem Zm {f:Bool}{w:Nat} (p:Int×Int):(jH (gF f w h p).1 (wF f w h)&&jH (gF f w h p).2 (hF f w h))=(jH p.1 w&&jH p.2 h):=by
 rw[y4,Jv,Jv];cases f<;>(simp only[gF,Zb,ZD,wF,hF,cond,aa8,abe];omega)
theorem sG {k a b:Int}:k - a=k - b↔a=b:=by lia
theorem Cw {k a b:Int}:k - a=k - b - 1↔a=b+1:=by lia
theorem Cy {k a b:Int}:k - a=k - b+1↔a=b - 1:=by lia
theorem bN {f:Bool}{w:Nat}{c:je}:e∈UN c↔G3 f w h e∈UN (G3 f w h c):=by
 rw[G4,G4];cases f
 ·simp only[G3,g3,gF,Zb,cond,sG,Cw,Cy];rw[or_comm,@or_comm<|_=c.2.1 - 1]
 ·simp only[G3,g3,gF,ZD,cond,sG,Cw,Cy];rw[@or_comm<|_=c.1 - 1]
theorem nJ {f:Bool}{w n:Nat}{c:je}:e∈uc c n↔G3 f w h e∈uc (G3 f w h c) n:=by
 rw[vt,vt];cases f
 ·simp only[G3,g3,gF,Zb,cond,sG];rw[and_left_comm]
 ·simp only[G3,g3,gF,ZD,cond,sG]
structure uL (f:Bool) (w h l:Nat) (cs ds En Eo:jF):Prop where
 C:ui cs w h l
 D:u9 ds w h
 C':ui En (wF f w h) (hF f w h) l
 D':u9 Eo (wF f w h) (hF f w h)
 L:bP (gF f w h) cs ds En Eo
section
variable {f:Bool}{w h l:Nat}{cs ds En Eo:jF}
theorem uL.cu (T:uL f w h l cs ds En Eo) (e:je):Ue En (wF f w h) (hF f w h) l (G3 f w h e)=Ue cs w h l e:=by
 rw[kI T.C,kI T.C'];exact T.L.c e
theorem uL.iso (T:uL f w h l cs ds En Eo):nN (G3 f w h) (jJ cs ds w h l) (jJ En Eo (wF f w h) (hF f w h) l):=by
 refine#[uh,UX,λc e=>?_];unfold jJ VG;rw[yZ,yZ,T.cu,yj,yj,<-bN];have hh:(jH (G3 f w h c).1 (wF f w h)&&jH (G3 f w h c).2.1 (hF f w h)&&(jD Eo [.inl (G3 f w h c).1,.inl (G3 f w h c).2.1]).isSome)=(jH c.1 w&&jH c.2.1 h&&(jD ds [.inl c.1,.inl c.2.1]).isSome):=by
  have h1:=Zm (f:=f) (w:=w) (h:=h) (c.1,c.2.1);have h2:=T.L.h (c.1,c.2.1);exact (congr (congrArg and h1) h2)
 rw[hh];cases (jH _ w&&jH _ h&&(jD ds _).isSome)
 ·rw[if_neg (by decide),if_neg (by decide)];simp
 ·rw[if_pos rfl,if_pos rfl,<-nJ]
end
def AS (C:Addr):Sp:=λvs H Q _=>E9 λ(o dx c d:Addr) (w h l:Nat) (f:Bool) (p:Int×Int)=>A3 (vs=[.ref o,.int<|fI f,.int p.1,.int p.2]) (H o=some (.ins C dx<|fB w h l c d)) (∀q,H q=none->Q (.ref q) (upd H q<|.tup [.int (gF f w h p).1,.int (gF f w h p).2]))
theorem zI (T:Txt K mg t):jS P w K mg base 1 "_law_spot" [FB,IR,W1,XL] (AS t.jq):=by
 refine T.dv.ok [FB,IR,W1,XL] ?_;rintro _ H Q E ⟨o,dx,c,d,w',h,l,f,p,rfl,ho,q⟩;refine#[rfl,λEm A outer s hr=>#[_,(ji (j9 (j5 Uz (pv 1) jg) (jk<|jC<|jN<|ja (jp JR (jp JR (jM<|pv 0) jg)<|pv 3)<|ja (pv 2) jf) jW)<|jk<|jC<|jN<|ja (jp JR (jp JR (jM<|pv 0) jg)<|pv 2)<|ja (pv 3) jf),?_]];cases f with
 | false=>exact#[rfl,JE #[o,_,dx,_,_,rfl,ho,T.jz,T.Ji,rfl,Vy,q]]
 | true=>exact#[rfl,uT #[o,_,dx,_,_,rfl,ho,T.jz,T.Jj,rfl,Vy,q]]
def wK (C:Addr):Sp:=λvs H Q _=>Gq λ(o dx c d p:Addr) (w h l:Nat) (f:Bool) (e:je)=>A4 (vs=[.ref o,.int<|fI f,.ref p]) (H o=some (.ins C dx<|fB w h l c d)) (H p=some (.tup<|t3 e)) (∀q H',Same H H'->H q=none->H' q=some (.tup<|t3<|G3 f w h e)->Q (.ref q) H')
theorem Vf (T:Txt K mg t):jS P w K mg base 2 "_law_cell" [FB,IR,PP] (wK t.jq):=by
 refine T.di.ok [FB,IR,PP] ?_;rintro _ H Q E ⟨o,dx,c,d,p,w',h,l,f,e,rfl,ho,hp,q⟩;refine#[rfl,λEm A outer s hr=>#[_,(jk<|jC<|jp z7 (jn (zI T)<|ja (pv 0)<|ja (pv 1)<|ja (ju jr (pv 2) jg)<|ja (ju jr (pv 2) jg) jf)<|jN<|ja (ju jr (pv 2) jg) jf),?_]];have S:jx K H p _:=jx.of hp;refine#[_,_,S,rfl,_,_,S,rfl,o,dx,c,d,w',h,l,f,(e.1,e.2.1),rfl,ho,λr ED=>?_];have s1:=jm (o:=.tup [.int (gF f w' h (e.1,e.2.1)).1,.int (gF f w' h (e.1,e.2.1)).2]) (Same.refl H) ED;have e1:upd H r (.tup [.int (gF f w' h (e.1,e.2.1)).1,.int (gF f w' h (e.1,e.2.1)).2]) r=_:=jd;generalize upd H r (.tup [.int (gF f w' h (e.1,e.2.1)).1,.int (gF f w' h (e.1,e.2.1)).2])=H1 at s1 e1;refine#[_,_,jx.of<|s1 _ _ hp,rfl,cV,λr2 FC=>?_];have s2:=jm (o:=.tup [.int e.2.2]) (Same.refl H1) FC;refine#[r,r2,_,_,rfl,rfl,jx.of<|s2 _ _ e1,jx.of jd,by simp,(by show 3<=sizeLine;decide),λz=>(by cases z),λ_ p4 IL=>q p4 _ (Same.trans s1<|Same.trans s2<|jm (Same.refl _) IL) (Same.nn s1<|Same.nn s2 IL) jd]
def kF (f:Bool) (w h:Nat) (k:K5):K5:=bif f then ((w:Int) - k.1 - k.2.2.1,k.2.1,k.2.2.1,k.2.2.2.1,k.2.2.2.2) else ((h:Int) - k.2.1 - k.2.2.2.1,k.1,k.2.2.2.1,k.2.2.1,k.2.2.2.2)
def wL (C:Addr):Sp:=λvs H Q _=>Gq λ(o dx c d p:Addr) (w h l:Nat) (f:Bool) (k:K5)=>A4 (vs=[.ref o,.int<|fI f,.ref p]) (H o=some (.ins C dx<|fB w h l c d)) (H p=some (.tup<|GD k)) (∀q,H q=none->Q (.ref q) (upd H q<|.tup<|GD<|kF f w h k))
theorem Dx {j k m:Nat}{u w x y:V}{Q:St->Hp->Prop} (h:Q (((((σ.set i<|some u).set j<|some v).set k<|some w).set l<|some x).set m<|some y) H):vJ (vo i) (vJ (vo j)<|vJ (vo k)<|vJ (vo l)<|vJ (vo m) KY) [u,v,w,x,y] σ H Q:=h
theorem bz (T:Txt K mg t):jS P w K mg base 1 "_law_keep" [FB,IR,YQ] (wL t.jq):=by
 refine T.dk.ok [FB,IR,YQ,W1,XL,YL,"_law_high","_law_z"] ?_;rintro _ H Q E ⟨o,dx,c,d,p,w',h,l,f,k,rfl,ho,hp,q⟩;refine#[rfl,λEm A outer s hr=>#[_,(ji (AA (pv 2)<|zd<|Jn (jw 3)<|Jn (jw 4)<|Jn (jw 5)<|Jn (jw 6)<|Jn (jw 7) Vb)<|ji (j9 (j5 Uz (pv 1) jg) (jk<|jC<|jN<|ja (jp JR (jp JR (jM<|pv 0)<|pv 4)<|pv 6)<|ja (pv 3)<|ja (pv 6)<|ja (pv 5)<|ja (pv 7) jf) jW)<|jk<|jC<|jN<|ja (jp JR (jp JR (jM<|pv 0)<|pv 3)<|pv 5)<|ja (pv 4)<|ja (pv 5)<|ja (pv 6)<|ja (pv 7) jf),?_]];refine#[_,jx.of hp,rfl,Dx ?_];cases f with
 | false=>exact#[rfl,JE #[o,_,dx,_,.int h,rfl,ho,T.jz,T.Ji,rfl,(by show 5<=sizeLine;decide),q]]
 | true=>exact#[rfl,uT #[o,_,dx,_,.int w',rfl,ho,T.jz,T.Jj,rfl,(by show 5<=sizeLine;decide),q]]
structure Gs (w h l:Nat) (k:K5):Prop where
 x:0<=k.1/\k.1+k.2.2.1<=w
 y:0<=k.2.1/\k.2.1+k.2.2.2.1<=h
 w:1<=k.2.2.1
 h:1<=k.2.2.2.1
 z:0<=k.2.2.2.2/\k.2.2.2.2<l
def rg (C:Addr):Sp:=λvs H Q _=>bM λ(o dx c d p r:Addr) (w h l:Nat) (cs ds:jF) (one other:je)=>fA (vs=[.ref o,.ref p,.ref r]) (Bd C H o dx c d w h l cs ds) (l<=3) (cs.length<=900) (H p=some (.tup<|t3 one)) (H r=some (.tup<|t3 other)) (Ue cs w h l one=true) (Ue cs w h l other=true) (¬Jr (jJ cs ds w h l) other one->∀H',Same H H'->Q .non H') (∀(n:Nat) (H':Hp),Same H H'->fE (jJ cs ds w h l) other one n->Q (.int ((n+1:Nat):Int)) H')
theorem MQ (T:Txt K mg t):jS P w K mg base 8 "_law_length" [FB,WF,WP] (rg t.jq):=by
 refine T.ny.ok [FB,WF,WP,YT] ?_;rintro _ H Q E ⟨o,dx,c,d,p,r,w,h,l,cs,ds,one,other,rfl,B,l3,lc,hp,ED,h1,h2,q0,q1⟩;refine#[rfl,λEm A outer s hr=>#[_,(ji (jv 3<|jn (t6 T)<|ja (pv 0)<|ja (pv 1)<|ja (pv 2) jf) (ji (j9 (uw<|lT<|pv 3) (jk<|jC zb) jW) (jk (jC (jU Js (by rfl) T.vO vG<|ja (pv 3) jf))))),?_]];refine#[o,dx,c,d,p,r,w,h,l,cs,ds,one,other,rfl,B,l3,lc,hp,ED,h1,h2,λnr H1 s1=>(q0 nr H1 s1),λD bs n H1 s1 hD eD dn ln=>#[D,_,rfl,.inl<|jt.of eD,?_]];rw[yb,ln];exact q1 n H1 s1 dn
theorem uK.snoc {p:Addr}{k:K5} (C:uK H ps ks) (hp:H p=some (.tup<|GD k)):uK H (ps++[p]) (ks++[k]):=by
 have l:=C.len;refine#[by rw[ye,yb,ye,l];rfl,λi q xs h1 h2=>?_];rw[yk] at h2;by_cases hi:i<ps.length
 ·rw[yn hi] at h1;rw[yn (by rw[yb,<-l];exact hi)] at h2;exact C.2 i q xs h1 h2
 ·rw[yl (by lia)] at h1;rw[yl (by rw[yb,<-l];lia),yb,<-l] at h2;have:i - ps.length=0:=by
   cases hh:i - ps.length with
   | zero=>rfl
   | succ n=>rw[hh] at h1;cases h1
  rw[this] at h1 h2;cases h1;cases h2;exact hp
def re (K:DS) (C:Addr):Sp:=λvs H Q _=>E9 λ(a o dx c d:Addr) (w h l:Nat) (sc:List Int)=>A5 (vs=[.ref a,.ref o]) (jt K H a<|sc.map V.int) (H o=some (.ins C dx<|fB w h l c d)) (zP w h l) (∀D ps ks H',Same H H'->H D=none->H' D=some (.lst<|ps.map V.ref)->uK H' ps ks->(∀k∈ks,Gs w h l k)->ks.length<=2->Q (.ref D) H')
theorem NW (T:Txt K mg t):jS P w K mg base 2 "_law_keeps" [IO,FB] (re K t.jq):=by
 refine T.aL.ok [IO,FB,YT,T0,PP,W1,XL,YL,"_law_high"] ?_;rintro _ H Q E ⟨a,o,dx,c,d,w',h,l,sc,rfl,ha,ho,Z,q⟩;refine#[rfl,λEm A outer s hr=>#[_,(ji (jv 2<|JL jf)<|ji (j7 jO (uE rfl T.uX<|ja (jp j6 (jp Je (jn (uI T)<|ja (pv 0)<|ja jg jf) jg) jg) jf) (jw 3)<|ji (jv 4<|jn (uI T)<|ja (pv 0)<|ja (jp Jc jg<|pv 3) jf)<|ji (jv 5<|jp j6 (pv 4)<|jM<|pv 1)<|ji (jv 6<|jp j6 (jp Je (pv 4) jg)<|jM<|pv 1)<|ji (jv 7<|jp Jc jg<|jp j6 (jp Je (pv 4) jg)<|jp JR (jM<|pv 1)<|pv 5)<|ji (jv 8<|jp Jc jg<|jp j6 (jp Je (pv 4) jg)<|jp JR (jM<|pv 1)<|pv 6)<|jk<|jQ<|UA Yc Yj Yh Uq (pv 2)<|ja (jN<|ja (pv 5)<|ja (pv 6)<|ja (pv 7)<|ja (pv 8)<|ja (jp j6 (jp Je (pv 4) jg)<|jM<|pv 1) jf) jf)<|jk<|jC<|pv 2),?_]];refine uF (λ(D)=>[oR a,oR o,oR D,none,none,none,none,none,none]) (λD H'=>A3 _ _<|H' D=some _) (λB hB=>#[cU,λD hD=>hB D _ #[jm (Same.refl H) hD,hD,jd]]) ?_;rintro D H1 ⟨s1,hD,eD⟩;refine DF (λ(v3 v4 v5 v6 v7 v8:Option V)=>[oR a,oR o,oR D,v3,v4,v5,v6,v7,v8]) (λ_ _ _ _ _ _ H'=>E2 λ(ps) (ks)=>A5 (Same H H') (H' D=some (.lst<|ps.map V.ref)) (uK H' ps ks) (∀k∈ks,Gs w' h l k)<|ks.length<=2) (λB hB=>?_) ?_
 ·refine#[a,sc,3,rfl,uO s1 ha,by decide,λc3=>#[#[by decide,by decide],(by show (0)<3;decide),?_]];have hm:(c3 / 18 % 3).toNat<=2:=by lia
  refine#[_,rfl,by lia,by lia,Uo (λk σ H'=>E8 λ(v3 v4 v5 v6 v7 v8:Option V) (ps) (ks)=>A6 (σ=[oR a,oR o,oR D,v3,v4,v5,v6,v7,v8]) (Same H H') (H' D=some (.lst<|ps.map V.ref)) (uK H' ps ks) (∀k∈ks,Gs w' h l k)<|ks.length<=k) #[_,_,_,_,_,_,[],[],rfl,s1,eD,#[rfl,λi p xs h=>nomatch h],(λk h=>nomatch h),yh _] ?_ ?_]
  ·rintro k σ H2 hk ⟨v3,v4,v5,v6,v7,v8,ps,ks,rfl,s2,e2,kp,ki,lk⟩;have z1:=Z.w;have z2:=Z.h;have z3:=Z.l;refine#[a,sc,_,rfl,uO s2 ha,(by lia),λc4=>?_];have eo:=s2 _ _ ho;have x0:=Qj c4 (show (w':Int)≠0 by lia);have x1:=Qe c4 (show (0:Int)<w' by lia);have y0:=Qj (c4 / 12) (show (h:Int)≠0 by lia);have y1:=Qe (c4 / 12) (show (0:Int)<h by lia);refine#[o,_,dx,_,_,rfl,eo,T.jz,T.Jj,rfl,by lia,?_];refine#[#[by decide,by decide],o,_,dx,_,_,rfl,eo,T.jz,T.Ji,rfl,by lia,?_];dsimp only;generalize c4 % (w')=x at x0 x1;generalize c4 / 12 % (h)=y at y0 y1;have w0:=Qj (c4 / 144) (show (w') - x≠0 by lia);have w1:=Qe (c4 / 144) (show (0)<w' - x by lia);have h0:=Qj (c4 / 1728) (show (h) - y≠0 by lia);have h1:=Qe (c4 / 1728) (show (0)<h - y by lia);have l0:=Qj (c4 / 20736) (show (l:Int)≠0 by lia);have l1:=Qe (c4 / 20736) (show (0:Int)<l by lia);refine#[#[by decide,by decide],o,_,dx,_,_,rfl,eo,T.jz,T.Jj,rfl,by lia,?_];refine#[#[by decide,by decide],o,_,dx,_,_,rfl,eo,T.jz,T.Ji,rfl,by lia,?_];dsimp only;generalize c4 / 144 % ((w') - x)=wd at w0 w1;generalize c4 / 1728 % ((h) - y)=hg at h0 h1;refine#[.inl #[rfl,_,jt.of e2],#[by decide,by decide],o,_,dx,_,_,rfl,eo,T.jz,T.JA,rfl,by lia,(by show 5<=sizeLine;decide),λr ED=>?_];dsimp only;generalize c4 / 20736 % (l)=z at l0 l1;have s3:=jm (o:=.tup<|GD (x,y,1+wd,1+hg,z)) (Same.refl H2) ED;have e3:upd H2 r (.tup<|GD (x,y,1+wd,1+hg,z)) r=_:=jd;have F':=s3 _ _ e2;refine#[D,_,_,rfl,rfl,F',?_,_,_,_,_,_,_,ps++[r],ks++[(x,y,1+wd,1+hg,z)],rfl,λb u e=>?_,by rw[jd,yk];rfl,?_,λk hk=>?_,by rw[ye];exact Qb lk]
   ·rw[yb,kp.len];exact yP (show _<=100 by lia) (by decide)
   ·rw[jj<|jh e hD];exact s3 _ _ (s2 _ _ e)
   ·have k3:=(kp.same s3).snoc e3;exact#[k3.1,λi p xs h1 h2=>by
     have:=k3.2 i p xs h1 h2;rw[jj<|jA this F'];exact this]
   ·rcases yj.mp hk with hk|hk
    ·exact ki k hk
    ·rw[yi.mp hk];exact#[#[x0,by lia],#[y0,by lia],by lia,by lia,l0,l1]
  ·rintro σ H2 ⟨v3,v4,v5,v6,v7,v8,ps,ks,rfl,s2,e2,kp,ki,lk⟩;exact hB _ _ _ _ _ _ _ #[ps,ks,s2,e2,kp,ki,by lia]
 rintro v3 v4 v5 v6 v7 v8 H2 ⟨ps,ks,s2,e2,kp,ki,lk⟩;exact q D ps ks H2 s2 hD e2 kp ki lk
def wO (K:DS) (C:Addr):Sp:=λvs H Q _=>w6 λ(o dx c d o2 Et c2 d2 a:Addr) (w h l:Nat) (f:Bool) (cs ds En Eo:jF) (sc:List Int)=>A8 (vs=[.ref o,.ref o2,.int<|fI f,.ref a]) (Bd C H o dx c d w h l cs ds) (Bd C H o2 Et c2 d2 (wF f w h) (hF f w h) l En Eo) (bP (gF f w h) cs ds En Eo) (l<=3) (cs.length<=900) (jt K H a<|sc.map V.int) (∀H',Same H H'->Q (.bl true) H')
theorem NX (T:Txt K mg t):jS P w K mg base 9 "_law_walks" [FB,WP,IR,IO] (wO K t.jq):=by
 refine T.aN.ok [FB,WP,IR,IO,"_law_cells",T0,WF,YE,"_law_due"] ?_;rintro _ H Q E ⟨o,dx,c,d,o2,Et,c2,d2,a,w',h,l,f,cs,ds,En,Eo,sc,rfl,B,B2,Ld,l3,lc,ha,q⟩;refine#[rfl,λEm A outer s hr=>#[_,(ji (jv 4<|uk (g6<|Ul T)<|pv 0) (ji (j7 jO (uE rfl T.uX (ja (jp U5 jg (zB fX (by rfl) T.rZ rM<|ja (vy (lQ hr.units0) (pv 4)<|JL jf) jf)) jf)) (jw 5) (ji (jv 6 (ju uW (pv 4) (jp j6 (jn (uI T)<|ja (pv 3)<|ja (jp Jc jg<|pv 5) jf) (jU Js (by rfl) T.vO vG<|ja (pv 4) jf)))) (ji (jv 7 (ju uW (pv 4) (jp j6 (jn (uI T)<|ja (pv 3)<|ja (jp Jc jg<|pv 5) jf) (jU Js (by rfl) T.vO vG<|ja (pv 4) jf))))<|ji (jv 8<|jn (MQ T)<|ja (pv 0)<|ja (pv 6)<|ja (pv 7) jf)<|jk<|j9 (j5 Ks (jn (MQ T)<|ja (pv 1)<|ja (jn (Vf T)<|ja (pv 0)<|ja (pv 2)<|ja (pv 6) jf)<|ja (jn (Vf T)<|ja (pv 0)<|ja (pv 2)<|ja (pv 7) jf) jf)<|pv 8) (jk<|jC VE) jW)))<|jk<|jC VE)),?_]];refine gE (λ(r) (cells:List je)=>[oR o,oR o2,some<|.int<|fI f,oR a,oR r,none,none,none,none]) (λr cells H'=>∃bs:List Addr,Same H H'/\H' r=some (.lst<|bs.map V.ref)/\jy H' bs cells/\CL cs w' h l cells) (λB' hB=>?_) ?_
 ·refine#[o,dx,_,rfl,B.o,rfl,o,dx,c,d,w',h,l,cs,rfl,B.o,B.c,B.C.sds,λr bs ks ED ka pm up=>?_];obtain⟨cells,rfl,L,_⟩:=CL.of B.C pm up;have s1:=jm (o:=.lst<|bs.map V.ref) (Same.refl H) ED;exact hB r cells _ #[bs,s1,jd,(jy.of_key ka).same s1,L]
 rintro r cells H1 ⟨bs,s1,er,Ce,L⟩;have Tw:uL f w' h l cs ds En Eo:=#[B.C,B.D,B2.C,B2.D,Ld];have I:=Tw.iso;have lce:=L.len B.C;refine GN (λ(v5 v6 v7 v8)=>[oR o,oR o2,some<|.int<|fI f,oR a,oR r,v5,v6,v7,v8]) (λ_ _ _ _ H'=>Same H H') (λB' hB=>?_) ?_
 ·refine#[cU,λe0 he0=>?_];refine VL he0 λH2 s2 ee0=>?_;have EY:=Same.trans s1 s2;refine#[r,e0,_,rfl,rfl,jt.of<|s2 _ _ er,jt.of ee0,.inr #[_,rfl,.inl #[by decide,by decide],?_]]
  obtain⟨m,hm,hm3,hmc⟩:∃m:Int,m=3*(if (!(bs.map V.ref).isEmpty)=true then 1 else 0)/\(0<=m/\m<=3)/\(0<m->0<cells.length):=#[_,rfl,by split<;>lia,λhp=>by
   rw[<-Ce.1];cases bs with
   | nil=>cases hp
   | cons _ _=>exact Qf _]
  refine#[m,congrArg (λv=>[V.int v]) hm.symm,by lia,by lia,Uo (λk σ H'=>∃(v5 v6 v7 v8:Option V),σ=[oR o,oR o2,some _,oR a,oR r,v5,v6,v7,v8]/\Same H1 H') #[_,_,_,_,rfl,s2] ?_ ?_]
  ·rintro k σ H3 hk ⟨v5,v6,v7,v8,rfl,s3⟩;have pos:=hmc (by lia);have FT:=Same.trans s1 s3;have F₁:=uO FT ha;have Iq:=s3 _ _ er;have lb:(bs.map V.ref).length=cells.length:=by rw[yb,Ce.1]
   have pick:∀c4:Int,∃(i:Nat) (p:Addr) (e:je),((i)=c4 % ((bs.map V.ref).length))/\bs[i]?=some p/\cells[i]?=some e:=λc4=>by
    have h0:=Qj c4 (show (cells.length:Int)≠0 by lia);have h1:=Qe c4 (show (0:Int)<cells.length by lia);have hi:(c4 % (cells.length)).toNat<cells.length:=by lia
    exact#[_,_,_,by lia,yc (by rw[Ce.1];exact hi),yc hi]
   refine#[a,sc,_,rfl,F₁,(by lia),λc4=>#[r,_,rfl,.inl<|jt.of Iq,by lia,?_]];obtain⟨i,p1,e1,hi,FZ,OQ⟩:=pick c4;refine#[_,_,jt.of Iq,(congrArg _ hi.symm).trans (UI (by rw[yo,FZ];rfl)),?_];refine#[a,sc,_,rfl,F₁,(by lia),λc5=>#[r,_,rfl,.inl<|jt.of Iq,by lia,?_]];obtain⟨j,p2,e2,hj,Fe,Le⟩:=pick c5;refine#[_,_,jt.of Iq,(congrArg _ hj.symm).trans (UI (by rw[yo,Fe];rfl)),?_];have q1:=s3 _ _<|Ce.2 i p1 e1 FZ OQ;have q2:=s3 _ _<|Ce.2 j p2 e2 Fe Le;have m1:=(L.mem e1).mp<|yp OQ;have m2:=(L.mem e2).mp<|yp Le;refine JV ?_;dsimp only;refine uF (λ(v)=>[oR o,oR o2,some _,oR a,oR r,some _,oR p1,oR p2,some v]) (λv H'=>Same H3 H'/\((v=.non/\¬Jr _ e2 e1)\/∃n:Nat,v=.int ((n+1:Nat))/\fE _ e2 e1 n)) (λB'' F₂=>#[o,dx,c,d,p1,p2,w',h,l,cs,ds,e1,e2,rfl,B.same FT,l3,lc,q1,q2,m1,m2,λnr H4 s4=>F₂ _ _ #[s4,.inl #[rfl,nr]],λn H4 s4 dn=>F₂ _ _ #[s4,.inr #[n,rfl,dn]]]) ?_;rintro v H4 ⟨s4,hv⟩;have Fi:=Same.trans FT s4;refine#[o,dx,c,d,p1,w',h,l,f,e1,rfl,Fi _ _ B.o,s4 _ _ q1,λp3 H5 s5 Hx g3=>#[o,dx,c,d,p2,w',h,l,f,e2,rfl,s5 _ _<|Fi _ _ B.o,s5 _ _<|s4 _ _ q2,λp4 H6 s6 IL g4=>?_]];have s06:=Same.trans Fi<|Same.trans s5 s6;refine#[o2,Et,c2,d2,p3,p4,_,_,l,En,Eo,_,_,rfl,B2.same s06,l3,ym Ld.lc lc,s6 _ _ g3,g4,by rw[Tw.cu];exact m1,by rw[Tw.cu];exact m2,λnr H7 s7=>?_,λn H7 s7 dn=>?_]
   ·refine ?_;rcases hv with ⟨rfl,_⟩|⟨n,rfl,dn⟩
    ·exact#[rfl,JP (λz=>absurd rfl<|of_decide_eq_false z) λ_=>#[_,_,_,_,rfl,Same.trans (Same.trans s3 s4)<|Same.trans s5<|Same.trans s6 s7]]
    ·exact absurd (I.rch.mp dn.way.rch) nr
   ·refine ?_;rcases hv with ⟨rfl,nr⟩|⟨m,rfl,dm⟩
    ·exact absurd (I.rch.mpr dn.way.rch) nr
    ·exact#[rfl,JP (λz=>absurd (by rw[I.dst dm dn])<|of_decide_eq_false z) λ_=>#[_,_,_,_,rfl,Same.trans (Same.trans s3 s4)<|Same.trans s5<|Same.trans s6 s7]]
  ·rintro σ H3 ⟨v5,v6,v7,v8,rfl,s3⟩;exact hB _ _ _ _ _ (Same.trans s1 s3)
 intro v5 v6 v7 v8 H2 s2;exact q H2 s2
theorem ae {kv:List Key×V} (h:kv∈jZ cs k v):kv∈cs\/kv=(k,v):=by
 unfold jZ at h
 split at h
 ·obtain⟨x,hx,rfl⟩:=yf.mp h;split
  ·rename_i e2;exact .inr (by rw[e2])
  ·exact .inl hx
 ·rcases yj.mp h with h|h
  ·exact .inl h
  ·exact .inr (yi.mp h)
theorem wn (n:(cs.map (·.1)).Nodup):((jZ cs k v).map (·.1)).Nodup:=by
 cases e:jD cs k with
 | none =>
  rw[U8 _ e,yk];refine Qw.mpr #[n,by simp,λa ha b hb z=>?_];rw[yR,aaK,yi] at hb;have:=UK.mpr<|z▸ha;rw[hb,e] at this;cases this
 | some u =>
  have:(jZ cs k v).map (·.1)=cs.map (·.1):=by
   unfold jZ;rw[if_pos (by rw[Ud,e];rfl),yS];refine Qx λx _=>?_;show (if x.1=k then (x.1,v) else x).1=x.1
   split<;>rfl
  rw[this];exact n
theorem gV {k':List Key} (h:(jD cs k').isSome=true):(jD (jZ cs k v) k').isSome=true:=by
 rw[uP];split
 ·rfl
 ·exact h
def Pz (n:Option Int):Prop:=∀m,n=some m->0<m
structure PT (pt:jF) (w h l:Nat):Prop where
 key:∀kv∈pt,(∃p:Int×Int,kv.1=k2 p/\(jH p.1 w&&jH p.2 h)=true)\/∃c:je,kv.1=k3 c/\uM w h l c=true
 val:∀kv∈pt,∃n:Option Int,kv.2=vQ n/\Pz n
 nd:(pt.map (·.1)).Nodup
theorem PT.put {pt:jF}{w:Nat} (T:PT pt w h l) {n:Option Int} (hk:(∃p:Int×Int,k=k2 p/\(jH p.1 w&&jH p.2 h)=true)\/∃c:je,k=k3 c/\uM w h l c=true) (hn:Pz n):PT (jZ pt k<|vQ n) w h l :=
 #[λkv h=>by
  rcases ae h with h|rfl
  ·exact T.key kv h
  ·exact hk,λkv h=>by
  rcases ae h with h|rfl
  ·exact T.val kv h
  ·exact#[n,rfl,hn],wn T.nd]
def JX (pt:jF) (l x y:Nat):Prop:=(jD pt<|k2 (x,y)).isSome=true/\∀z:Nat,z<l->(jD pt<|k3 (x,y,z)).isSome=true
theorem JX.put {pt:jF}{x:Nat} (C:JX pt l x y) (k:List Key) (v:V):JX (jZ pt k v) l x y:=#[gV C.1,λz h=>gV<|C.2 z h]
theorem BI (d:Int):∃n:Option Int,vF [.non,.int 1,.int 2,.int 3,.int 1] (d % 5)=some (vQ n)/\Pz n:=by
 have h0:=Qj d (show (5)≠0 by decide);have h1:=Qe d (show (0)<5 by decide);obtain h|h|h|h|h:d % 5=0\/d % 5=1\/d % 5=2\/d % 5=3\/d % 5=4:=by lia
 ·exact#[none,by rw[h];rfl,λm e=>nomatch e]
 all_goals exact#[some _,by rw[h];rfl,λm e=>by cases e;decide]
theorem sh (d:Int):∃n:Option Int,vF [.non,.int 1,.int 2,.int 3] (d % 4)=some (vQ n)/\Pz n:=by
 have h0:=Qj d (show (4)≠0 by decide);have h1:=Qe d (show (0)<4 by decide);obtain h|h|h|h:d % 4=0\/d % 4=1\/d % 4=2\/d % 4=3:=by lia
 ·exact#[none,by rw[h];rfl,λm e=>nomatch e]
 all_goals exact#[some _,by rw[h];rfl,λm e=>by cases e;decide]
def rn (K:DS) (C:Addr):Sp:=λvs H Q _=>E9 λ(o dx c d a:Addr) (w h l:Nat) (sc:List Int)=>A5 (vs=[.ref o,.ref a]) (jt K H a<|sc.map V.int) (H o=some (.ins C dx<|fB w h l c d)) (zP w h l) (∀D pt H',Same H H'->H D=none->H' D=some (.dT pt)->PT pt w h l->(∀x y,x<w->y<h->JX pt l x y)->pt.length<=576->Q (.ref D) H')
theorem MR (T:Txt K mg t):jS P w K mg base 2 "_law_prices" [FB,IO] (rn K t.jq):=by
 refine T.nA.ok [FB,IO,YT,PP,"_law_change",W1,XL,"_law_draw","_law_z"] ?_;rintro _ H Q E ⟨o,dx,c,d,a,w',h,l,sc,rfl,ha,ho,Z,q⟩;refine#[rfl,λEm A outer s hr=>#[_,(ji (jv 2 Uc)<|ji (jv 3<|jn (uI T)<|ja (pv 1)<|ja jg jf)<|ji (jv 4<|jn (uI T)<|ja (pv 1)<|ja jg jf)<|ji (j7 jO (uE rfl T.uX<|ja (jM<|pv 0) jf) (jw 5)<|jk<|j7 jO (uE rfl T.uX<|ja (jM<|pv 0) jf) (jw 6)<|ji (jv 7<|jp Je (jn (gB T)<|ja (pv 4)<|ja (jp Jc (jp U5 jg<|pv 5)<|pv 6) jf) jg)<|ji (uJ (pv 2) (jN<|ja (pv 5)<|ja (pv 6) jf)<|ju uW (JL<|ja zb<|ja jg<|ja jg<|ja jg<|ja jg jf)<|jp j6 (pv 7) jg)<|jk<|j7 jO (uE rfl T.uX<|ja (jM<|pv 0) jf) (jw 8)<|jk<|j9 (j5 Uz (pv 3) jg) (jk<|uJ (pv 2) (jN<|ja (pv 5)<|ja (pv 6)<|ja (pv 8) jf)<|ju uW (JL<|ja zb<|ja jg<|ja jg<|ja jg jf)<|jp j6 (jp Je (pv 7)<|jp Jc jg<|jp U5 jg<|pv 8) jg)<|ji (uJ (pv 2) (jN<|ja (pv 5)<|ja (pv 6)<|ja (pv 8) jf)<|ju uW (JL<|ja zb<|ja jg<|ja jg<|ja jg jf)<|jp j6 (pv 3) jg)<|jk<|jv 3<|jp Je (pv 3) jg)<|jk<|jC<|pv 2),?_]];refine uF (λ(D)=>[oR o,oR a,oR D,none,none,none,none,none,none]) (λD H'=>A3 _ _<|H' D=some _) (λB hB=>λD hD=>hB D _ #[jm (Same.refl H) hD,hD,jd]) ?_;rintro D H1 ⟨s1,hD,eD⟩;refine uF (λ(c3)=>[oR o,oR a,oR D,some _,none,none,none,none,none]) (λ_ H'=>H'=H1) (λB hB=>#[a,sc,12,rfl,uO s1 ha,by decide,λc3=>hB c3 _ rfl]) ?_;rintro c3 H1 rfl;refine uF (λ(c4)=>[oR o,oR a,oR D,some _,some _,none,none,none,none]) (λ_ H'=>H'=H1) (λB hB=>#[a,sc,13,rfl,uO s1 ha,by decide,λc4=>hB c4 _ rfl]) ?_;rintro c4 H1 rfl;have z1:=Z.w;have z2:=Z.h;have z3:=Z.l;refine DE (λ(c3) (v5 v6 v7 v8)=>[oR o,oR a,oR D,some<|.int c3,some<|.int c4,v5,v6,v7,v8]) (λ_ _ _ _ _ H'=>∃pt:jF,A5 (Same H H') (H' D=some (.dT pt)) (PT pt w' h l) (∀x y,x<w'->y<h->JX pt l x y)<|pt.length<=576) (λB hB=>?_) ?_
 ·refine#[o,_,dx,_,_,rfl,s1 _ _ ho,T.jz,T.Jj,rfl,_,rfl,by lia,by lia,Uo (λX σ H'=>E6 λ(c3) (v5 v6 v7 v8) (pt:jF)=>A6 (σ=[oR o,oR a,oR D,some<|.int c3,some _,v5,v6,v7,v8]) (Same H H') (H' D=some (.dT pt)) (PT pt w' h l) (∀x y,x<X->y<h->JX pt l x y)<|pt.length<=X*48) #[c3,_,_,_,_,_,rfl,s1,eD,#[(λkv h=>nomatch h),(λkv h=>nomatch h),YX],(λx y h=>absurd h<|Qt _),yL _] ?_ ?_]
  ·rintro X σ H2 hX ⟨c3,v5,v6,v7,v8,pt,rfl,s2,e2,T2,C2,l2⟩;rw[yY] at hX;refine#[o,_,dx,_,_,rfl,s2 _ _ ho,T.jz,T.Ji,rfl,_,rfl,by lia,by lia,Uo (λY σ H'=>E5 λ(c3) (v6 v7 v8) (pt:jF)=>A7 (σ=[oR o,oR a,oR D,some<|.int c3,some _,some _,v6,v7,v8]) (Same H H') (H' D=some (.dT pt)) (PT pt w' h l) (∀x y,x<X->y<h->JX pt l x y) (∀y,y<Y->JX pt l X y)<|pt.length<=X*48+Y*4) #[c3,_,_,_,pt,by rw[aaw];rfl,s2,e2,T2,C2,(λy h=>absurd h<|Qt _),l2] ?_ ?_]
   ·rintro Y σ H3 hY ⟨c3,v6,v7,v8,pt,rfl,s3,e3,T3,C3,D3,l3⟩;rw[yY] at hY;rw[aaw];have Xz:(jH (X) w'&&jH (Y) h)=true:=by rw[uH hX,uH hY];rfl
    refine JV ?_;dsimp only;refine uF (λ(dr:Int)=>[oR o,oR a,oR D,some<|.int c3,some<|.int c4,some<|.int _,some<|.int _,some _,v8]) (λ_ H'=>H'=H3) (λB' EB=>#[.inl #[by decide,by decide],c4,_,rfl,λm _ _=>#[#[by decide,by decide],EB _ _ rfl]]) ?_;rintro dr H3 rfl;refine uF (λ(_:Unit)=>[oR o,oR a,oR D,some<|.int c3,some<|.int c4,some<|.int<|X,some<|.int<|Y,some<|.int dr,v8]) (λ_ H'=>∃pt:jF,A7 (Same H H') (H' D=some (.dT pt)) (PT pt w' h l) (∀x y,x<X->y<h->JX pt l x y) (∀y,y<Y->JX pt l X y) ((jD pt<|k2 (X,Y)).isSome=true)<|pt.length<=X*48+Y*4+1) (λB' EB=>?_) ?_
    ·refine#[(by decide),λls HM=>?_];have s4:=jm (o:=.lst [.non,.int 1,.int 2,.int 3,.int 1]) (Same.refl H3) HM;have e4:upd H3 ls (.lst [.non,.int 1,.int 2,.int 3,.int 1]) ls=_:=jd;generalize upd H3 ls (.lst [.non,.int 1,.int 2,.int 3,.int 1])=H4 at s4 e4;obtain⟨n,hn,pn⟩:=BI dr;refine#[(by show (0)<5;decide),_,_,jt.of e4,hn,Vy,λkp OR=>?_];have s5:=jm (o:=.tup [.int (X:Int),.int (Y:Int)]) (Same.refl H4) OR;have e5:upd H4 kp (.tup [.int (X:Int),.int (Y:Int)]) kp=_:=jd;generalize upd H4 kp (.tup [.int (X:Int),.int (Y:Int)])=H5 at s5 e5;have IQ:=Same.trans s4 s5;refine#[D,_,rfl,UL.t (k:=k2 ((X),(Y))) (IQ _ _ e3) e5 (yP (show _<=1000 by lia) (by decide)),EB () _ #[_,λb u e=>?_,jd,T3.put (.inl #[_,rfl,Xz]) pn,λx y h1 h2=>(C3 x y h1 h2).put _ _,λy h1=>(D3 y h1).put _ _,by rw[uP,if_pos rfl];rfl,?_]]
     ·rw[jj<|jh e hD];exact IQ _ _ (s3 _ _ e)
     ·have:=J2 pt (k2 (X,Y)) (vQ n)
      lia
    rintro⟨⟩ H4 ⟨pt,s4,e4,T4,C4,D4,h4,l4⟩;refine#[o,_,dx,_,_,rfl,s4 _ _ ho,T.jz,T.JA,rfl,_,rfl,by lia,by lia,Uo (λz σ H'=>E3 λ(c3) (v8) (pt:jF)=>A9 (σ=[oR o,oR a,oR D,some<|.int c3,some _,some _,some _,some _,v8]) (Same H H') (H' D=some (.dT pt)) (PT pt w' h l) (∀x y,x<X->y<h->JX pt l x y) (∀y,y<Y->JX pt l X y) ((jD pt _).isSome=true) (∀z',z'<z->(jD pt<|k3 (X,Y,(z'))).isSome=true)<|pt.length<=X*48+Y*4+1+z) #[c3,_,pt,rfl,s4,e4,T4,C4,D4,h4,(λz h=>absurd h<|Qt _),l4] ?_ ?_]
    ·rintro z σ H5 hz ⟨c3,v8,pt,rfl,s5,e5,T5,C5,D5,h5,g5,l5⟩;rw[yY] at hz;rw[aaw];have onZ:uM w' h l ((X),(Y),(z))=true:=by show (jH _ _&&jH _ _&&jH _ _)=true;rw[uH hX,uH hY,uH hz];rfl
     have put:∀(H6:Hp) (n:Option Int),Same H5 H6->Pz n->∀kp,H6 kp=some (.tup [.int<|X,.int<|Y,.int<|z])->∀{R:Hp->Prop},(∀H7,Same H H7->(∃pt:jF,H7 D=some (.dT pt)/\PT pt w' h l/\(∀x y,x<X->y<h->JX pt l x y)/\(∀y,y<Y->JX pt l X y)/\(jD pt _).isSome=true/\(∀z',z'<z+1->(jD pt<|k3 (X,Y,(z'))).isSome=true)/\pt.length<=X*48+Y*4+1+(z+1))->R H7)->R (upd H6 D _):=λH6 n s6 pn kp ekp R k=>k _ (λb u e=>jB (jh e hD)<|s6 _ _<|s5 _ _ e) #[_,jd,T5.put (.inr #[_,rfl,onZ]) pn,λx y h1 h2=>(C5 x y h1 h2).put _ _,λy h1=>(D5 y h1).put _ _,gV h5,λz' h1=>by
       by_cases e:z'=z
       ·rw[e,uP,if_pos rfl];rfl
       ·exact gV (g5 z' (by lia)),by have:=J2 pt (k3 (X,Y,z))<|vQ n;lia]
     have lt:pt.length<1000000:=by lia
     refine#[rfl,Jw (λ_=>?_) λ_=>?_]
     ·refine#[(by decide),λls HM=>?_];have s6:=jm (o:=.lst [.non,.int 1,.int 2,.int 3]) (Same.refl H5) HM;have e6:upd H5 ls (.lst [.non,.int 1,.int 2,.int 3]) ls=_:=jd;generalize upd H5 ls (.lst [.non,.int 1,.int 2,.int 3])=H6 at s6 e6;obtain⟨n,hn,pn⟩:=sh<|dr / (5+4*(z));refine#[.inl #[by decide,by decide],#[by lia,by lia],(by show (0)<4;decide),_,_,jt.of e6,hn,Za,λkp OR=>?_];have s7:=jm (o:=.tup [.int (X:Int),.int (Y:Int),.int (z:Int)]) (Same.refl H6) OR;refine#[D,_,rfl,UL.t (s7 _ _<|s6 _ _ e5) jd (yP (show _<=1000 by lia) (by decide)),put _ n (Same.trans s6 s7) pn kp jd λH7 XA h7=>?_];obtain⟨XB,h7⟩:=h7;exact#[c3,_,XB,rfl,XA,h7.1,h7.2.1,h7.2.2.1,h7.2.2.2.1,h7.2.2.2.2.1,h7.2.2.2.2.2.1,h7.2.2.2.2.2.2]
     ·refine#[(by decide),λls HM=>?_];have s6:=jm (o:=.lst [.non,.int 1,.int 2,.int 3]) (Same.refl H5) HM;have e6:upd H5 ls (.lst [.non,.int 1,.int 2,.int 3]) ls=_:=jd;generalize upd H5 ls (.lst [.non,.int 1,.int 2,.int 3])=H6 at s6 e6;obtain⟨n,hn,pn⟩:=sh c3;refine#[(by show (0)<4;decide),_,_,jt.of e6,hn,Za,λkp OR=>?_];have s7:=jm (o:=.tup [.int (X:Int),.int (Y:Int),.int (z:Int)]) (Same.refl H6) OR;refine#[D,_,rfl,UL.t (s7 _ _<|s6 _ _ e5) jd (yP (show _<=1000 by lia) (by decide)),put _ n (Same.trans s6 s7) pn kp jd λH7 XA h7=>?_];obtain⟨XB,h7⟩:=h7;exact#[#[by decide,by decide],_,_,XB,rfl,XA,h7.1,h7.2.1,h7.2.2.1,h7.2.2.2.1,h7.2.2.2.2.1,h7.2.2.2.2.2.1,h7.2.2.2.2.2.2]
    ·rintro σ H5 ⟨c3,v8,pt,rfl,s5,e5,T5,C5,D5,h5,g5,l5⟩;rw[yY] at g5 l5;refine#[c3,_,_,_,pt,rfl,s5,e5,T5,C5,λy hy=>?_,by lia];by_cases e:y=Y
     ·rw[e];exact#[h5,g5]
     ·exact D5 y (by lia)
   ·rintro σ H3 ⟨c3,v6,v7,v8,pt,rfl,s3,e3,T3,C3,D3,l3⟩;rw[yY] at D3 l3;refine#[c3,_,_,_,_,pt,rfl,s3,e3,T3,λx y hx hy=>?_,by lia];by_cases e:x=X
    ·rw[e];exact D3 y hy
    ·exact C3 x y (by lia) hy
  ·rintro σ H2 ⟨c3,v5,v6,v7,v8,pt,rfl,s2,e2,T2,C2,l2⟩;rw[yY] at C2 l2;exact hB _ _ _ _ _ _ #[pt,s2,e2,T2,C2,by lia]
 rintro c3 v5 v6 v7 v8 H2 ⟨pt,s2,e2,T2,C2,l2⟩;exact q D pt H2 s2 hD e2 T2 C2 l2
def uv (st:Stmt) (i:Nat):Arguments×List Stmt×Scope×Pos:=match (Jo st).getD i (.Pass #[0,0,0,0]) with
 | .FunctionDef _ a b _ _ _ sc _ _ p=>(a,b,sc,p)
 | _=>({ posonlyargs:=[],args:=[],vararg:=none,kwonlyargs:=[],kw_defaults:=[],kwarg:=none,defaults:=[] },[],{ kind:=.function,names:=[],isGenerator:=false,isCoroutine:=false },#[0,0,0,0])
abbrev qP:Str:=YJ++YS++YN
abbrev qQ:Str:=YJ++YS++YO
abbrev hO (a:Addr):List (Str×Addr):=[(YC,a)]
def zi (pt:jF) (k:List Key):Option Int:=match jD pt k with|some (.int n)=>some n|_=>none
def ul (pt:jF) (w h l:Nat):Uh:=#[w,h,l,λc=>zi pt<|k3 c,λx y=>zi pt<|k2 (x,y)]
structure nU (pt:jF) (w h l:Nat):Prop where
 T:PT pt w h l
 c2:∀p:Int×Int,(jH p.1 w&&jH p.2 h)=true->(jD pt<|k2 p).isSome=true
 c3:∀c:je,uM w h l c=true->(jD pt<|k3 c).isSome=true
theorem mq {pt:jF} (h:jD pt k=some v):(k,v)∈pt:=by
 unfold jD at h;obtain⟨x,hx,rfl⟩:=yI.mp h;have h1:=aaV hx;have h2:=aah hx;rw[<-of_decide_eq_true h1];exact h2
theorem PT.opt {pt:jF}{w:Nat} (T:PT pt w h l) (hk:(jD pt k).isSome=true):jD pt k=some (vQ<|zi pt k)/\Pz (zi pt k):=by
 obtain⟨v,hv⟩:=Qk.mp hk;obtain⟨n,e,pn⟩:=T.val _<|mq hv;have e':v=vQ n:=e;have:zi pt k=n:=by
  unfold zi;rw[hv,e'];cases n<;>rfl
 rw[this,hv,e'];exact#[rfl,pn]
theorem gH {pt:jF}{n:Int} (h:zi pt k=some n):(jD pt k).isSome=true:=by
 unfold zi at h;cases e:jD pt k with
 | none=>rw[e] at h;cases h
 | some v=>rfl
theorem Nn {pt:jF}{w:Nat}{c:je}:(ul pt w h l).on c↔uM w h l c=true:=by
 rw[uY];exact#[λ⟨a,b,c,d,e,f⟩=>#[#[a,b],#[c,d],e,f],λ⟨⟨a,b⟩,⟨c,d⟩,e,f⟩=>#[a,b,c,d,e,f]]
theorem PT.fok {pt:jF}{w:Nat} (T:PT pt w h l) (Z:zP w h l):(ul pt w h l).Ok:=by
 have z1:=Z.w;have z2:=Z.h;refine#[by show 1<=(w:Int)/\(w:Int)<=12;lia,by show 1<=(h:Int)/\(h:Int)<=12;lia,Z.l,λc n e=>Nn.mpr ?_,λc n e=>(T.opt<|gH e).2 n e,λx y n e=>(T.opt<|gH e).2 n e];obtain⟨v,hv⟩:=Qk.mp<|gH e;rcases T.key _ (mq hv) with ⟨p,e1,_⟩|⟨d,e1,h1⟩
 ·have:=congrArg Yl e1;cases this
 ·rw[JG e1];exact h1
theorem aF {n:Str}{a b:Addr}{u:HO} (hF:VQ H a v) (h:H b=some u) (ne:∀o v,u≠.frz o v):uu H [(n,a)] b=some u:=by
 obtain⟨ob,e,_⟩:=hF;rw[j8 (λz=>by
  have z':=by simpa using z
  rw[z',e] at h;exact ne _ _ (Yb h).symm)]
 exact h
theorem m6 {H':Hp}{cl:D0} (h:Same (uu H cl) H'):Same H (Zw H H' cl):=λb u eb=>by
 by_cases z:b∈cl.map (·.2)
 ·rw[VM z];exact eb
 ·rw[JN z];exact h b u (by rw[j8 z];exact eb)
theorem aS {pt:jF} (F:nU pt w' h l) (hf:H0 fp=some (Vr fp YN qP (uv jY 0).1 (uv jY 0).2.1 (uv jY 0).2.2.1 (hO aP) cP)) (hc:H0 cP=some (Ur cP qP)) (z:VQ H0 aP (.ref dp)) (hP:H0 dp=some (.dT pt)):Calls P w K mg base 2 fp (AN H0<|ul pt w' h l):=by
 intro A' outer s H us vs Q hr e0 r hh;obtain⟨p,c,rfl,off,hp,Fw,q⟩:=hh;have y:VQ H aP (.ref dp):=by obtain⟨ob,e,z⟩:=z;exact#[ob,off _ _ e,z]
 refine Nq (zw (ps:=[PP]) rfl rfl rfl (by decide +kernel) (by decide +kernel) (by decide +kernel) rfl) (λ_ _ _=>fT λ_=>rfl) hr e0 r rfl (off _ _ hf) (off _ _ hc) (.cons y .nil) λFC=>?_;refine#[_,(jk<|jC<|Ga (pv 1) (pv 0)<|vL FC),?_];have e:=(F.T.opt<|F.c3 c<|Nn.mp Fw).1;exact#[dp,_,rfl,e▸ug.t (aF y (off _ _ hP) (λ_ _ z=>nomatch z)) (aF y hp (λ_ _ z=>nomatch z)),λ_=>q _<|m6<|Same.refl _]
theorem My {pt:jF} (F:nU pt w' h l) (hf:H0 fp=some (Vr fp YO qQ (uv jY 1).1 (uv jY 1).2.1 (uv jY 1).2.2.1 (hO aP) cP)) (hc:H0 cP=some (Ur cP qQ)) (z:VQ H0 aP (.ref dp)) (hP:H0 dp=some (.dT pt)):Calls P w K mg base 2 fp (AT H0<|ul pt w' h l):=by
 intro A' outer s H us vs Q hr e0 r hh;obtain⟨x,y1,rfl,off,Fw,q⟩:=hh;have y:VQ H aP (.ref dp):=by obtain⟨ob,e,z⟩:=z;exact#[ob,off _ _ e,z]
 refine Nq (zw (ps:=[W1,XL]) rfl rfl rfl (by decide +kernel) (by decide +kernel) (by decide +kernel) rfl) (λ_ _ _=>fU λ_ _=>rfl) hr e0 r rfl (off _ _ hf) (off _ _ hc) (.cons y .nil) λFC=>?_;refine#[_,(jk<|jC<|Ga (pv 2) (jN<|ja (pv 0)<|ja (pv 1) jf)<|vL FC),?_];have e:=(F.T.opt<|F.c2 (x,y1)<|Jv.mpr #[#[Fw.1,Fw.2.1],Fw.2.2.1,Fw.2.2.2]).1;refine#[Vy,λkp OR=>?_];have s1:=jm (o:=.tup [.int x,.int y1]) (Same.refl<|uu H<|hO aP) OR;exact#[dp,_,rfl,e▸ug.t (s1 _ _ (aF y (off _ _ hP) (λ_ _ z=>nomatch z))) jd,λ_=>q _<|m6 s1]
def fP (t:Adr) (H:Hp):Prop:=zl H t.jK (uv jY 0).2.2.2 qP/\zl H t.jK (uv jY 1).2.2.2 qQ
def wP (t:Adr):Sp:=λvs H Q _=>bM λ(o dx c d dp p1 p2:Addr) (w h l:Nat) (pt:jF) (one last:je)=>BY (vs=[.ref o,.ref dp,.ref p1,.ref p2]) (H o=some (.ins t.jq dx<|fB w h l c d)) (zP w h l) (H dp=some (.dT pt)) (nU pt w h l) (H p1=some (.tup<|t3 one)) (H p2=some (.tup<|t3 last)) (uM w h l one=true) (uM w h l last=true) (fP t H) (∀T M rl H',vW t.jK H H'->fP t H'->H M=none->H' M=some (.dT<|Ub rl)->uB (ul pt w h l) [one] rl->rl.length<=432->gP T M [last] rl H'->Q (.ref T) H')
theorem NY (T:Txt K mg t) (hB:vC mg base):jS P w K mg base 7 YJ [FB,YC,WF,YE] (wP t):=by
 obtain⟨fd,F,b⟩:=T.aO;refine#[_,fd,F.okX zh (λvs H Q E h=>?_) (λA outer s H vs Q E hr h=>?_),b,F.kp,T.Nv]
 ·obtain⟨o,dx,c,d,dp,p1,p2,w',h,l,pt,one,last,rfl,_⟩:=h
  rfl
 ·obtain⟨o,dx,c,d,dp,p1,p2,w',h,l,pt,one,last,rfl,ho,Z,S4,F,FZ,Fe,o1,o2,tb,q⟩:=h;refine#[_,(ji (lY (i:=4) (c0:=t.vH) (P:=t.jK) zh.nd rfl (Or.inl rfl) rfl rfl rfl (by rfl) rfl T.V1 hB) (ji (lY (i:=5) (c0:=t.vH) (P:=t.jK) zh.nd rfl (Or.inl rfl) rfl rfl rfl (by rfl) rfl T.V1 hB) (jk (jC (qt (t7 T) hr.m (by rfl) (dC (i:=1) (n:=YC) rfl rfl rfl rfl hG)<|ja (jN<|ja (jM<|pv 0)<|ja (jM<|pv 0)<|ja (jM<|pv 0) jf)<|ja (pv 4)<|ja (pv 5)<|ja (JL<|ja (pv 2) jf)<|ja (JL<|ja (pv 3) jf) jf))))),?_];obtain⟨SG,OF⟩:=tb;refine gE (λ(fp cP)=>[oR o,oR dp,oR p1,oR p2,oR fp,none]) (λfp cP H'=>A5 _ (zl H' t.jK (uv jY 0).2.2.2 qP) _ (H' fp=some (Vr fp YN qP (uv jY 0).1 (uv jY 0).2.1 (uv jY 0).2.2.1 (hO<|s.heap.objs.size+1) cP))<|H' cP=some (Ur cP qP)) (λB EB=>#[SG,λc f' H' off tb keep hf ef ec=>EB f' c _ #[off,tb,keep _ _ (.inl (by decide)) OF,ef,ec]]) ?_;rintro fp cP H1 ⟨o1',SH,XD,efp,ecP⟩;obtain⟨q0,hq0,_⟩:=id SG;obtain⟨q1,hq1,_⟩:=id SH;refine gE (λ(ft cT)=>[oR o,oR dp,oR p1,oR p2,oR fp,oR ft]) (λft cT H'=>A5 _ _ (zl H' t.jK (uv jY 1).2.2.2 qQ) (H' ft=some (Vr ft YO qQ (uv jY 1).1 (uv jY 1).2.1 (uv jY 1).2.2.1 (hO<|s.heap.objs.size+1) cT))<|H' cT=some (Ur cT qQ)) (λB EB=>#[XD,λc f' H' off tb keep hf ef ec=>EB f' c _ #[off,keep _ _ (.inl (by decide)) SH,tb,ef,ec]]) ?_;rintro ft cT H2 ⟨H₁,SG,OF,H₂,ecT⟩;have of2:vW t.jK H H2:=λb u n e=>H₁ b u n<|o1' b u n e;have Hv:∀{b:Addr} {u:HO},H b=some u->(∀ps,u≠.tbl ps)->H2 b=some u:=λ{b u} e n=>of2 b u (λz=>by rw[z,hq0] at e;exact n _ (Yb e).symm) e;have np:∀{b:Addr} {u:HO},H1 b=some u->(∀ps,u≠.tbl ps)->H2 b=some u:=λ{b u} e n=>H₁ b u (λz=>by rw[z,hq1] at e;exact n _ (Yb e).symm) e;have SI:=np efp (by intro p z;cases z);have XE:=np ecP (by intro p z;cases z);have EI:=Hv ho (λ_ z=>nomatch z);have SJ:=Hv S4 (λ_ z=>nomatch z);have XF:=Hv FZ (λ_ z=>nomatch z);have XG:=Hv Fe (λ_ z=>nomatch z);refine#[o,_,dx,_,_,rfl,EI,T.jz,T.Jj,rfl,o,_,dx,_,_,rfl,EI,T.jz,T.Ji,rfl,o,_,dx,_,_,rfl,EI,T.jz,T.JA,rfl,Za,λsz hsz=>?_];have s3:=jm (o:=.tup [.int (w':Int),.int (h:Int),.int (l:Int)]) (Same.refl H2) hsz;have e3:upd H2 sz (.tup [.int (w':Int),.int (h:Int),.int (l:Int)]) sz=_:=jd;generalize upd H2 sz (.tup [.int (w':Int),.int (h:Int),.int (l:Int)])=H3 at s3 e3;refine#[cV,λls HM=>?_];refine NK (o:=.lst [.ref p1]) (q:=.lst<|[p1].map V.ref) rfl HM λH4 s4 e4=>?_;refine#[cV,λlg Xo=>?_];refine NK (o:=.lst [.ref p2]) (q:=.lst<|[p2].map V.ref) rfl Xo λH5 s5 e5=>?_;have F2:=Same.trans s3<|Same.trans s4 s5;refine#[_,.cons rfl .nil,λQ5 H6 same fz=>?_];have I₁:H5 (s.heap.objs.size+1)=none:=Q5 _<|yi.mpr rfl;have up:∀{b:Addr} {u:HO},H5 b=some u->H6 b=some u:=λ{b u} e=>by
   rw[same b (λhb=>by
    have z:=yi.mp hb;rw[z,I₁] at e;cases e)];exact e
  cases fz with
  | cons z1 _ =>
   dsimp only at z1;have C1:jy H6 [p1] [one]:=#[rfl,λi p c h1 h2=>by
    match i with
    | 0=>cases h1;cases h2;exact up (F2 _ _ XF)
    | i+1=>cases h1]
   have C2:jy H6 [p2] [last]:=#[rfl,λi p c h1 h2=>by
    match i with
    | 0=>cases h1;cases h2;exact up (F2 _ _ XG)
    | i+1=>cases h1]
   refine#[H6,fp,ft,_,sz,ls,lg,_,_,[one],[last],rfl,#[F.T.fok Z,aS F (up<|F2 _ _ SI) (up<|F2 _ _ XE) z1<|up<|F2 _ _ SJ,My F (up<|F2 _ _ H₂) (up<|F2 _ _ ecT) z1<|up<|F2 _ _ SJ,#[_,_,_,_,_,_,_,up<|F2 _ _ SI],#[_,_,_,_,_,_,_,up<|F2 _ _ H₂]],Same.refl _,up<|s5 _ _<|s4 _ _ e3,up<|s5 _ _ e4,C1,λc hc=>by rw[yi.mp hc];exact Nn.mpr o1,(by show 1<=5;decide),up e5,C2,(by show 1<=5;decide),λT' M rl H7 s7 hT hM eM fin few tl=>?_];have out:∀{b:Addr} {u:HO},H7 b=some u->(∀o v,u≠.frz o v)->gM H7 [s.heap.objs.size+1] b=some u:=λ{b u} e ne=>by
    rw[vf (λhb=>by
     obtain⟨ob,z,_⟩:=z1;rw[yi.mp hb,s7 _ _ z] at e;exact ne _ _ (Yb e).symm)]
    exact e
   have s57:Same H5 (gM H7 _):=λb u e=>by
    rw[vf (λhb=>by rw[yi.mp hb,I₁] at e;cases e)];exact s7 _ _ (up e)
   have XH:=Same.trans F2 s57;have I₂:H M=none:=by
    cases e:H M with
    | none=>rfl
    | some u =>
     by_cases z:M=t.jK
     ·obtain⟨q2,XI,_⟩:=id SG;rw[z,up<|F2 _ _ XI] at hM;cases hM
     ·rw[up<|F2 _ _<|of2 M u z e] at hM;cases hM
   refine q T' M rl _ (λb u n e=>XH _ _<|of2 b u n e) #[SG.same XH,OF.same XH] I₂ (out eM (λ_ _ z=>nomatch z)) fin few ?_;rcases tl with ⟨g1,e⟩|⟨D,x,e,rest⟩
   ·exact .inl #[g1,out e (λ_ _ z=>nomatch z)]
   ·exact .inr #[D,x,out e (λ_ _ z=>nomatch z),rest]
theorem uB.le (a:uB f st r1) (b:uB f st r2):∀(i:Nat) (x:JY),r1[i]?=some x->∃y∈r2,y.1=x.1/\y.2.1<=x.2.1:=by
 intro i
 induction i using Nat.strongRecOn with
 | ind i ih =>
  intro x hx;rcases a.tree i x hx with ⟨_,t2,t3⟩|⟨j,y,cost,hj,ey,t1,t2,t3⟩
  ·obtain⟨z,hz,e1,e2⟩:=b.sta _ t3<|a.on x<|yp hx;exact#[z,hz,e1,by lia]
  ·obtain⟨z,hz,e1,e2⟩:=ih j hj y ey;obtain⟨u,hu,e3,e4⟩:=b.rel z hz _<|e1▸t2;exact#[u,hu,e3,by lia]
theorem uB.same (a:uB f st r1) (b:uB f st r2) {x:JY} (hx:x∈r1):∃y∈r2,y.1=x.1/\y.2.1=x.2.1:=by
 obtain⟨i,hi,ei⟩:=yO hx;obtain⟨y,hy,e1,e2⟩:=a.le b i x (by rw[yc hi,ei]);obtain⟨j,hj,ej⟩:=yO hy;obtain⟨z,hz,e3,e4⟩:=b.le a j y (by rw[yc hj,ej]);have:=aj a.nd hz hx<|e3.trans e1;subst this;exact#[y,hy,e1,by lia]
theorem uB.lens (a:uB f st r1) (b:uB f st r2):r1.length<=r2.length:=by
 have:=U2 (b:=r2.map (·.1)) a.nd λc hc=>by
  obtain⟨x,hx,rfl⟩:=yf.mp hc;obtain⟨y,hy,e,_⟩:=a.same b hx;exact e▸yf.mpr #[y,hy,rfl]
 rwa [yb,yb] at this
theorem uB.val (a:uB f st r1) (b:uB f st r2) (k:List Key) (v:V) (h:jD (Ub r1) k=some v):jD (Ub r2) k=some v/\∃n,v=.int n:=by
 have:=mq h;unfold Ub at this;obtain⟨x,hx,e⟩:=yf.mp this;cases e;obtain⟨y,hy,e1,e2⟩:=a.same b hx;have:=zA b.nd hy;rw[e1,e2] at this;exact#[this,_,rfl]
def kG (f:Bool) (w h:Nat):List Key->List Key
 | [.inl x,.inl y]=>k2 (gF f w h (x,y))
 | [.inl x,.inl y,.inl z]=>k3 (G3 f w h (x,y,z))
 | k=>k
def vz (f:Bool) (w h:Nat) (pt:jF):jF:=pt.map λkv=>(kG f w h kv.1,kv.2)
def zv (k:List Key):Prop:=(∃p:Int×Int,k=k2 p)\/∃c:je,k=k3 c
section
variable {f:Bool}{w h l:Nat}{pt:jF}
theorem xN {p q:Int×Int} (e:gF f w h p=gF f w h q):p=q:=by
 have:=uh (p.1,p.2,0) (q.1,q.2,0) (by show ((gF f w h p).1,(gF f w h p).2,(0))=((gF f w h q).1,(gF f w h q).2,0);rw[e]);injection this with a b
 injection b with b _
 exact QQ a b
theorem iS {a b:List Key} (ha:zv a) (hb:zv b) (e:kG f w h a=kG f w h b):a=b:=by
 rcases ha with ⟨p,rfl⟩|⟨c,rfl⟩<;>rcases hb with ⟨q,rfl⟩|⟨d,rfl⟩
 ·rw[xN<|gc (a:=gF f w h p) e]
 ·have:=congrArg Yl e;cases this
 ·have:=congrArg Yl e;cases this
 ·rw[uh _ _<|JG (a:=G3 f w h c) e]
theorem PT.form (T:PT pt w h l):∀kv∈pt,zv kv.1:=λkv EX=>by
 rcases T.key kv EX with ⟨p,e,_⟩|⟨c,e,_⟩
 ·exact .inl #[p,e]
 ·exact .inr #[c,e]
theorem Zc (hk:zv k):∀{pt:jF},(∀kv∈pt,zv kv.1)->jD (vz f w h pt) (kG f w h k)=jD pt k
 | [],_=>rfl
 | kv::r,hf=>by
  have ih:=Zc hk (pt:=r) λx hx=>hf x<|yH _ hx;unfold jD vz at *;rw[yR,abL,abL];by_cases e:kv.1=k
  ·rw[decide_eq_true (by rw[e]),decide_eq_true e];rfl
  ·rw[decide_eq_false (λz=>e<|iS (hf kv<|yE ..) hk z),decide_eq_false e];exact ih
theorem mt (T:PT pt w h l) (hk:zv k):zi (vz f w h pt) (kG f w h k)=zi pt k:=by
 unfold zi;rw[Zc hk T.form]
theorem nU.led (F:nU pt w h l):nU (vz f w h pt) (wF f w h) (hF f w h) l:=by
 refine#[#[λkv EX=>?_,λkv EX=>?_,?_],λp hp=>?_,λc hc=>?_]
 ·obtain⟨x,hx,rfl⟩:=yf.mp EX;rcases F.T.key x hx with ⟨p,e,on⟩|⟨c,e,on⟩
  ·exact .inl #[_,by rw[e];rfl,by rw[Zm];exact on]
  ·refine .inr #[G3 f w h c,by rw[e];rfl,?_];rw[uY] at on;have:=Jv.mp<|(Zm (f:=f) (c.1,c.2.1)).trans<|Jv.mpr #[on.1,on.2.1];exact uY.mpr #[this.1,this.2,on.2.2]
 ·obtain⟨x,hx,rfl⟩:=yf.mp EX;exact F.T.val x hx
 ·have nd:=F.T.nd;unfold vz;rw[yS];rw[aa7,yT] at nd ⊢;exact nd.imp_of_mem λ{a b} ha hb h e=>h (iS (F.T.form a ha) (F.T.form b hb) e)
 ·obtain⟨q,rfl⟩:=Nr (f:=f) (w:=w) (h:=h) p;rw[Zm] at hp;rw[show k2 _=kG f w h (k2 q) from rfl,Zc (.inl #[q,rfl]) F.T.form];exact F.c2 q hp
 ·obtain⟨q,rfl⟩:=UX (f:=f) (w:=w) (h:=h) c;rw[show k3 _=kG f w h (k3 q) from rfl,Zc (.inr #[q,rfl]) F.T.form];refine F.c3 q ?_;rw[uY] at hc;have:=Jv.mp<|(Zm _).symm.trans<|Jv.mpr #[hc.1,hc.2.1];exact uY.mpr #[this.1,this.2,hc.2.2]
theorem cH {A:Uh}{c:je}{n:Int}:(s,n)∈uA A c↔(s∈UN c/\Uk A.W A.Hh s=true/\A.pr s=some n)\/∃k m,A.ch c.1 c.2.1=some k/\s∈uc c A.L/\A.pr s=some m/\n=m+k:=by
 unfold uA JH;rw[yj,Qu];refine or_congr ?_ ?_
 ·constructor
  ·rintro⟨x,hx,e⟩;obtain⟨m,hm,e2⟩:=yI.mp e;cases e2;obtain⟨h1,h2⟩:=yZ.mp hx;exact#[h1,h2,by rw[Int.add_zero];exact hm]
  ·rintro⟨h1,h2,h3⟩;exact#[s,yZ.mpr #[h1,h2],by rw[h3];show some (s,n+0)=_;rw[Int.add_zero]]
 ·cases hc:A.ch c.1 c.2.1 with
  | none=>exact#[(λh=>nomatch h),by rintro⟨_,_,h,_⟩;cases h]
  | some k =>
   constructor
   ·intro h;obtain⟨x,hx,e⟩:=Qu.mp h;obtain⟨m,hm,e2⟩:=yI.mp e;cases e2;exact#[k,m,rfl,hx,hm,rfl]
   ·rintro⟨k',m,e,hx,hm,rfl⟩;cases e;exact Qu.mpr #[s,hx,by rw[hm];rfl]
theorem c7 (T:PT pt w h l) {c:je} {n:Int}:(s,n)∈uA (ul pt w h l) c↔(G3 f w h s,n)∈uA (ul (vz f w h pt) (wF f w h) (hF f w h) l) (G3 f w h c):=by
 rw[cH,cH];have e1:∀s,(ul _ (wF f w h) (hF f w h) l).pr (G3 f w h s)=(ul pt w h l).pr s:=λs=>mt T<|.inr #[s,rfl];have e2:(ul _ (wF f w h) (hF f w h) l).ch (G3 f w h c).1 (G3 f w h c).2.1=(ul pt w h l).ch _ _:=mt T<|.inl #[(c.1,c.2.1),rfl];have e3:Uk (wF f w h) (hF f w h) (G3 f w h s)=Uk w h s:=by
  have:=Zm (f:=f) (w:=w) (h:=h) (s.1,s.2.1);exact this
 rw[e1,e2,<-bN,show (ul _ _ _ l).W=(wF f w h) from rfl,show (ul _ _ _ l).Hh=(hF f w h) from rfl,e3,show (ul _ _ (hF f w h) l).L=l from rfl,<-nJ];exact Iff.rfl
def rG (f:Bool) (w h:Nat) (x:JY):JY:=(G3 f w h x.1,x.2.1,x.2.2.map<|G3 f w h)
theorem uB.led (T:PT pt w h l) (F:uB (ul pt w h l) st rl):uB (ul (vz f w h pt) (wF f w h) (hF f w h) l) (st.map<|G3 f w h) (rl.map<|rG f w h):=by
 have e1:∀s,(ul _ (wF f w h) (hF f w h) l).pr (G3 f w h s)=(ul pt w h l).pr s:=λs=>mt T<|.inr #[s,rfl];refine#[?_,λx' hx=>?_,λx' hx=>?_,λi x' hx=>?_,λx' hx s hs=>?_,λc hc hp=>?_]
 ·have nd:=F.nd;rw[yS];rw[aa7,yT] at nd ⊢;exact nd.imp λh e=>h (uh _ _ e)
 ·obtain⟨x,h1,rfl⟩:=yf.mp hx;obtain⟨n,hn⟩:=F.on x h1;exact#[n,(e1 _).trans hn]
 ·obtain⟨x,h1,rfl⟩:=yf.mp hx;exact F.nn x h1
 ·rw[yo] at hx;obtain⟨x,h1,rfl⟩:=yI.mp hx;rcases F.tree i x h1 with ⟨t1,t2,t3⟩|⟨j,y,cost,hj,ey,t1,t2,t3⟩
  ·exact .inl #[by show x.2.2.map _=none;rw[t1];rfl,t2,Qr t3]
  ·exact .inr #[j,rG f w h y,cost,hj,by rw[yo,ey];rfl,by show x.2.2.map _=_;rw[t1];rfl,(c7 T).mp t2,t3]
 ·obtain⟨x,h1,rfl⟩:=yf.mp hx;obtain⟨e,he⟩:=UX (f:=f) (w:=w) (h:=h) s.1;have Se:(G3 f w h e,s.2)∈uA (ul (vz f w h pt) (wF f w h) (hF f w h) l) (G3 f w h x.1):=by rw[he];exact hs
  obtain⟨y,hy,e2,e3⟩:=F.rel x h1 _<|(c7 T).mpr Se;exact#[_,Qr hy,by show G3 f w h _=s.1;rw[e2];exact he,e3]
 ·obtain⟨e,he,rfl⟩:=yf.mp hc;rw[e1] at hp;obtain⟨x,hx,e2,e3⟩:=F.sta e he hp;exact#[_,Qr hx,by show G3 f w h _=_;rw[e2],e3]
end
theorem wm (f:Bool) (w h:Nat) (a b:jF):vz f w h (a++b)=vz f w h a++vz f w h b:=yk
theorem qz {f:Bool}{w:Nat} (hk:zv k) {a:jF} (hf:∀kv∈a,zv kv.1) (hn:k ∉ a.map (·.1)):jD (vz f w h a) (kG f w h k)=none:=by
 rw[Zc hk hf];cases e:jD a k with
 | none=>rfl
 | some v=>exact absurd (UK.mp (by rw[e];rfl)) hn
theorem t4 {a:jF}{kv:List Key×V} (nd:(a.map (·.1)).Nodup) (h:a[i]?=some kv):kv.1 ∉ (a.take i).map (·.1):=λz=>by
 obtain⟨g,e⟩:=yd.mp h;have e5:a=a.take i++kv::a.drop (i+1):=by
  rw[<-e,<-yN g,yX]
 rw[e5,yk,Qw] at nd;exact nd.2.2 _ z kv.1 (by rw[yR];exact yE ..) rfl
theorem lL {f:Bool}{w:Nat}{c:je} (on:uM w h l c=true):uM (wF f w h:Nat) (hF f w h:Nat) l (G3 f w h c)=true:=by
 rw[uY] at on;have:=Jv.mp<|(Zm (f:=f) (c.1,c.2.1)).trans<|Jv.mpr #[on.1,on.2.1];exact uY.mpr #[this.1,this.2,on.2.2]
theorem zP.led {f:Bool}{w:Nat} (Z:zP w h l):zP (wF f w h) (hF f w h) l:=by
 cases f
 ·exact#[Z.h,Z.w,Z.l]
 ·exact#[Z.w,Z.h,Z.l]
structure CD (H:Hp) (T M:Addr) (xs:List V) (wd:Str) (g:je) (rl:List JY):Prop where
 e:H T=some (.tup xs)
 i0:vF xs 0=some (.str wd)
 im:vF xs (-1)=some (.ref M)
 k:(wd="shut"/\g ∉ rl.map (·.1))\/wd="way"/\∃x∈rl,x.1=g/\vF xs 2=some (.int x.2.1)
theorem gP.says {T M:Addr}{g:je} (h:gP T M [g] rl H):∃xs wd,CD H T M xs wd g rl:=by
 rcases h with ⟨n,e⟩|⟨D,x,e,hx,hg,_⟩
 ·exact#[_,_,e,rfl,rfl,.inl #[rfl,n g<|yi.mpr rfl]]
 ·exact#[_,_,e,rfl,rfl,.inr #[rfl,x,hx,yi.mp hg,rfl]]
def wQ (K:DS) (t:Adr):Sp:=λvs H Q _=>Ca λ(o dx c d o2 Et c2 d2 a:Addr) (w h l:Nat) (f:Bool) (sc:List Int)=>A7 (vs=[.ref o,.ref o2,.int<|fI f,.ref a]) (H o=some (.ins t.jq dx<|fB w h l c d)) (H o2=some (.ins t.jq Et<|fB (wF f w h:Nat) (hF f w h:Nat) l c2 d2)) (zP w h l) (jt K H a<|sc.map V.int) (fP t H) (∀H',Q (.bl true) H')
theorem NZ (T:Txt K mg t) (hB:vC mg base):jS P w K mg base 8 "_law_waves" [FB,WP,IR,IO] (wQ K t):=by
 have EU:=NY (P:=P) (w:=w) T hB;refine T.aQ.ok [FB,WP,IR,IO,YC,"_law_turned","_law_spot_here","_law_cells",WF,YE,"_law_here","_law_there","_law_due",PP] ?_;rintro _ H Q E ⟨o,dx,c,d,o2,Et,c2,d2,a,w',h,l,f,sc,rfl,ho,EI,Z,ha,tb,q⟩;refine#[rfl,λEm A outer s hr=>#[_,(ji (jv 4<|jn (MR T)<|ja (pv 0)<|ja (pv 3) jf) (ji (jv 5 Uc) (ji (z9<|j7 jO (ze rfl<|pv 4) (jw 6)<|jk<|uJ (pv 5) (jp z7 (jn (zI T)<|ja (pv 0)<|ja (pv 2)<|ja (ju jr (pv 6) jg)<|ja (ju jr (pv 6) jg) jf)<|N6 oh (pv 6) (cO jg) cN)<|vZ (pv 4)<|pv 6) (ji (z9 (GM 7 (N0:=[FB,WP,IR,IO,YC,"_law_turned","._law_spot_here","_law_cells",WF,YE,"_law_here","_law_there","_law_due",PP]) (own:=["_law_spot_here"]) (UT (cl:=[])) (ze rfl<|pv 4) (λ_ _ _ _ _=>jw 14) (λ_ _ _ _ _=>UG (j5 Uz (jU (Mv (K:=K) rfl) (by rfl) T.vO vG<|ja (pv 14) jf) jg)) (λ_ _ _ _ _=>(pv 14)))) (ji (jv 8 (ju uW (pv 7) (jp j6 (jn (uI T)<|ja (pv 3)<|ja jg jf) (jU Js (by rfl) T.vO vG<|ja (pv 7) jf)))) (ji (jv 9 (ju uW (pv 7) (jp j6 (jn (uI T)<|ja (pv 3)<|ja jg jf) (jU Js (by rfl) T.vO vG<|ja (pv 7) jf))))<|ji (jv 10<|jn EU<|ja (pv 0)<|ja (pv 4)<|ja (pv 8)<|ja (pv 9) jf)<|ji (jv 11<|jn EU<|ja (pv 1)<|ja (pv 5)<|ja (jn (Vf T)<|ja (pv 0)<|ja (pv 2)<|ja (pv 8) jf)<|ja (jn (Vf T)<|ja (pv 0)<|ja (pv 2)<|ja (pv 9) jf) jf)<|ji (jv 12 Uc)<|ji (z9<|j7 jO (ze rfl<|ju jr (pv 10)<|Kx gL jg) (jw 13)<|jk<|uJ (pv 12) (jn (Vf T)<|ja (pv 0)<|ja (pv 2)<|ja (pv 13) jf)<|vZ (ju jr (pv 10)<|Kx gL jg)<|pv 13)<|jk<|jC<|u7 (vy Uz (ju jr (pv 11) jg)<|ju jr (pv 10) jg)<|u7 (vy (wa hr.units) (ju jr (pv 11)<|Kx gL jg)<|pv 12)<|U6<|BH (vy Uz (ju jr (pv 10) jg) U7)<|U6<|vy Uz (ju jr (pv 11) jg)<|ju jr (pv 10) jg)))))),?_]];refine gE (λ(D) (pt)=>[oR o,oR o2,some _,oR a,oR D,none,none,none,none,none,none,none,none,none]) (λD pt H'=>A5 _ _ _ (nU pt w' h l) _) (λB EB=>#[o,dx,c,d,a,w',h,l,sc,rfl,ha,ho,Z,λD pt H' s1 hD eD T1 C1 lp=>EB D pt H' #[s1,hD,eD,#[T1,λp hp=>?_,λc hc=>?_],lp]]) ?_
 ·obtain⟨p1,p2⟩:=p;have:=Jv.mp hp;obtain⟨x,hx,rfl⟩:=Ve this.1;obtain⟨y,hy,rfl⟩:=Ve this.2;exact (C1 x y hx hy).1
 ·obtain⟨p1,p2,p3⟩:=c;have:=uY.mp hc;obtain⟨x,hx,rfl⟩:=Ve this.1;obtain⟨y,hy,rfl⟩:=Ve this.2.1;obtain⟨z,hz,rfl⟩:=Ve this.2.2;exact (C1 x y hx hy).2 z hz
 rintro D pt H1 ⟨s1,hD,eD,PF,lp⟩;refine uF (λ(E1)=>[oR o,oR o2,some _,oR a,oR D,oR E1,none,none,none,none,none,none,none,none]) (λE1 H'=>A3 _ _<|H' E1=some _) (λB EB=>λE1 hE=>EB E1 _ #[jm (Same.refl H1) hE,hE,jd]) ?_;rintro E1 H2 ⟨s2,L₁,SM⟩;have HG:=s2 _ _ eD;have OS:=yG<|jh eD L₁;have EY:=Same.trans s1 s2;have nd:=PF.T.nd;have fm:=PF.T.form;refine uF (λ(v6)=>[oR o,oR o2,some<|.int<|fI f,oR a,oR D,oR E1,v6,none,none,none,none,none,none,none]) (λ_ H'=>(∀b u,b≠E1->H2 b=some u->H' b=some u)/\H' E1=some (.dT<|vz f w' h pt)) (λB EB=>?_) ?_
 ·refine#[D,pt,rfl,HG,λob xs hz hm kt dr=>?_];obtain⟨Zf,Ez,Xr,back⟩:=VZ HG hz hm kt dr;refine Zl Zf (λi σ H'=>∃v6:Option V,A3 (σ=[oR o,oR o2,some _,oR a,oR D,oR E1,v6,none,none,none,none,none,none,none]) (∀b u,b≠E1->upd H2 D _ b=some u->H' b=some u)<|H' E1=some (.dT<|vz f w' h<|pt.take i)) #[_,rfl,λb u _ e=>e,Ez _ _ OS SM] (λi σ H' _ h=>by obtain⟨_,_,z,_⟩:=h;exact z _ _ (yG OS) Zf.e) ?_ ?_
  ·rintro i kv p σ H' h1 h2 ⟨v6,rfl,EW,e3⟩;have IF:=yp h1;have vk:=vj nd IF;have hi:=(yd.mp h1).1;have Eu:∀q ys,H2 q=some (.tup ys)->H' q=some _:=λq ys e=>EW _ _ (jA e SM)<|Ez _ _ (jA e HG) e;have ES:=EW _ _ (λz=>by
    rw[z,jj OS,SM] at h2;cases h2) h2
   have Z':Fz P w H' D ob pt xs:=#[EW _ _ (yG OS) Zf.e,Zf.hm,kt.keeps λb ys e=>Eu _ _ e,Zf.dr,Zf.hz];have EG:=EW _ _ (jA (EY _ _ ho) SM)<|Ez _ _ (jA (EY _ _ ho) HG)<|EY _ _ ho;have lt:(vz f w' h<|pt.take i).length<100000:=by unfold vz;rw[yb,yM];lia
   have fin:∀(H3:Hp) (kp:Addr),(∀b u,b≠E1->H' b=some u->H3 b=some u)->H3 E1=some (.dT<|vz f w' h<|pt.take i)->H3 kp=some (.tup<|(kG f w' h kv.1).map kV)->(∀b u,b≠E1->upd H2 D _ b=some u->upd H3 E1 (.dT<|jZ (vz f w' h<|pt.take i) (kG f w' h kv.1) kv.2) b=some u)/\upd H3 E1 (.dT<|jZ _ _ _) E1=some (.dT<|vz f w' h<|pt.take _):=λH3 kp k e ek=>#[λb u n e'=>jB n<|k _ _ n<|EW b u n e',by rw[jd,U8 _ (qz (fm kv IF) (λx hx=>fm x<|Qp hx)<|t4 nd h1),JO h1,wm];rfl];refine#[D,_,rfl,vk▸UW.z Z' ES,?_];rcases fm kv IF with ⟨⟨x,y⟩,e⟩|⟨⟨x,y,z⟩,e⟩
   ·rw[e] at ES fin;have S:jx K H' p [.int x,.int y]:=jx.of ES;refine#[_,_,S,rfl,_,_,S,rfl,o,dx,c,d,w',h,l,f,(x,y),rfl,EG,λr ED=>?_];have s3:=jm (o:=.tup [.int (gF f w' h (x,y)).1,.int (gF f w' h (x,y)).2]) (Same.refl H') ED;have er:upd H' r (.tup [.int (gF f w' h (x,y)).1,.int (gF f w' h (x,y)).2]) r=some (.tup<|(k2<|gF f w' h (x,y)).map kV):=jd;generalize upd H' r (.tup [.int (gF f w' h (x,y)).1,.int (gF f w' h (x,y)).2])=H3 at s3 er;refine#[2,rfl,p,[.int x,.int y],rfl,jx.of<|s3 _ _ ES,(by show ¬(HT.sIx 2 0 _=0/\HT.sIx 2 2 none=2);decide),λr2 FC=>?_];have s4:=jm (o:=.tup<|vI [.int x,.int y] (some 2) none) (Same.refl H3) FC;have OT:upd H3 r2 (.tup<|vI [.int x,.int y] (some 2) none) r2=some (.tup []):=by rw[jd];rfl
    generalize upd H3 r2 (.tup<|vI [.int x,.int y] (some 2) none)=H4 at s4 OT;have Lq:=Same.trans s3 s4;refine#[r,r2,_,_,rfl,rfl,jx.of<|s4 _ _ er,jx.of OT,(λz=>nomatch z),(by show 2<=sizeLine;decide),λ_=>?_,λz=>absurd rfl z];have fn:=fin H4 r (λb u n e=>Lq _ _ e) (Lq _ _ e3)<|s4 _ _ er;exact#[E1,_,rfl,UL.t (Lq _ _ e3) (s4 _ _ er) (Y2 lt (by decide)),_,rfl,fn.1,fn.2]
   ·rw[e] at ES fin;have S:jx K H' p [.int x,.int y,.int z]:=jx.of ES;refine#[_,_,S,rfl,_,_,S,rfl,o,dx,c,d,w',h,l,f,(x,y),rfl,EG,λr ED=>?_];have s3:=jm (o:=.tup [.int (gF f w' h (x,y)).1,.int (gF f w' h (x,y)).2]) (Same.refl H') ED;have er:upd H' r (.tup [.int (gF f w' h (x,y)).1,.int (gF f w' h (x,y)).2]) r=some (.tup<|(k2<|gF f w' h (x,y)).map kV):=jd;generalize upd H' r (.tup [.int (gF f w' h (x,y)).1,.int (gF f w' h (x,y)).2])=H3 at s3 er;refine#[2,rfl,p,[.int x,.int y,.int z],rfl,jx.of<|s3 _ _ ES,(by show ¬(HT.sIx 3 0 _=0/\HT.sIx 3 3 none=3);decide),λr2 FC=>?_];have s4:=jm (o:=.tup<|vI [.int x,.int y,.int z] (some 2) none) (Same.refl H3) FC;have OT:upd H3 r2 (.tup<|vI [.int x,.int y,.int z] (some 2) none) r2=some (.tup [.int z]):=by rw[jd];rfl
    generalize upd H3 r2 (.tup<|vI [.int x,.int y,.int z] (some 2) none)=H4 at s4 OT;have Lq:=Same.trans s3 s4;refine#[r,r2,_,_,rfl,rfl,jx.of<|s4 _ _ er,jx.of OT,(λz=>nomatch z),(by show 3<=sizeLine;decide),(λz=>nomatch z),λ_ r3 hr3=>?_];have s5:=jm (o:=.tup<|[.int (gF f w' h (x,y)).1,.int (gF f w' h (x,y)).2]++[.int z]) (Same.refl H4) hr3;have IQ:=Same.trans Lq s5;have fn:=fin _ r3 (λb u n e=>IQ _ _ e) (IQ _ _ e3) jd;exact#[E1,_,rfl,UL.t (IQ _ _ e3) jd (Y2 lt (by decide)),_,rfl,fn.1,fn.2]
  ·rintro σ H' ⟨v6,rfl,EW,e3⟩;rw[UC rfl] at e3;have Eu:∀q ys,H2 q=some (.tup ys)->H' q=some _:=λq ys e=>EW _ _ (jA e SM)<|Ez _ _ (jA e HG) e;refine#[D,ob,pt,xs,#[EW _ _ (yG OS) Zf.e,Zf.hm,kt.keeps λb ys e=>Eu _ _ e,Zf.dr,Zf.hz],EB _ _ #[λb u nb e=>?_,jB OS e3]];by_cases z:b=D
   ·subst z;rw[HG] at e;cases e;exact jd
   ·rw[jj z];exact EW _ _ nb (Ez _ _ z e)
 rintro v6 H3 ⟨EW,eE3⟩;have FT:Same H H3:=λb u e=>EW _ _ (jh (s1 _ _ e) L₁)<|EY _ _ e;have Oc:=EW _ _ (yG OS) HG;refine gE (λ(L) (cl:List je)=>[oR o,oR o2,some<|.int<|fI f,oR a,oR D,oR E1,v6,oR L,none,none,none,none,none,none]) (λL cl H'=>∃ps:List Addr,A5 (Same H3 H') (H' L=some (.lst<|ps.map V.ref)) (jy H' ps cl) (∀c∈cl,uM w' h l c=true)<|cl≠[]) (λB EB=>?_) ?_
 ·refine#[D,pt,rfl,Oc,λob xs hz hm kt dr=>?_];obtain⟨Zf,Ez,Xr,back⟩:=VZ Oc hz hm kt dr;refine tH Zf (λL i ys H'=>E2 λ(ps) (cl:List je)=>A8 (ys=ps.map V.ref) (Same _ H') _ (H' L=some (.lst ys)) (ys.length<=i) (jy H' ps cl) (∀c∈cl,uM w' h l c=true) (∀c,k3 c∈(pt.take i).map (·.1)->c∈cl)) (λL hL=>#[_,_,rfl,jm (Same.refl _) hL,hL,jd,yh _,jy.nil,(λc h=>nomatch h),(λc h=>nomatch h)]) (λL i ys H' hv=>by obtain⟨_,_,_,s',_,e,le,_⟩:=hv;exact#[e,le,s' _ _ Zf.e]) ?_ ?_
  ·rintro L i kv p ys H' Qy Qn h1 h2 ⟨ps,cl,rfl,s4,hL,eL,le,Ce,on,all⟩ hy hn;have IF:=yp h1;have ES:=s4 _ _ h2;have tk:∀c,k3 c∈(pt.take _).map _->k3 c∈(pt.take i).map (·.1)\/k3 c=kv.1:=λc hc=>by
    rw[JO h1,yk] at hc;rcases yj.mp hc with hc|hc
    ·exact .inl hc
    ·exact .inr (yi.mp hc)
   rcases PF.T.key kv IF with ⟨p0,e,_⟩|⟨c0,e,o0⟩
   ·rw[e] at ES tk;refine#[#[_,rfl,rfl],p,_,rfl,.inr<|jx.of ES,rfl,Jw (λz=>nomatch z) λ_=>hn _ #[ps,cl,rfl,s4,hL,eL,by lia,Ce,on,λc hc=>?_]];rcases tk c hc with hc|hc
    ·exact all c hc
    ·have:=congrArg Yl hc;cases this
   ·rw[e] at ES tk;refine#[#[_,rfl,rfl],p,_,rfl,.inr<|jx.of ES,rfl,Jw (λ_=>hy _ _ eL #[_,cl++[c0],by rw[yk];rfl,λb u e'=>?_,hL,jd,by rw[ye];exact Qb le,(Ce.snoc ES).wr eL,λc hc=>?_,λc hc=>?_]) λz=>absurd rfl z]
    ·rw[jj<|jh e' hL];exact s4 _ _ e'
    ·rcases yj.mp hc with hc|hc
     ·exact on c hc
     ·rw[yi.mp hc];exact o0
    ·rcases tk c hc with hc|hc
     ·exact yu _ (all c hc)
     ·rw[JG hc];exact yr _ (yi.mpr rfl)
  ·rintro L ys H' hL ⟨ps,cl,rfl,s4,_,eL,le,Ce,on,all⟩;rw[UC rfl] at all;have nLD:L≠D:=λz=>by rw[z,jd] at hL;cases hL
   refine#[D,ob,pt,xs,#[s4 _ _ Zf.e,Zf.hm,kt.keeps λb ys e=>s4 _ _<|Ez _ _ (jA e Oc) e,Zf.dr,Zf.hz],EB L cl _ #[ps,back _ s4,jB nLD eL,#[Ce.1,λi p c h1 h2=>?_],on,λz=>?_]]
   ·have:=Ce.2 i p c h1 h2;rw[jj (jA this (s4 _ _ Zf.e) (λz=>by cases z))];exact this
   ·have z1:=Z.w;have z2:=Z.h;have z3:=Z.l;have:=all (0,0,0) (UK.mp (PF.c3 _ (uY.mpr (by lia))));rw[z] at this;cases this
 rintro L cl H4 ⟨ps,Lq,eL,Ce,on,ne⟩;have Fi:=Same.trans FT Lq;have pos:=List.length_pos_iff.mpr ne;have lb:(ps.map V.ref).length=cl.length:=by rw[yb,Ce.1]
 have pick:∀c4:Int,∃(i:Nat) (p:Addr) (e:je),((i)=c4 % ((ps.map V.ref).length))/\ps[i]?=some p/\H4 p=some (.tup<|t3 e)/\uM w' h l e=true:=λc4=>by
  have h0:=Qj c4 (show (cl.length:Int)≠0 by lia);have h1:=Qe c4 (show (0:Int)<cl.length by lia);have hi:(c4 % (cl.length)).toNat<cl.length:=by lia
  have g1:=yc (by rw[Ce.1];exact hi);have g2:=yc hi;exact#[_,_,_,by lia,g1,Ce.2 _ _ _ g1 g2,on _<|yp g2]
 have Sw:=uO Fi ha;refine gE (λ(p1) (_)=>[oR o,oR o2,some<|.int<|fI f,oR a,oR D,oR E1,v6,oR L,oR p1,none,none,none,none,none]) (λp1 e1 H'=>H'=H4/\H4 p1=some (.tup<|t3 e1)/\uM w' h l e1=true) (λB EB=>?_) ?_
 ·refine#[a,sc,14,rfl,Sw,by decide,λc4=>#[L,_,rfl,.inl<|jt.of eL,by lia,?_]];obtain⟨i,p1,e1,hi,FZ,OQ,OE⟩:=pick c4;exact#[_,_,jt.of eL,(congrArg _ hi.symm).trans (UI (by rw[yo,FZ];rfl)),EB p1 e1 _ #[rfl,OQ,OE]]
 rintro p1 e1 H4 ⟨rfl,OQ,OE⟩;refine gE (λ(p2) (_)=>[oR o,oR o2,some<|.int<|fI f,oR a,oR D,oR E1,v6,oR L,oR p1,oR p2,none,none,none,none]) (λp2 e2 H'=>H'=H4/\H4 p2=some (.tup<|t3 e2)/\uM w' h l e2=true) (λB EB=>?_) ?_
 ·refine#[a,sc,15,rfl,Sw,by decide,λc4=>#[L,_,rfl,.inl<|jt.of eL,by lia,?_]];obtain⟨i,p2,e2,hi,Fe,Le,Tg⟩:=pick c4;exact#[_,_,jt.of eL,(congrArg _ hi.symm).trans (UI (by rw[yo,Fe];rfl)),EB p2 e2 _ #[rfl,Le,Tg]]
 rintro p2 e2 H4 ⟨rfl,Le,Tg⟩;have L₂:fP t H4:=#[tb.1.same Fi,tb.2.same Fi];obtain⟨q4,hq4,_⟩:=id L₂.1;have eD4:=Lq _ _ Oc;have eE4:=Lq _ _ eE3;refine og (λ(T1 M1:Addr) (_)=>[oR o,oR o2,some _,oR a,oR D,oR E1,v6,oR L,oR p1,oR p2,oR T1,none,none,none]) (λT1 M1 rl H'=>vW t.jK H4 H'/\fP t H'/\H' M1=some _/\uB _ _ rl/\rl.length<=432/\gP T1 M1 _ rl H') (λB EB=>#[o,dx,c,d,D,p1,p2,w',h,l,pt,e1,e2,rfl,Fi _ _ ho,Z,eD4,PF,OQ,Le,OE,Tg,L₂,λT1 M1 rl H' off O₁ hM eM fin few tl=>EB T1 M1 rl H' #[off,O₁,eM,fin,few,tl]]) ?_;rintro T1 M1 rl H5 ⟨o5,Th,eM5,OU,few1,tl1⟩;have OB:∀{b:Addr} {u:HO},H4 b=some u->(∀ps,u≠.tbl ps)->H5 b=some u:=λ{b u} e n=>o5 b u (λz=>by rw[z,hq4] at e;exact n _ (Yb e).symm) e;have XJ:=OB (Fi _ _ ho) (λ_ z=>nomatch z);have XM:=OB (Fi _ _ EI) (λ_ z=>nomatch z);have eE5:=OB eE4 (λ_ z=>nomatch z);have q15:=OB OQ (λ_ z=>nomatch z);have q25:=OB Le (λ_ z=>nomatch z);obtain⟨q5,hq5,_⟩:=id Th.1;refine og (λ(T2 M2:Addr) (_)=>[oR o,oR o2,some<|.int<|fI f,oR a,oR D,oR E1,v6,oR L,oR p1,oR p2,oR T1,oR T2,none,none]) (λT2 M2 OV H'=>vW t.jK H5 H'/\H5 M2=none/\H' M2=some (.dT<|Ub OV)/\uB (ul (vz f w' h pt) (wF f w' h) (hF f w' h) l) [G3 f w' h e1] OV/\OV.length<=432/\gP T2 M2 [G3 f w' h e2] OV H') (λB EB=>?_) ?_
 ·refine#[o,dx,c,d,p1,w',h,l,f,e1,rfl,XJ,q15,λr1 Ha sa _ era=>#[o,dx,c,d,p2,w',h,l,f,e2,rfl,sa _ _ XJ,sa _ _ q25,λr2 Hb sb _ erb=>?_]];have PU:=Same.trans sa sb;exact#[o2,Et,c2,d2,E1,r1,r2,_,_,l,_,_,_,rfl,PU _ _ XM,Z.led,PU _ _ eE5,PF.led,sb _ _ era,erb,lL OE,lL Tg,#[Th.1.same PU,Th.2.same PU],λT2 M2 OV H' off O₁ hM eM fin few tl=>EB T2 M2 OV H' #[λb u n e=>off b u n<|PU _ _ e,Same.nn PU hM,eM,fin,few,tl]]
 rintro T2 M2 OV H6 ⟨o6,I₂,O₂,Hj,few2,tl2⟩;have XN:∀{b:Addr} {u:HO},H5 b=some u->(∀ps,u≠.tbl ps)->H6 b=some u:=λ{b u} e n=>o6 b u (λz=>by rw[z,hq5] at e;exact n _ (Yb e).symm) e;obtain⟨xs1,P',S1⟩:=tl1.says;obtain⟨xs2,wd2,S2⟩:=tl2.says;have Lr:=XN S1.e (λ_ z=>nomatch z);have SN:=XN eM5 (λ_ z=>nomatch z);have ho6:=XN XJ (λ_ z=>nomatch z);refine uF (λ(Eb)=>[oR o,oR o2,some _,oR a,oR D,oR E1,v6,oR L,oR p1,oR p2,oR T1,oR T2,oR Eb,none]) (λEb H'=>Same H6 H'/\H6 Eb=none/\H' Eb=some _) (λB EB=>λEb hE=>EB Eb _ #[jm (Same.refl H6) hE,hE,jd]) ?_;rintro Eb H7 ⟨s7,P₁,OW⟩;have HN:=s7 _ _ SN;have PV:=yG<|jh SN P₁;refine uF (λ(PX)=>[oR o,oR o2,some<|.int<|fI f,oR a,oR D,oR E1,v6,oR L,oR p1,oR p2,oR T1,oR T2,oR Eb,PX]) (λ_ H'=>(∀b u,b≠Eb->H7 b=some u->H' b=some u)/\H' Eb=some (.dT<|Ub<|rl.map<|rG f w' h)) (λB EB=>?_) ?_
 ·refine#[1,rfl,_,_,jx.of<|s7 _ _ Lr,S1.im,M1,_,rfl,HN,λob xs hz hm kt dr=>?_];obtain⟨Zf,Ez,Xr,back⟩:=VZ HN hz hm kt dr;refine Zl Zf (λi σ H'=>∃PX:Option V,σ=[oR o,oR o2,some _,oR a,oR D,oR E1,v6,oR L,oR p1,oR p2,oR T1,oR T2,oR Eb,PX]/\(∀b u,b≠Eb->upd H7 M1 _ b=some u->H' b=some u)/\H' Eb=some (.dT<|Ub<|(rl.take i).map<|rG f w' h)) #[_,rfl,λb u _ e=>e,Ez _ _ PV OW] (λi σ H' _ h=>by obtain⟨_,_,z,_⟩:=h;exact z _ _ (yG PV) Zf.e) ?_ ?_
  ·rintro i kv p σ H' h1 h2 ⟨PX,rfl,k9,e9⟩;have Fy:=h1;unfold Ub at Fy;rw[yo] at Fy;obtain⟨x,hx,rfl⟩:=yI.mp Fy;have Xs:=yp hx;have hi:=(yd.mp hx).1;have Eu:∀q ys,H7 q=some (.tup ys)->H' q=some _:=λq ys e=>k9 _ _ (jA e OW)<|Ez _ _ (jA e HN) e;have ES:H' p=some (.tup<|t3 _):=k9 _ _ (λz=>by
    rw[z,jj PV,OW] at h2;cases h2) h2
   have Z':Fz P w H' M1 ob _ xs:=#[k9 _ _ (yG PV) Zf.e,Zf.hm,kt.keeps λb ys e=>Eu _ _ e,Zf.dr,Zf.hz];have XO:=s7 _ _ ho6;have EG:=k9 _ _ (jA XO OW)<|Ez _ _ (jA XO HN) XO;have eT':=Eu _ _<|s7 _ _ Lr;refine#[1,rfl,_,_,jx.of eT',S1.im,M1,_,rfl,(zA OU.nd Xs)▸UW.z Z' ES,o,dx,c,d,p,w',h,l,f,_,rfl,EG,ES,λq3 Ha sa _ era=>?_];have lt:(Ub<|(rl.take i).map<|rG f w' h).length<100000:=by rw[V7,yb,yM];lia
   refine#[Eb,_,rfl,UL.t (k:=k3 _) (sa _ _ e9) era (Y2 lt (by decide)),_,rfl,λb u n e=>jB n<|sa _ _<|k9 b u n e,?_];rw[jd,JO hx,yk,NR,U8 _ (gv λz=>?_)]
   ·rfl
   ·obtain⟨y',SX,ey⟩:=yf.mp z;obtain⟨y,hy,rfl⟩:=yf.mp SX;have e1:=uh _ _ ey;obtain⟨g,e⟩:=yd.mp hx;have nd:=OU.nd;rw[show rl=rl.take i++x::rl.drop _ by rw[<-e,<-yN g,yX],yk,Qw] at nd;exact nd.2.2 _ (yf.mpr #[y,hy,rfl]) _ (by exact yE ..) e1
  ·rintro σ H' ⟨PX,rfl,k9,e9⟩;rw[V7,UC rfl] at e9;have Eu:∀q ys,H7 q=some (.tup ys)->H' q=some _:=λq ys e=>k9 _ _ (jA e OW)<|Ez _ _ (jA e HN) e;refine#[M1,ob,_,xs,#[k9 _ _ (yG PV) Zf.e,Zf.hm,kt.keeps λb ys e=>Eu _ _ e,Zf.dr,Zf.hz],EB _ _ #[λb u nb e=>?_,jB PV e9]];by_cases z:b=M1
   ·subst z;rw[HN] at e;cases e;exact jd
   ·rw[jj z];exact k9 _ _ nb (Ez _ _ z e)
 rintro PX H8 ⟨k8,eE8⟩;have OX:=k8 _ _ (jA (s7 _ _ S2.e) OW)<|s7 _ _ S2.e;have OY:=k8 _ _ (jA (s7 _ _ Lr) OW)<|s7 _ _ Lr;have XQ:=k8 M2 _ (jh O₂ P₁)<|s7 _ _ O₂;have HP:=uB.led (f:=f) PF.T OU;have key:wd2=P'/\(P'="shut"\/∃n:Int,vF xs1 2=some (.int n)/\vF xs2 2=some (.int n)):=by
  rcases S1.k with ⟨a1,a2⟩|⟨a1,x,hx,ex,ax⟩<;>rcases S2.k with ⟨b1,b2⟩|⟨b1,y,hy,ey,ay⟩
  ·exact#[b1.trans a1.symm,.inl a1]
  ·obtain⟨z',Tz,e1,_⟩:=uB.same Hj HP hy;obtain⟨z,hz,rfl⟩:=yf.mp Tz;exact absurd (yf.mpr #[z,hz,uh _ _<|e1.trans ey]) a2
  ·obtain⟨z,hz,e1,_⟩:=uB.same HP Hj<|Qr hx;exact absurd (yf.mpr #[z,hz,e1.trans (by show G3 f w' h _=_;rw[ex])]) b2
  ·obtain⟨z,hz,e1,e3⟩:=uB.same HP Hj<|Qr hx;have:=aj Hj.nd hz hy (e1.trans ((show G3 f w' h _=_ by rw[ex]).trans ey.symm));subst this;exact#[b1.trans a1.symm,.inr #[_,ax,by rw[ay,e3];rfl]]
 refine#[_,_,jx.of OX,S2.i0,_,_,jx.of OY,S1.i0,rfl,_,rfl,Jw (λ_=>?_) λz=>absurd (congrArg V.str key.1) z];refine#[1,rfl,_,_,jx.of OX,S2.im,M2,Eb,_,_,rfl,rfl,XQ,eE8,?_,uB.val Hj HP,true,rfl,JE #[_,_,jx.of OY,S1.i0,rfl,_,rfl,Jw (λ_=>q _) λz=>?_]]
 ·rw[V7,V7];exact abP (uB.lens Hj HP) (uB.lens HP Hj)
 ·rcases key.2 with e|⟨n,a1,a2⟩
  ·exact absurd (congrArg V.str e) z
  ·refine#[_,_,jx.of OX,a2,_,_,jx.of OY,a1,rfl,?_];rw[decide_eq_true rfl];exact q _
def Zr (p:je×je):je×je:=if lx (k3 p.2) (k3 p.1)=true then (p.2,p.1) else p
inductive Gp
 | gap (p:je×je)
 | keep (c:je)
 | rim (p:(Int×Int)×je)
 | wid (c:je)
def Gp.n:Gp->Nk
 | .gap p=>V0 p
 | .keep c=>Zn c
 | .rim p=>G9 p
 | .wid c=>kh c
def Gp.led (f:Bool) (w h:Nat):Gp->Gp
 | .gap p=>.gap (Zr (G3 f w h p.1,G3 f w h p.2))
 | .keep c=>.keep (G3 f w h c)
 | .rim p=>.rim (gF f w h p.1,G3 f w h p.2)
 | .wid c=>.wid (G3 f w h c)
theorem fw {ks:List (List Key)}{a b:je} (pm:ks.Perm [k3 a,k3 b]) (up:ks.Pairwise λx y=>lx y x=false):ks=[k3 (Zr (a,b)).1,k3 (Zr (a,b)).2]:=by
 unfold Zr;split
 ·rename_i El;refine vB (pm.trans<|List.Perm.swap ..) up ?_;have:lx (k3 a) (k3 b)=false:=by
   cases e:lx _ _ with
   | false=>rfl
   | true=>have:=V5 El e;rw[gr] at this;cases this
  simp [this]
 ·rename_i El;refine vB pm up ?_;have:=by simpa using El
  simp [this]
theorem xq {p:Addr}{k:Nk} (h:nO.V_ H (.ref p) k):∃xs,H p=some (.tup xs)/\Paired (ZE.V_ H) xs k:=by
 obtain⟨a,xs,e,h1,h2⟩:=h;cases e;exact#[xs,h1,h2]
def rd (C:Addr):Sp:=λvs H Q _=>Gq λ(o dx c d p:Addr) (w h l:Nat) (f:Bool) (b:Gp)=>A4 (vs=[.ref o,.int<|fI f,.ref p]) (H o=some (.ins C dx<|fB w h l c d)) (nO.V_ H (.ref p) b.n) (∀q H',Same H H'->nO.V_ H' (.ref q) (b.led f w h).n->Q (.ref q) H')
theorem NV (T:Txt K mg t):jS P w K mg base 3 "_law_break" [FB,IR,YR] (rd t.jq):=by
 refine T.aK.ok [FB,IR,YR] ?_;rintro _ H Q E ⟨o,dx,c,d,p,w',h,l,f,b,rfl,ho,hb,q⟩;refine#[rfl,λEm A outer s hr=>#[_,(ji (j9 (j5 Uz (ju jr (pv 2) jg) U7) (jk (jC (jp z7 (jN<|ja U7 jf) (zB ZB (by rfl) T.g8 gR (ja (jU VV (by rfl) T.Ux Uu (ja (Jx (own:=[PP]) (UT (cl:=[(IR,_),(FB,_)])) (N8<|N6 oh (pv 2) (cO jg) cN) (λ_ _ _ _ _=>jw 3) (λ_ _ _ _ _=>UF) (λ_ _ _ _ _=>(jn (Vf T)<|ja (pv 0)<|ja (pv 1)<|ja (pv 3) jf))) jf)) jf))))) jW)<|ji (j9 (j5 Uz (ju jr (pv 2) jg) U7) (jk<|jC<|jN<|ja U7<|ja (jn (zI T)<|ja (pv 0)<|ja (pv 1)<|ja (ju jr (ju jr (pv 2) jg) jg)<|ja (ju jr (ju jr (pv 2) jg) jg) jf)<|ja (jn (Vf T)<|ja (pv 0)<|ja (pv 1)<|ja (ju jr (pv 2) jg) jf) jf) jW)<|jk<|jC<|jN<|ja (ju jr (pv 2) jg)<|ja (jn (Vf T)<|ja (pv 0)<|ja (pv 1)<|ja (ju jr (pv 2) jg) jf) jf),?_]];obtain⟨xs,hp,pr⟩:=xq hb;have one:∀{xs:List V} {c:je},Paired (ZE.V_ H) xs [.inr<|k3 c]->∃a,xs=[.ref a]/\H a=some (.tup<|t3 c):=λ{xs c} h=>by
  cases h with
  | cons h1 h2 =>
   cases h2;obtain⟨a,ys,e,h3,h4⟩:=h1;refine#[a,by rw[e],?_];cases h4 with
   | cons a1 t1=>cases t1 with
    | cons a2 t2=>cases t2 with
     | cons a3 t3'=>cases t3';cases a1;cases a2;cases a3;exact h3
 cases b with
 | gap pc =>
  cases pr with
  | cons e0 t0 =>
   cases e0;cases t0 with
   | cons e1 t1 =>
    obtain⟨a1,x1,h1⟩:=one<|.cons e1 .nil;obtain⟨a2,x2,h2⟩:=one t1;cases x1;subst x2;refine#[_,_,jx.of hp,rfl,rfl,JE #[cV,λg0 hg0=>?_]];have s1:=jm (o:=.tup [.str LE]) (Same.refl H) hg0;have eg:upd H g0 (.tup [.str LE]) g0=_:=jd;generalize upd H g0 (.tup [.str LE])=H1 at s1 eg;refine#[1,rfl,p,[.str LE,.ref a1,.ref a2],rfl,jx.of<|s1 _ _ hp,(by show ¬(HT.sIx 3 0 _=0/\HT.sIx 3 3 none=3);decide),λsl hsl=>?_];have s2:=jm (o:=.tup<|vI [.str LE,.ref a1,.ref a2] (some 1) none) (Same.refl H1) hsl;have es:upd H1 sl (.tup<|vI [.str LE,.ref a1,.ref a2] (some 1) none) sl=some (.tup<|[a1,a2].map V.ref):=by rw[jd];rfl
    generalize upd H1 sl (.tup<|vI [.str LE,.ref a1,.ref a2] (some 1) none)=H2 at s2 es;have EY:=Same.trans s1 s2;refine#[sl,rfl,#[_,jx.of es],ib (xs:=[a1,a2].map V.ref) (λD i ys H'=>∃rs:List Addr,A6 (ys=rs.map V.ref) (Same H2 H') _ (H' D=some (.lst ys)) (ys.length<=i) (jP H' rs (([pc.1,pc.2].take i).map λc=>k3<|G3 f w' h c))) (by show 2<=sizeLine;decide) (λD hD=>#[[],rfl,jm (Same.refl _) hD,hD,jd,yh _,#[rfl,λi p c h=>nomatch h]]) (λD i ys H' hv=>by obtain⟨_,_,s',_,e,le,_⟩:=hv;exact#[e,le,jx.of<|s' _ _ es]) ?_ ?_]
    ·rintro D i x ys H' Qy Qn hx ⟨rs,rfl,s3,hD,eD,le,ka⟩ hy hn;obtain⟨a,ha,rfl⟩:=jX hx;obtain⟨cc,IW,ea⟩:∃cc,[pc.1,pc.2][i]?=some cc/\H a=some (.tup<|t3 cc):=by
      match i,ha with
      | 0,ha=>cases ha;exact#[_,rfl,h1]
      | 1,ha=>cases ha;exact#[_,rfl,h2]
     have FT:=Same.trans EY s3;refine#[#[_,rfl,rfl],JE #[o,dx,c,d,a,w',h,l,f,cc,rfl,FT _ _ ho,FT _ _ ea,λr H4 s4 _ e4=>hy _ _ (s4 _ _ eD) #[rs++[r],by rw[yk];rfl,λb u e=>?_,hD,jd,by rw[ye];exact Qb le,?_]]]
     ·rw[jj<|jh e hD];exact s4 _ _ (s3 _ _ e)
     ·rw[JO IW,yk];exact jP.wr (jP.snoc (jP.same ka s4) e4) (s4 _ _ eD) (by intro xs z;cases z)
    ·rintro D ys H3 _ ⟨rs,rfl,s3,hD,eD,le,ka⟩;have I9:jP H3 rs [k3 _,k3 _]:=ka;refine#[D,rs,_,[true,true,true],rfl,eD,I9,λk hk=>?_,by decide,λr bs ks ED kb pm up=>?_]
     ·simp only[yz,Qq,or_false] at hk;rcases hk with rfl|rfl<;>rfl
     have:=fw pm up;subst this;obtain⟨b1,b2,rfl⟩:∃b1 b2,bs=[b1,b2]:=by
      have:=kb.1
      match bs,this with
      | [b1,b2],_=>exact#[b1,b2,rfl]
     have s4:=jm (o:=.lst<|[b1,b2].map V.ref) (Same.refl H3) ED;have er:upd H3 r (.lst<|[b1,b2].map V.ref) r=some (.lst [.ref b1,.ref b2]):=jd;have f1:=s4 _ _<|kb.2 0 b1 _ rfl rfl;have f2:=s4 _ _<|kb.2 1 b2 _ rfl rfl;generalize upd H3 r (.lst<|[b1,b2].map V.ref)=H4 at s4 er f1 f2;refine#[r,_,rfl,.inl #[jt.of er,λtp htp=>?_]];have s5:=jm (o:=.tup [.ref b1,.ref b2]) (Same.refl H4) htp;have et:upd H4 tp (.tup [.ref b1,.ref b2]) tp=_:=jd;generalize upd H4 tp (.tup [.ref b1,.ref b2])=H5 at s5 et;have F2:=Same.trans s2<|Same.trans s3<|Same.trans s4 s5;refine#[g0,tp,_,_,rfl,rfl,jx.of<|F2 _ _ eg,jx.of et,(λz=>nomatch z),(by show 3<=sizeLine;decide),(λz=>nomatch z),λ_ q3 Ls=>?_];have s6:=jm (o:=.tup<|[.str LE]++[.ref b1,.ref b2]) (Same.refl H5) Ls;exact q q3 _ (Same.trans s1<|Same.trans F2 s6) (iE jd (s6 _ _<|s5 _ _ f1)<|s6 _ _<|s5 _ _ f2)
 | rim pc =>
  cases pr with
  | cons e0 t0 =>
   cases e0;cases t0 with
   | cons e1 t1 =>
    obtain⟨a2,x2,h2⟩:=one t1;subst x2;obtain⟨a1,ys,rfl,h3,h4⟩:=e1;have h1:H a1=some (.tup [.int pc.1.1,.int pc.1.2]):=by
     cases h4 with
     | cons a1 t1=>cases t1 with
      | cons a2 t2=>cases t2;cases a1;cases a2;exact h3
    refine#[_,.str SB,jx.of hp,rfl,rfl,Jw (λz=>absurd (V.str.inj z) (by decide)) λ_=>#[_,_,jx.of hp,rfl,rfl,JE #[_,_,jx.of hp,rfl,_,_,jx.of h1,rfl,_,_,jx.of hp,rfl,_,_,jx.of h1,rfl,o,dx,c,d,w',h,l,f,_,rfl,ho,λr ED=>?_]]];have s1:=jm (o:=.tup [.int (gF f w' h pc.1).1,.int (gF f w' h pc.1).2]) (Same.refl H) ED;have er:upd H r (.tup [.int (gF f w' h pc.1).1,.int (gF f w' h pc.1).2]) r=_:=jd;generalize upd H r (.tup [.int (gF f w' h pc.1).1,.int (gF f w' h pc.1).2])=H1 at s1 er;refine#[_,_,jx.of<|s1 _ _ hp,rfl,o,dx,c,d,a2,w',h,l,f,_,rfl,s1 _ _ ho,s1 _ _ h2,λr2 H2 s2 _ e2=>#[Za,λq3 Ls=>?_]];have s3:=jm (o:=.tup [.str SB,.ref r,.ref r2]) (Same.refl H2) Ls;exact q q3 _ (Same.trans s1<|Same.trans s2 s3) (l8 jd (s3 _ _<|s2 _ _ er)<|s3 _ _ e2)
 | keep cc =>
  cases pr with
  | cons e0 t0 =>
   cases e0;obtain⟨a1,rfl,h1⟩:=one t0;exact#[_,_,jx.of hp,rfl,rfl,Jw (λz=>absurd (V.str.inj z) (by decide)) λ_=>#[_,_,jx.of hp,rfl,rfl,Jw (λz=>absurd (V.str.inj z) (by decide)) λ_=>#[_,_,jx.of hp,rfl,_,_,jx.of hp,rfl,o,dx,c,d,a1,w',h,l,f,cc,rfl,ho,h1,λr H2 s2 _ e2=>#[Vy,λq3 Ls=>q q3 _ (Same.trans s2<|jm (Same.refl H2) Ls)<|cy jd<|jm (Same.refl H2) Ls _ _ e2]]]]
 | wid cc =>
  cases pr with
  | cons e0 t0 =>
   cases e0;obtain⟨a1,rfl,h1⟩:=one t0;exact#[_,_,jx.of hp,rfl,rfl,Jw (λz=>absurd (V.str.inj z) (by decide)) λ_=>#[_,_,jx.of hp,rfl,rfl,Jw (λz=>absurd (V.str.inj z) (by decide)) λ_=>#[_,_,jx.of hp,rfl,_,_,jx.of hp,rfl,o,dx,c,d,a1,w',h,l,f,cc,rfl,ho,h1,λr H2 s2 _ e2=>#[Vy,λq3 Ls=>q q3 _ (Same.trans s2<|jm (Same.refl H2) Ls)<|oQ jd<|jm (Same.refl H2) Ls _ _ e2]]]]
theorem Kh:∀a b:List Key,lx a b=JD Jq a b
 | [],[]=>rfl
 | [],_::_=>rfl
 | _::_,[]=>rfl
 | a::r,b::q=>by unfold lx JD;rw[Kh r q]
theorem mf {O:Od}:∀{a b:List (List O.α)},a.Perm b->(a.Pairwise λx y=>JD O y x=false)->(b.Pairwise λx y=>JD O y x=false)->a=b
 | [],b,p,_,_=>(List.nil_perm.mp p).symm
 | x::a,b,p,ha,hb=>by
  cases b with
  | nil=>exact absurd (List.perm_nil.mp p) (by simp)
  | cons y b =>
   obtain⟨h1,L4⟩:=QO.mp ha;obtain⟨h2,FI⟩:=QO.mp hb;have e:x=y:=by
    rcases yz.mp (p.mem_iff.mp<|yE ..) with e|hx
    ·exact e
    ·rcases yz.mp (p.mem_iff.mpr<|yE ..) with e|hy
     ·exact e.symm
     ·exact gZ (h2 x hx) (h1 y hy)
   subst e;rw[mf (abR x |>.mp p) L4 FI]
theorem Vl {α β:Type}{f:α->β} (hf:∀a b,f a=f b->a=b) {l:List α} (h:l.Nodup):(l.map f).Nodup:=yT.mpr (h.imp λne e=>ne<|hf _ _ e)
section
variable {f:Bool}{w h l:Nat}{cs ds En Eo:jF}{cells Ej:List je}
theorem uL.cls (T:uL f w h l cs ds En Eo) (L:CL cs w h l cells) (L':CL En (wF f w h) (hF f w h) l Ej):(cells.map<|G3 f w h).Perm Ej:=by
 refine (y9 (Vl uh L.nd) L'.nd).mpr λe=>?_;obtain⟨c,rfl⟩:=UX (f:=f) (w:=w) (h:=h) e;rw[L'.mem,T.cu,uz uh,L.mem]
theorem uL.mem (T:uL f w h l cs ds En Eo) (L:CL cs w h l cells) (L':CL En (wF f w h) (hF f w h) l Ej) (c:je):G3 f w h c∈Ej↔c∈cells:=by rw[L'.mem,T.cu,L.mem]
theorem tV (T:uL f w h l cs ds En Eo) (L:CL cs w h l cells) (L':CL En (wF f w h) (hF f w h) l Ej) {r:je} (hr:r∈cells) {ks:List (List Key)} (pm:ks.Perm (((JF (jJ cs ds w h l) cells r).map<|G3 f w h).map k3)) (up:ks.Pairwise λa b=>lx b a=false) :
  ks=(JF (jJ En Eo (wF f w h) (hF f w h) l) Ej<|G3 f w h r).map k3:=by
 refine k7 (ur L'.mem) ((T.mem L L' r).mpr hr) L'.nd L'.up pm up (Vl uh<|L.nd.filter _) λe=>?_;obtain⟨c,rfl⟩:=UX (f:=f) (w:=w) (h:=h) e;rw[uz uh,uq (ur L.mem) hr];exact T.iso.rch
theorem cS (B:Nb N cells) (on:∀r∈rs,r∈cells) (ap:rs.Pairwise λa b=>¬Jr N a b):(rs.map<|JF N cells).Nodup:=by
 refine yT.mpr (ap.imp_of_mem λ{a b} ha hb h e=>h ?_);exact (uq B<|on a ha).mp (e▸(uq B<|on b hb).mpr .refl)
theorem qH (T:uL f w h l cs ds En Eo) (L:CL cs w h l cells) (L':CL En (wF f w h) (hF f w h) l Ej) :
  ((Jk (jJ cs ds w h l) cells).map λr=>JF (jJ En Eo (wF f w h) (hF f w h) l) Ej<|G3 f w h r).Perm ((Jk (jJ En Eo (wF f w h) (hF f w h) l) Ej).map<|JF (jJ En Eo (wF f w h) (hF f w h) l) Ej):=by
 have B:=ur (ds:=ds) L.mem;have B':=ur (ds:=Eo) L'.mem;have I:=T.iso;have M:=T.mem L L';have R:=Vc B cells λc h=>h;have R':=Vc B' Ej λc h=>h;generalize jJ cs ds w h l=N at *;generalize jJ En Eo _ _ l=N' at *;have on:∀r∈Jk N cells,r∈cells:=λr hr=>R.sub.subset hr;have XR:∀r∈Jk N' Ej,r∈Ej:=λr hr=>R'.sub.subset hr;have e:((Jk N cells).map λr=>JF N' Ej<|G3 f w h r)=((Jk N cells).map<|G3 f w h).map (JF N' Ej):=by rw[yS];rfl
 rw[e];refine (y9 (cS B' (λr hr=>?_) (yT.mpr (R.apart.imp λh g=>h<|I.rch.mpr g)))<|cS B' XR R'.apart).mpr λx=>#[λhx=>?_,λhx=>?_]
 ·obtain⟨c,hc,rfl⟩:=yf.mp hr;exact (M c).mpr (on c hc)
 ·obtain⟨_,hg,rfl⟩:=yf.mp hx;obtain⟨c,hc,rfl⟩:=yf.mp hg;obtain⟨r,hr,g⟩:=R'.cov _<|(M c).mpr<|on c hc;exact yf.mpr #[r,hr,(k6 B' (XR r hr) g).symm]
 ·obtain⟨r,hr,rfl⟩:=yf.mp hx;obtain⟨c,rfl⟩:=UX (f:=f) (w:=w) (h:=h) r;obtain⟨q,hq,g⟩:=R.cov c<|(M c).mp<|XR _ hr;exact yf.mpr #[_,Qr hq,(k6 B' ((M q).mpr<|on q hq)<|I.rch.mp g).symm]
theorem wv (B:Nb N cells) (nd:cells.Nodup) (up:(cells.map k3).Pairwise λa b=>lx b a=false):(((Jk N cells).map<|JF N cells).map<|Yv k3).Pairwise λa b=>qf b a=false:=by
 have R:=Vc B cells λc h=>h;have hd:∀r∈Jk N cells,∃t,JF N cells r=r::t:=λr hr=>by
  obtain⟨p,q,e,h⟩:=R.first r hr;exact p6 e h
 have Hv:(Jk N cells).Pairwise λa b=>lx (k3 b) _=false:=(yT.mp up).sublist R.sub;have Wz:(Jk N cells).Pairwise _:=nd.sublist R.sub;refine yT.mpr (yT.mpr ((Hv.and Wz).imp_of_mem λ{a b} ha hb h=>?_));obtain⟨t,ea⟩:=hd a ha;obtain⟨t',eb⟩:=hd b hb;rw[ea,eb,yR,yR];refine (i9 λe=>h.2 (JG e).symm).trans ?_;rw[<-h.1,Kh]
theorem qb (T:uL f w h l cs ds En Eo) (L:CL cs w h l cells) (L':CL En (wF f w h) (hF f w h) l Ej) (pm:Fu.Perm ((Jk (jJ cs ds w h l) cells).map λr=>(JF (jJ En Eo (wF f w h) (hF f w h) l) Ej<|G3 f w h r).map k3)) (up:Fu.Pairwise λa b=>qf b a=false) :
  Fu=((Jk (jJ En Eo (wF f w h) (hF f w h) l) Ej).map<|JF (jJ En Eo (wF f w h) (hF f w h) l) Ej).map (Yv k3):=by
 have:=(qH T L L').map<|Yv k3;rw[yS] at this;exact mf (O:=Jl Jq) (pm.trans this) up (wv (ur L'.mem) L'.nd L'.up)
end
theorem ga {α β:Type}{f g:α->List β}:∀{l:List α},(∀a∈l,(f a).Perm<|g a)->(l.flatMap f).Perm (l.flatMap g)
 | [],_=>.refl _
 | a::l,h=>by
  rw[QR,QR];exact (h a<|yE ..).append (ga λb hb=>h b<|yH _ hb)
theorem cG {x y:Int}{n m:Nat}{p:Int×Int}:p∈vR x y n m↔(x<=p.1/\p.1<x+n)/\y<=p.2/\p.2<y+m:=by
 unfold vR;rw[abH];constructor
 ·rintro⟨i,hi,hp⟩;obtain⟨j,hj,rfl⟩:=yf.mp hp;rw[Qs] at hi hj;simp only
  lia
 ·intro h;refine#[(p.1 - x).toNat,Qs.mpr (by omega),yf.mpr #[(p.2 - y).toNat,Qs.mpr (by omega),?_]];exact QQ (by lia) (by lia)
theorem Az (x y:Int) (n m:Nat):(vR x y n m).Nodup:=by
 unfold vR;refine List.pairwise_flatMap.mpr #[λi _=>Vl (λa b e=>?_) List.nodup_range,List.nodup_range.imp λ{a b} ne p hp q hq e=>?_]
 ·injection e with _ e;lia
 ·obtain⟨_,_,rfl⟩:=yf.mp hp;obtain⟨_,_,rfl⟩:=yf.mp hq;injection e with e;lia
theorem g7 {x y z:Int}{n:Nat}:e∈Mc x y z n↔((x<=e.1/\e.1<x+n)/\y<=e.2.1/\e.2.1<y+n)/\e.2.2=z:=by
 unfold Mc;rw[yf];constructor
 ·rintro⟨p,hp,rfl⟩;exact#[cG.mp hp,rfl]
 ·rintro⟨h,rfl⟩;exact#[(e.1,e.2.1),cG.mpr h,rfl]
theorem aq (x y z:Int) (n:Nat):(Mc x y z n).Nodup:=Vl (λa b e=>by injection e with e1 e2;injection e2 with e2;exact QQ e1 e2) (Az x y n n)
def Ct:Nk->Gp
 | [.inl<|.inr s,.inr a]=>if s=ST then .keep (Vz a) else .wid (Vz a)
 | [.inl<|.inr s,.inr a,.inr b]=>if s=LE then .gap (Vz a,Vz b) else .rim (gK a,Vz b)
 | _=>.keep (0,0,0)
theorem BF (b:Gp):Ct b.n=b:=by
 cases b with
 | gap p=>exact if_pos (c:=(LE)=LE) (e:=.rim (gK<|k3 p.1,Vz<|k3 p.2)) rfl
 | keep c=>exact if_pos (c:=(ST)=ST) (e:=.wid<|Vz<|k3 c) rfl
 | rim p=>exact if_neg (c:=(SB)=LE) (t:=.gap (Vz<|k2 p.1,Vz<|k3 p.2)) (by decide)
 | wid c=>exact if_neg (c:=(P3)=ST) (t:=.keep<|Vz<|k3 c) (by decide)
def vN (f:Bool) (w h:Nat) (k:Nk):Nk:=((Ct k).led f w h).n
theorem zU {f:Bool}{w:Nat} (b:Gp):vN f w h b.n=(b.led f w h).n:=by unfold vN;rw[BF]
theorem rW {k:Nk} (h:Vk k):∃b:Gp,b.n=k:=by
 rcases h with ⟨p,rfl⟩|⟨p,rfl⟩|⟨p,rfl⟩|⟨p,rfl⟩
 ·exact#[.gap p,rfl]
 ·exact#[.keep p,rfl]
 ·exact#[.rim p,rfl]
 ·exact#[.wid p,rfl]
theorem gQ {c:je}:e∈JT c g↔((c.1 - g<=e.1/\e.1<=c.1+g)/\c.2.1 - g<=e.2.1/\e.2.1<=c.2.1+g)/\e.2.2=c.2.2:=by
 unfold JT;rw[g7]
 lia
section
variable {f:Bool}{w h l g n rm:Nat}{cs ds En Eo:jF}{cells Ej:List je}
theorem KM {c:je}:G3 f w h e∈JT (G3 f w h c) g↔e∈JT c g:=by
 rw[gQ,gQ];cases f<;>(simp only[G3,g3,gF,Zb,ZD,cond];lia)
theorem pB (c:je):((JT c g).map<|G3 f w h).Perm (JT (G3 f w h c) g):=by
 refine (y9 (Vl uh<|aq ..)<|aq ..).mpr λe=>?_;obtain⟨d,rfl⟩:=UX (f:=f) (w:=w) (h:=h) e;rw[uz uh];exact KM.symm
def mZ (cl:List je) (g:Nat) (F:je->je->Bool):List (je×je):=cl.flatMap λc=>((JT c g).filter<|F c).map λd=>(c,d)
theorem aa (cl:List je) (g:Nat) (F:je->je->Bool):J0 cl g F=(mZ cl g F).map V0:=by
 unfold J0 mZ;rw[aaS];simp only[yS]
 rfl
theorem tZ {p:je×je}:p∈mZ cl g F↔p.1∈cl/\p.2∈JT p.1 g/\F p.1 p.2=true:=by
 unfold mZ;rw[abH];constructor
 ·rintro⟨c,hc,hp⟩;obtain⟨d,hd,rfl⟩:=yf.mp hp;exact#[hc,yZ.mp hd]
 ·rintro⟨h1,h2⟩;exact#[_,h1,yf.mpr #[_,yZ.mpr h2,rfl]]
theorem lX (nd:cl.Nodup):(mZ cl g F).Nodup:=by
 unfold mZ;refine List.pairwise_flatMap.mpr #[λc _=>Vl (λa b e=>by injection e)<|(aq ..).filter _,nd.imp λ{a b} ne p hp q hq e=>?_];obtain⟨_,_,rfl⟩:=yf.mp hp;obtain⟨_,_,rfl⟩:=yf.mp hq;injection e with e
 exact ne e
structure Gu (N:je->List je) (cells:List je) (g:Nat) (a b:je):Prop where
 l:a∈cells
 m:b∈cells
 n:b∈JT a g
 r:¬Jr N a b
theorem Gu.symm (B:Nb N cells) {a b:je} (T:Gu N cells g a b):Gu N cells g b a:=#[T.m,T.l,by have:=gQ.mp T.n;rw[gQ];lia,λh=>T.r<|h.symm B T.m]
theorem va {p:je×je}:p∈mZ cells g (fG N cells)↔Gu N cells g p.1 p.2/\zx p.1 p.2=true:=by
 rw[tZ];unfold fG;rw[yU,yU,decide_eq_true_iff,aal,Bool.eq_false_iff,Ne,Vp];exact#[λh=>#[#[h.1,h.2.2.2.1,h.2.1,h.2.2.2.2],h.2.2.1],λh=>#[h.1.l,h.1.n,h.2,h.1.m,h.1.r]]
theorem G1 {a b:je} (h1:zx a b=true) (h2:zx b a=true):False:=by
 have:=gq h1 h2;rw[K3] at this;cases this
theorem sg {a b:je} (h:zx a b=true):Zr (a,b)=(a,b):=if_neg λz=>G1 h (by rw[Kh] at z;exact z)
theorem sf {a b:je} (h:zx b a=true):Zr (a,b)=(b,a):=if_pos (by rw[Kh];exact h)
theorem i7 {a b:je} (h:a≠b):zx a b=true\/zx b a=true:=by
 cases h1:zx a b with
 | true=>exact .inl rfl
 | false =>
  cases h2:zx b a with
  | true=>exact .inr rfl
  | false=>exact absurd (JG<|gZ h1 h2) h
theorem Gu.ne {a b:je} (T:Gu N cells g a b):a≠b:=λe=>T.r (e▸.refl)
theorem Gu.led (T:uL f w h l cs ds En Eo) (L:CL cs w h l cells) (L':CL En (wF f w h) (hF f w h) l Ej) {a b:je}:Gu (jJ En Eo (wF f w h) (hF f w h) l) Ej g (G3 f w h a) (G3 f w h b)↔Gu (jJ cs ds w h l) cells g a b:=by
 have I:=T.iso.rch (a:=a) (b:=b);constructor
 ·rintro⟨h1,h2,h3,h4⟩;exact#[(T.mem L L' a).mp h1,(T.mem L L' b).mp h2,KM.mp h3,λz=>h4<|I.mp z]
 ·rintro⟨h1,h2,h3,h4⟩;exact#[(T.mem L L' a).mpr h1,(T.mem L L' b).mpr h2,KM.mpr h3,λz=>h4<|I.mpr z]
theorem pX (T:uL f w h l cs ds En Eo) (L:CL cs w h l cells) (L':CL En (wF f w h) (hF f w h) l Ej) :
  ((J0 cells g<|fG (jJ cs ds w h l) cells).map<|vN f w h).Perm (J0 Ej g<|fG (jJ En Eo (wF f w h) (hF f w h) l) Ej):=by
 have B:=ur (ds:=ds) L.mem;have B':=ur (ds:=Eo) L'.mem;have W:=λ{a b}=>Gu.led (g:=g) T L L' (a:=a) (b:=b);rw[aa,aa,yS];have e:(vN f w h∘V0)=V0∘λp:je×je=>Zr _:=funext λp=>zU<|.gap p;rw[e,<-yS];refine aac _ ?_;generalize jJ cs ds w h l=N at *;generalize jJ En Eo _ _ l=N' at *;have oo:∀{p},p∈mZ cells g (fG N cells)->(zx _ _=true/\Zr _=(G3 f w h _,G3 f w h _))\/(zx _ _=true/\Zr _=(G3 f w h _,G3 f w h _)):=λ{p} hp=>by
  rcases i7 λz=>(va.mp hp).1.ne (uh _ _ z) with h|h
  ·exact .inl #[h,sg h]
  ·exact .inr #[h,sf h]
 refine (y9 (yT.mpr ((lX L.nd).imp_of_mem λ{p q} hp hq ne e=>?_))<|lX L'.nd).mpr λx=>#[λhx=>?_,λhx=>?_]
 ·refine ne ?_;have lp:=(va.mp hp).2;have lq:=(va.mp hq).2;rcases oo hp with ⟨_,e1⟩|⟨_,e1⟩<;>rcases oo hq with ⟨_,e2⟩|⟨_,e2⟩<;>(rw[e1,e2] at e;injection e with a1 a2;have a1:=uh _ _ a1;have a2:=uh _ _ a2)
  ·exact QQ a1 a2
  ·rw[a1,a2] at lp;exact (G1 lp lq).elim
  ·rw[a1,a2] at lp;exact (G1 lp lq).elim
  ·exact QQ a2 a1
 ·obtain⟨p,hp,rfl⟩:=yf.mp hx;have tp:=W.mpr (va.mp hp).1;rcases oo hp with ⟨h1,e1⟩|⟨h1,e1⟩<;>rw[e1]
  ·exact va.mpr #[tp,h1]
  ·exact va.mpr #[tp.symm B',h1]
 ·obtain⟨c,d⟩:=x;obtain⟨t,lt⟩:=va.mp hx;obtain⟨a,rfl⟩:=UX (f:=f) (w:=w) (h:=h) c;obtain⟨b,rfl⟩:=UX (f:=f) (w:=w) (h:=h) d;have t2:=W.mp t;rcases i7 t2.ne with h1|h1
  ·exact yf.mpr #[(a,b),va.mpr #[t2,h1],sg lt]
  ·exact yf.mpr #[(b,a),va.mpr #[t2.symm B,h1],sf lt]
theorem tU (c:je) (k:K5):kX (G3 f w h c) (kF f w h k)=kX c k:=by
 unfold kX;rw[decide_eq_decide];cases f<;>(simp only[G3,g3,gF,Zb,ZD,kF,cond];lia)
theorem iU (T:uL f w h l cs ds En Eo) (L:CL cs w h l cells) (L':CL En (wF f w h) (hF f w h) l Ej) (ks:List K5):((U0 cells ks).map<|vN f w h).Perm (U0 Ej<|ks.map<|kF f w h):=by
 unfold U0;rw[yS,show (vN f w h∘Zn)=Zn∘G3 f w h from funext λc=>zU<|.keep c,<-yS];refine aac _<|Yn ?_<|(T.cls L L').filter _;rw[aaX];refine .of_eq (congrArg _ (aak λc _=>?_));show ks.any _=(ks.map _).any _;rw[List.any_map];exact congrArg ks.any (funext λk=>(tU c k).symm)
theorem iK (T:uL f w h l cs ds En Eo) (p:(hl.map k2).Perm (ds.map (·.1))) (p':(IG.map k2).Perm (Eo.map (·.1))):(hl.map<|gF f w h).Perm IG:=by
 have nd:∀{hl:List _} {ds:jF},(hl.map k2).Perm _->(ds.map (·.1)).Nodup->hl.Nodup:=λp n=>(yT.mp<|p.nodup_iff.mpr n).imp λh e=>h (by rw[e]);have mm:∀{hl:List _} {ds:jF},(hl.map k2).Perm _->∀q,q∈hl↔zS ds q=true:=λp q=>by
  unfold zS;rw[UK,<-p.mem_iff,uz λa b e=>gc e]
 have gi:∀a b,gF f w h a=gF f w h b->a=b:=λa b e=>by
  cases f
  ·exact (K2 w h).inj a b e
  ·exact (K1 w h).inj a b e
 refine (y9 (Vl gi<|nd p T.D.nd)<|nd p' T.D'.nd).mpr λq=>?_;obtain⟨r,rfl⟩:=Nr (f:=f) (w:=w) (h:=h) q;rw[uz gi,mm p,mm p',T.L.h]
theorem qJ (T:uL f w h l cs ds En Eo) (p:(hl.map k2).Perm (ds.map (·.1))) (p':(IG.map k2).Perm (Eo.map (·.1))):((uf hl l rm<|jT cs).map<|vN f w h).Perm (uf IG l rm<|jT En):=by
 unfold uf;refine Yn ?_<|(iK T p p').flatMap_right _;rw[aaS,List.flatMap_map];refine ga λq _=>?_;rw[aaS];refine ga λz _=>?_;have c1:=T.L.c (q.1,q.2,(z));unfold zg;rw[show (((gF f w h q).1,(gF f w h q).2,(z:Int)))=G3 f w h (q.1,q.2,(z)) from rfl,show jT En (G3 f w h _)=_ from c1];split
 ·rw[yS,show (vN f w h∘λc=>G9 _)=(λc=>G9 (gF f w h q,c))∘G3 f w h from funext λc=>zU<|.rim (q,c),<-yS];refine aac _<|Yn ?_<|(pB _).filter _;rw[aaX];refine .of_eq (congrArg _ (aak λc _=>?_));show (!jT cs c)=!jT En _;rw[show jT En (G3 f w h c)=_ from T.L.c c]
 ·exact .refl _
theorem bR (T:ui cs w h l) (L:CL cs w h l cells) (hn:1<=n) (e:je):zm cells (jT cs) n e=true↔∃c,(∀d∈U9 c n,jT cs d=true)/\e∈U9 c n:=by
 unfold zm;rw[QX];constructor
 ·rintro⟨c,_,h⟩;rw[yU,y6,decide_eq_true_iff] at h;exact#[c,h]
 ·rintro⟨c,h1,h2⟩;refine#[c,(L.mem c).mpr ?_,by rw[yU,y6,decide_eq_true_iff];exact#[h1,h2]];rw[kI T];exact h1 c (g7.mpr (by lia))
def cF (f:Bool) (w h n:Nat) (c:je):je:=bif f then ((w:Int) - c.1 - n,c.2.1,c.2.2) else ((h:Int) - c.2.1 - n,c.1,c.2.2)
theorem kB {c:je}:G3 f w h e∈U9 (cF f w h n c) n↔e∈U9 c n:=by
 unfold U9;rw[g7,g7];cases f<;>(simp only[G3,g3,gF,Zb,ZD,cF,cond];lia)
theorem xy (c:je):∃d,cF f w h n d=c:=by
 cases f
 ·exact#[(c.2.1,(h) - c.1 - n,c.2.2),by show ((h) - ((h) - c.1 - n) - n,c.2.1,c.2.2)=c;rw[show (h) - ((h) - c.1 - n) - n=c.1 by lia]]
 ·exact#[((w) - c.1 - n,c.2.1,c.2.2),by show ((w) - ((w) - c.1 - n) - n,c.2.1,c.2.2)=c;rw[show (w) - ((w) - c.1 - n) - n=c.1 by lia]]
theorem tD (T:uL f w h l cs ds En Eo) (L:CL cs w h l cells) (L':CL En (wF f w h) (hF f w h) l Ej) (hn:1<=n) (e:je):zm Ej (jT En) n (G3 f w h e)=zm cells (jT cs) n e:=by
 rw[y4,bR T.C' L' hn,bR T.C L hn];have al:∀c,(∀d∈U9 (cF f w h n c) n,jT En d=true)↔∀d∈U9 c n,jT cs d=true:=λc=>by
  constructor
  ·intro h1 d hd;rw[<-T.L.c d];exact h1 _ (kB.mpr hd)
  ·intro h1 d hd;obtain⟨b,rfl⟩:=UX (f:=f) (w:=w) (h:=h) d;exact (T.L.c b).trans (h1 b<|kB.mp hd)
 constructor
 ·rintro⟨c,h1,h2⟩;obtain⟨d,rfl⟩:=xy (f:=f) (w:=w) (h:=h) (n:=n) c;exact#[d,(al d).mp h1,kB.mp h2]
 ·rintro⟨c,h1,h2⟩;exact#[_,(al c).mpr h1,kB.mpr h2]
theorem rD (T:uL f w h l cs ds En Eo) (L:CL cs w h l cells) (L':CL En (wF f w h) (hF f w h) l Ej) (hn:1<=n):((VH cells cells (jT cs) n).map<|vN f w h).Perm (VH Ej Ej (jT En) n):=by
 unfold VH;rw[yS,show (vN f w h∘kh)=kh∘G3 f w h from funext λc=>zU<|.wid c,<-yS];refine aac _<|Yn ?_<|(T.cls L L').filter _;rw[aaX];refine .of_eq (congrArg _ (aak λc _=>?_));show (!zm cells _ n c)=!zm Ej _ n _;rw[tD T L L' hn]
theorem pG (T:uL f w h l cs ds En Eo) (L:CL cs w h l cells) (L':CL En (wF f w h) (hF f w h) l Ej) (p:(hl.map k2).Perm (ds.map (·.1))) (p':(IG.map k2).Perm (Eo.map (·.1))) (hn:1<=n) (ks:List K5) :
  ((Z3 cells hl (fG (jJ cs ds w h l) cells) (jT cs) l g n rm ks).map<|vN f w h).Perm (Z3 Ej IG (fG (jJ En Eo (wF f w h) (hF f w h) l) Ej) (jT En) l g n rm<|ks.map<|kF f w h):=by
 unfold Z3;rw[yk,yk,yk];exact (((pX T L L').append<|iU T L L' ks).append<|qJ T p p').append (rD T L L' hn)
end
theorem Paired.of_get {α β:Type}{F:α->β->Prop}:∀{l:List α} {m:List β},l.length=m.length->(∀(i:Nat) (x:α) (y:β),l[i]?=some x->m[i]?=some y->F x y)->Paired F l m:=by
 intro l
 induction l with
 | nil =>
  intro m e _;cases m with
  | nil=>exact .nil
  | cons=>cases e
 | cons a l ih =>
  intro m e h;cases m with
  | nil=>cases e
  | cons b m=>exact .cons (h 0 a b rfl rfl) (ih (Yx e) λi x y h1 h2=>h (i+1) x y h1 h2)
theorem ik:∀k:List Key,Paired (GO H 0) (k.map kV) (k.map kV):=by
 intro k
 induction k with
 | nil=>exact .nil
 | cons a k ih=>exact .cons #[a,rfl,rfl] ih
theorem n5 {a b:Addr} (ha:H a=some (.tup<|k.map kV)) (hb:H b=some (.tup<|k.map kV)):GO H 1 (.ref a) (.ref b):=.inr #[a,b,_,_,rfl,rfl,.inl #[ha,hb],ik k]
theorem io {bs:DZ}{ks:List (List Key)} (A:jP H as ks) (B:jP H bs ks):Paired (GO H 1) (as.map V.ref) (bs.map V.ref):=by
 refine Paired.of_get (by rw[yb,yb,A.1,B.1]) λi x y h1 h2=>?_;rw[yo] at h1 h2;obtain⟨a,ha,rfl⟩:=yI.mp h1;obtain⟨b,hb,rfl⟩:=yI.mp h2;have hi:i<ks.length:=by rw[<-A.1];exact (yd.mp ha).1
 exact n5 (A.2 i a _ ha<|yc hi) (B.2 i b _ hb<|yc hi)
theorem ij {bs:DZ}{p:Addr} (hr:H r=some (.lst<|as.map V.ref)) (hp:H p=some (.lst<|bs.map V.ref)) (A:ux H as Fu) (B:ux H bs Fu):de H 2 (.ref r) (.ref p):=by
 refine#[r,p,_,_,rfl,rfl,.inr #[hr,hp],Paired.of_get (by rw[yb,yb,A.1,B.1]) λi x y h1 h2=>?_];rw[yo] at h1 h2;obtain⟨a,ha,rfl⟩:=yI.mp h1;obtain⟨b,hb,rfl⟩:=yI.mp h2;have hi:i<Fu.length:=by rw[<-A.1];exact (yd.mp ha).1
 obtain⟨us,e1,k1⟩:=A.2 i a _ ha<|yc hi;obtain⟨vs,e2,k2⟩:=B.2 i b _ hb<|yc hi;exact .inr #[a,b,_,_,rfl,rfl,.inr #[e1,e2],io k1 k2]
theorem cz {xs:List V} (h:Paired (Jq.V_ H) xs k):xs=k.map kV:=by
 induction h with
 | nil=>rfl
 | cons r t ih=>rw[yR,<-ih];exact congrArg (·::_) r
theorem tJ {p q:Addr}{k:Nk} (hp:nO.V_ H (.ref p) k) (hq:nO.V_ H (.ref q) k):GO H 2 (.ref p) (.ref q):=by
 obtain⟨xs,h1,a⟩:=xq hp;obtain⟨ys,h2,b⟩:=xq hq;refine .inr #[p,q,_,_,rfl,rfl,.inl #[h1,h2],?_];clear h1 h2 hp hq
 induction a generalizing ys with
 | nil=>cases b;exact .nil
 | @cons x c _ _ r t ih =>
  cases b with
  | cons r' t' =>
   refine .cons ?_<|ih _ t';cases c with
   | inl c=>exact .inl #[c,r,r']
   | inr l =>
    obtain⟨a1,us,rfl,e1,p1⟩:=r;obtain⟨a2,vs,rfl,e2,p2⟩:=r';rw[cz p1] at e1;rw[cz p2] at e2;exact n5 e1 e2
theorem ii {bs:DZ}{ks:List Nk}{p:Addr} (hr:H r=some (.lst<|as.map V.ref)) (hp:H p=some (.lst<|bs.map V.ref)) (A:jL nO H as ks) (B:jL nO H bs ks):de H 2 (.ref r) (.ref p):=by
 refine#[r,p,_,_,rfl,rfl,.inr #[hr,hp],?_];clear hr hp;unfold jL at A B
 induction A generalizing bs with
 | nil=>cases B;exact .nil
 | cons r t ih =>
  cases B with
  | cons r' t'=>exact .cons (tJ r r') (ih t')
theorem ux.same {H':Hp} (C:ux H as Fu) (s:Same H H'):ux H' as Fu:=#[C.1,λi a l h1 h2=>by
 obtain⟨bs,e,c⟩:=C.2 i a l h1 h2;exact#[bs,s _ _ e,jP.same c s]]
theorem ux.snoc {EA:List (List<|List Key)}{a:Addr}{bs:DZ}{l:List (List Key)} (C:ux H as EA) (e:H a=some (.lst<|bs.map V.ref)) (c:jP H bs l):ux H (as++[a]) (EA++[l]):=#[by rw[ye,ye,C.1];rfl,λi q d h1 h2=>by
 by_cases h:i<as.length
 ·rw[yn h] at h1;rw[yn<|C.1▸h] at h2;exact C.2 i q d h1 h2
 ·rw[yl (by lia)] at h1;rw[yl (by rw[<-C.1];lia),<-C.1] at h2;generalize i - as.length=m at h1 h2;cases m with
  | zero=>cases h1;cases h2;exact#[bs,e,c]
  | succ m=>cases h1]
theorem ux.wr {EA:List (List<|List Key)} (C:ux H as EA) (hD:H D=some (.lst ys)) (n:∀a∈as,a≠D):ux (upd H D<|.lst Pd) as EA:=#[C.1,λi a l h1 h2=>by
 obtain⟨bs,e,c⟩:=C.2 i a l h1 h2
 exact#[bs,jB (n a<|yp h1) e,jP.wr c hD (by intro xs z;cases z)]]
theorem vV.ll (C:vV H as EA):ux H as (EA.map<|Yv k3):=#[by rw[yb];exact C.1,λi a l h1 h2=>by
 rw[yo] at h2;obtain⟨l',hl,rfl⟩:=yI.mp h2;obtain⟨bs,e,c⟩:=C.2 i a l' h1 hl;exact#[bs,e,c.key]]
theorem hU {α:Type}{g:TG}{k:Nat}{a:Addr}{xs:List α} (key Hg:α->List (List Key)) (hz:xs.length<=sizeLine) (ha:H a=some (.lst<|ps.map V.ref)) (C:ux H ps (xs.map key))
  (hg:∀(r:Addr) (bs:DZ) (x:α) (H':Hp) (Qy:VK) (Qn:Hp->Prop),x∈xs->Same H H'->H' r=some (.lst<|bs.map V.ref)->jP H' bs (key x)->(∀p Fg H2,Same H' H2->H' p=none->H2 p=some (.lst<|Fg.map V.ref)->jP H2 Fg (Hg x)->Qy (.ref p) H2)->g (.ref r) (σ++Yd k none) H' λσ2 H2=>(∃zs,σ2=σ++zs/\zs.length=k)/\tc σ2 H2 λb H3=>if b=true then te σ2 H3 Qy else Qn H3)
  (q:∀D rs H',Same H H'->H D=none->H' D=some (.lst<|rs.map V.ref)->ux H' rs (xs.map Hg)->Q (.ref D) H'):vm k g tc te σ Q (ZU K a) H:=by
 have hl:ps.length=xs.length:=by rw[C.1,yb]
 refine uj (xs:=ps.map V.ref) (λD i ys H'=>∃rs:List Addr,A7 _ (Same H H') (H' D=some (.lst ys)) (ys.length<=i) (ys=rs.map V.ref) (ux H' rs<|(xs.take i).map Hg) (∀a∈rs,a≠D)) (by rw[yb,hl];exact hz) (λD hD=>#[[],hD,jm (Same.refl _) hD,jd,yh _,rfl,#[rfl,λi p c h=>nomatch h],λa h=>nomatch h]) (λD i ys H' hv=>by obtain⟨_,_,s,e,le,_⟩:=hv;exact#[e,le,jt.of<|s _ _ ha]) ?_ ?_
 ·rintro D i v ys H' Qy Qn hx ⟨rs,d1,d2,d3,d4,rfl,C',nd⟩ hy hn;obtain⟨r,FL,rfl⟩:=jX hx;have hi:i<xs.length:=by rw[<-hl];exact (yd.mp FL).1
  have hs:=yc hi;obtain⟨bs,er,kr⟩:=C.2 i r _ FL (by rw[yo,hs];rfl);refine hg r bs _ H' Qy Qn (yV hi) d2 (d2 _ _ er) (jP.same kr d2) λp Fg H2 s2 hp ep kp=>?_;have Fj:=s2 _ _ d3;have np:p≠D:=λz=>by rw[z,d3] at hp;cases hp
  have P₂:∀a∈rs++[p],a≠D:=λa h=>by
   rcases yj.mp h with h|h
   ·exact nd a h
   ·rw[yi] at h;subst h;exact np
  refine hy _ _ Fj #[_,d1,λb u e=>?_,jd,by rw[ye];exact Qb d4,by rw[yk];rfl,?_,P₂]
  ·rw[jj<|jh e d1];exact s2 _ _ (d2 _ _ e)
  ·rw[JO hs,yk];exact ux.wr (ux.snoc (ux.same C' s2) ep kp) Fj P₂
 ·rintro D ys H3 hD ⟨rs,d1,d2,d3,d4,rfl,C',_⟩;rw[yb,hl,yW] at C';exact q D rs H3 d2 d1 d3 C'
theorem jL.at_ {fs:DZ}{ks:List Nk} (A:jL nO H fs ks) {p:Addr} {k:Nk} (h1:fs[i]?=some p) (h2:ks[i]?=some k):nO.V_ H (.ref p) k:=by
 unfold jL at A
 induction A generalizing i with
 | nil=>cases h1
 | cons r t ih =>
  cases i with
  | zero=>cases h1;cases h2;exact r
  | succ i=>exact ih h1 h2
theorem hV {g:TG}{k:Nat}{a:Addr}{xs:List Nk} (f:Nk->Nk) (hz:xs.length<=sizeLine) (ha:H a=some (.lst<|ps.map V.ref)) (C:jL nO H ps xs)
  (hg:∀(r:Addr) (x:Nk) (H':Hp) (Qy:VK) (Qn:Hp->Prop),x∈xs->Same H H'->nO.V_ H' (.ref r) x->(∀p H2,Same H' H2->nO.V_ H2 (.ref p) (f x)->Qy (.ref p) H2)->g (.ref r) (σ++Yd k none) H' λσ2 H2=>(∃zs,σ2=σ++zs/\zs.length=k)/\tc σ2 H2 λb H3=>if b=true then te σ2 H3 Qy else Qn H3)
  (q:∀D rs H',Same H H'->H D=none->H' D=some (.lst<|rs.map V.ref)->jL nO H' rs (xs.map f)->Q (.ref D) H'):vm k g tc te σ Q (ZU K a) H:=by
 have hl:=jL.len C;refine uj (xs:=ps.map V.ref) (λD i ys H'=>∃rs:List Addr,A6 _ (Same H H') (H' D=some (.lst ys)) (ys.length<=i) (ys=rs.map V.ref)<|jL nO H' rs<|(xs.take i).map f) (by rw[yb,hl];exact hz) (λD hD=>#[_,hD,jm (Same.refl _) hD,jd,yh _,rfl,.nil]) (λD i ys H' hv=>by obtain⟨_,_,s,e,le,_⟩:=hv;exact#[e,le,jt.of<|s _ _ ha]) ?_ ?_
 ·rintro D i v ys H' Qy Qn hx ⟨rs,d1,d2,d3,d4,rfl,C'⟩ hy hn;obtain⟨r,FL,rfl⟩:=jX hx;have hi:i<xs.length:=by rw[<-hl];exact (yd.mp FL).1
  have hs:=yc hi;refine hg r _ H' Qy Qn (yV hi) d2 (nO.mono (λp ys e=>d2 _ _ e)<|jL.at_ C FL hs) λp H2 s2 ep=>?_;have Fj:=s2 _ _ d3;refine hy _ _ Fj #[rs++[p],d1,λb u e=>?_,jd,by rw[ye];exact Qb d4,by rw[yk];rfl,?_]
  ·rw[jj<|jh e d1];exact s2 _ _ (d2 _ _ e)
  ·rw[JO hs,yk];exact jL.mono (jL.snoc (jL.mono C' λp ys e=>s2 _ _ e) ep) λp ys e=>by rw[jj<|jA e Fj];exact e
 ·rintro D ys H3 hD ⟨rs,d1,d2,d3,d4,rfl,C'⟩;rw[yb,hl,yW] at C';exact q D rs H3 d2 d1 d3 C'
theorem Gs.good {w:Nat} (S:zP w h l) (kk:∀k∈ks,Gs w h l k) (le:ks.length<=12):nK (ks.map GD):=#[by rw[yb];exact le,λxs hx=>by
 obtain⟨k,hk,rfl⟩:=yf.mp hx;obtain⟨hx,hy,hw,hh,hz⟩:=kk k hk;have:=S.w;have:=S.h;have:=S.l
 exact#[k.1,k.2.1,k.2.2.1,k.2.2.2.1,k.2.2.2.2,rfl,#[by lia,by show k.1<10000000000000000000000000000000000000000;lia],#[by lia,by show k.2.1<10000000000000000000000000000000000000000;lia],#[by omega,by show k.2.2.1<10000000000000000000000000000000000000000;lia],#[by omega,by show k.2.2.2.1<10000000000000000000000000000000000000000;lia],#[by lia,by show k.2.2.2.2<10000000000000000000000000000000000000000;lia]]]
theorem Gs.led {f:Bool}{w:Nat}{k:K5} (X:Gs w h l k):Gs (wF f w h) (hF f w h) l (kF f w h k):=by
 obtain⟨hx,hy,hw,hh,hz⟩:=X;cases f<;>exact#[by simp only[kF,aa8];lia,by simp only[kF,hF,cond,abe,aa8];omega,by simp only[kF,cond];omega,by simp only[kF,cond];omega,by simp only[kF,cond];omega]
theorem NJ {n:Nat}{gi ni ri:Int}{w:Nat}{E:XK} (S:zP w h l) (ek:H kl=some (.lst<|ps.map V.ref)) (kk:uK H ps ks) (gk:∀k∈ks,Gs w h l k) (b:g<=2/\1<=n/\n<=3/\rm<=1/\ks.length<=12) (eg:gi=g) (en:ni=n) (er:ri=rm) (ho:H o=none) (Lj:H dx=none)
  (q:∀lk kp H',Same H H'->ku K C H' o dx kp ps g n rm (.ref lk) ks->Q .non H'):cZ C [.ref o,.int gi,.int ni,.int ri,.ref kl] (upd (upd H dx<|.own o) o<|.ins C dx []) Q E:=by
 subst eg en er;have s1:Same H (upd (upd H dx<|.own o) o<|.ins C dx []):=λx u e=>by rw[jj<|jh e ho,jj<|jh e Lj];exact e
 obtain⟨b1,b2,b3,b4,b5⟩:=b;refine#[o,dx,g,n,rm,kl,ps,_,rfl,jd,s1 _ _ ek,kk.same s1,#[by lia,by lia],#[by lia,by lia],#[by lia,by lia],Gs.good S gk b5,λlk kp H' bt hl hk nl el ek eo=>?_];have s2:Same H H':=λx u e=>bt _ _ (jh e ho)<|s1 _ _ e;exact q lk kp H' s2 #[eo,ek,kk.same s2,b1,b2,b3,b4,b5]
def iR (k:K5):List Key:=[.inl k.1,.inl k.2.1,.inl k.2.2.1,.inl k.2.2.2.1,.inl k.2.2.2.2]
theorem uK.key (C:uK H ps ks):jP H ps (ks.map iR):=#[by rw[yb];exact uK.len C,λi p x h1 h2=>by
 obtain⟨k,hk,rfl⟩:=jX h2;exact uK.at_ C h1 hk]
theorem uK.of_key (C:jP H ps (ks.map iR)):uK H ps ks:=#[by rw[C.1,yb,yb],λi p xs h1 h2=>by
 obtain⟨k,hk,rfl⟩:=jX h2
 exact C.2 i p (iR k) h1 (by rw[yo,hk];rfl)]
theorem uL.ex {f:Bool}{w:Nat}{En Eo:jF}{cells:List je} (T:uL f w h l cs ds En Eo) (L:CL cs w h l cells):∃Ej,CL En (wF f w h) (hF f w h) l Ej:=by
 have pm:=List.mergeSort_perm (cells.map<|G3 f w h) (λa b=>!lx (k3 b) (k3 a));refine#[_,yT.mpr ((List.pairwise_mergeSort (le:=λa b=>!lx _ _) (λa b c h1 h2=>?_) (λa b=>?_)<|cells.map _).imp λh=>by simpa using h),pm.nodup_iff.mpr<|Vl uh L.nd,λe=>?_]
 ·simp only[aal] at h1 h2 ⊢;cases e:lx (k3 c) (k3 a) with
  | false=>rfl
  | true =>
   rcases lm (b:=k3 b) e with h|h
   ·rw[h] at h2;cases h2
   ·rw[h] at h1;cases h1
 ·cases e:lx (k3 b) (k3 a) with
  | false=>rfl
  | true =>
   cases e2:lx (k3 a) (k3 b) with
   | false=>rfl
   | true=>have:=V5 e e2;rw[gr] at this;cases this
 ·obtain⟨c,rfl⟩:=UX (f:=f) (w:=w) (h:=h) e;rw[pm.mem_iff,uz uh,L.mem,T.cu]
theorem tX {f:Bool}{w:Nat}{k:Nk} (hb:Vk k):Vk (vN f w h k):=by
 obtain⟨b,rfl⟩:=rW hb;rw[zU];cases b with
 | gap p=>exact .inl #[_,rfl]
 | keep c=>exact .inr (.inl #[_,rfl])
 | rim p=>exact .inr (.inr<|.inl #[_,rfl])
 | wid c=>exact .inr (.inr<|.inr #[_,rfl])
theorem tE {cells:List je}{n:Nat} (lc:cells.length<=432) (lh:hl.length<=144) (Pt:l<=3) (hg:g<=2) (hr:rm<=1):(Z3 cells hl F cop l g n rm ks).length<=sizeLine:=by
 unfold Z3;rw[ye,ye,ye];have h1:=zr hg F cells;have h2:=VA cells ks;have h3:=Vq (L:=l) (show rm<=2 by lia) cop hl;have h4:=Ml cells cells cop n;have h5:hl.length*(l*25)<=144*75:=QI lh (by lia);exact ym (show _<=120000 by lia) (by decide)
def NT (H H':Hp):Prop:=∀b u,(∀ps,u≠.tbl ps)->H b=some u->H' b=some u
theorem NT.of {H':Hp} (s:Same H H'):NT H H':=λb u _ e=>s b u e
theorem NT.off {p:Addr}{H':Hp}{qs:D9} (hp:H p=some (.tbl qs)) (s:vW p H H'):NT H H':=λb u n e=>s b u (λz=>n qs (by rw[z,hp] at e;exact (Yb e).symm)) e
structure Lw (K:DS) (C:Addr) (H:Hp) (a o dx c d kl to:Addr) (w h l:Nat) (cs ds:jF) (sc:List Int) (ps:DZ) (ks:List K5) (fs:DZ) (bk:List Nk):Prop where
 a:jt K H a (sc.map V.int)
 B:Bd C H o dx c d w h l cs ds
 k:H kl=some (.lst<|ps.map V.ref)
 kk:uK H ps ks
 t:H to=some (.lst<|fs.map V.ref)
 n:jL nO H fs bk
theorem Lw.nt {H':Hp}{a c to:Addr}{w:Nat}{sc:List Int}{fs:DZ}{bk:List Nk} (X:Lw K C H a o dx c d kl to w h l cs ds sc ps ks fs bk) (s:NT H H'):Lw K C H' a o dx c d kl to w h l cs ds sc ps ks fs bk:=by
 obtain⟨h1,h2,h3,h4,h5,h6⟩:=X;refine#[?_,#[s _ _ (λ_ z=>nomatch z) h2.o,s _ _ (λ_ z=>nomatch z) h2.c,s _ _ (λ_ z=>nomatch z) h2.d,h2.C,h2.D],s _ _ (λ_ z=>nomatch z) h3,#[VT.len h4,λi p c e1 e2=>s _ _ (λ_ z=>nomatch z)<|VT.at_ h4 i p c e1 e2],s _ _ (λ_ z=>nomatch z) h5,jL.mono h6 λp xs e=>s _ _ (λ_ z=>nomatch z) e];rcases h1 with (h|⟨o,h⟩)|h
 ·exact .inl (.inl (s _ _ (λ_ z=>nomatch z) h))
 ·exact .inl (.inr #[o,s _ _ (λ_ z=>nomatch z) h])
 ·exact .inr h
theorem tO (c:Int):∃f,c % 2=fI f:=by
 rcases Int.emod_two_eq c with h|h
 ·exact#[false,h]
 ·exact#[true,h]
def gI (t:Adr):List Addr:=[t.Jd,t.j0,t.jK]
def M7 (K:DS) (tabs:DZ):Sp:=λvs H Q _=>E2 λ(a:Addr) (sc:List Int)=>A5 (vs=[.ref a]) (jt K H a<|sc.map V.int) (sc.length<=63) (∀p∈tabs,H p=some (.tbl<|Ya [])) (∀H',Q (.bl true) H')
theorem Ab (T:Txt K mg t) (hB:vC mg base) {fd:FuncData} (F:ZS K "law" "law" (j4 77) t.kT fd):Ui P w K mg base (XC P w) 11 t.kT fd [IO] (M7 K<|gI t):=by
 have EN:=Gn (P:=P) (w:=w) T hB;have Fd:=Kn (P:=P) (w:=w) T hB;have FU:=NZ (P:=P) (w:=w) T hB;refine F.okY (N:=[IO,FB,PP,"_law_keeps_here",YR,IR,WP,"_law_due","_law_rules"]) ?_;rintro _ H Q E ⟨a,sc,rfl,ha,hsc,Ik,q⟩;refine#[rfl,λEm A outer s hr=>#[_,(ji (jv 1<|jn (NU T)<|ja (pv 0) jf) (ji (jv 2<|jn (uI T)<|ja (pv 0)<|ja jg jf) (ji (jv 3<|jn (NW T)<|ja (pv 0)<|ja (pv 1) jf) (ji (jv 4<|jn (lH T)<|ja (pv 1)<|ja (za (MN T)<|ja (jp j6 (pv 2) jg)<|ja (jp Jc jg<|jp j6 (jp Je (pv 2) jg) jg)<|ja (jp j6 (jp Je (pv 2) jg) jg)<|ja (pv 3) jf) jf) (ji (jv 5<|jp j6 (jp Je (pv 2) jg) jg) (ji (jv 6<|uk (Kj Fd)<|pv 1) (ji (j9 (j5 Uz (pv 5) jg) (jk<|jv 6<|uk (Kj EN)<|pv 1) jW) (ji (jv 7 (jU (Mx hr.units) (by rfl) T.Ux Uu (ja (Jx (own:=["_law_island"]) (UT (cl:=[(IR,_),(FB,_)])) (jV<|jn (Ko T)<|ja (pv 1) jf) (λ_ _ _ _ _=>jw 9) (λ_ _ _ _ _=>UF) (λ_ _ _ _ _=>(jU VV (by rfl) T.Ux Uu (ja (Jx (own:=[WF]) (UT (cl:=[(IR,_),(FB,_)])) (jV<|pv 9) (λ_ _ _ _ _=>jw 10) (λ_ _ _ _ _=>UF) (λ_ _ _ _ _=>(jn (Vf T)<|ja (pv 1)<|ja (pv 5)<|ja (pv 10) jf))) jf)))) jf))) (ji (j9 (j5 (lO hr.units) (jn (Ko T)<|ja (pv 6) jf)<|pv 7) (jk<|jC VE) jW) (ji (jv 8 (za (MN T) (ja (jp j6 (pv 2) jg) (ja (jp Jc jg<|jp j6 (jp Je (pv 2) jg) jg) (ja (jp j6 (jp Je (pv 2) jg) jg) (ja (Jx (own:=[YQ]) (UT (cl:=[(IR,_),(FB,_)])) (jV<|pv 3) (λ_ _ _ _ _=>jw 9) (λ_ _ _ _ _=>UF) (λ_ _ _ _ _=>(jn (bz T)<|ja (pv 1)<|ja (pv 5)<|ja (pv 9) jf))) jf)))))) (ji (j9 (j5 (lO hr.units) (jn (lH T)<|ja (pv 6)<|ja (pv 8) jf) (jU (Z5 (O:=Jl Jq) (hd:=zH Jq) hr.units (by decide)) (by rfl) T.Ux Uu (ja (Jx (own:=[WF]) (UT (cl:=[(IR,_),(FB,_)])) (jV<|pv 4) (λ_ _ _ _ _=>jw 9) (λ_ _ _ _ _=>UF) (λ_ _ _ _ _=>(jn (NV T)<|ja (pv 1)<|ja (pv 5)<|ja (pv 9) jf))) jf))) (jk<|jC VE) jW)<|jk<|jC<|u7 (jn (NX T)<|ja (pv 1)<|ja (pv 6)<|ja (pv 5)<|ja (pv 0) jf)<|U6<|jn FU<|ja (pv 1)<|ja (pv 6)<|ja (pv 5)<|ja (pv 0) jf))))))))))),?_]];clear hr;have tt:H t.Jd=some _:=Ik _ (by simp [gI]);have tm:H t.j0=some _:=Ik _ (by simp [gI]);have tw:H t.jK=some _:=Ik _ (by simp [gI]);refine uZ (λσ H'=>E9 λ(o dx c d) (w' h l) (cs ds)=>A6 (σ=[oR a,oR o,none,none,none,none,none,none,none]) (Same H H') (zP w' h l) (Bd t.jq H' o dx c d w' h l cs ds) (cs.length<=432)<|ds.length<=144) (λB hB=>#[a,sc,rfl,ha,λo dx c d w' h l cs ds H1 s1 S1 B1 lc lh=>hB _ _ #[o,dx,c,d,w',h,l,cs,ds,rfl,s1,S1,B1,lc,lh]]) ?_;rintro σ H1 ⟨o,dx,c,d,w',h,l,cs,ds,rfl,s1,S1,B1,lc,lh⟩;refine uF (λ(ce)=>[oR a,oR o,some _,none,none,none,none,none,none]) (λ_ H'=>H'=H1) (λB hB=>#[a,sc,3,rfl,uO s1 ha,by decide,λce=>hB ce _ rfl]) ?_;rintro ce H1 rfl;refine og (λ(kl) (_) (_)=>[oR a,oR o,some _,oR kl,none,none,none,none,none]) (λkl ps ks H'=>A5 _ _ (uK H' ps ks) _ _) (λB hB=>#[a,o,dx,c,d,w',h,l,sc,rfl,uO s1 ha,B1.o,S1,λkl ps ks H2 s2 hkl Ti kk ki lk=>hB _ _ _ _ #[s2,Ti,kk,ki,lk]]) ?_;rintro kl ps ks H2 ⟨s2,Ti,kk,ki,lk⟩;have EY:=Same.trans s1 s2;have B2:=B1.same s2;have e1:ce % 3=(ce % 3).toNat:=by lia
 have e2:1+ce / 3 % 3=(1+ce / 3 % 3).toNat:=by lia
 have e3:ce / 9 % 2=(ce / 9 % 2).toNat:=by lia
 have bb:(ce % 3).toNat<=2/\1<=(1+ce / 3 % 3).toNat/\(1+ce / 3 % 3).toNat<=3/\(ce / 9 % 2).toNat<=1:=by lia
 generalize (ce % 3).toNat=g at e1 bb;generalize (1+ce / 3 % 3).toNat=n at e2 bb;generalize (ce / 9 % 2).toNat=rm at e3 bb;refine uZ (λσ H'=>E5 λ(to) (cells) (hl) (fs) (bk)=>A6 (σ=[oR a,oR o,some<|.int ce,oR kl,oR to,none,none,none,none]) (Same H H') (Lw K t.jq H' a o dx c d kl to w' h l cs ds sc ps ks fs bk) (CL cs w' h l cells) ((hl.map k2).Perm<|ds.map (·.1))<|bk.Perm<|Z3 cells hl (fG (jJ cs ds w' h l) cells) (jT cs) l g n rm ks) (λB hB=>?_) ?_
 ·refine#[(by show (0)<3;decide),#[by decide,by decide],(by show (0)<3;decide),#[by decide,by decide],(by show (0)<2;decide),λru Et XS OC _=>NJ (K:=K) S1 Ti kk ki #[bb.1,bb.2.1,bb.2.2.1,bb.2.2.2,by lia] e1 e2 e3 XS OC λSO kp H3 s3 R=>#[rfl,?_]];refine#[o,dx,c,d,ru,Et,kp,w',h,l,g,n,rm,cs,ds,ps,_,ks,rfl,B2.same s3,S1.l.2,by lia,by lia,R,λcells hl r fs bk H4 L ph s4 hr er na pm up=>?_];have Ll:=Same.trans s3 s4;exact hB _ _ #[r,cells,hl,fs,bk,rfl,Same.trans EY Ll,#[uO (Same.trans EY Ll) ha,B2.same Ll,Ll _ _ Ti,kk.same Ll,er,na],L,ph,pm]
 rintro σ H4 ⟨to,cells,hl,fs,bk,rfl,s4,X4,L,ph,pm⟩;refine uF (λ(f)=>[oR a,oR o,some<|.int ce,oR kl,oR to,some<|.int<|fI f,none,none,none]) (λ_ H'=>H'=H4) (λB hB=>?_) ?_
 ·obtain⟨f,hf⟩:=tO<|ce / 54;have:=hB f _ rfl;rw[<-hf] at this;exact#[#[by decide,by decide],(by show (0)<2;decide),this]
 rintro f H4 rfl;have Fx:=L.len X4.B.C;refine uZ (λσ H'=>E6 λ(o2 Et c2 d2) (ET EM)=>A6 (σ=[oR a,oR o,some<|.int ce,oR kl,oR to,some<|.int<|fI f,oR o2,none,none]) (Lw K t.jq H' a o dx c d kl to w' h l cs ds sc ps ks fs bk) (H' t.j0=some (.tbl<|Ya [])) (H' t.jK=some (.tbl<|Ya [])) (Bd t.jq H' o2 Et c2 d2 h w' l ET EM)<|bP (Zb h) cs ds ET EM) (λB hB=>?_) ?_
 ·have Q₁:=s4 _ _ tt;refine#[o,dx,_,rfl,X4.B.o,rfl,o,dx,c,d,w',h,l,cs,ds,rfl,X4.B,by lia,by lia,S1.w,S1.h,S1.l,#[_,Q₁,trivial,.inl rfl],λo2 Et c2 d2 ET EM H5 XT Th B5 L5=>?_];exact hB _ _ #[o2,Et,c2,d2,ET,EM,rfl,X4.nt<|NT.off Q₁ XT,XT _ _ (λz=>T.vS z.symm)<|s4 _ _ tm,XT _ _ (λz=>T.VF z.symm)<|s4 _ _ tw,B5,L5]
 rintro σ H5 ⟨o2,Et,c2,d2,ET,EM,rfl,X5,tm5,tw5,B5,L5⟩;refine uZ (λσ H'=>E6 λ(o2 Et c2 d2) (ET EM)=>A5 (σ=[oR a,oR o,some<|.int ce,oR kl,oR to,some<|.int<|fI f,oR o2,none,none]) (Lw K t.jq H' a o dx c d kl to w' h l cs ds sc ps ks fs bk) (H' t.jK=some (.tbl<|Ya [])) (Bd t.jq H' o2 Et c2 d2 (wF f w' h) (hF f w' h) l ET EM)<|bP (gF f w' h) cs ds ET EM) (λB hB=>?_) ?_
 ·cases f with
  | false=>exact#[rfl,Jw (λz=>absurd (V.int.inj z) (by decide)) λ_=>hB _ _ #[o2,Et,c2,d2,ET,EM,rfl,X5,tw5,B5,L5]]
  | true =>
   refine#[rfl,JE #[o,dx,_,rfl,X5.B.o,rfl,o,dx,c,d,w',h,l,cs,ds,rfl,X5.B,by lia,by lia,S1.w,S1.h,S1.l,#[_,tm5,trivial,.inl rfl],λo2 Et c2 d2 ET EM H6 Q₂ tb6 B6 L6=>?_]];exact hB _ _ #[o2,Et,c2,d2,ET,EM,rfl,X5.nt<|NT.off tm5 Q₂,Q₂ _ _ (λz=>T.Vo z.symm) tw5,B6,L6]
 clear X5 tm5 tw5 B5 L5;rintro σ H6 ⟨o2,Et,c2,d2,ET,EM,rfl,X6,tw6,B6,L6⟩;have TW:uL f w' h l cs ds ET EM:=#[X6.B.C,X6.B.D,B6.C,B6.D,L6];have lc2:=L6.lc;have lh2:=L6.lh;obtain⟨Hk,M⟩:=TW.ex L;refine uZ (λσ H'=>E2 λ(du) (XU)=>A4 (σ=[oR a,oR o,some<|.int ce,oR kl,oR to,some<|.int<|fI f,oR o2,oR du,none]) (Same H6 H') (H' du=some (.lst<|XU.map V.ref))<|ux H' XU<|((Jk (jJ ET EM (wF f w' h) (hF f w' h) l) Hk).map<|JF (jJ ET EM (wF f w' h) (hF f w' h) l) Hk).map<|Yv k3) (λB hB=>?_) ?_
 ·refine#[o,dx,c,d,w',h,l,cs,ds,rfl,X6.B,S1.l.2,by lia,λEj r as H7 L' s7 hr er LC nas=>?_];obtain rfl:=L.uniq L';have R:=Vc (ur (ds:=ds) L.mem) cells λc h=>h;have LL:=LC.ll;rw[yS] at LL;refine#[r,rfl,#[_,jt.of er],hU (λq=>(JF _ cells q).map k3) (λq=>(JF (jJ ET EM (wF f w' h) (hF f w' h) l) Hk<|G3 f w' h q).map k3) (ym R.sub.length_le (ym (show cells.length<=432 by lia) (by decide))) er LL (λr1 bs x H8 Qy Qn hx s8 Tj kr1 hy=>?_) λD rs H8 s8 hD eD ll=>?_]
  ·have hxc:=R.sub.subset hx;refine#[#[_,rfl,rfl],JE #[r1,rfl,#[_,jt.of Tj],zp (xs:=JF _ cells x) k3 (λc=>k3<|G3 f w' h c) (ym (cw ..) (ym (show cells.length<=432 by lia) (by decide))) Tj kr1 (λr2 y H9 Qy2 Qn2 hy2 s9 OT hy3=>?_) λD2 rs2 H9 s9 FK HG I9=>?_]]
   ·exact#[#[_,rfl,rfl],JE #[o,dx,c,d,r2,w',h,l,f,y,rfl,s9 _ _<|s8 _ _<|s7 _ _ X6.B.o,OT,λq H2 s2 _ e2=>hy3 q H2 s2 e2]]
   ·refine#[D2,rs2,_,[true,true,true],rfl,HG,I9,λk hk=>?_,by decide,λlr Fg Ep Rm XW XX RO=>?_]
    ·obtain⟨y,_,rfl⟩:=yf.mp hk;rfl
    have:=tV TW L M hxc (by rw[yS];exact XX) RO;subst this;have sn:=jm (o:=.lst<|Fg.map V.ref) (Same.refl H9) Rm;exact hy lr Fg _ (Same.trans s9 sn) (none_of s9 Rm) jd (jP.same XW sn)
  ·refine#[D,rs,_,rfl,eD,ll,λks Rp=>?_,λr2 RA Lb FC ll' XX RO=>?_]
   ·obtain⟨x,hx,rfl⟩:=yf.mp Rp;have hm:=(uq (ur (ds:=EM) M.mem)<|(TW.mem L M x).mpr<|R.sub.subset hx).mpr .refl;exact#[λz=>(by rw[List.map_eq_nil_iff.mp z] at hm;cases hm),λk hk=>by obtain⟨y,_,rfl⟩:=yf.mp hk;rfl]
   have:=qb TW L M XX RO;subst this;have sn:=jm (o:=.lst<|RA.map V.ref) (Same.refl H8) FC;exact hB _ _ #[r2,RA,rfl,Same.trans s7<|Same.trans s8 sn,jd,ux.same ll' sn]
 rintro σ H7 ⟨du,XU,rfl,s7,edu,lld⟩;have X7:=X6.nt<|NT.of s7;have B7:=B6.same s7;have tw7:=s7 _ _ tw6;refine ZL _ _ (λB hB=>#[o2,Et,c2,d2,_,_,l,ET,EM,rfl,B7,S1.l.2,by lia,λEj r as H8 L' s8 hr er LC nas=>#[2,by decide,ij er (s8 _ _ edu) (M.uniq L'▸LC.ll)<|ux.same lld s8,uT<|hB _ s8]]) ?_;intro H8 s8;have X8:=X7.nt<|NT.of s8;have B8:=B7.same s8;have tw8:=s8 _ _ tw7;refine uZ (λσ H'=>E5 λ(ru SQ SO kp) (HR)=>A3 (σ=[oR a,oR o,some<|.int ce,oR kl,oR to,some<|.int<|fI f,oR o2,oR du,oR ru]) (Same H8 H')<|ku K t.uV H' ru SQ kp HR g n rm (.ref SO)<|ks.map<|kF f w' h) (λB hB=>?_) ?_
 ·refine#[(by show (0)<3;decide),#[by decide,by decide],(by show (0)<3;decide),#[by decide,by decide],(by show (0)<2;decide),kl,rfl,#[_,jt.of X8.k],zp iR (λk=>iR<|kF f w' h k) (ym (lk) (by decide)) X8.k (uK.key X8.kk) (λr y H9 Qy Qn hy s9 er hq=>?_) λD rs H9 s9 hD eD ka=>?_]
  ·exact#[#[_,rfl,rfl],JE #[o,dx,c,d,r,w',h,l,f,y,rfl,s9 _ _ X8.B.o,er,λq2 XI=>hq q2 _ (jm (Same.refl H9) XI) jd]]
  ·have XW:=uK.of_key (by rw[yS];exact ka);intro ru SQ XS XY _;refine NJ (S1.led (f:=f)) eD XW (λk hk=>?_) #[bb.1,bb.2.1,bb.2.2.1,bb.2.2.2,by rw[yb];lia] e1 e2 e3 XS XY λSO kp OL Fc R=>#[rfl,hB _ _ #[ru,SQ,SO,kp,rs,rfl,Same.trans s9 Fc,R]];obtain⟨k0,S5,rfl⟩:=yf.mp hk;exact (ki k0 S5).led
 rintro σ H9 ⟨ru,SQ,SO,kp,HR,rfl,s9,R9⟩;have X9:=X8.nt<|NT.of s9;have B9:=B8.same s9;have tw9:=s9 _ _ tw8;have R₁:=λk hk=>pF k<|pm.mem_iff.mp hk;have OZ:∀k∈bk.map (vN f w' h),Vk k:=λk hk=>by
  obtain⟨x,hx,rfl⟩:=yf.mp hk;exact tX (R₁ x hx)
 have lbk:bk.length<=sizeLine:=by
  rw[pm.length_eq];have:=ph.length_eq;rw[yb,yb] at this;exact tE (by lia) (by lia) S1.l.2 bb.1 bb.2.2.2
 refine ZL [oR a,oR o,some<|.int ce,oR kl,oR to,some<|.int<|fI f,oR o2,oR du,oR ru] (λH'=>Same H9 H') (λB hB=>?_) ?_
 ·refine#[o2,Et,c2,d2,ru,SQ,kp,_,_,l,g,n,rm,ET,EM,HR,_,_,rfl,B9,S1.l.2,by lia,by lia,R9,λEj hl2 r fs2 bk2 OL L' ph2 Fc hr er na2 II Hv=>?_];obtain rfl:=M.uniq L';have Lu:=X9.nt<|NT.of Fc;refine#[to,rfl,#[_,jt.of Lu.t],hV (vN f w' h) lbk Lu.t Lu.n (λr1 x SE Qy Qn hx IT Tj hq=>?_) λD rs SE IT hD eD na3=>?_]
  ·obtain⟨b,rfl⟩:=rW<|R₁ x hx;exact#[#[_,rfl,rfl],JE #[o,dx,c,d,r1,w',h,l,f,b,rfl,IT _ _ Lu.B.o,Tj,λq2 XZ HU e2=>hq q2 XZ HU (by rw[zU];exact e2)]]
  ·refine#[D,rs,_,false,rfl,eD,na3,λk hk=>cf<|OZ k hk,λx hx y hy=>bV (OZ x hx)<|OZ y hy,λl2 Fg Ep X0 Oq pm4 up4=>?_];have:=mf (O:=ZE) (pm4.trans<|(pm.map _).trans<|(pG TW L M ph ph2 bb.2.1 ks).trans II.symm) up4 Hv;subst this;have sn:=jm (o:=.lst<|Fg.map V.ref) (Same.refl SE) X0;exact#[2,by decide,ii (sn _ _<|IT _ _ er) jd (jL.mono na2 λp xs e=>sn _ _<|IT _ _ e) (jL.mono Oq λp xs e=>sn _ _ e),uT<|hB _<|Same.trans Fc<|Same.trans IT sn]
 intro OL Fc;have Lu:=X9.nt<|NT.of Fc;have R₂:=B9.same Fc;refine#[o,dx,c,d,o2,Et,c2,d2,a,w',h,l,f,cs,ds,ET,EM,sc,rfl,Lu.B,R₂,L6,S1.l.2,by lia,Lu.a,λSE IT=>#[true,rfl,JE #[o,dx,c,d,o2,Et,c2,d2,a,w',h,l,f,sc,rfl,IT _ _ Lu.B.o,IT _ _ R₂.o,S1,uO IT Lu.a,?_,λXZ=>q XZ]]];have SR:=IT _ _<|Fc _ _ tw9;exact#[#[_,SR,trivial,.inl rfl],#[_,SR,trivial,.inl rfl]]
theorem law_fn (T:Txt K mg t) {h:Heap} (KX:K.In h) (hT:∀p∈[t.Jd,t.j0,t.jK],h.get? p=some (tabObj<|Ya [])):∃(fd:FuncData) (tabs:DZ),(∀(s:Shared) (u:Value),BindsTo s fd #[[u],[]] [(IO,u)])/\(∀p∈tabs,isCodeTable h p/\h.get? p=some (tabObj<|Ya [])/\K.lookup p=none) /\
  ∀base:Heap,K.In base->base.Ns mainGlobals mg->vC mg base->Ui P w K mg base (XC P w) 11 t.kT fd [IO] (M7 K tabs):=by
 obtain⟨fd,F,b⟩:=T.Bm;refine#[fd,_,b,λp hp=>?_,λbase _ _ hB=>Ab T hB F];have ES:=by simpa [gI] using hp
 rcases ES with rfl|rfl|rfl
 ·exact#[((codeHd_of_K KX T.zu).tab<|hT _ hp).isCodeTable,hT _ hp,T.Km]
 ·exact#[((codeHd_of_K KX T.Vw).tab<|hT _ hp).isCodeTable,hT _ hp,T.Gk]
 ·exact#[((codeHd_of_K KX T.V1).tab<|hT _ hp).isCodeTable,hT _ hp,T.NN]
theorem walk {l:abz}{q:Ee}{loose:D8}{XP:(Str->Option Value)->Heap->Prop}{YP:World->Heap->Prop}{d:DefRec}{K:Params->Frag} (hn:l.most=some 63) (Q7:d.params.defaults=[])
  (hY:∀(w:World) (h:Heap),YP w h->(K w.params).In h)
  (F:∀(w:World) (mg:DV) (fa:Addr) (h:Heap),YP w h->(K w.params).In h->h.Ns mainGlobals mg->mg d.name=some (.ref fa) ->
   ∃(fd:FuncData) (tabs:DZ),(∀(s:Shared) (u:Value),BindsTo s fd #[[u],[]] [(IO,u)])/\(∀p∈tabs,isCodeTable h p/\h.get? p=some (tabObj<|Ya [])/\(K w.params).lookup p=none) /\
    ∀base:Heap,(K w.params).In base->base.Ns mainGlobals mg->vC mg base->Ui l.prog w (K w.params) mg base (XC l.prog w) 11 fa fd [IO] (M7 (K w.params) tabs)) :
  abF q loose XP YP l.row.toRowW d [] (λf vs=>abw f vs) :=
 L2.walk_ofT (n:=63) (k:=11) (x:=IO) (sp:=M7) hn (by decide) Q7 #[λ_=>rfl,by decide,by decide] hY F λK tabs H a ns hl hS hT=>#[a,ns,rfl,hS,hl,hT,λ_=>rfl]
end K91
end
open PySem PySem.W PyProof.Rows
set_option maxRecDepth 100000 in
set_option maxHeartbeats 0 in
theorem PySem.Challenge.cw_copperbook_k91_whole_turned_and_mirrored_holds : PySem.Challenge.rw_copperbook_k91_whole_turned_and_mirrored.Holds := by
 w_on;o_law;k_head;(case hw=>w_witness2)
 k_fill
 refine K91.walk (l:=PySem.Challenge.rw_copperbook_k91_whole_turned_and_mirrored) rfl rfl (fun w h Y=>PySem.W.km_in_of Y) ?F
 case F =>
  intro w mg fa h Y KX G hmg
  have hT8:=PySem.W.km_tabs_of Y
  have TT:∃t:K91.Adr,K91.Txt (L2.KOf KX) mg t∧∀p∈[t.Jd,t.j0,t.jK],h.get? p=some (tabObj #[]):=by
   dsimp only [L2.KOf]
   open L2 K91 in refine' ⟨⟨_,_,_,_,_,_,_,_,_,_,_,_,_,_,_,_,_,_,_,_,_,_,_,_,_,_,_,_,_,_,_,_,_,_,_,_,_,_,_,_,_,_,_,_,_,_,_,_,_,_,_,_,_,_,_,_,_,_,_,_,_,_,_,_,_,_,_,_,_,_,_,_,_,_,_,_,_,_,_,_,_,_⟩,⟨mg_of KX G ?_,mg_of KX G ?_,mg_of KX G ?_,⟨?_,?_,?_,?_⟩,zy ?_,zy ?_,zy ?_,zy ?_,zy ?_,⟨?_,?_,?_,?_⟩,zy ?_,zy ?_,zy ?_,zy ?_,⟨?_,?_,?_,?_⟩,zy ?_,zy ?_,zy ?_,zy ?_,zy ?_,⟨mg_of KX G ?_,Jb ?_ ?_ ?_⟩,⟨mg_of KX G ?_,Jb ?_ ?_ ?_⟩,⟨mg_of KX G ?_,Jb ?_ ?_ ?_⟩,⟨mg_of KX G ?_,Jb ?_ ?_ ?_⟩,⟨mg_of KX G ?_,Jb ?_ ?_ ?_⟩,⟨mg_of KX G ?_,Jb ?_ ?_ ?_⟩,⟨mg_of KX G ?_,Jb ?_ ?_ ?_⟩,⟨mg_of KX G ?_,Jb ?_ ?_ ?_⟩,⟨mg_of KX G ?_,Jb ?_ ?_ ?_⟩,⟨mg_of KX G ?_,Jb ?_ ?_ ?_⟩,⟨mg_of KX G ?_,Jb ?_ ?_ ?_⟩,⟨mg_of KX G ?_,Jb ?_ ?_ ?_⟩,⟨mg_of KX G ?_,Jb ?_ ?_ ?_⟩,⟨⟨?_,?_,?_,?_⟩,Jb ?_ ?_ ?_⟩,⟨⟨?_,?_,?_⟩,Jb ?_ ?_ ?_⟩,⟨mg_of KX G ?_,Jb ?_ ?_ ?_⟩,⟨mg_of KX G ?_,Jb ?_ ?_ ?_⟩,⟨mg_of KX G ?_,Jb ?_ ?_ ?_⟩,⟨mg_of KX G ?_,Jb ?_ ?_ ?_⟩,⟨mg_of KX G ?_,Jb ?_ ?_ ?_⟩,⟨mg_of KX G ?_,Jb ?_ ?_ ?_⟩,⟨mg_of KX G ?_,Jb ?_ ?_ ?_⟩,⟨mg_of KX G ?_,Jb ?_ ?_ ?_⟩,⟨mg_of KX G ?_,Jb ?_ ?_ ?_⟩,⟨⟨?_,?_,?_,?_⟩,Co ?_ ?_ ?_ ?_⟩,⟨⟨?_,?_,?_⟩,Dw ?_ ?_ ?_ ?_⟩,⟨⟨?_,?_,?_⟩,Jb ?_ ?_ ?_⟩,⟨?_,?_,?_⟩,xM ?_ ?_ ?_ ?_ ?_ ?_,?_,?_,⟨?_,?_,?_⟩,xM ?_ ?_ ?_ ?_ ?_ ?_,?_,?_,⟨⟨?_,?_,?_⟩,Jb ?_ ?_ ?_⟩,⟨⟨?_,?_,?_⟩,Jb ?_ ?_ ?_⟩,⟨⟨?_,?_,?_⟩,Jb ?_ ?_ ?_⟩,⟨⟨?_,?_,?_⟩,Co ?_ ?_ ?_ ?_⟩,⟨⟨?_,?_,?_⟩,Jb ?_ ?_ ?_⟩,⟨⟨?_,?_,?_⟩,Jb ?_ ?_ ?_⟩,⟨⟨?_,?_,?_⟩,Jb ?_ ?_ ?_⟩,⟨⟨?_,?_,?_⟩,Jb ?_ ?_ ?_⟩,⟨⟨?_,?_,?_⟩,Jb ?_ ?_ ?_⟩,⟨⟨?_,?_,?_⟩,Jb ?_ ?_ ?_⟩,⟨mg_of KX G ?_,Jb ?_ ?_ ?_⟩,⟨⟨?_,?_,?_,?_⟩,Jb ?_ ?_ ?_⟩,⟨mg_of KX G ?_,Jb ?_ ?_ ?_⟩,⟨mg_of KX G ?_,Jb ?_ ?_ ?_⟩,⟨mg_of KX G ?_,Jb ?_ ?_ ?_⟩,⟨mg_of KX G ?_,Jb ?_ ?_ ?_⟩,⟨mg_of KX G ?_,Jb ?_ ?_ ?_⟩,⟨mg_of KX G ?_,Jb ?_ ?_ ?_⟩,⟨mg_of KX G ?_,Jb ?_ ?_ ?_⟩,⟨mg_of KX G ?_,Jb ?_ ?_ ?_⟩,⟨mg_of KX G ?_,Jb ?_ ?_ ?_⟩,⟨mg_of KX G ?_,Jb ?_ ?_ ?_⟩,⟨mg_of KX G ?_,Jb ?_ ?_ ?_⟩,⟨mg_of KX G ?_,Jb ?_ ?_ ?_⟩,⟨mg_of KX G ?_,Jb ?_ ?_ ?_⟩,⟨mg_of KX G ?_,Jb ?_ ?_ ?_⟩,⟨mg_of KX G ?_,Jb ?_ ?_ ?_⟩,⟨mg_of KX G ?_,Jb ?_ ?_ ?_⟩,⟨mg_of KX G ?_,Jb ?_ ?_ ?_⟩,⟨mg_of KX G ?_,Jb ?_ ?_ ?_⟩,⟨mg_of KX G ?_,Jb ?_ ?_ ?_⟩,⟨mg_of KX G ?_,Jb ?_ ?_ ?_⟩,⟨mg_of KX G ?_,Jb ?_ ?_ ?_⟩,⟨mg_of KX G ?_,Jb ?_ ?_ ?_⟩,mg_of KX G ?_,xM ?_ ?_ ?_ ?_ ?_ ?_,?_,?_,⟨mg_of KX G ?_,Jb ?_ ?_ ?_⟩,mg_of KX G ?_,⟨_,gU (dV:=.none) ?_ ?_ ?_,fun s u=>.of_eq rfl⟩,?_,?_,?_,mg_none_of KX G ?_,mg_none_of KX G ?_,mg_none_of KX G ?_,mg_none_of KX G ?_,mg_none_of KX G ?_,mg_none_of KX G ?_,mg_none_of KX G ?_,mg_none_of KX G ?_,mg_none_of KX G ?_,mg_none_of KX G ?_,mg_none_of KX G ?_,mg_none_of KX G ?_,mg_none_of KX G ?_,mg_none_of KX G ?_,mg_none_of KX G ?_,mg_none_of KX G ?_,mg_of KX G ?_,mg_of KX G ?_,mg_of KX G ?_,mg_of KX G ?_,mg_of KX G ?_,mg_of KX G ?_,mg_of KX G ?_⟩,List.forall_mem_cons.mpr ⟨?_,List.forall_mem_cons.mpr ⟨?_,List.forall_mem_cons.mpr ⟨?_,fun _ h=>nomatch h⟩⟩⟩⟩
   all_goals
    try dsimp only
    first|k_is|k_exc|exact⟨_,rfl⟩|exact hT8 _ (by decide)|decide|exact rfl|kernel_rfl|skip
  obtain⟨t,T,hT⟩:=TT
  have e:=hmg.symm.trans T.Bv
  cases e
  exact K91.law_fn T KX hT
