import PyProof.Rows.All
import Wide.All
import OpenK.AllK
import Wide.FinOn
import PyProof.Seq
import PyProof.RangeIter
import PyProof.TupleIter
import PyProof.StrLoop
import PyProof.WalkInts
import PyProof.StationsW
import PyProof.ZipIter
import PyProof.ListNew
import Lean
import PyProof.EqAt
import PyProof.EqKinds
import PyProof.TupleCall
import PyProof.NeKinds
import KE.IntTextLaws
import KE.KIntText
import PyProof.Draws
import PyProof.EnumMake
import PyProof.EnumFor
import PyProof.NsDelKeeps
import PyProof.Rows.StrFit
import PyProof.Rows.SortShellK
import PyProof.DictKinds
import KE.KDictList
import PyProof.DictWalks
import KE.KEqDict
import PyProof.RaisesDict
import PySem.SetOps
import PyProof.FactsAll.set_1
import PyProof.FactsAll.set_2
import PyProof.LongRange
import PyProof.MaxThree
import KE.KDictOf
import PyProof.AttrMissHeap
import KE.KItemsList
import KE.KDictLaws
import PyProof.Rows.IntBool
import PyProof.TupleKey
import PyProof.DictValues
import PyProof.WalksMore
import PyProof.ListRange
import KE.KRevIter
import PySem.Challenge.RW_copperbook_k52_whole_alike_or_parted
set_option Elab.async false
set_option linter.all false
set_option compiler.extract_closed false
set_option maxRecDepth 100000
set_option hygiene false
local macro_rules|`('$')=>`((model prog w))|`('%')=>`((model X.prog X.w))
set_option hygiene true
open Array renaming length_toList→yN,getElem?_eq_getElem→yU,getElem?_toList→Qa,getElem?_eq_some_iff→Qp,forIn_toList→QJ,getElem?_eq_none→aao,getElem?_setIfInBounds_ne→aaC,size_map→aaP,getD→abk,toList_push→abt,replicate→abG
open Array.Perm renaming refl→aay
open Bool renaming false_ne_true→yJ,eq_iff_iff→Qr,and_eq_true→QP,false_and→aav,and_false→aaT,true_and→aaZ,and_true→abP
open Classical renaming byContradiction→Yq
open False renaming elim→Yv
open ForInStep renaming yield→YY
open Function renaming comp_def→YT
open Int renaming toNat_natCast→Qg,zero_add→QE,le_antisymm→aaO,toNat_of_nonneg→abr,emod_lt_of_pos→abA,lt_trichotomy→abF,emod_nonneg→abN
open Int.ofNat renaming inj→Yn
open List renaming length_map→ya,getElem?_eq_getElem→yb,getElem?_eq_some_iff→yc,map_append→yd,getElem?_map→ye,length_append→yg,mem_of_getElem?→yh,mem_map→yi,mem_cons_of_mem→yl,getD_eq_getElem?_getD→yn,mem_singleton→yp,map_map→yq,mem_cons_self→yu,size_toArray→yw,getElem?_append_left→yx,getElem_mem→yz,mem_append_right→yA,mem_append→yB,mem_cons→yD,length_take→yF,getElem_of_mem→yH,mem_range→yI,length_range→yL,length_zip→yM,nodup_cons→yO,getElem_map→yQ,getElem?_append_right→yR,not_mem_nil→yS,map_congr_left→yT,getElem_toArray→yW,nodup_nil→yZ,ext_getElem→y7,nodup_append→y8,mem_append_left→y9,drop_eq_getElem_cons→Qc,getElem?_zip_eq_some→Qd,length_cons→Qe,append_assoc→Qf,pairwise_iff_getElem→Qj,append_nil→Qk,map_cons→Ql,take_append_drop→Qm,idxOf_lt_length_of_mem→Qo,flatten_cons→Qv,filter_eq_self→Qw,mem_filter→Qx,pairwise_map→QB,range_succ→QD,all_eq_true→QG,mem_flatMap→QH,filter_append→QI,count_pos_iff→QK,ext_getElem?→QL,getElem?_range→QN,nodup_range→QQ,getElem?_set_self→QR,pairwise_cons→QT,sublist_flatten_of_mem→QU,length_replicate→QW,getElem?_toArray→QY,getElem?_eq_none→QZ,length_filter_le→Q0,flatMap_cons→Q4,getElem?_set_ne→Q5,flatMap_append→Q9,toArray→Yb,range→Yc,replicate→Ye,length→Ys,zipIdx_append→Yz,take_of_length_le→YW,perm_append_comm→YX,append_inj'→Y0,eq_nil_of_length_eq_zero→Y3,flatten_append→Y5,filterMap_cons→Y6,map_inj_right→Y9,length_zipIdx→aaa,getElem_range→aab,getElem_idxOf→aac,mem_of_find?_eq_some→aaf,map_id→aag,any_cons→aah,take_length→aai,pairwise_singleton→aaj,map_flatMap→aak,lookup_cons→aal,length_set→aap,idxOf_cons→aaq,foldl_cons→aar,replicate_succ→aax,zipIdx_cons→aaG,of_mem_zip→aaK,find?_cons→aaL,map_take→aaX,map_drop→aaY,filter_cons_of_pos→aa3,filter_cons_of_neg→aa4,drop_of_length_le→aa5,length_singleton→aba,mem_erase_of_ne→abc,length_eraseIdx→abd,zip_cons_cons→abm,set_cons_zero→abn,set_cons_succ→abo,map_replicate→abp,take_add_one→abw,mapM_toArray→abx,getElem_take→aby,foldl_append→abz,length_drop→abD,getElem_zip→abE,nil_append→abI,forIn_cons→abJ,filter_map→abK,map→abM,all_cons→abO
open List.Pairwise renaming nil→aas,map→aat,of_map→aaJ
open List.Perm renaming eq_of_pairwise→Y7,swap→aaF,of_eq→abe,refl→abj
open List.cons renaming inj→abq
open Nat renaming le_refl→yj,le_trans→yk,lt_of_lt_of_le→yC,ne_of_lt→yE,lt_of_le_of_lt→yG,zero_le→yP,le_of_lt→yX,lt_or_ge→y6,succ_pos→Qh,ne_of_gt→Qq,min_eq_left→Qs,succ_le_succ→Qt,mod_eq_of_lt→Qz,lt_succ_of_lt→QA,not_lt_zero→QC,lt_irrefl→QF,lt_trichotomy→QM,min_le_right→QO,min_self→QS,mul_assoc→Q2,le_of_lt_succ→Q3,mul_comm→Q6,zero_add→Q7,pow_succ→Q8,min_le_left→Wa,lt_or_eq_of_le→YU,le_of_ble_eq_true→YZ,mod_lt→Y1,lt_succ_self→Y2,le_antisymm→Y4,le_of_not_lt→aam,le_add_right→aan,pow_le_pow_right→aaw,mod_eq_sub_mod→aaz,sub_self→aaD,lt_trans→aaE,succ_lt_succ→aaI,add_mul_mod_self_left→aaW,add_assoc→aa2,mul_zero→aa6,lt_of_succ_lt_succ→aa7,le_of_eq→aa8,add_zero→aa9,le_succ→abh,add_mod→abi,mod_mod_of_dvd→abu,eq_zero_or_pos→abv,le_succ_of_le→abC,succ_ne_self→abH
open Nat.succ renaming inj→Yx
open Ne renaming symm→yV
open Option renaming map_eq_some_iff→yr,map_some→QX,map→abb,isSome_map→abg
open Option.some renaming inj→Yd
open Prod renaming ext→Y8,snd→aaA,fst→abL
open Prod.mk renaming inj→aaB
open PyProof.Rows renaming callWith_type1→Yu,slot_tuple_getitem→aau
open PyProof.Rows.F renaming plain_set_update_loop→Yo,entry_set_update_loop→Yt
open PySem renaming mem_of_lookup→Yy,Within→aa0,call→abf
open PySem.F renaming plainAttrs_list→Ya,type_list_append→Yf,slot_list_append→Yg,type_list_index→Yi,type_list_count→Yj,slot_list_index→Yk,slot_list_count→Yl,slot_set_iter→YV,type_list_insert→aad,slot_list_insert→aae,sub_list_frozenset→aaH,slot_dict_values→aaM,args_tuple_add_2→aaN,entry_type_call→aaQ,entry_tuple_add→aaR,args_set_iter_1→aaS,typeCall_set_1→aaU,slot_tuple_add→aaV,sub_list_set→aa1
open PySem.Heap renaming get?_push_of_some→yf,lt_size→yo,get?_push_size→yt,get?_update_other→yK,get?_update_self→yY,get?_none_of_le→Qi,size_push→Qu
open PySem.W renaming OpenLaw→abl,WalkO→abB
open Sum renaming inl→Yh,inr→Yr
open Sum.inl renaming inj→Ym
open Sum.inr renaming inj→Yw
open True renaming intro→Yp
section
local macro_rules|`(#[$x,*])=>`(⟨$x,*⟩)
theorem ac{p:Prop}(h:p:=by decide):p:=h
theorem gt{p:Prop}(h:p:=by lia):p:=h
theorem on{p:Prop}(h:p:=by simp):p:=h
open PySem.W (Frag InstAt KdlSrc Looks callWith_K cellsFrom_some codeIn emptyDict findIn fnOf handedIn hasDictIn hideAll hideAll_get hideAll_none instObj isFn kIn_of kdl_extend keepIn kia_one kitOne kitx_dict kitx_list lookIn makesIn methodCall_KW mroIn of_hideAll plainGet plainGet_of plainOver takerIn typeIn)
section
open PySem PySem.Spec PyProof.Rows
abbrev C3:=Value->Shared->Prop
abbrev C6:=Unit->Shared->Prop
abbrev C7:=Bool->Shared->Prop
abbrev C8:=Option Value->Shared->Prop
abbrev C9:=PySem.W.Frag
abbrev Db:=List (Int×Int×Int)
abbrev Dc:=List (Int×Int)
abbrev Dd:=Str->Option Value
abbrev De:=List (Addr×Obj)
abbrev Dg:=Array Keyed
abbrev Dh:=List Value
abbrev Di:=List Addr
abbrev Dj:=List (Str×Addr)
abbrev Dk:=Array (Int×Value)
abbrev Dl:=Array (Option Value)
abbrev Dm:=List Str
abbrev Do:=Array Value
abbrev Dp:=List Expr
abbrev Dq:=Array (Option Nat)
abbrev Ds:=Option Addr
abbrev Dt:=Program
abbrev Du:=@PySem.wpAny_bind
abbrev Dv:=@PySem.wpAny_pure
end
/- Names that keep the opening's equations from being written; used nowhere. -/
theorem zzb(h:0=0:=by rfl):True:=trivial
def Fk:=zzb._auto_1
theorem zzc(h:0=0:=by decide):True:=trivial
def Ix:=zzc._auto_1
theorem zzd(h:0=0:=by first|exact VX|exact rfl):True:=trivial
def zze:=zzd._auto_1
theorem zzf(h:0=0:=by intro _;rfl):True:=trivial
def zzg:=zzf._auto_1
theorem zzh(h:0=0:=by first|exact .inl rfl|exact .inr rfl|assumption):True:=trivial
def zzi:=zzh._auto_1
theorem zzj(h:0=0:=by exact λ_ _=>rfl):True:=trivial
def zzk:=zzj._auto_1
theorem zzl(h:0=0:=by exact hr.mono ac):True:=trivial
def zzm:=zzl._auto_1
theorem zzn(h:0=0:=by first|exact Vq|exact Ks):True:=trivial
def zzo:=zzn._auto_1
theorem zzp(h:0=0:=by exact M3 hr):True:=trivial
def zzq:=zzp._auto_1
theorem zzr(h:0=0:=by exact#[rfl,rfl,rfl,by decide +kernel,rfl,by decide +kernel,by decide +kernel]):True:=trivial
def zzs:=zzr._auto_1
theorem zzt(h:0=0:=by first|exact .inl rfl|exact .inr rfl):True:=trivial
def zzu:=zzt._auto_1
namespace PySem.W.Fast
def tw12177877371548334036:=0
def tw14244558442644730367:=0
def tw13439178185096317345:=0
def tw16059422637529817164:=0
def tw4912513761809167069:=0
def tw10516371620254295633:=0
def tw15963871549443081263:=0
def tw14620044892639440309:=0
def tw5698562214785575581:=0
def tw4598399821627281588:=0
def tw3380297397860431588:=0
def tw4500280730290607318:=0
def tw4455476078577433868:=0
def tw4746894650056303189:=0
def tw3701545819561323557:=0
def tw10284627790612440706:=0
def tw11987477878960761637:=0
def tw15460574852135153340:=0
def tw1878804913141051573:=0
def tw10401501829442631609:=0
def tw8837528794670555582:=0
def tw8636675934006674731:=0
def tw13180603444898885384:=0
def tw16228023602897325963:=0
def tw2702727113001845848:=0
def tw16052194890470469259:=0
def tw10150921588766550598:=0
def tw11387637842666115164:=0
def tw13663638843433345645:=0
def tw11278141714800154712:=0
def tw4314866230384235783:=0
def tw14390875377723619723:=0
def tw16186881843554787156:=0
def tw18416397949040024448:=0
def tw10908075275737109629:=0
def tw4722113842913035933:=0
def tw17112742991391189145:=0
def tw17042817364282578018:=0
def tw16608051038138079118:=0
def tw5984001076978689253:=0
def tw9875965229463997757:=0
def tw18223385206736862899:=0
def tw4117756727870500052:=0
def tw8982807135747545158:=0
def tw17373025394794284073:=0
def tw7419776878567442941:=0
def tw7763435536268995310:=0
def tw11607948677565682364:=0
def tw9510759302910557054:=0
def tw12141331508907360365:=0
def tw229404452213261021:=0
def tw13492107797646044798:=0
def tw13605177846646549109:=0
def tw5140491991993651756:=0
def tw17820116399749935748:=0
def tw4753389413033522674:=0
def tw18295940561733807780:=0
def tw9991350340486822037:=0
def tw18167084072695694216:=0
def tw7515408884018215738:=0
def tw73136499317606940:=0
def tw16340483354767082556:=0
def tw8571165729543442608:=0
def tw9182362277211858229:=0
def tw10969287416686240390:=0
def tw13119984559662159515:=0
def tw11438488874645421735:=0
def tw5420288143491359341:=0
def tw11809957615910950236:=0
def tw9481237554451065175:=0
def tw15771674286971360344:=0
def tw3352211455426014737:=0
def tw17926303834749318933:=0
def tw17043444816632760595:=0
def tw16660319965904788484:=0
def tw11138707476290179905:=0
def tw9221117480455736525:=0
def tw12431024024380107633:=0
def tw6083713298640489176:=0
def tw8246663698742623589:=0
def tw8077226120278586724:=0
def tw14763594600088462340:=0
def tw14501510328873954673:=0
def tw8679567595866929868:=0
def tw17155455681523795814:=0
def tw10254246911791859794:=0
def tw13640832177861884466:=0
def tw3729716104049041186:=0
def tw3651498981901251194:=0
def tw3502668960513004396:=0
def tw3210947833783499665:=0
def tw13735060323933821670:=0
def tw16646091617717692454:=0
def tw8965155921124933319:=0
def tw15473437318078338762:=0
def tw8291061061544325252:=0
def tw7359786593696427416:=0
def tw3589171376175307715:=0
def te5811889529348962792:=0
def tw3372321186839684792:=0
def tw18162912157755577597:=0
def tw2139618065141081435:=0
def tw6923998263011779170:=0
def tw607922766908506604:=0
def tw10946165025889339326:=0
def tw6290945373678494744:=0
def tw6726872181906754251:=0
def tw3542312889324486535:=0
def tw5687141913802684679:=0
def tw10029773421679815791:=0
def tw9846823063179571959:=0
def tw16721225844950495562:=0
def tw5553542695813205448:=0
def tw9352125947525174170:=0
def tw7850371910624350416:=0
def tw458837369062886684:=0
def tw15269405179202249931:=0
def tw5421899033962736925:=0
def tw13922068548204209697:=0
def tw16160356439572040564:=0
def tw6825552252958256758:=0
def tw8538798896131011949:=0
def tw2144059986039373990:=0
def tw10564285946685719831:=0
def tw2880988379315646448:=0
def tw2831418767390362508:=0
def tw11134774562973221459:=0
def tw2915318029756421963:=0
def tw18077230985917399055:=0
def tw928121477584059819:=0
def tw1447131471360261731:=0
def tw13586212374224153664:=0
def tw3911555329097987039:=0
def tw12352176148478660529:=0
def tw17141814597852770848:=0
def tw2166291595919418699:=0
def tw7905497793274206715:=0
def tw6067392339733262511:=0
def tw15747362663027879993:=0
def tw785408469663964822:=0
def tw13378799559477174515:=0
def tw2680942502205130589:=0
def tw17100827305323717624:=0
def tw4573540130789730114:=0
def tw17833706794705603281:=0
def tw6077681902805565186:=0
def tw12067722598184968221:=0
def tw7927588604323731632:=0
def tw16685135387357650471:=0
def tw3034403633437062716:=0
def tw47852809118161314:=0
def tw2848128156670171176:=0
def tw13649547451516077969:=0
def tw4011050571717240140:=0
def tw17410662181051537512:=0
def tw13962976580892697669:=0
def tw4340791728464354477:=0
def tw10054766533438907181:=0
def tw4682482067822174157:=0
def tw2176149941640615270:=0
def tw8911709775751108573:=0
def tw14539323518930608761:=0
def tw5828604913161107069:=0
def tw8055819726091530313:=0
def tw15949832672472834871:=0
def tw4692507753977723547:=0
def tw2137959434039780733:=0
def tw6959972556781481884:=0
def tw9820560764484053542:=0
def tw17393885972874148101:=0
def tw12884715104486996675:=0
def tw8139804094988078538:=0
def tw8318043412200537808:=0
def tw16170050357748384978:=0
def tw11210090823471724288:=0
def tw8694480603220842906:=0
def tw6530229127124754527:=0
def tw5851493968874593809:=0
def tw5776044509127053601:=0
def tw859502524700630448:=0
def tw849588216308349394:=0
def tw5340497284536557098:=0
def tw709220543814619272:=0
def tw5391494299546977457:=0
def tw10422022510564280843:=0
def tw13989409855026162065:=0
def tw8897555073665034623:=0
def tw12310105967318123269:=0
def tw15487627527730510113:=0
def tw4091182997583600354:=0
def tw14559451368927360454:=0
def tw5365214719819953118:=0
def tw9302065227820908939:=0
def tw14123611486940519619:=0
def tw1183821637752562424:=0
def tw10210597973112339572:=0
def tw12574801750117541683:=0
end PySem.W.Fast
namespace L2
open PySem
variable {h h':Heap}{D:Di}{v:Value}{A:Around}{it a o b e l:Addr}{ob oe:Obj}{us vs items:Do}{Q:C8}{i:Nat}{x:Str}
inductive ZH (h:Heap) (D:Di):Value->Prop
 | nil:ZH h D .none
 | cons {b:Addr} {ob:Obj} {us:Do} {c:Value}:b∈D->h.get? b=some ob->ob.data=.fields us->us[2]?=some c->ZH h D c->ZH h D (.ref b)
theorem ZH.kept {D':Di} (n:ZH h D v) (k:∀b∈D,∀o,h.get? b=some o->h'.get? b=some o) (d:∀b∈D,b∈D'):ZH h' D' v:=by
 induction n with
 | nil=>exact .nil
 | cons q1 q2 q3 q4 _ ih=>exact .cons (d _ q1) (k _ q1 _ q2) q3 q4 ih
theorem ZH.small (n:ZH h D v):∃D',ZH h D' v/\∀b∈D',∃(o:Obj) (us:Do),h.get? b=some o/\o.data=.fields us/\2<us.size:=by
 induction n with
 | nil=>exact#[[],.nil,λb hb=>absurd hb on]
 | @cons b ob us c q1 q2 q3 q4 _ ih =>
  obtain⟨D',m,l⟩:=ih;refine#[b::D',.cons on q2 q3 q4 (m.kept (λ_ _ _ e=>e) λd hd=>yl _ hd),λd hd=>?_];rcases yD.mp hd with rfl|hd
  ·grind
  ·exact l d hd
def mx (A:Around) (h:Heap) (D:Di):Prop:=A.handled=none\/∃ea:Addr,A.handled=some (.ref ea)/\ZH h D (.ref ea)
def zO (A:Around) (h:Heap):Prop:=∃D,mx A h D
theorem mx.keptD (n:mx A h D) (k:∀b∈D,∀o,h.get? b=some o->h'.get? b=some o):mx A h' D:=by
 rcases n with z|⟨ea,h1,h2⟩
 ·exact .inl z
 ·exact .inr #[ea,h1,h2.kept k λ_ q=>q]
theorem zO.small (n:zO A h):∃D,mx A h D/\∀b∈D,∃(o:Obj) (us:Do),h.get? b=some o/\o.data=.fields us/\2<us.size:=by
 obtain⟨D,n⟩:=n;rcases n with z|⟨ea,h1,h2⟩
 ·exact#[[],.inl z,λb hb=>absurd hb on]
 ·obtain⟨D',m,l⟩:=h2.small;exact#[D',.inr #[ea,h1,m],l]
theorem zO.but (n:zO A h) (k:Heap.SameBut it h h') (ne:∃(o:Obj) (us:Do),h.get? it=some o/\o.data=.fields us/\us.size<=2):zO A h':=by
 obtain⟨D,n,l⟩:=n.small;refine#[D,n.keptD λb hb o e=>(k.2 b λq=>?_).trans e];obtain⟨o1,SY,e1,e2,e3⟩:=l b hb;obtain⟨o2,Fh,f1,f2,f3⟩:=ne;rw[q,f1] at e1;cases e1;rw[f2] at e2;cases e2
 lia
theorem Mz:entryFor table "proto.unchain"=some Builtin.«proto.unchain»:=entryFor_of_tree (by kernel_rfl)
section
variable {prog:Dt}{w:World}{A:Around}{E:C3}{s:Shared}
inductive Gn (h:Heap):Addr->Addr->Prop
 | refl (a:Addr):Gn h a a
 | step {a b o:Addr} {ob:Obj} {us:Do}:h.get? a=some ob->ob.data=.fields us->us[2]?=some (.ref b)->Gn h b o->Gn h a o
theorem Gn.snoc {h:Heap}{a o b:Addr}{ob:Obj}{us:Do} (p:Gn h a o) (h1:h.get? o=some ob) (h2:ob.data=.fields us) (h3:us[2]?=some (.ref b)):Gn h a b:=by
 induction p with
 | refl a=>exact .step h1 h2 h3 (.refl b)
 | step q1 q2 q3 _ ih=>exact .step q1 q2 q3 (ih h1)
def BN (h:Heap) (a o:Addr):Prop:=∃(b:Addr) (ob:Obj) (us:Do),h.get? a=some ob/\ob.data=.fields us/\us[2]?=some (.ref b)/\Gn h b o
theorem Gn.far (p:Gn h a o) (h1:h.get? o=some ob) (h2:ob.data=.fields us) (h3:us[2]?=some (.ref b)):BN h a b:=by
 cases p with
 | refl=>exact#[b,ob,us,h1,h2,h3,.refl b]
 | step q1 q2 q3 p=>exact#[_,_,_,q1,q2,q3,p.snoc h1 h2 h3]
theorem fX {R:Result->Shared->Prop} (new:e ∉ D) (h:R (.ok<|.ret .none) s) (n:ZH s.heap D v):∀(o EJ:Addr) (tg:Bool),v=.ref o->Gn s.heap EJ o->(tg=true->BN s.heap EJ o) ->
  codeAny '$' A (.builtin "proto.unchain" #[[.ref e,.ref o,.ref EJ,.bool tg],[]]) R s:=by
 induction n with
 | nil=>intro o EJ tg q;cases q
 | @cons b ob us c q1 q2 q3 q4 m ih =>
  intro o EJ tg q p far;cases q;refine codeAny_builtin Mz ?_;unfold Builtin.«proto.unchain»;refine Du<|wpAny_field q2 q3 q4 ?_;cases m with
  | nil=>exact Dv h
  | @cons b2 ob2 Fh c2 r1 r2 r3 r4 m2 =>
   have Xf:b2≠e:=λq=>new<|q▸r1;rw[if_neg (show ¬((Value.ref b2==Value.none)=true) from yJ),if_neg (by simpa using Xf)];by_cases hs:b2=EJ
   ·subst hs;rw[if_pos on];exact Du (wpAny_rule<|Dv h)
   ·rw[if_neg (by simpa using hs)];cases tg with
    | false=>exact Du (Dv (Dv #[Code.quiet_builtin _ (by decide +kernel),ih b2 EJ true rfl (p.snoc q2 q3 q4) λ_=>p.far q2 q3 q4]))
    | true =>
     obtain⟨b3,ob3,us3,f1,f2,f3,p3⟩:=far rfl;exact Du (wpAny_field f1 f2 f3 (Dv #[Code.quiet_builtin _ (by decide +kernel),ih b2 b3 false rfl (p3.snoc q2 q3 q4) λz=>by cases z]))
theorem qG {α:Type}{Q:α->Shared->Prop} (hn:mx A s.heap D) (he:s.heap.get? e=some oe) (hd:oe.data=.fields vs) (h2:2<vs.size)
  (new:e ∉ D)
  (h:∀h',(h'=s.heap/\A.handled=none)\/(∃ea,A.handled=some (.ref ea)/\h'=s.heap.update e (Obj.mapFields (·.setIfInBounds 2<|.ref ea)))->Heap.SameBut e s.heap h'->(∃o,h'.get? e=some o/\o.cls=oe.cls)->E (.ref e) { s with heap:=h' }):wpAny '$' A (raiseNew (.ref e):Sem α) Q E s:=by
 refine Du<|wpAny_handled ?_;rcases hn with z|⟨ea,z,n⟩
 ·rw[z];exact Du (Dv (wpAny_throw (h s.heap (.inl #[rfl,z]) #[rfl,λ_ _=>rfl] #[oe,he,rfl])))
 ·have ne:ea≠e:=λq=>by cases n with|cons q1=>exact new (q▸q1)
  rw[z];dsimp only;have D8:(Value.ref ea != Value.ref e)=true:=by
   grind
  rw[D8];have wf:∀{P:C6},P _ _->wpAny '$' A (updateField e 2<|.ref ea) P E s:=λ{P} q=>wpAny_setField he hd h2 q;refine Du (wpAny_holding (wpAny_runValue (fX new ?_ n ea ea false rfl (.refl ea) λz=>by cases z)));exact Du (wf<|wpAny_throw<|h _ (.inr #[ea,z,rfl]) (Heap.SameBut.update ..) #[_,yY _ he<|Obj.isFreed_of_fields<|Obj.data_mapFields hd _,Obj.cls_mapFields ..])
theorem Za {α:Type}{Q:α->Shared->Prop} (hn:zO A s.heap) (h:∀h' e,(∀b o,s.heap.get? b=some o->h'.get? b=some o)->(∃o,h'.get? e=some o/\o.cls=.type "StopIteration")->E (.ref e) { s with heap:=h' }) :
  wpAny '$' A (newExc (.type "StopIteration") []>>=λx=>(raiseNew x:Sem α)) Q E s:=by
 refine Du ?_;refine Du (wpAny_newObj_type ?_ (by show 0<=sizeLine;decide));refine Du (wpAny_of_eq rfl (wpAny_newObj_type ?_ (by size_fits)));generalize hp:s.heap.push _=h1;have k1:∀b o,s.heap.get? b=some o->h1.get? b=some o:=λb o e=>hp▸yf _ e;have k2:∀ob b o,h1.get? b=some o->(h1.push ob).get? b=some o:=λob b o e=>yf _ e;obtain⟨D,nD,lD⟩:=hn.small;refine qG ((nD.keptD λb _ o e=>k1 b o e).keptD λb _ o e=>k2 _ b o e) (yt _ rfl) rfl (by show 2<6;decide) (λq=>?_) λh' _ sb ex=>h h' _ (λb o e=>(sb.2 b ?_).trans<|k2 _ b o<|k1 b o e) ex
 ·obtain⟨o,_,eo,_⟩:=lD _ q;exact absurd (yo<|k1 _ _ eo) (QF _)
 ·exact yE (yo<|k1 b o e)
theorem Zb (ex:∃o,s.heap.get? e=some o/\o.cls=.type "StopIteration") (h:Q none s) :
  wpAny '$' A (do if (<-isInstance (.ref e) (.type "StopIteration"))=true then pure (none:Option Value) else throw (.ref e)) Q E s:=by
 obtain⟨o,h1,h2⟩:=ex;refine Du<|wpAny_isInstance #[o,h1,h2] isSubtype_stop ?_;exact Dv h
theorem cJ (hn:zO A s.heap) (hit:s.heap.IsListIter it l i) (hl:s.heap.IsList l items) (hx:items[i]?=none)
  (hQ:∀h',Heap.ExtBut it s.heap h'->Q none { s with heap:=h' }):wpAny '$' A (pyNext<|.ref it) Q E s:=by
 obtain⟨o,ho,hc,hd⟩:=id hit;obtain⟨ol,Hf,_,nl,Hg⟩:=hl;refine Du<|wpAny_attempt<|wpAny_callSpecial?_slot hit.typeIs slot_listiter_next<|wpAny_call_entry slot_listiter_next hit.typeIs entry_listiter_next ?_<|args_listiter_next _;refine (show ∀{R:Fin->Shared->Prop} {F:C3},wpAny _ A.in1 (field _ 0>>=_) R F s->wpAny _ A.in1 _ R F s from λz=>z)<|Du<|wpAny_field ho hd rfl ?_;refine Du<|wpAny_field ho hd rfl<|Du<|wpAny_seqItems Hf Hg ?_;simp only[Qg,hx];refine Du (wpAny_rule (Du (wpAny_setField ho hd on ?_)));have sb:Heap.SameBut it s.heap (s.heap.update it<|Obj.mapFields (·.setIfInBounds 0 .none)):=Heap.SameBut.update ..;refine Za (hn.but sb #[o,_,ho,hd,by simp]) λh' e k ex=>Zb ex (hQ h' λb o hb q=>k b o<|(sb.2 b hb).trans q)
theorem rg (hn:zO A s.heap) (hit:s.heap.IsTupleIter it l i) (hl:s.heap.IsTuple l items) (hx:items[i]?=none)
  (hQ:∀h',Heap.ExtBut it s.heap h'->Q none { s with heap:=h' }):wpAny '$' A (pyNext<|.ref it) Q E s:=by
 obtain⟨o,ho,hc,hd⟩:=id hit;obtain⟨ol,Hf,_,nl,Hg⟩:=hl;refine Du<|wpAny_attempt<|wpAny_callSpecial?_slot hit.typeIs F.slot_tuple_iterator_next<|wpAny_call_entry F.slot_tuple_iterator_next hit.typeIs F.entry_tuple_iterator_next ?_<|F.args_tuple_iterator_next_1 _;refine (show ∀{R:Fin->Shared->Prop} {F:C3},wpAny _ A.in1 (field _ 0>>=_) R F s->wpAny _ A.in1 _ R F s from λz=>z)<|Du<|wpAny_field ho hd rfl ?_;refine Du<|wpAny_field ho hd rfl<|Du<|wpAny_seqItems Hf Hg ?_;simp only[Qg,hx];refine Du (wpAny_rule (Du (wpAny_setField ho hd on ?_)));have sb:Heap.SameBut it s.heap (s.heap.update it<|Obj.mapFields (·.setIfInBounds 0 .none)):=Heap.SameBut.update ..;refine Za (hn.but sb #[o,_,ho,hd,by simp]) λh' e k ex=>Zb ex (hQ h' λb o hb q=>k b o<|(sb.2 b hb).trans q)
theorem qI {x left step:Int} (hn:zO A s.heap) (hit:IsRangeIter s.heap it x left step) (Lz:left<=0)
  (hQ:∀h',Heap.ExtBut it s.heap h'->Q none { s with heap:=h' }):wpAny '$' A (pyNext<|.ref it) Q E s:=by
 have hT:s.TypeIs (.ref it) "range_iterator":=#[_,hit,rfl];refine Du<|wpAny_attempt<|wpAny_callSpecial?_slot hT F.slot_range_iterator_next<|wpAny_call_entry F.slot_range_iterator_next hT F.entry_range_iterator_next ?_<|F.args_range_iterator_next_1 _;refine (show ∀{R:Fin->Shared->Prop} {F:C3},wpAny _ A.in1 (field _ 0>>=_) R F s->wpAny _ A.in1 _ R F s from λz=>z)<|Du<|wpAny_field hit rfl rfl ?_;refine (λz=>Du<|wpAny_field hit rfl rfl z) ?_;refine (λz=>Du<|wpAny_field hit rfl rfl z) ?_;refine (show ∀{a b:Sem Fin} {R:Fin->Shared->Prop} {F:C3},wpAny _ A.in1 a R F s->wpAny _ A.in1 (if left<=0 then a else b) R F s from λz=>by rw[if_pos Lz];exact z) ?_;refine Du<|wpAny_rule<|Du ?_;exact Za hn λh' e k ex=>Zb ex (hQ h' λb o _ q=>k b o q)
theorem pK {t:Tok} (hn:zO A s.heap) (hit:s.heap.IsStrIter it "str_ascii_iterator" x t i) (hx:x.cps[i]?=none)
  (hQ:∀h',Heap.ExtBut it s.heap h'->Q none { s with heap:=h' }):wpAny '$' A (pyNext<|.ref it) Q E s:=by
 obtain⟨o,ho,hc,hd⟩:=id hit;refine Du<|wpAny_attempt<|wpAny_callSpecial?_slot hit.typeIs F.slot_str_ascii_iterator_next<|wpAny_call_entry F.slot_str_ascii_iterator_next hit.typeIs F.entry_str_ascii_iterator_next ?_<|F.args_str_ascii_iterator_next_1 _;refine (show ∀{R:Fin->Shared->Prop} {F:C3},wpAny _ A.in1 (field _ 0>>=_) R F s->wpAny _ A.in1 _ R F s from λz=>z)<|Du<|wpAny_field ho hd rfl ?_;refine Du<|wpAny_of_eq rfl ?_;refine Du<|wpAny_field ho hd (x:=.int i 0) rfl ?_;simp only[Qg,hx];refine Du (wpAny_rule (Du (wpAny_setField ho hd on<|Du<|wpAny_letGo ?_)));have sb:Heap.SameBut it s.heap (s.heap.update it<|Obj.mapFields (·.setIfInBounds 0 .none)):=Heap.SameBut.update ..;refine Za (hn.but sb #[o,_,ho,hd,by simp]) λh' e k ex=>Zb ex (hQ h' λb o hb q=>k b o<|(sb.2 b hb).trans q)
theorem wL {t:Tok} (hn:zO A s.heap) (hit:s.heap.IsStrIter it "str_iterator" x t i) (hx:x.cps[i]?=none)
  (hQ:∀h',Heap.ExtBut it s.heap h'->Q none { s with heap:=h' }):wpAny '$' A (pyNext<|.ref it) Q E s:=by
 obtain⟨o,ho,hc,hd⟩:=id hit;refine Du<|wpAny_attempt<|wpAny_callSpecial?_slot hit.typeIs F.slot_str_iterator_next<|wpAny_call_entry F.slot_str_iterator_next hit.typeIs F.entry_str_iterator_next ?_<|F.args_str_iterator_next_1 _;refine (show ∀{R:Fin->Shared->Prop} {F:C3},wpAny _ A.in1 (field _ 0>>=_) R F s->wpAny _ A.in1 _ R F s from λz=>z)<|Du<|wpAny_field ho hd rfl ?_;refine Du<|wpAny_of_eq rfl ?_;refine Du<|wpAny_field ho hd (x:=.int i 0) rfl ?_;simp only[Qg,hx];refine Du (wpAny_rule (Du (wpAny_setField ho hd on<|Du<|wpAny_letGo ?_)));have sb:Heap.SameBut it s.heap (s.heap.update it<|Obj.mapFields (·.setIfInBounds 0 .none)):=Heap.SameBut.update ..;refine Za (hn.but sb #[o,_,ho,hd,by simp]) λh' e k ex=>Zb ex (hQ h' λb o hb q=>k b o<|(sb.2 b hb).trans q)
theorem rq (I ax:Addr) (D8:ax≠I) (D:Di) (hI:I ∉ D) (items:Do) :
  Walks prog w A I ([I,ax]++D) [I] items.size (λi v=>items[i]?=some v) (λi h=>(h.IsListIter I ax i/\h.IsList ax items)/\mx A h D) where
 sub:=λb hb=>by simp at hb;simp [hb]
 frame:=λi h h' st k=>#[#[st.1.1.at λo e=>k I on o e,st.1.2.at λo e=>k ax on o e],st.2.keptD λb hb o e=>k b (by simp [hb]) o e]
 item:=λi s Q E hi st hQ=>by
  refine wpAny_pyNext_list_item st.1.1 st.1.2 (x:=items[i]) (by simp [hi]) λh' Pw sb=>?_;refine hQ _ h' s.toks (by simp [hi]) #[#[Pw,st.1.2.extBut sb.extBut D8],st.2.keptD λb hb o e=>(sb.2 b λq=>hI<|q▸hb).trans e] λb o hb e=>(sb.2 b λq=>hb (by simp [q])).trans e
 done:=λs Q E st hQ=>cJ #[D,st.2] st.1.1 st.1.2 on λh' k=>hQ h' s.toks λb o hb e=>k b o (λq=>hb (by simp [q])) e
 self:=λ_ _ _ _ st hQ=>wpAny_pyIter_listiter st.1.1 hQ
theorem xG {xs:Array (Int×Tok)}{Q:C3} (hn:zO A s.heap) (hl:s.heap.IsList l (intItems xs)) (D8:0<xs.size)
  (h:∀v h' tk,(intItems xs)[argBest (λi j=>decide (numAt xs i<numAt xs j))<|xs.size - 1]?=some v->(∀b o,s.heap.get? b=some o->h'.get? b=some o)->Q v { s with heap:=h',toks:=tk }) :
  wpAny '$' A (call (.builtin "min") [.ref l]) Q E s:=by
 obtain⟨D,nD,lD⟩:=hn.small;have DA:=λb hb=>let ⟨_,_,e,_⟩:=lD b hb;yo e
 refine call_min_walk (iter_intList hl λs2 e st Xg Xh=>?_);subst e;have nI:s.heap.objs.size ∉ D:=λz=>absurd (DA _ z)<|QF _;refine#[_,_,_,_,_,_,_,rfl,rq s.heap.objs.size l Xh D nI _,#[st,mx.keptD nD λb _ o e=>yf _ e],λb hb=>?_,by simpa [intItems] using D8,CmpOf.ints_lt _ (λ_ _=>intItems_at),λv h' tk hP hk=>?_]
 ·rcases yB.mp hb with z|z
  ·exact Xg b z
  ·rw[Qu];exact QA (DA b z)
 ·exact h v h' tk (by simpa [intItems] using hP) (old_kept hk)
end
def rK (h base:Heap) (e:Addr) (cls:Value) (a0:Value×Value) (fl:Value):Prop :=
 ∃oe vs T oT ts,h.get? e=some oe/\(oe.cls=cls/\vs[0]?=some a0.1/\vs[2]?=some a0.2)/\oe.data=.fields vs/\vs[1]?=some (.ref T)/\base.get? T=none/\T≠e/\h.get? T=some oT/\oT.data=.fields ts/\ts[3]?=some fl
structure kD (base:Heap) (l:List Env) (e:Addr) (cls:Value) (a0:Value×Value) (fl:Value) (h h':Heap):Prop where
 st:base.StaysIn h'
 ff:h'.FunFrames base l
 tr:rK h' base e cls a0 fl
 up:h.UpToSlots h'
section
variable {M:Model}{A:Around}{E:C3}{s:Shared}{base:Heap}{env:Env}{outer:List Env}{L e:Addr}{cls:Value}{a0:Value×Value}
theorem sX {head:Value}{Hh:Bool}{Q:C6} (Ic:A.frames=some (env::outer)) (hl:s.heap.FunFrames base (env::outer)) (hf:env.frame=some L)
  (he:s.heap.get? e=some oe) (Ie:base.StaysIn s.heap) (LA:base.get? e=none) (hd:oe.data=.fields vs) (hsz:1<vs.size) (h0:vs[0]?=some a0.1) (h2:vs[2]?=some a0.2)
  (h:∀h',kD base (env::outer) e oe.cls a0 (rawInt L) s.heap h'->Q () { s with heap:=h' }) :
  wpAny M A (do let a <-frameOf env;let pl <-entryPlaceOf L Hh;let b <-EntryCells.newEntry head a .none (rawInt L) .none pl;setField (.ref e) 1 b) Q E s:=by
 have Ig:∀b o,s.heap.get? b=some o->(∀us,o.data≠.fields us)->b≠e:=λb o hb hn q=>by
  subst q;rw[he] at hb;cases hb;exact hn vs hd
 have Xi:e ∉ (env::outer).filterMap (·.frame):=λhm=>by
  obtain⟨_,o,ho,hn⟩:=hl.mem hm;exact Ig e o ho hn rfl
 refine Du (wpAny_frameOf_fun Ic hl hf λg hg=>Du (wpAny_entryPlaceOf λpl DJ=>?_));unfold EntryCells.newEntry newFields;refine Du<|wpAny_newObj_type ?_<|DJ.sizeOk5 _ _ _ _ _;generalize ho:(Obj.mk (.type "traceback") none (.fields ([head,.ref L,.none,rawInt L,.none]++(if pl.isEmpty then Ye 6 Value.none else pl)).toArray)<|Yb [])=ot;have FV:ot.data=.fields ([head,.ref L,.none,rawInt L,.none]++(if pl.isEmpty then Ye 6 Value.none else pl)).toArray:=by rw[<-ho]
 have eg:g.get? e=some oe:=(hg.2.1 e Xi).trans he;have bg:base.StaysIn g:=λb o hb=>(hg.2.1 b λhm=>by rw[(hl.mem hm).1] at hb;cases hb).trans<|Ie b o hb;have nT:g.objs.size≠e:=Qq<|yo eg;have e2:(g.push ot).get? e=some oe:=yf _ eg;refine wpAny_setField e2 hd hsz<|h _ ?_;have d3:=Obj.data_mapFields hd (·.setIfInBounds 1<|Value.ref g.objs.size);have e3:=yY (Obj.mapFields (·.setIfInBounds 1<|Value.ref g.objs.size)) e2<|Obj.isFreed_of_fields d3;have keep:∀b o,b≠e->g.get? b=some o->((g.push ot).update e<|Obj.mapFields (·.setIfInBounds 1<|Value.ref g.objs.size)).get? b=some o:=λb o hb q=>by
  rw[yK _ _<|yV hb];exact yf _ q
 have T3:((g.push ot).update e<|Obj.mapFields (·.setIfInBounds 1<|Value.ref g.objs.size)).get? g.objs.size=some ot:=by
  rw[yK _ _<|yV nT];exact yt g (by rw[<-ho];rfl)
 refine#[λb o hb=>keep b o (λq=>by rw[q,LA] at hb;cases hb)<|bg b o hb,hl.of_keeps λb o hb hn=>?_,#[_,_,g.objs.size,ot,_,e3,#[Obj.cls_mapFields _ _,?_,?_],d3,by simp [hsz],bg.fresh,nT,T3,FV,?_],λb o hb hn=>?_]
 ·obtain⟨sl,q⟩:=hg.2.2 b o hb;exact#[_,keep b _ (Ig b o hb hn) q,rfl]
 ·rw[aaC ac];exact h0
 ·rw[aaC ac];exact h2
 ·first|(simp;done)|(rcases DJ with rfl|⟨_,_,_,_,_,_,_,rfl⟩<;>simp)
 ·obtain⟨sl,q⟩:=hg.2.2 b o hb;exact#[sl,keep b _ (Ig b o hb hn) q]
theorem pX {l:List Env}{fl:Value}{Q:C6} (Ie:base.StaysIn s.heap) (hl:s.heap.FunFrames base l) (ht:rK s.heap base e cls a0 fl)
  (h:∀h',kD base l e cls a0 .none s.heap h'->(∀b o,s.heap.get? b=some o->(∀us,o.data≠.fields us)->h'.get? b=some o)->Q () { s with heap:=h' }):wpAny M A (setFlight (.ref e) none) Q E s:=by
 obtain⟨oe,vs,T,oT,ts,he,hc,hd,h1,OJ,OK,hT,HC,h3⟩:=ht;have z3:3<ts.size:=(Qp.mp h3).1;have Fb:∀b o,s.heap.get? b=some o->(∀us,o.data≠.fields us)->T≠b:=λb o hb hn q=>by
  subst q;rw[hT] at hb;cases hb;exact hn ts HC
 unfold setFlight;refine Du<|wpAny_field he hd h1 ?_;rw[if_pos (show (Value.ref T != Value.none)=true by simp)];refine wpAny_setField hT HC z3 (h _ #[λb o hb=>?_,hl.of_keeps λb o hb hn=>#[o,?_,rfl],#[oe,vs,T,_,_,?_,hc,hd,h1,OJ,OK,yY _ hT<|Obj.isFreed_of_fields<|Obj.data_mapFields HC _,Obj.data_mapFields HC _,by simp [z3]],λb o hb hn=>#[o.slots,?_]] λb o hb hn=>?_)
 ·rw[yK _ _ (λq=>by rw[<-q,OJ] at hb;cases hb)];exact Ie b o hb
 ·rw[yK _ _<|Fb b o hb hn];exact hb
 ·rw[yK _ _ OK];exact he
 ·rw[yK _ _<|Fb b o hb hn];exact hb
 ·rw[yK _ _<|Fb b o hb hn];exact hb
theorem lL {Q:C6} (Ic:A.frames=some (env::outer)) (hl:s.heap.FunFrames base (env::outer)) (hf:env.frame=some L) (ht:rK s.heap base e cls a0 .none) (Ie:base.StaysIn s.heap) (LA:base.get? e=none)
  (h:∀h',kD base (env::outer) e cls a0 (rawInt L) s.heap h'->Q () { s with heap:=h' }):wpAny M A (noteFrame (.ref e) env) Q E s:=by
 obtain⟨oe,vs,T,oT,ts,he,⟨hc,h0,h2⟩,hd,h1,OJ,OK,hT,HC,h3⟩:=ht;subst hc;have Fb:∀b o,s.heap.get? b=some o->(∀us,o.data≠.fields us)->T≠b:=λb o hb hn q=>by
  subst q;rw[hT] at hb;cases hb;exact hn ts HC
 unfold noteFrame;simp only[hf];refine Du<|wpAny_field he hd h1 ?_;rw[if_pos (show (Value.ref T != Value.none)=true by simp)];refine Du<|wpAny_field hT HC h3 ?_;rw[if_neg (show ¬((Value.none==rawInt L)=true) by simp [rawInt])];refine Du (wpAny_setField hT HC (Qp.mp h3).1 ?_)
 refine sX (s:={ s with heap:=_ }) Ic (hl.of_keeps λb o hb hn=>#[o,by rw[yK _ _<|Fb b o hb hn];exact hb,rfl]) hf (by rw[yK _ _ OK];exact he) (λb o hb=>by
  rw[yK _ _ (λq=>by rw[<-q,OJ] at hb;cases hb)];exact Ie b o hb) LA hd (Qp.mp h1).1 h0 h2 λh' S=>h h' #[S.st,S.ff,S.tr,λb o hb hn=>S.up b o (by rw[yK _ _<|Fb b o hb hn];exact hb) hn]
theorem eV {Q:C6} (Ic:A.frames=some (env::outer)) (hl:s.heap.FunFrames base (env::outer)) (hf:env.frame=some L) (ht:rK s.heap base e cls a0 .none) (Ie:base.StaysIn s.heap) (LA:base.get? e=none)
  (h:∀h',kD base (env::outer) e cls a0 .none s.heap h'->Q () { s with heap:=h' }):wpAny M A (leaving env<|.ref e) Q E s:=by
 unfold leaving;refine Du (lL Ic hl hf ht Ie LA λh1 S=>pX (s:={ s with heap:=h1 }) S.st S.ff S.tr λh2 S2 _=>h h2 #[S2.st,S2.ff,S2.tr,S.up.trans S2.up])
end
end L2
namespace L2
open PySem PySem.Spec PyProof.Rows
variable {xs vs:List V}{us:Dh}{H:Hp}{o:HO}{P:Dt}{h:Heap}{l e tg:Expr}{c cm:Bool}{g':Array GenState}{t' n:Nat}{d':Drawn}{ch fp:Di}{it C dx:Addr}{E:C3}{Q:VK}{X:Cx}{s:Shared}{tb:TS}{σ:St}{R:V->V->Hp->Prop}{y:V}{tc:TT}{es:Dp}{te tl:TE}{g:TG}{body:List Stmt}{lo:Int}{pl:Sem Bool}{D:vS}{r:R2}{f:Value->Value->Sem Value}{mA:Dd}{kw:List (Str×Value)}{ps:Dm}{kindOf:Str->Option NameKind}{CX:kj}{qual:Str}{scope:Scope}
section
set_option genSizeOf false
set_option genInjectivity false
inductive E2 {α0 α1:Type} (p:α0->α1->Prop):Prop
 | mk (x0:α0) (x1:α1) (h:p x0 x1):E2 p
inductive E3 {α0 α1 α2:Type} (p:α0->α1->α2->Prop):Prop
 | mk (x0:α0) (x1:α1) (x2:α2) (h:p x0 x1 x2):E3 p
inductive E4 {α0 α1 α2 α3:Type} (p:α0->α1->α2->α3->Prop):Prop
 | mk (x0:α0) (x1:α1) (x2:α2) (x3:α3) (h:p x0 x1 x2 x3):E4 p
inductive E5 {α0 α1 α2 α3 α4:Type} (p:α0->α1->α2->α3->α4->Prop):Prop
 | mk (x0:α0) (x1:α1) (x2:α2) (x3:α3) (x4:α4) (h:p x0 x1 x2 x3 x4):E5 p
inductive E6 {α0 α1 α2 α3 α4 α5:Type} (p:α0->α1->α2->α3->α4->α5->Prop):Prop
 | mk (x0:α0) (x1:α1) (x2:α2) (x3:α3) (x4:α4) (x5:α5) (h:p x0 x1 x2 x3 x4 x5):E6 p
inductive E7 {α0 α1 α2 α3 α4 α5 α6:Type} (p:α0->α1->α2->α3->α4->α5->α6->Prop):Prop
 | mk (x0:α0) (x1:α1) (x2:α2) (x3:α3) (x4:α4) (x5:α5) (x6:α6) (h:p x0 x1 x2 x3 x4 x5 x6):E7 p
inductive E8 {α0 α1 α2 α3 α4 α5 α6 α7:Type} (p:α0->α1->α2->α3->α4->α5->α6->α7->Prop):Prop
 | mk (x0:α0) (x1:α1) (x2:α2) (x3:α3) (x4:α4) (x5:α5) (x6:α6) (x7:α7) (h:p x0 x1 x2 x3 x4 x5 x6 x7):E8 p
inductive E9 {α0 α1 α2 α3 α4 α5 α6 α7 α8:Type} (p:α0->α1->α2->α3->α4->α5->α6->α7->α8->Prop):Prop
 | mk (x0:α0) (x1:α1) (x2:α2) (x3:α3) (x4:α4) (x5:α5) (x6:α6) (x7:α7) (x8:α8) (h:p x0 x1 x2 x3 x4 x5 x6 x7 x8):E9 p
inductive BL {α0 α1 α2 α3 α4 α5 α6 α7 α8 α9:Type} (p:α0->α1->α2->α3->α4->α5->α6->α7->α8->α9->Prop):Prop
 | mk (x0:α0) (x1:α1) (x2:α2) (x3:α3) (x4:α4) (x5:α5) (x6:α6) (x7:α7) (x8:α8) (x9:α9) (h:p x0 x1 x2 x3 x4 x5 x6 x7 x8 x9):BL p
structure A3 (a0 a1 a2:Prop):Prop where
 mk ::
 h0:a0
 h1:a1
 h2:a2
structure A4 (a0 a1 a2 a3:Prop):Prop where
 mk ::
 h0:a0
 h1:a1
 h2:a2
 h3:a3
structure A5 (a0 a1 a2 a3 a4:Prop):Prop where
 mk ::
 h0:a0
 h1:a1
 h2:a2
 h3:a3
 h4:a4
structure A6 (a0 a1 a2 a3 a4 a5:Prop):Prop where
 mk ::
 h0:a0
 h1:a1
 h2:a2
 h3:a3
 h4:a4
 h5:a5
structure A7 (a0 a1 a2 a3 a4 a5 a6:Prop):Prop where
 mk ::
 h0:a0
 h1:a1
 h2:a2
 h3:a3
 h4:a4
 h5:a5
 h6:a6
structure A8 (a0 a1 a2 a3 a4 a5 a6 a7:Prop):Prop where
 mk ::
 h0:a0
 h1:a1
 h2:a2
 h3:a3
 h4:a4
 h5:a5
 h6:a6
 h7:a7
structure A9 (a0 a1 a2 a3 a4 a5 a6 a7 a8:Prop):Prop where
 mk ::
 h0:a0
 h1:a1
 h2:a2
 h3:a3
 h4:a4
 h5:a5
 h6:a6
 h7:a7
 h8:a8
structure BJ (a0 a1 a2 a3 a4 a5 a6 a7 a8 a9:Prop):Prop where
 mk ::
 h0:a0
 h1:a1
 h2:a2
 h3:a3
 h4:a4
 h5:a5
 h6:a6
 h7:a7
 h8:a8
 h9:a9
end
abbrev Key:=Sum Int Str
def Ui:Key->Value->Bool
 | .inl k,v=>Value.isInt k v
 | .inr x,v=>Value.isStrOf x v
def Cd (w:World):Key->Int
 | .inl k=>hashInt k
 | .inr x=>hashStr w x
theorem JB:∀{k:Key} {v:Value},Ui k v=true->(∃i t,k=Yh i/\v=Value.int i t)\/(∃x t,k=Yr x/\v=Value.str x t)
 | .inl i,v,h=>by
  obtain⟨t,e⟩:=Value.isInt_shape h;exact .inl #[i,t,rfl,e]
 | .inr x,v,h=>by
  obtain⟨t,e⟩:=Value.isStrOf_shape h;exact .inr #[x,t,rfl,e]
theorem mZ (i:Int) (t:Tok):Ui (.inl i) (.int i t)=true:=by simp [Ui,Value.isInt]
theorem m3 (x:Str) (t:Tok):Ui (.inr x) (.str x t)=true:=by simp [Ui,Value.isStrOf]
theorem xy (a b:Int):decide ((Yh a:Key)=Yh b)=(a==b):=by
 grind
theorem xB (a b:Str):decide ((Yr a:Key)=Yr b)=decide (a=b):=by
 grind
theorem xz (a:Int) (b:Str):decide ((Yh a:Key)=Yr b)=false:=decide_eq_false (λq=>nomatch q)
theorem xA (a:Str) (b:Int):decide ((Yr a:Key)=Yh b)=false:=decide_eq_false (λq=>nomatch q)
def jM (prog:Dt) (w:World):PySem.KeyKind prog w Key where
 is:=Ui
 hash:=Cd w
 inj:=λv a b ha hb=>by
  rcases JB ha with ⟨i,t,rfl,rfl⟩|⟨x,t,rfl,rfl⟩
  ·rcases JB hb with ⟨j,u,rfl,e⟩|⟨y,u,rfl,e⟩
   ·injection e with e1 _;rw[e1]
   ·exact nomatch e
  ·rcases JB hb with ⟨j,u,rfl,e⟩|⟨y,u,rfl,e⟩
   ·exact nomatch e
   ·injection e with e1 _;rw[e1]
 byValue:=λk v h=>by
  rcases JB h with ⟨i,t,rfl,rfl⟩|⟨x,t,rfl,rfl⟩<;>rfl
 pyHash:=λhv h=>by
  rcases JB hv with ⟨i,t,rfl,rfl⟩|⟨x,t,rfl,rfl⟩
  ·exact wpAny_pyHash_int h
  ·exact wpAny_pyHash_str h
 eqBool:=λhu hv h=>by
  rcases JB hu with ⟨i,t,rfl,rfl⟩|⟨x,t,rfl,rfl⟩
  ·rcases JB hv with ⟨j,u,rfl,rfl⟩|⟨y,u,rfl,rfl⟩
   ·rw[xy] at h;exact wpAny_eqBool_int h
   ·rw[xz] at h;exact SeqAt.EqAt.int_str i t y u _ _ _ _ h
  ·rcases JB hv with ⟨j,u,rfl,rfl⟩|⟨y,u,rfl,rfl⟩
   ·rw[xA] at h;exact SeqAt.EqAt.str_int x t j u _ _ _ _ h
   ·rw[xB] at h;exact wpAny_eqBool_str h
 «strs»:=λk x t v h=>by
  rcases JB h with ⟨i,u,rfl,e⟩|⟨y,u,rfl,e⟩
  ·exact nomatch e
  ·injection e with e1 _
   subst e1;cases v<;>rfl
theorem bK (prog:Dt) (w:World) (i:Int) (t:Tok):(jM prog w).is (.inl i) (.int i t)=true:=mZ i t
theorem bL (prog:Dt) (w:World) (x:Str) (t:Tok):(jM prog w).is (.inr x) (.str x t)=true:=m3 x t
inductive V where
 | non|bl (b:Bool)|int (i:Int)|str (x:Str)|byt (b:Array UInt8)|flt (b:UInt64)|ref (a:Addr)|ty (n:String)
 deriving DecidableEq
def jG:V->Value->Prop
 | .non,u=>u=Value.none
 | .bl b,u=>u=Value.bool b
 | .int i,u=>∃t,u=Value.int i t
 | .str x,u=>∃t,u=Value.str x t
 | .byt b,u=>∃t,u=Value.bytes b t
 | .flt b,u=>∃t,u=Value.float b t
 | .ref a,u=>u=Value.ref a
 | .ty n,u=>u=Value.type n
abbrev jH:List V->List Value->Prop:=Paired jG
theorem jH.length (r:jH xs us):xs.length=us.length:=Paired.length r
theorem jH.get:∀{xs:List V} {us:Dh} {i:Nat} {x:V},jH xs us->xs[i]?=some x->∃u,us[i]?=some u/\jG x u:=by
 intro _ _ i _ h e
 induction h generalizing i with
 | nil=>cases e
 | cons r t ih =>
  cases i with
  | zero=>cases e;exact#[_,rfl,r]
  | succ i=>exact ih e
theorem jH.set {x:V}{u:Value} (r:jG x u):∀{xs:List V} {us:Dh} (i:Nat),jH xs us->jH (xs.set i x) (us.set i u):=by
 intro _ _ i h
 induction h generalizing i with
 | nil=>exact .nil
 | cons q t ih =>
  cases i with
  | zero=>exact .cons r t
  | succ i=>exact .cons q (ih i)
theorem jH.append:∀{xs ys:List V} {us ws:Dh},jH xs us->jH ys ws->jH (xs++ys) (us++ws):=by
 intro _ _ _ _ h s
 induction h with
 | nil=>exact s
 | cons r t ih=>exact .cons r ih
theorem jH.take:∀{xs:List V} {us:Dh} (n:Nat),jH xs us->jH (xs.take n) (us.take n):=by
 intro _ _ n h
 induction h generalizing n with
 | nil=>cases n<;>exact .nil
 | cons r t ih =>
  cases n with
  | zero=>exact .nil
  | succ n=>exact .cons r (ih n)
theorem jH.drop:∀{xs:List V} {us:Dh} (n:Nat),jH xs us->jH (xs.drop n) (us.drop n):=by
 intro _ _ n h
 induction h generalizing n with
 | nil=>cases n<;>exact .nil
 | cons r t ih =>
  cases n with
  | zero=>exact .cons r t
  | succ n=>exact ih n
def U3:Option V->Option Value->Prop
 | some v,some u=>jG v u
 | none,none=>True
 | _,_=>False
def KV {κ:Type}:List (κ×V)->List (κ×Value)->Prop:=Paired λ(p:κ×V) (q:κ×Value)=>p.1=q.1/\jG p.2 q.2
def kV:Key->V
 | .inl i=>.int i
 | .inr x=>.str x
inductive HO where
 | lst (xs:List V)
 | tup (xs:List V)
 | dK (Dx:List (Key×V))|dT (Dx:List (List Key×V))
 | set (S:Int->Bool) (n:Nat)
 | ins (C dx:Addr) (fs:List (Str×V))
 | own (x:Addr)
 | xd (fs:List (Str×V))
 | met (f x:Addr)
 | rng (lo hi:Int)
 | frz (o:Obj) (u:HO)
 | tbl (ps:Do)
 | ext (φ:Heap->Prop)
abbrev Hp:=Addr->Option HO
def upd (H:Hp) (a:Addr) (o:HO):Hp:=λb=>if b=a then some o else H b
theorem jc {a:Addr}:upd H a o a=some o:=by unfold upd;rw[if_pos rfl]
theorem jC {a b:Addr} (h:b≠a):upd H a o b=H b:=by unfold upd;rw[if_neg h]
theorem jy {a b:Addr}{x:Option HO} (n:b≠a) (e:H b=x):upd H a o b=x:=by rw[jC n];exact e
theorem wK {a:Addr}{u:HO}:upd (upd H a o) a u=upd H a u:=by
 funext b;unfold upd;split<;>rfl
theorem j9 {a b:Addr}{u:HO} (h:H a=some o) (h':H b=some u) (d:o≠u:=by exact λz=>nomatch z):a≠b:=by
 grind
theorem jJ {a b:Addr} (h:H a=some o) (h':H b=none):a≠b:=by
 grind
section
variable (P:Dt) (w:World)
def JZ (H:Hp) (h:Heap) (a:Addr):HO->Prop
 | .lst xs=>xs.length<=sizeLine/\∃(Dy:Dh) (n:Nat),jH xs Dy/\h.get? a=some { cls:=.type "list",data:=.seq Dy.toArray n }
 | .tup xs=>xs.length<=sizeLine/\∃Dy:List Value,jH xs Dy/\IsTup h a Dy.toArray
 | .dK Dx=>Dx.length<=sizeLine/\(a==sysModules)=false/\∃vs,KV Dx vs/\h.DictOf (jM P w) a vs
 | .dT Dx=>Dx.length<=sizeLine/\(a==sysModules)=false/\∃xs:List (List Key×Addr×Value),
   Paired (λ(p:List Key×V) (q:List Key×Addr×Value)=>p.1=q.1/\H q.2.1=some (.tup<|p.1.map kV)/\jG p.2 q.2.2) Dx xs /\
   ∃o es ep,h.get? a=some o/\o.ExactDict/\o.data=.dict es ep/\es.toList=xs.map (entryOfKey<|tupleKind<|jM P w)/\(xs.map (·.1)).Nodup
 | .set S n=>h.SetOf (intKind P w) a S n
 | .ins C dx fs=>H dx=some (.own a)/\fs.length<=1000/\dx≠a/\h.get? a=some (instObj C dx) /\
   ∃mA,h.Ns1 dx mA/\(∀f,U3 (fs.lookup f)<|mA f)/\aa0 mA (fs.map (·.1))
 | .own _=>∃o,h.get? a=some o
 | .xd fs=>∃mA,h.Ns1 a mA/\∀f,U3 (fs.lookup f) (mA f)
 | .rng lo hi=>∃t u v,h.get? a=some { cls:=.type "range",data:=.fields (Yb [.int lo t,.int hi u,.int 1 v]) }
 | .frz o u=>h.get? a=some o/\JZ H h a u
 | .tbl ps=>h.get? a=some { cls:=.none,data:=.fields ps }
 | .met f x=>h.get? a=some (PySem.W.methodObj (.ref f)<|.ref x)
 | .ext φ=>φ h/\(∃o,h.get? a=some o)/\∀h1 h2:Heap,φ h1->(∀o,h1.get? a=some o->h2.get? a=some o)->φ h2
def JU (H:Hp) (h:Heap):Prop:=∀a o,H a=some o->JZ P w H h a o
end
section
variable {P:Dt}{w:World}{H H':Hp}{h h':Heap}{a:Addr}{o:HO}
theorem JZ.lt (x:JZ P w H h a o):a<h.objs.size:=by
 cases o with
 | lst xs=>obtain⟨_,_,_,_,e⟩:=x;exact yo e
 | tup xs=>obtain⟨_,_,_,p⟩:=x;exact p.lt
 | dK Dx=>obtain⟨_,_,_,_,o,_,_,e,_⟩:=x;exact yo e
 | dT Dx=>obtain⟨_,_,_,_,o,_,_,e,_⟩:=x;exact yo e
 | set S n=>obtain⟨o,_,_,_,e,_⟩:=x;exact yo e
 | ins C dx fs=>obtain⟨_,_,_,e,_⟩:=x;exact yo e
 | own y=>obtain⟨_,e⟩:=x;exact yo e
 | xd fs=>obtain⟨_,⟨_,_,_,e,_⟩,_⟩:=x;exact yo e
 | rng lo hi=>obtain⟨_,_,_,e⟩:=x;exact yo e
 | frz ob u=>obtain⟨e,_⟩:=x;exact yo e
 | tbl ps=>exact yo (x)
 | met f y=>exact yo (x)
 | ext φ=>obtain⟨_,⟨_,e⟩,_⟩:=x;exact yo e
theorem Paired.mapP {α β:Type}{F G:α->β->Prop}:∀{l₁:List α} {l₂:List β},Paired F l₁ l₂->(∀a b,F a b->G a b)->Paired G l₁ l₂:=by
 intro _ _ h f
 induction h with
 | nil=>exact .nil
 | cons r t ih=>exact .cons (f _ _ r) ih
theorem JZ.stay (x:JZ P w H h a o) (k:∀b u,(b=a\/H b=some (.own a))->h.get? b=some u->h'.get? b=some u)
  (ho:∀b,H b=some (.own a)->H' b=some (.own a)) (ht:∀b xs,H b=some (.tup xs)->H' b=some (.tup xs)):JZ P w H' h' a o:=by
 induction o with
 | lst xs=>obtain⟨z,Dy,n,r,e⟩:=x;exact#[z,Dy,n,r,k _ _ (.inl rfl) e]
 | tup xs=>obtain⟨z,Dy,r,ob,e,c⟩:=x;exact#[z,Dy,r,ob,k _ _ (.inl rfl) e,c]
 | dK Dx=>obtain⟨z,y,vs,r,ob,es,ep,e,c⟩:=x;exact#[z,y,vs,r,ob,es,ep,k _ _ (.inl rfl) e,c]
 | dT Dx =>
  obtain⟨z,y,xs,r,ob,es,ep,e,c⟩:=x;exact#[z,y,xs,Paired.mapP r λp q z=>#[z.1,ht _ _ z.2.1,z.2.2],ob,es,ep,k _ _ (.inl rfl) e,c]
 | set S n=>obtain⟨ob,es,ep,t,e,c⟩:=x;exact#[ob,es,ep,t,k _ _ (.inl rfl) e,c]
 | ins C dx fs =>
  obtain⟨d,z,ne,e,mA,⟨od,es,ep,e2,c⟩,r⟩:=x;exact#[ho _ d,z,ne,k _ _ (.inl rfl) e,mA,#[od,es,ep,k _ _ (.inr d) e2,c],r]
 | own y=>obtain⟨ob,e⟩:=x;exact#[ob,k _ _ (.inl rfl) e]
 | xd fs=>obtain⟨mA,⟨od,es,ep,e,c⟩,r⟩:=x;exact#[mA,#[od,es,ep,k _ _ (.inl rfl) e,c],r]
 | rng lo hi=>obtain⟨t,u,v,e⟩:=x;exact#[t,u,v,k _ _ (.inl rfl) e]
 | frz ob u ih=>obtain⟨e,q⟩:=x;exact#[k _ _ (.inl rfl) e,ih q]
 | tbl ps =>
  have e:=x;exact k a _ (.inl rfl) e
 | met f y =>
  have e:=x;exact k a _ (.inl rfl) e
 | ext φ=>obtain⟨p,⟨o,e⟩,st⟩:=x;exact#[st _ _ p λo q=>k _ _ (.inl rfl) q,#[o,k _ _ (.inl rfl) e],st]
theorem JU.lt (x:JU P w H h) (e:H a=some o):a<h.objs.size:=(x a o e).lt
theorem JU.fresh (x:JU P w H h) (e:h.objs.size<=a):H a=none:=by
 cases q:H a with
 | none=>rfl
 | some u=>exact absurd (yC (x.lt q) e) (QF _)
theorem JU.kept (x:JU P w H h) (k:∀b u,h.get? b=some u->h'.get? b=some u):JU P w H h':=λa o e =>
 (x a o e).stay (λb u _ q=>k b u q) (λ_ q=>q) λ_ _ q=>q
theorem JU.laid (x:JU P w H h) (k:∀b u,h.get? b=some u->h'.get? b=some u) (hp:h.objs.size<=a) (new:JZ P w (upd H a o) h' a o):JU P w (upd H a o) h':=λb u e=>by
 have hn:=x.fresh hp;by_cases hb:b=a
 ·subst hb;rw[jc] at e;cases e;exact new
 ·rw[jC hb] at e;exact (x b u e).stay (λc v _ q=>k c v q) (λc q=>jy (jJ q hn) q) λc xs q=>by rw[jC<|jJ q hn];exact q
end
def Rd (H:Hp) (a:Addr) (u:HO):Prop:=H a=some u\/∃o,H a=some (.frz o u)
theorem Rd.ok {w:World}{a:Addr}{u:HO} (r:Rd H a u) (x:JU P w H h):JZ P w H h a u:=by
 rcases r with r|⟨o,r⟩
 ·exact x a u r
 ·obtain⟨_,q⟩:=x a _ r;exact q
def ia:Option HO->Prop
 | some (.lst _)=>True
 | some (.dK _)=>True
 | some (.dT _)=>True
 | some (.set _ _)=>True
 | some (.ins _ _ _)=>True
 | some (.ext _)=>True
 | _=>False
section
variable {P:Dt}{w:World}{H:Hp}{h h':Heap}{x e:Addr}{o':HO}
theorem JU.write (ok:JU P w H h) (mu:ia (H x)) (he:e=x\/H e=some (.own x)) (k:∀b u,b≠e->h.get? b=some u->h'.get? b=some u) (I9:∃u,h'.get? e=some u)
  (new:JZ P w (upd H x o') h' x o'):JU P w (upd H x o') h':=λb u q=>by
 have Px:∀c y,H c=some (.own y)->c≠x:=λc y r z=>by subst z;rw[r] at mu;exact mu
 have Py:∀c xs,H c=some (.tup xs)->c≠x:=λc xs r z=>by subst z;rw[r] at mu;exact mu
 by_cases hb:b=x
 ·subst hb;rw[jc] at q;cases q;exact new
 ·rw[jC hb] at q;by_cases LB:b=e
  ·have q':H b=some (.own x):=by
    grind
   rw[q] at q';cases q';obtain⟨v,hv⟩:=I9;exact#[v,by rw[LB];exact hv]
  ·refine (ok b u q).stay (λc v hc r=>k c v ?_ r) (λc r=>jy (Px c b r) r) λc xs r=>by rw[jC<|Py c xs r];exact r
   rcases hc with rfl|hc
   ·exact LB
   ·grind
end
structure Un (fs ex:Di) (H H':Hp) (h h':Heap):Prop where
 keep:∀b o,h.get? b=some o->H b=none->b ∉ fs->b ∉ ex->h'.get? b=some o
 slot:∀b o,h.get? b=some o->H b=none->b∈fs->b ∉ ex->∃sl,h'.get? b=some { o with slots:=sl }
 free:∀b o,h.get? b=some o->H b=none->b ∉ ex->H' b=none
 there:∀b o,h.get? b=some o->b ∉ ex->∃o',h'.get? b=some o'
 tups:∀b xs,H b=some (.tup xs)->H' b=some (.tup xs)
 frzs:∀b o u,H b=some (.frz o u)->H' b=some (.frz o u)
 tbls:∀b ps,H b=some (.tbl ps)->∃more,H' b=some (.tbl<|ps++more)
section
variable {fs Xj ex OL:Di}{H H1 H2:Hp}{h h1 h2 h':Heap}{a x e:Addr}{o:HO}
theorem Un.any (u:Un fs ex H H1 h h1) {b:Addr} {ob:Obj} (q:h.get? b=some ob) (n:H b=none) (hx:b ∉ ex):∃sl,h1.get? b=some { ob with slots:=sl }:=by
 by_cases hb:b∈fs
 ·exact u.slot b ob q n hb hx
 ·exact#[ob.slots,u.keep b ob q n hb hx]
theorem Un.kept (k:∀b u,h.get? b=some u->h'.get? b=some u):Un fs ex H H h h' :=
 #[λb ob q _ _ _=>k b ob q,λb ob q _ _ _=>#[ob.slots,k b ob q],λ_ _ _ n _=>n,λb ob q _=>#[ob,k b ob q],λ_ _ q=>q,λ_ _ _ q=>q,λ_ ps q=>#[(Yb []),by rw[q];simp]]
theorem Un.refl:Un fs ex H H h h:=Un.kept λ_ _ q=>q
theorem Un.laid (k:∀b u,h.get? b=some u->h'.get? b=some u) (hp:h.objs.size<=a) (hn:H a=none):Un fs ex H (upd H a o) h h' where
 keep:=λb u q _ _ _=>k b u q
 slot:=λb u q _ _ _=>#[u.slots,k b u q]
 free:=λb u q n _=>by rw[jC<|yE<|yC (yo q) hp];exact n
 there:=λb u q _=>#[u,k b u q]
 tups:=λb xs q=>by rw[jC<|jJ q hn];exact q
 frzs:=λb u xs q=>by rw[jC<|jJ q hn];exact q
 tbls:=λb ps q=>#[(Yb []),by rw[jC<|jJ q hn,q];simp]
theorem Un.write (mu:ia (H x)) (he:e=x\/H e=some (.own x)) (k:∀b u,b≠e->h.get? b=some u->h'.get? b=some u) (I9:∃u,h'.get? e=some u):Un fs ex H (upd H x o) h h':=by
 have hx:∀b,H b=none->b≠x:=λb n z=>by subst z;rw[n] at mu;exact mu
 have hb:∀b,H b=none->b≠e:=λb n z=>by
  grind
 have hm:∀b u,H b=some u->¬ia (some u)->b≠x:=λb u q nm z=>by grind
 refine#[λb u q n _ _=>k b u (hb b n) q,λb u q n _ _=>#[u.slots,k b u (hb b n) q],λb u q n _=>jy (hx b n) n,λb u q _=>?_,
  λb xs q=>jy (hm b _ q λz=>z) q,λb u xs q=>jy (hm b _ q λz=>z) q,λb ps q=>#[(Yb []),by rw[jC (hm b _ q λz=>z),q];simp]]
 by_cases LB:b=e
 ·subst LB;exact I9
 ·exact#[u,k b u LB q]
end
def sM (h:Heap) (H:Hp):List Addr:=(Yc h.objs.size).filter λa=>(H a).isSome
def Zs (h:Heap) (H:Hp):Heap:=hideAll h (sM h H)
theorem iM (h:Heap) (H:Hp):(Zs h H).objs.size=h.objs.size:=PySem.W.hideAll_size _ _
theorem qf {b:Addr}{o:Obj} (e:h.get? b=some o) (n:H b=none):(Zs h H).get? b=some o :=
 hideAll_get _ e λhm=>by
  have q:(H b).isSome=true:=(Qx.mp hm).2;rw[n] at q;simp at q
theorem tQ {b:Addr}{o:Obj} (e:(Zs h H).get? b=some o):h.get? b=some o/\H b=none:=by
 have e':h.get? b=some o:=of_hideAll (sM h H) e;refine#[e',?_];cases q:H b with
 | none=>rfl
 | some x =>
  have hm:b∈sM h H:=Qx.mpr #[yI.mpr<|yo e',by simp [q]];have z:(Zs h H).get? b=none:=hideAll_none (sM h H) hm;rw[z] at e;cases e
structure Mod (K:C9) (mg:Dd) (base:Heap):Prop where
 kin:K.In base
 glob:base.Ns mainGlobals mg
 blt:∃mb,base.Ns builtinsNs mb/\∀x:Str,x≠"__name__"->mb x=bootBuiltins x
 nolimit:base.NoLimit
structure Cx where
 prog:Program
 w:World
 K:Frag
 mg:Str->Option Value
 base:Heap
 A:Around
 N:List Str
 s₀:Shared
 H₀:Hp
 env:Env
 outer:List Env
 stack:List Env
 ex:List Addr
 fn:Str->Bool
 calm:Bool
 pn:List (Addr×Obj)
 xe:Value->Shared->Prop
theorem fo {l:Dm} (h:decide l.Nodup=true):l.Nodup:=of_decide_eq_true h
theorem VX {a w K mg base A N s₀ H₀ env outer stack ex fn calm pn xe}:(Cx.mk a w K mg base A N s₀ H₀ env outer stack ex fn calm pn xe).K=K:=rfl
def UN (l:List Env):List Addr:=l.filterMap (·.frame)
abbrev Cx.fs (X:Cx):List Addr:=UN X.outer
def wZ (sc:Scope) (x:Str):Prop:=sc.names.lookup x=some .local\/sc.names.lookup x=some .cell\/sc.names.lookup x=some .free
def hV (sc:Scope) (x:Str):Prop:=sc.names.lookup x=some .local\/sc.names.lookup x=some .cell
def B3 (env:Env) (h:Heap) (m:Dd) (x:Str) (u:Value):Prop :=
 (env.kindOf x=some .local/\m x=some u)\/((env.kindOf x=some .cell\/env.kindOf x=some .free)/\∃c,env.cells.lookup x=some c/\h.IsCell c (some u))
structure Cx.Ok (X:Cx):Prop where
 mod:Mod X.K X.mg X.base
 kind:X.env.scope.kind=.function
 glob:X.env.globals=mainGlobals
 blt:X.env.builtins=builtinsNs
 above:X.s₀.heap.objs.size<=X.env.locals
 inj:∀x y c,X.env.cells.lookup x=some c->X.env.cells.lookup y=some c->x=y
 has:∀x,(X.env.kindOf x=some .cell\/X.env.kindOf x=some .free)->∃c,X.env.cells.lookup x=some c
 cab:∀x c,X.fn x=true->X.env.cells.lookup x=some c->X.s₀.heap.objs.size<=c
 hd:X.calm=true->X.A.handled=none
 frames:X.A.frames=some X.stack
 stk:X.stack=X.outer\/(X.stack=X.env::X.outer/\X.env.frame=some X.env.locals)
 exf:∀b∈X.ex,b≠X.env.locals/\∀x c,X.env.cells.lookup x=some c->c≠b
 bs:∀b o,X.base.get? b=some o->X.s₀.heap.get? b=some o/\X.H₀ b=none
 bsz:X.base.objs.size<=X.s₀.heap.objs.size
 noex:∀b o,X.base.get? b=some o->b ∉ X.ex
 exfs:∀b∈X.ex,b ∉ X.fs
 funs:X.s₀.heap.FunFrames X.base X.outer
 frf:∀b∈X.fs,X.H₀ b=none
inductive ZX (H:Hp):Value->Prop
 | nil:ZX H .none
 | cons {b:Addr} {ob:Obj} {us:Do} {u:HO} {c:Value}:H b=some (.frz ob u)->ob.data=.fields us->us[2]?=some c->ZX H c->ZX H (.ref b)
theorem ZX.mono {H':Hp}{c:Value} (h:ZX H c) (k:∀b o u,H b=some (.frz o u)->H' b=some (.frz o u)):ZX H' c:=by
 induction h with
 | nil=>exact .nil
 | cons q1 q2 q3 _ ih=>exact .cons (k _ _ _ q1) q2 q3 ih
theorem ZX.chn {w:World}{c:Value} (n:ZX H c) (ok:JU P w H h):∃D,ZH h D c/\∀b∈D,∃o u,H b=some (.frz o u):=by
 induction n with
 | nil=>exact#[[],.nil,λb hb=>absurd hb on]
 | @cons b ob us u c q1 q2 q3 _ ih =>
  obtain⟨D,m,l⟩:=ih;refine#[b::D,.cons on (ok b _ q1).1 q2 q3 (m.kept (λ_ _ _ e=>e) λd hd=>yl _ hd),λd hd=>?_];rcases yD.mp hd with rfl|hd
  ·exact#[_,_,q1]
  ·exact l d hd
def nG (A:Around) (H:Hp):Prop:=A.handled=none\/∃ea:Addr,A.handled=some (.ref ea)/\ZX H (.ref ea)
theorem nG.mono {A:Around}{H':Hp} (h:nG A H) (k:∀b o u,H b=some (.frz o u)->H' b=some (.frz o u)):nG A H':=by
 rcases h with z|⟨ea,h1,h2⟩
 ·exact .inl z
 ·exact .inr #[ea,h1,h2.mono k]
theorem nG.now {w:World}{A:Around} (n:nG A H) (ok:JU P w H h):zO A h:=by
 rcases n with z|⟨ea,h1,h2⟩
 ·exact#[[],.inl z]
 ·obtain⟨D,m,_⟩:=h2.chn ok;exact#[D,.inr #[ea,h1,m]]
structure jp (X:Cx) (pins:De) (σ:List (Option V)) (H:Hp) (s:Shared):Prop where
 ok:X.Ok
 os:s.os=X.s₀.os
 bare:AllBare s.gens
 base:Un X.fs X.ex X.H₀ H X.s₀.heap s.heap
 loc:∃m,s.heap.Ns X.env.locals m/\∀(i:Nat) (x:Str) (v:V),X.N[i]?=some x->σ[i]?=some (some v)->wZ X.env.scope x->∃u,jG v u/\B3 X.env s.heap m x u
 cell:∀x c,X.env.cells.lookup x=some c->∃v,s.heap.IsCell c v
 free:H X.env.locals=none
 freeC:∀x c,X.env.cells.lookup x=some c->H c=none
 pin:∀p∈X.pn++pins,s.heap.get? p.1=some p.2/\H p.1=none/\p.1≠X.env.locals/\p.1 ∉ X.fs/\∀v,p.2.data≠.cell v
 hok:JU X.prog X.w H s.heap
 len:σ.length=X.N.length
 hn:nG X.A H
section
variable {X:Cx}{pins:De}{σ:List (Option V)}{H H':Hp}{s:Shared}{h':Heap}
theorem Cx.Ok.nofr (ok:X.Ok) {b:Addr} {o:Obj} (e:X.base.get? b=some o):b ∉ X.fs:=λhb=>by
 have:=(ok.funs.mem hb).1;rw[e] at this;cases this
theorem jp.bs (I:jp X pins σ H s):∀b o,X.base.get? b=some o->s.heap.get? b=some o/\H b=none:=λb o e =>
 #[I.base.keep b o (I.ok.bs b o e).1 (I.ok.bs b o e).2 (I.ok.nofr e)<|I.ok.noex b o e,I.base.free b o (I.ok.bs b o e).1 (I.ok.bs b o e).2<|I.ok.noex b o e]
theorem jp.bk (I:jp X pins σ H s):∀b o,X.base.get? b=some o->s.heap.get? b=some o:=λb o e=>(I.bs b o e).1
theorem jp.mod (I:jp X pins σ H s):Mod X.K X.mg X.base:=I.ok.mod
theorem jp.kIn (I:jp X pins σ H s):X.K.In s.heap:=I.ok.mod.kin.keeps I.bk
theorem jp.fr (I:jp X pins σ H s):∃m,Fr X.base X.env.locals s.heap m :=
 let ⟨m,hn,_⟩:=I.loc
 #[m,hn,I.bk,yk I.ok.bsz I.ok.above]
theorem jp.lt (I:jp X pins σ H s):X.env.locals<s.heap.objs.size:=let ⟨_,hn,_⟩:=I.loc;hn.lt
theorem jp.sz (I:jp X pins σ H s):X.s₀.heap.objs.size<=s.heap.objs.size:=yk I.ok.above (yX I.lt)
theorem jp.nofs (I:jp X pins σ H s) {a:Addr} (h:s.heap.objs.size<=a):a ∉ X.fs:=λhb=>by
 obtain⟨_,o,ho,_⟩:=I.ok.funs.mem hb;exact absurd (yC (yo ho)<|yk I.sz h) (QF _)
theorem jp.cne (I:jp X pins σ H s):∀x c,X.env.cells.lookup x=some c->c≠X.env.locals:=λx c e z=>by
 obtain⟨v,o,ho,hd⟩:=I.cell x c e;obtain⟨m,⟨o',es,ep,Es,Hi,_⟩,_⟩:=I.loc;rw[z,Es] at ho;cases ho;rw[Hi] at hd;cases hd
theorem jp.funs (I:jp X pins σ H s):s.heap.FunFrames X.base X.outer:=by
 have all:∀(l:List Env),(∀b∈UN l,b∈X.fs)->X.s₀.heap.FunFrames X.base l->s.heap.FunFrames X.base l:=by
  intro l
  induction l with
  | nil=>intro _ _;trivial
  | cons env r ih =>
   intro hs hl;obtain⟨hk,⟨L,o,hf,hn,ho,hd⟩,hr⟩:=hl;have hL:=hs L (by unfold UN;rw[Y6,hf];exact yu);obtain⟨sl,e⟩:=I.base.slot L o ho (I.ok.frf L hL) hL λz=>I.ok.exfs L z hL;exact#[hk,#[L,_,hf,hn,e,hd],ih (λb hb=>hs b (by unfold UN;rw[Y6,hf];exact yl _ hb)) hr]
 exact all X.outer (λ_ hb=>hb) I.ok.funs
theorem jp.stack (I:jp X pins σ H s):s.heap.FunFrames X.base X.stack:=by
 rcases I.ok.stk with e|⟨e,hf⟩
 ·rw[e];exact I.funs
 ·rw[e];obtain⟨m,hn,_⟩:=I.loc;refine .cons (by rw[I.ok.kind];decide) hf hn ?_ I.funs;exact Qi (yk I.ok.bsz I.ok.above)
theorem jp.stkSub (I:jp X pins σ H s):∀b∈UN X.stack,b∈X.env.locals::X.fs:=λb hb=>by
 rcases I.ok.stk with e|⟨e,hf⟩
 ·grind
 ·rw[e] at hb;unfold UN at hb;rw[Y6,hf] at hb;exact hb
theorem jp.stkFree (I:jp X pins σ H s):∀b∈UN X.stack,H b=none:=λb hb=>by
 rcases yD.mp (I.stkSub b hb) with e|hb
 ·rw[e];exact I.free
 ·obtain⟨_,o,ho,_⟩:=I.ok.funs.mem hb;exact I.base.free b o ho (I.ok.frf b hb) λz=>I.ok.exfs b z hb
theorem jp.step (I:jp X pins σ H s)
  (Ez:∀b∈ch,(b∈X.ex\/X.s₀.heap.objs.size<=b)/\b≠X.env.locals/\(∀x c,X.env.cells.lookup x=some c->c≠b)/\∀p∈X.pn++pins,p.1≠b)
  (keep:∀b o,b≠X.env.locals->b ∉ X.fs->b ∉ ch->s.heap.get? b=some o->H b=none->h'.get? b=some o)
  (slot:∀b o,b≠X.env.locals->b∈X.fs->b ∉ ch->s.heap.get? b=some o->H b=none->∃sl,h'.get? b=some { o with slots:=sl }) (free:∀b o,b ∉ ch->s.heap.get? b=some o->H b=none->H' b=none)
  (there:∀b o,b ∉ ch->s.heap.get? b=some o->∃o',h'.get? b=some o')
  (tups:∀b xs,H b=some (.tup xs)->H' b=some (.tup xs)) (frzs:∀b o u,H b=some (.frz o u)->H' b=some (.frz o u)) (tbls:∀b ps,H b=some (.tbl ps)->∃more,H' b=some (.tbl<|ps++more))
  (ns:∀m,s.heap.Ns X.env.locals m->h'.Ns X.env.locals m) (hok:JU X.prog X.w H' h') (hg:AllBare g') :
  jp X pins σ H' { s with heap:=h',gens:=g',drawn:=d',toks:=t' }:=by
 have S0:∀b o,X.s₀.heap.get? b=some o->b≠X.env.locals:=λb o e=>yE<|yC (yo e) I.ok.above;have Lb:∀b o,X.s₀.heap.get? b=some o->b ∉ X.ex->b ∉ ch:=λb o e hx hb=>by
  rcases (Ez b hb).1 with z|z
  ·exact hx z
  ·exact absurd (yC (yo e) z) (QF _)
 have cellK:∀x c,X.env.cells.lookup x=some c->∀v,s.heap.IsCell c v->h'.IsCell c v:=λx c e v #[o,ho,hd]=>by
  have Ih:=λz=>(Ez c z).2.2.1 x c e rfl;by_cases hc:c∈X.fs
  ·obtain⟨sl,q⟩:=slot c o (I.cne x c e) hc Ih ho<|I.freeC x c e;exact#[_,q,hd]
  ·exact#[o,keep c o (I.cne x c e) hc Ih ho<|I.freeC x c e,hd]
 refine#[I.ok,I.os,hg,#[λb o e n hb hx=>?_,λb o e n hb hx=>?_,λb o e n hx=>?_,λb o e hx=>?_,λb xs e=>tups b xs<|I.base.tups b xs e,λb o xs e=>frzs b o xs<|I.base.frzs b o xs e,λb ps e=>?_],?_,λx c e=>?_,?_,λx c e=>?_,λp hp=>?_,hok,I.len,I.hn.mono frzs]
 ·exact keep b o (S0 b o e) hb (Lb b o e hx) (I.base.keep b o e n hb hx) (I.base.free b o e n hx)
 ·obtain⟨sl,e1⟩:=I.base.slot b o e n hb hx;obtain⟨Pz,e2⟩:=slot b _ (S0 b o e) hb (Lb b o e hx) e1<|I.base.free b o e n hx;exact#[Pz,e2]
 ·obtain⟨o',e1⟩:=I.base.there b o e hx;exact free b o' (Lb b o e hx) e1 (I.base.free b o e n hx)
 ·obtain⟨o',e1⟩:=I.base.there b o e hx;exact there b o' (Lb b o e hx) e1
 ·obtain⟨m1,e1⟩:=I.base.tbls b ps e;obtain⟨m2,e2⟩:=tbls b _ e1;exact#[_,by rw[e2,Array.append_assoc]]
 ·obtain⟨m,hn,hl⟩:=I.loc;refine#[m,ns m hn,λi x v e1 e2 e3=>?_];obtain⟨u,r,l⟩:=hl i x v e1 e2 e3;refine#[u,r,?_];rcases l with l|⟨k,c,e,z⟩
  ·exact .inl l
  ·exact .inr #[k,c,e,cellK x c e _ z]
 ·obtain⟨v,z⟩:=I.cell x c e;exact#[v,cellK x c e v z]
 ·obtain⟨m,⟨o,_,_,ho,_⟩,_⟩:=I.loc;exact free _ o (λz=>(Ez _ z).2.1 rfl) ho I.free
 ·obtain⟨v,o,ho,hd⟩:=I.cell x c e;exact free c o (λz=>(Ez c z).2.2.1 x c e rfl) ho (I.freeC x c e)
 ·obtain⟨e,n,ne,nf,d⟩:=I.pin p hp;have Ih:=λz=>(Ez _ z).2.2.2 p hp rfl;exact#[keep _ _ ne nf Ih e n,free _ _ Ih e n,ne,nf,d]
theorem jp.un (I:jp X pins σ H s) (u:Un X.fs [] H H' s.heap h') (hok:JU X.prog X.w H' h'):jp X pins σ H' { s with heap:=h',toks:=t' }:=by
 obtain⟨m,⟨o,es,ep,ho,r⟩,_⟩:=id I.loc;obtain⟨sl,hL⟩:=u.any ho I.free on
 exact I.step (ch:=[]) (λ_ z=>nomatch z) (λb o _ hb _ e n=>u.keep b o e n hb on) (λb o _ hb _ e n=>u.slot b o e n hb on) (λb o _ e n=>u.free b o e n on) (λb o _ e=>u.there b o e on) u.tups u.frzs u.tbls (λm' hm=>by
  obtain⟨o',Ee,Et,Es,r'⟩:=hm;rw[ho] at Es;cases Es;exact#[_,Ee,Et,hL,r']) hok I.bare
theorem jp.call (I:jp X pins σ H s) (u:Un (UN X.stack) ch H H' s.heap h') (hok:JU X.prog X.w H' h') (hg:AllBare g')
  (Ez:∀b∈ch,(b∈X.ex\/X.s₀.heap.objs.size<=b)/\b≠X.env.locals/\(∀x c,X.env.cells.lookup x=some c->c≠b)/\∀p∈X.pn++pins,p.1≠b) :
  jp X pins σ H' { s with heap:=h',gens:=g',drawn:=d',toks:=t' }:=by
 obtain⟨m,⟨o,es,ep,ho,r⟩,_⟩:=id I.loc;obtain⟨sl,hL⟩:=u.any ho I.free λz=>(Ez _ z).2.1 rfl;exact I.step Ez (λb o hL hb hc e n=>u.keep b o e n (λz=>(yD.mp<|I.stkSub b z).elim hL hb) hc) (λb o _ _ hc e n=>u.any e n hc) (λb o hc e n=>u.free b o e n hc) (λb o hc e=>u.there b o e hc) u.tups u.frzs u.tbls (λm' hm=>by
  obtain⟨o',Ee,Et,Es,r'⟩:=hm;rw[ho] at Es;cases Es;exact#[_,Ee,Et,hL,r']) hok hg
theorem jp.turned (I:jp X pins σ H s) (k:∀b o,b≠it->s.heap.get? b=some o->h'.get? b=some o) (hn:H it=none) (hL:it≠X.env.locals)
  (h1:it∈X.ex\/X.s₀.heap.objs.size<=it) (h2:∀x c,X.env.cells.lookup x=some c->c≠it) (h3:∀p∈X.pn++pins,p.1≠it):jp X pins σ H { s with heap:=h',toks:=t' }:=by
 have S6:∀b u,H b=some u->b≠it:=λb u e z=>by rw[z,hn] at e;cases e
 refine I.step (ch:=[it]) (λb hb=>?_) (λb o _ _ hc e _=>k b o (λz=>hc (by simp [z])) e) (λb o _ _ hc e _=>#[o.slots,k b o (λz=>hc (by simp [z])) e]) (λ_ _ _ _ n=>n)
  (λb o hc e=>#[o,k b o (λz=>hc (by simp [z])) e]) (λ_ _ e=>e) (λ_ _ _ e=>e) (λb ps e=>#[(Yb []),by rw[e];simp]) (λm hm=>?_) (λb u e=>?_) I.bare
 ·grind
 ·obtain⟨o,es,ep,ho,r⟩:=hm;exact#[o,es,ep,k _ o (yV hL) ho,r]
 ·refine (I.hok b u e).stay (λc v hc q=>k c v ?_ q) (λ_ q=>q) λ_ _ q=>q;rcases hc with z|z
  ·rw[z];exact S6 b u e
  ·exact S6 c _ z
theorem jp.tok (I:jp X pins σ H s) (t:Nat):jp X pins σ H { s with toks:=t }:=I.un Un.refl I.hok
theorem jp.kept (I:jp X pins σ H s) (k:∀b u,s.heap.get? b=some u->h'.get? b=some u):jp X pins σ H { s with heap:=h',toks:=t' }:=I.un (Un.kept k) (I.hok.kept k)
theorem jp.laid {a:Addr} (I:jp X pins σ H s) (k:∀b u,s.heap.get? b=some u->h'.get? b=some u) (hp:s.heap.objs.size<=a) (new:JZ X.prog X.w (upd H a o) h' a o) :
  jp X pins σ (upd H a o) { s with heap:=h',toks:=t' }:=I.un (Un.laid k hp<|I.hok.fresh hp) (I.hok.laid k hp new)
theorem jp.write {x e:Addr} (I:jp X pins σ H s) (mu:ia (H x)) (he:e=x\/H e=some (.own x)) (k:∀b u,b≠e->s.heap.get? b=some u->h'.get? b=some u) (I9:∃u,h'.get? e=some u)
  (new:JZ X.prog X.w (upd H x o) h' x o):jp X pins σ (upd H x o) { s with heap:=h',toks:=t' }:=I.un (Un.write mu he k I9) (I.hok.write mu he k I9 new)
theorem jp.weak {σ':List (Option V)} (I:jp X pins σ H s) (hl:σ'.length=σ.length) (w:∀(i:Nat) v,σ'[i]?=some (some v)->σ[i]?=some (some v)):jp X pins σ' H s :=
 #[I.ok,I.os,I.bare,I.base,let ⟨m,hn,DU⟩:=I.loc;#[m,hn,λi x v e1 e2 e3=>DU i x v e1 (w i v e2) e3],I.cell,I.free,I.freeC,I.pin,I.hok,hl.trans I.len,I.hn]
theorem jp.pins_of {HD:De} (I:jp X pins σ H s) (h:∀p∈HD,s.heap.get? p.1=some p.2/\H p.1=none/\p.1≠X.env.locals/\p.1 ∉ X.fs/\∀v,p.2.data≠.cell v):jp X HD σ H s :=
 #[I.ok,I.os,I.bare,I.base,I.loc,I.cell,I.free,I.freeC,λp hp=>(yB.mp hp).elim (λz=>I.pin p<|y9 _ z)<|h p,I.hok,I.len,I.hn]
theorem N9 {N:Dm} (hN:N.Nodup) {i j:Nat} {x:Str} (a:N[i]?=some x) (b:N[j]?=some x):i=j:=by
 obtain⟨h1,e1⟩:=yc.mp a;obtain⟨h2,e2⟩:=yc.mp b;exact (List.getElem_inj hN).mp (e1.trans e2.symm)
theorem Mi {M:Model}{A:Around}{i:Nat}{x:Str}{v:V}{u:Value}{Q:C6} (I:jp X pins σ H s) (hN:X.N.Nodup) (hi:X.N[i]?=some x) (hx:hV X.env.scope x) (r:jG v u)
  (h:∀s',jp X pins (σ.set i<|some v) H s'->(∃a,Heap.SameBut a s.heap s'.heap/\(a=X.env.locals\/X.env.cells.lookup x=some a))->Q () s') (hf:autoParam (X.fn x=true\/X.env.scope.names.lookup x=some .local) zzi):wpAny M A (storeName X.env x u) Q E s:=by
 obtain⟨m,hn,hl⟩:=id I.loc;have PB:(X.env.scope.kind==.class||(X.env.scope.kind==.module&&X.env.locals != X.env.globals))=false:=by rw[I.ok.kind];rfl
 have S7:i<σ.length:=by rw[I.len];exact (yc.mp hi).1
 have cne:=I.cne;have tracked:∀{a:Addr} {h':Heap},(∃o,s.heap.get? a=some o/\H a=none)->Heap.SameBut a s.heap h'->JU X.prog X.w H h':=λ{a h'} ha hs b ob e=>by
  obtain⟨_,_,ET⟩:=ha;refine (I.hok b ob e).stay (λc w' hc q=>(hs.2 c ?_).trans q) (λ_ q=>q) λ_ _ q=>q;rintro rfl;rcases hc with rfl|hc
  ·rw[ET] at e;cases e
  ·rw[ET] at hc;cases hc
 rcases hx with hk|hk
 ·refine wpAny_storeName_local hk hn (λh' FW hs=>?_) PB;obtain⟨oL,_,_,Xk,_⟩:=id hn;refine h _ #[I.ok,I.os,I.bare,#[λb o e n hb hx=>?_,λb o e n hb hx=>?_,I.base.free,λb o e hx=>?_,I.base.tups,I.base.frzs,I.base.tbls],#[_,FW,λj y v' e1 e2 e3=>?_],λy c e=>?_,I.free,I.freeC,λp hp=>?_,tracked #[oL,Xk,I.free] hs,by simpa using I.len,I.hn] #[_,hs,.inl rfl]
  ·exact (hs.2 b<|yE<|yC (yo e) I.ok.above).trans (I.base.keep b o e n hb hx)
  ·obtain⟨sl,e1⟩:=I.base.slot b o e n hb hx;exact#[sl,(hs.2 b<|yE<|yC (yo e) I.ok.above).trans e1]
  ·obtain⟨o',e1⟩:=I.base.there b o e hx;exact#[o',(hs.2 b<|yE<|yC (yo e) I.ok.above).trans e1]
  ·by_cases hj:j=i
   ·subst hj;rw[hi] at e1;cases e1;rw[QR S7] at e2;cases e2;exact#[u,r,.inl #[hk,by simp]]
   ·rw[Q5<|yV hj] at e2;obtain⟨u',r',q⟩:=hl j y v' e1 e2 e3;refine#[u',r',?_];rcases q with ⟨k,e⟩|⟨k,c,e,z⟩
    ·refine .inl #[k,?_];have:y≠x:=λe=>hj<|N9 hN e1<|e▸hi;simp [this,e]
    ·exact .inr #[k,c,e,z.sameBut hs<|cne y c e]
  ·obtain⟨w',z⟩:=I.cell y c e;exact#[w',z.sameBut hs<|cne y c e]
  ·obtain⟨e,n,ne,nf,d⟩:=I.pin p hp;exact#[(hs.2 _ ne).trans e,n,ne,nf,d]
 ·have PD:X.fn x=true:=by
   grind
  obtain⟨c,hc⟩:=I.ok.has x<|.inl hk;obtain⟨w',z⟩:=I.cell x c hc;refine wpAny_storeName_cell I.ok.kind hk hc z (λh' Hj hs=>?_);obtain⟨oc,FV,PH⟩:=id z;refine h _ #[I.ok,I.os,I.bare,#[λb o e n hb hx=>?_,λb o e n hb hx=>?_,I.base.free,λb o e hx=>?_,I.base.tups,I.base.frzs,I.base.tbls],#[m,hn.sameBut hs<|yV<|cne x c hc,λj y v' e1 e2 e3=>?_],λy c' e=>?_,I.free,I.freeC,λp hp=>?_,tracked #[oc,FV,I.freeC x c hc] hs,by simpa using I.len,I.hn] #[c,hs,.inr hc]
  ·exact (hs.2 b<|yE<|yC (yo e)<|I.ok.cab x c PD hc).trans (I.base.keep b o e n hb hx)
  ·obtain⟨sl,e1⟩:=I.base.slot b o e n hb hx;exact#[sl,(hs.2 b<|yE<|yC (yo e)<|I.ok.cab x c PD hc).trans e1]
  ·obtain⟨o',e1⟩:=I.base.there b o e hx;exact#[o',(hs.2 b<|yE<|yC (yo e)<|I.ok.cab x c PD hc).trans e1]
  ·by_cases hj:j=i
   ·subst hj;rw[hi] at e1;cases e1;rw[QR S7] at e2;cases e2;exact#[u,r,.inr #[.inl hk,c,hc,Hj]]
   ·rw[Q5<|yV hj] at e2;obtain⟨u',r',q⟩:=hl j y v' e1 e2 e3;refine#[u',r',?_];rcases q with q|⟨k,c',e,z'⟩
    ·exact .inl q
    ·refine .inr #[k,c',e,z'.sameBut hs ?_];rintro rfl;exact hj (N9 hN e1<|I.ok.inj _ _ _ e hc▸hi)
  ·by_cases S8:c'=c
   ·subst S8;exact#[_,Hj]
   ·obtain⟨w2,z2⟩:=I.cell y c' e;exact#[w2,z2.sameBut hs S8]
  ·obtain⟨e,n,ne,nf,d⟩:=I.pin p hp;refine#[(hs.2 _ ?_).trans e,n,ne,nf,d];intro q;rw[q,FV] at e;have q':=Yd e;exact d w' (by rw[<-q'];exact PH)
theorem aS {M:Model}{A:Around}{i:Nat}{x:Str}{v:V}{u:Value}{Q:C6} (I:jp X pins σ H s) (hN:X.N.Nodup) (hi:X.N[i]?=some x) (hx:hV X.env.scope x) (r:jG v u)
  (h:∀s',jp X pins (σ.set i<|some v) H s'->Q () s') (hf:autoParam (X.fn x=true\/X.env.scope.names.lookup x=some .local) zzi):wpAny M A (storeName X.env x u) Q E s :=
 Mi I hN hi hx r (λs' I' _=>h s' I') hf
theorem jp.call' {s':Shared} (I:jp X pins σ H s) (ho:s'.os=s.os) (u:Un (UN X.stack) ch H H' s.heap s'.heap) (hok:JU X.prog X.w H' s'.heap) (hg:AllBare s'.gens)
  (Ez:∀b∈ch,(b∈X.ex\/X.s₀.heap.objs.size<=b)/\b≠X.env.locals/\(∀x c,X.env.cells.lookup x=some c->c≠b)/\∀p∈X.pn++pins,p.1≠b):jp X pins σ H' s':=by
 obtain⟨h',g',d',t',o'⟩:=s';have e:=ho;subst e;exact I.call u hok hg Ez
end
abbrev XK:=Value->Option Addr->Hp->Prop
abbrev St:=List (Option V)
abbrev VK:=V->Hp->Prop
abbrev TE:=St->Hp->VK->Prop
abbrev TT:=St->Hp->(Bool->Hp->Prop)->Prop
abbrev TA:=St->Hp->(List V->Hp->Prop)->Prop
structure vS where
 nx:St->Hp->Prop
 rt:VK
 bk:St->Hp->Prop:=λ_ _=>False
 ct:St->Hp->Prop:=λ_ _=>False
abbrev TS:=vS->St->Hp->Prop
inductive BM (X:Cx) (pins:De) (σ:St) (Q:VK) (u:Value) (s':Shared):Prop
 | mk (v:_) (H':_) (h0:jp X pins σ H' s') (h1:jG v u) (h2:Q v H'):BM X pins σ Q u s'
def EP (X:Cx) (pins:De) (σ:St) (Q:VK) (u:Value) (s':Shared):Prop:=BM X pins σ Q u s'
inductive BR (X:Cx) (pins:De) (σ:St) (Q:Bool->Hp->Prop) (b:Bool) (s':Shared):Prop
 | mk (H':_) (h0:jp X pins σ H' s') (h1:Q b H'):BR X pins σ Q b s'
def TP (X:Cx) (pins:De) (σ:St) (Q:Bool->Hp->Prop) (b:Bool) (s':Shared):Prop:=BR X pins σ Q b s'
inductive BK (X:Cx) (pins:De) (σ:St) (Q:List V->Hp->Prop) (us:Dh) (s':Shared):Prop
 | mk (vs:_) (H':_) (h0:jp X pins σ H' s') (h1:jH vs us) (h2:Q vs H'):BK X pins σ Q us s'
def AP (X:Cx) (pins:De) (σ:St) (Q:List V->Hp->Prop) (us:Dh) (s':Shared):Prop:=BK X pins σ Q us s'
def SP (X:Cx) (pins:De) (D:vS) (f:Flow) (s':Shared):Prop :=
 match f with
 | .next=>∃σ' H',jp X pins σ' H' s'/\D.nx σ' H'
 | .brk=>∃σ' H',jp X pins σ' H' s'/\D.bk σ' H'
 | .cont=>∃σ' H',jp X pins σ' H' s'/\D.ct σ' H'
 | .ret u=>∃v σ' H',jp X pins σ' H' s'/\jG v u/\D.rt v H'
def PE (X:Cx) (e:Expr) (t:TE):Prop :=
 ∀(pins:De) (s:Shared) (σ:St) (H:Hp) (Q:VK),jp X pins σ H s->t σ H Q->wpAny '%' X.A (eval e X.env) (EP X pins σ Q) X.xe s
def PT (X:Cx) (e:Expr) (t:TT):Prop :=
 ∀(pins:De) (s:Shared) (σ:St) (H:Hp) (Q:Bool->Hp->Prop),jp X pins σ H s->t σ H Q->wpAny '%' X.A (isTrue e X.env<|eval e X.env) (TP X pins σ Q) X.xe s
def PW (X:Cx) (e:Expr) (t:TT):Prop :=
 ∀(whole:Sem Value) (pins:De) (s:Shared) (σ:St) (H:Hp) (Q:Bool->Hp->Prop),jp X pins σ H s->t σ H Q->wpAny '%' X.A (isTrue e X.env whole) (TP X pins σ Q) X.xe s
theorem PW.pt {t:TT} (h:PW X e t):PT X e t:=h _
def PA (X:Cx) (es:Dp) (t:TA):Prop :=
 ∀(pos:Pos) (pins:De) (s:Shared) (σ:St) (H:Hp) (Q:List V->Hp->Prop),jp X pins σ H s->t σ H Q->wpAny '%' X.A (spliced<|backTo pos<|starEach es X.env) (AP X pins σ Q) X.xe s
def PS (X:Cx) (st:Stmt) (t:TS):Prop :=
 ∀(pins:De) (s:Shared) (σ:St) (H:Hp) (D:vS),jp X pins σ H s->t D σ H->wpAny '%' X.A (exec st X.env) (SP X pins D) X.xe s
def Z0 (X:Cx) (st:List Stmt) (t:TS):Prop :=
 ∀(pins:De) (s:Shared) (σ:St) (H:Hp) (D:vS),jp X pins σ H s->t D σ H->wpAny '%' X.A (execs st X.env) (SP X pins D) X.xe s
theorem jI {α:Type}{t:Sem α}{Q Q':α->Shared->Prop}{M:Model}{A:Around} (h:wpAny M A t Q E s) (hQ:∀a s,Q a s->Q' a s):wpAny M A t Q' E s:=wpAny_mono h hQ λ_ _ x=>x
section
variable {X:Cx}
theorem C0 {a b:Expr}{ta tb:TE} (ha:PE X a ta) (hb:PE X b tb) {pins:De} (I:jp X pins σ H s) (h:ta σ H λx H1=>tb σ H1 λy H2=>R x y H2)
  {α:Type} {Q:α->Shared->Prop} {f:Value->Value->Sem α}
  (hf:∀v u s2 x y H2,jp X pins σ H2 s2->jG x v->jG y u->R x y H2->wpAny '%' X.A (f v u) Q X.xe s2) :
  wpAny '%' X.A (eval a X.env) (λv s₁=>wpAny '%' X.A (eval b X.env) (λu s₂=>wpAny '%' X.A (f v u) Q X.xe s₂) X.xe s₁) X.xe s:=by
 refine jI (ha pins s σ H _ I h) λv s1 #[x,H1,I1,r1,q1]=>?_;refine jI (hb pins s1 σ H1 _ I1 q1) λu s2 #[y,H2,I2,r2,q2]=>?_;exact hf v u s2 x y H2 I2 r1 r2 q2
inductive sL (i:Nat) (σ:St) (H:Hp) (Q:VK):Prop
 | mk (v:_) (h0:σ[i]?=some (some v)) (h1:Q v H):sL i σ H Q
abbrev US (i:Nat):TE:=λσ H Q=>match σ[i]? with|some (some v)=>Q v H|_=>False
theorem US.out {i:Nat} (h:US i σ H Q):sL i σ H Q:=by
 unfold US at h
 split at h
 ·exact#[_,‹_›,h]
 ·cases h
theorem US.mk {i:Nat}{v:V} (e:σ[i]?=some (some v)) (h:Q v H):US i σ H Q:=by
 unfold US;rw[e];exact h
def tC (v:V):TE:=λ_ H Q=>Q v H
theorem xT {i:Nat}{x:Str}{pos:Pos} (hN:X.N[i]?=some x) (hv:wZ X.env.scope x) (hd:autoParam ((x==("__debug__":Str))=false) Ix) (FX:autoParam ((x==("__classdict__":Str))=false) Ix):PE X (.Name x pos) (US i):=by
 intro pins s σ H Q I h;obtain⟨v,e,h⟩:=US.out h;obtain⟨m,hn,hl⟩:=I.loc;obtain⟨u,r,l⟩:=hl i x v hN e hv;have fin:EP X pins σ Q u s:=#[v,H,I,r,h];rcases l with ⟨hk,hm⟩|⟨hk,c,hc,HE⟩
 ·exact wpAny_Name (wpAny_loadName_local I.ok.kind hk hn hm fin) hd
 ·rcases hk with hk|hk
  ·exact wpAny_Name (wpAny_loadName_cell I.ok.kind hk hc HE fin) hd
  ·exact wpAny_Name (wpAny_loadName_free I.ok.kind hk hc HE fin FX) hd
theorem jg {i j pos}:PE X (.Constant (.int i) j pos) (tC<|.int i):=λ_ _ _ H _ I h=>wpAny_Constant_int #[.int i,H,I.tok _,#[_,rfl],h]
theorem vj {b j pos}:PE X (.Constant (.bool b) j pos) (tC<|.bl b):=λ_ _ _ H _ I h=>Constant_bool #[.bl b,H,I,rfl,h]
theorem gG {j pos}:PE X (.Constant .none j pos) (tC .non):=λ_ _ _ H _ I h=>Constant_none #[.non,H,I,rfl,h]
theorem Jt {x j pos}:PE X (.Constant (.str x) j pos) (tC<|.str x):=λ_ _ _ H _ I h=>Calls.Constant_str #[.str x,H,I.tok _,#[_,rfl],h]
def Gl (X:Cx) (x:Str):Prop:=X.env.kindOf x=some .globalImplicit
theorem K5 {pins:De}{x:Str}{u:Value}{pos:Pos}{Q:C3} (I:jp X pins σ H s) (hg:Gl X x) (hm:X.mg x=some u) (h:Q u s)
  (hd:autoParam ((x==("__debug__":Str))=false) Ix):wpAny '%' X.A (eval (.Name x pos) X.env) Q E s :=
 Calls.Name_function_global I.ok.kind hg (Calls.loadGlobal_global (by rw[I.ok.glob];exact I.mod.glob.keeps I.bk) hm h) hd
theorem V5 {pins:De}{x:Str}{u:Value}{pos:Pos}{Q:C3} (I:jp X pins σ H s) (hg:Gl X x) (hm:X.mg x=none) (hv:bootBuiltins x=some u) (h:Q u s)
  (hn:autoParam (x≠"__name__") Ix) (hd:autoParam ((x==("__debug__":Str))=false) Ix):wpAny '%' X.A (eval (.Name x pos) X.env) Q E s:=by
 obtain⟨mb,h1,h2⟩:=I.mod.blt;exact Calls.Name_function_global I.ok.kind hg (Calls.loadGlobal_builtin (by rw[I.ok.glob];exact I.mod.glob.keeps I.bk) hm (by rw[I.ok.blt];exact h1.keeps I.bk) ((h2 x hn).trans hv) h) hd
theorem Uu {x:Str}{v:V}{u:Value}{pos:Pos} (hg:Gl X x) (hm:X.mg x=some u) (r:jG v u) (hd:autoParam ((x==("__debug__":Str))=false) Ix):PE X (.Name x pos) (tC v) :=
 λ_ _ _ H _ I h=>K5 I hg hm #[v,H,I,r,h] hd
theorem uH {x:Str}{v:V}{u:Value}{pos:Pos} (hg:Gl X x) (hm:X.mg x=none) (hv:bootBuiltins x=some u) (r:jG v u) (hn:autoParam (x≠"__name__") Ix) (hd:autoParam ((x==("__debug__":Str))=false) Ix):PE X (.Name x pos) (tC v) :=
 λ_ _ _ H _ I h=>V5 I hg hm hv #[v,H,I,r,h] hn hd
variable {a b:Expr}{ta tb:TE}{pos:Pos}
def PC (X:Cx) (op:CmpOp) (a b:Expr) (t:TE):Prop :=
 ∀(pins:De) (s:Shared) (σ:St) (H:Hp) (Q:VK),jp X pins σ H s->t σ H Q ->
  wpAny '%' X.A (eval a X.env) (λv s₁=>wpAny '%' X.A (eval b X.env) (λu s₂=>wpAny '%' X.A (compareOp op v u) (EP X pins σ Q) X.xe s₂) X.xe s₁) X.xe s
theorem N8 (b:Expr) {op:CmpOp} (h:op≠.In) (h2:op≠.NotIn):behindInMarks op b=false:=by
 have e1:(op==CmpOp.In)=false:=by grind
 have e2:(op==CmpOp.NotIn)=false:=by grind
 cases b<;>simp [behindInMarks,e1,e2]
def KF (ta:TE):TE:=λσ H Q=>ta σ H λx H1=>Q (.bl<|!decide (x=.non)) H1
theorem jG.none_iff {x:V}{v:Value} (r:jG x v):(v==Value.none)=decide (x=.non):=by
 cases x with
 | non=>cases r;rfl
 | bl _=>cases r;rfl
 | int _=>obtain⟨t,rfl⟩:=r;rfl
 | str _=>obtain⟨t,rfl⟩:=r;rfl
 | byt _=>obtain⟨t,rfl⟩:=r;rfl
 | flt _=>obtain⟨t,rfl⟩:=r;rfl
 | ref _=>cases r;rfl
 | ty _=>cases r;rfl
theorem mn {j pos'} (ha:PE X a ta):PC X .IsNot a (.Constant .none j pos') (KF ta):=by
 intro pins s σ H Q I h;refine jI (ha pins s σ H _ I h) λv s1 #[x,H1,I1,r1,q1]=>?_;exact Constant_none (isnot_none_gen #[_,H1,I1,by rw[r1.none_iff];rfl,q1])
inductive B0 (Q:Bool->Hp->Prop) (x:V) (H1:Hp):Prop
 | mk (c:_) (h0:x=.bl c) (h1:Q c H1):B0 Q x H1
abbrev gN (Q:Bool->Hp->Prop) (x:V) (H:Hp):Prop:=match x with|.bl c=>Q c H|_=>False
theorem gN.out {Q:Bool->Hp->Prop}{x:V} (h:gN Q x H):B0 Q x H:=by
 cases x with
 | bl c=>exact#[c,rfl,h]
 | _=>cases h
def tB (t:TE):TT:=λσ H Q=>t σ H λx H1=>gN Q x H1
theorem xR {op:CmpOp}{t:TE} (h:PC X op a b t) (h1:behindInMarks op b=false:=by first|exact N8 _ ac (by decide)|rfl):PE X (.Compare a [op] [b] pos) t:=λpins s σ H Q I hw=>wpAny_Compare1 (h pins s σ H Q I hw) h1
theorem Kx {op:CmpOp}{t:TE} (h:PC X op a b t) (h1:behindInMarks op b=false:=by first|exact N8 _ ac (by decide)|rfl):PT X (.Compare a [op] [b] pos) (tB t):=by
 intro pins s σ H Q I hw;refine wpAny_isTrue_Compare1 (jI (h pins s σ H _ I hw) λv s1 h1=>jI h1 λu s2 h2=>jI h2 λc s3 #[x,H1,I1,r1,q1]=>?_) h1;obtain⟨d,rfl,q⟩:=gN.out q1;cases r1;exact wpAny_truthy_bool #[H1,I1,q]
theorem ux {t:TE} (h:PE X e t) (he:autoParam (∀whole,isTrue e X.env whole=(do let v <-whole;standAt e.pos;holding [v]<|truthy v)) zzg):PT X e (tB t):=by
 intro pins s σ H Q I hw;refine isTrue_plain (jI (h pins s σ H _ I hw) λv s1 #[x,H1,I1,r1,q1]=>?_)<|he _;obtain⟨d,rfl,q⟩:=gN.out q1;cases r1;exact wpAny_truthy_bool #[H1,I1,q]
variable {tA OM:TT}{rest:Dp}
def Ck (t u:TT):TT:=λσ H Q=>t σ H λc H1=>if c=true then u σ H1 Q else Q false H1
def CQ (t u:TT):TT:=λσ H Q=>t σ H λc H1=>if c=true then Q true H1 else u σ H1 Q
def Cq (t:TT):TT:=λσ H Q=>t σ H λc H1=>Q (!c) H1
theorem zZ (ha:PT X a tA):PW X (.BoolOp .And [a] pos) tA:=by
 intro wh pins s σ H Q I h;refine isTrue_and (jI (ha pins s σ H Q I h) λc s1 e=>?_);cases c with
 | true=>exact isTrue_and_nil e
 | false=>exact e
theorem uN (ha:PT X a tA):PW X (.BoolOp .Or [a] pos) tA:=by
 intro wh pins s σ H Q I h;refine isTrue_or (jI (ha pins s σ H Q I h) λc s1 e=>?_);cases c with
 | false=>exact isTrue_or_nil e
 | true=>exact e
theorem zY (ha:PT X a tA) (hb:PW X (.BoolOp .And (b::rest) pos) OM):PW X (.BoolOp .And (a::b::rest) pos) (Ck tA OM):=by
 intro wh pins s σ H Q I h;refine isTrue_and (jI (ha pins s σ H _ I h) λc s1 #[H1,I1,q1]=>?_);cases c with
 | true=>exact hb wh pins s1 σ H1 Q I1 q1
 | false=>exact#[H1,I1,q1]
theorem uI (ha:PT X a tA) (hb:PW X (.BoolOp .Or (b::rest) pos) OM):PW X (.BoolOp .Or (a::b::rest) pos) (CQ tA OM):=by
 intro wh pins s σ H Q I h;refine isTrue_or (jI (ha pins s σ H _ I h) λc s1 #[H1,I1,q1]=>?_);cases c with
 | true=>exact#[H1,I1,q1]
 | false=>exact hb wh pins s1 σ H1 Q I1 q1
theorem uc (ha:PT X a tA):PT X (.UnaryOp .Not a pos) (Cq tA):=by
 intro pins s σ H Q I h;exact isTrue_not (jI (ha pins s σ H _ I h) λc s1 #[H1,I1,q1]=>#[H1,I1,q1])
inductive oP (tb:TE) (σ:St) (Q:VK) (x:V) (H1:Hp):Prop
 | mk (c:_) (h0:x=.bl c) (h1:if c=true then tb σ H1 Q else Q (.bl false) H1):oP tb σ Q x H1
def Bz (ta tb:TE):TE:=λσ H Q=>ta σ H λx H1=>oP tb σ Q x H1
inductive oV (Q:VK) (x:V) (H1:Hp):Prop
 | mk (c:_) (h0:x=.bl c) (h1:Q (.bl<|!c) H1):oV Q x H1
def BE (ta:TE):TE:=λσ H Q=>ta σ H λx H1=>oV Q x H1
theorem gH {op}{t:TE} (h:PE X a t):PE X (.BoolOp op [a] pos) t:=λpins s σ H Q I hw=>BoolOp_one (h pins s σ H Q I hw)
theorem za (ha:PE X a ta) (hb:PE X (.BoolOp .And (b::rest) pos) tb):PE X (.BoolOp .And (a::b::rest) pos) (Bz ta tb):=by
 intro pins s σ H Q I h;refine BoolOp_and (jI (ha pins s σ H _ I h) λv s1 #[x,H1,I1,r1,q1]=>?_);obtain⟨c,rfl,q1⟩:=q1;cases r1;refine wpAny_truthy_bool ?_;cases c with
 | true=>exact hb pins s1 σ H1 Q I1 q1
 | false=>exact#[.bl false,H1,I1,rfl,q1]
theorem xS (ha:PE X a ta):PE X (.UnaryOp .Not a pos) (BE ta):=by
 intro pins s σ H Q I h;refine UnaryOp_ (jI (ha pins s σ H _ I h) λv s1 #[x,H1,I1,r1,q1]=>?_);obtain⟨c,rfl,q1⟩:=q1;cases r1;exact not_of (wpAny_truthy_bool #[.bl _,H1,I1,rfl,q1])
def CN (t:TT) (ta tb:TE):TE:=λσ H Q=>t σ H λc H1=>if c=true then ta σ H1 Q else tb σ H1 Q
theorem qx {c:Expr} (hc:PT X c tA) (ha:PE X a ta) (hb:PE X b tb):PE X (.IfExp c a b pos) (CN tA ta tb):=by
 intro pins s σ H Q I h;refine wpAny_IfExp (jI (hc pins s σ H _ I h) λd s1 #[H1,I1,q1]=>?_);cases d with
 | true=>exact ha pins s1 σ H1 Q I1 q1
 | false=>exact hb pins s1 σ H1 Q I1 q1
end
def jj (K:C9) (H:Hp) (a:Addr) (xs:List V):Prop :=
 Rd H a (.lst xs) \/
  ∃(o:Obj) (Dy:Do) (n:Nat),K.lookup a=some o/\o.cls=.type "list"/\o.dict=none/\o.data=.seq Dy n/\Dy.size<=sizeLine/\jH xs Dy.toList
def ju (K:C9) (H:Hp) (a:Addr) (xs:List V):Prop :=
 Rd H a (.tup xs) \/
  ∃(o:Obj) (Dy:Do) (n:Nat),K.lookup a=some o/\o.cls=.type "tuple"/\o.data=.seq Dy n/\Dy.size<=sizeLine/\jH xs Dy.toList
def B7:Value->Option V
 | .none=>some .non
 | .bool b=>some (.bl b)
 | .int i _=>some (.int i)
 | .str x _=>some (.str x)
 | .bytes b _=>some (.byt b)
 | .float b _=>some (.flt b)
 | .ref a=>some (.ref a)
 | .type n=>some (.ty n)
 | _=>none
theorem jG.abs {x:V}{u:Value} (r:jG x u):B7 u=some x:=by
 cases x with
 | non=>cases r;rfl
 | bl _=>cases r;rfl
 | int _=>obtain⟨t,rfl⟩:=r;rfl
 | str _=>obtain⟨t,rfl⟩:=r;rfl
 | byt _=>obtain⟨t,rfl⟩:=r;rfl
 | flt _=>obtain⟨t,rfl⟩:=r;rfl
 | ref _=>cases r;rfl
 | ty _=>cases r;rfl
theorem jG.inj {x:V}{u:Value} (r:jG x u) (q:jG y u):x=y:=Yd (r.abs.symm.trans q.abs)
theorem jH.inj:∀{xs ys:List V} {us:Dh},jH xs us->jH ys us->xs=ys:=by
 intro xs ys us h g
 induction h generalizing ys with
 | nil=>cases g;rfl
 | cons r t ih =>
  cases g with
  | cons r' t'=>rw[r.inj r',ih t']
section
variable {X:Cx}{pins:De}{σ:St}{H:Hp}{s:Shared}{a:Addr}{xs ys:List V}
theorem jj.of {K:C9} (h:H a=some (.lst xs)):jj K H a xs:=.inl (.inl h)
theorem ju.of {K:C9} (h:H a=some (.tup xs)):ju K H a xs:=.inl (.inl h)
theorem jp.list (I:jp X pins σ H s) (h:jj X.K H a xs):∃Dy:List Value,jH xs Dy/\PlainL s.heap a Dy.toArray/\xs.length<=sizeLine:=by
 rcases h with h|⟨o,Dy,n,hk,hc,hd,hs,hz,r⟩
 ·obtain⟨z,Dy,n,r,e⟩:=h.ok I.hok;exact#[Dy,r,#[_,n,e,rfl,rfl,rfl],z]
 ·refine#[Dy.toList,r,#[o,n,I.kIn a o hk,hc,hd,by simpa using hs],?_];have e:=r.length;simp only[yN] at e
  lia
theorem jp.tuple (I:jp X pins σ H s) (h:ju X.K H a xs):∃Dy:List Value,jH xs Dy/\IsTup s.heap a Dy.toArray/\xs.length<=sizeLine:=by
 rcases h with h|⟨o,Dy,n,hk,hc,hs,hz,r⟩
 ·obtain⟨z,Dy,r,p⟩:=h.ok I.hok;exact#[Dy,r,p,z]
 ·refine#[Dy.toList,r,#[o,I.kIn a o hk,hc,n,by simpa using hs],?_];have e:=r.length;simp only[yN] at e
  lia
theorem jp.list_inj (I:jp X pins σ H s) (h:jj X.K H a xs) (h':jj X.K H a ys):xs=ys:=by
 obtain⟨Dy,r,⟨o,n,e,_,_,d⟩,_⟩:=I.list h;obtain⟨D9,r',⟨o',n',e',_,_,d'⟩,_⟩:=I.list h';rw[e] at e';have:Dy=D9:=by grind
 subst this;exact r.inj r'
theorem jp.tuple_inj (I:jp X pins σ H s) (h:ju X.K H a xs) (h':ju X.K H a ys):xs=ys:=by
 obtain⟨Dy,r,⟨o,e,_,n,d⟩,_⟩:=I.tuple h;obtain⟨D9,r',⟨o',e',_,n',d'⟩,_⟩:=I.tuple h';rw[e] at e';have:Dy=D9:=by grind
 subst this;exact r.inj r'
end
section
variable {X:Cx}{st:Stmt}{rest:List Stmt}{t u:TS}{e:Expr}{te:TE}{pos:Pos}
def BD:TS:=λD σ H=>D.nx σ H
def uV (t u:TS):TS:=λD σ H=>t { D with nx:=u D } σ H
theorem jP:Z0 X [] BD:=λ_ _ σ H _ I h=>wpAny_execs_nil #[σ,H,I,h]
theorem jf (h1:PS X st t) (h2:Z0 X rest u):Z0 X (st::rest) (uV t u):=by
 intro pins s σ H D I h;refine wpAny_execs_cons (jI (h1 pins s σ H _ I h) λf s1 q=>?_);cases f with
 | next =>
  obtain⟨σ',H',I',q⟩:=q;exact h2 pins s1 σ' H' D I' q
 | ret v=>exact q
 | brk=>exact q
 | cont=>exact q
theorem jk (h1:PS X st t):Z0 X [st] t:=by
 intro pins s σ H D I h;refine wpAny_execs_cons (jI (h1 pins s σ H D I h) λf s1 q=>?_);cases f with
 | next=>exact wpAny_execs_nil q
 | ret v=>exact q
 | brk=>exact q
 | cont=>exact q
theorem jp.quiet {pins:De} (I:jp X pins σ H s):interactive X.env=false:=by simp [interactive,I.ok.kind]
def BC (te:TE):TS:=λD σ H=>te σ H λ_ H1=>D.nx σ H1
theorem Jd (he:PE X e te) (hs:autoParam (swapsWith e none pos.line X.env=pure false) Fk):PS X (.Expr e pos) (BC te):=by
 intro pins s σ H D I h;exact wpAny_Expr_any (jI (he pins s σ H _ I h) λv s1 #[x,H1,I1,r1,q1]=>#[σ,H1,I1,q1]) I.quiet hs
def Cr (te:TE):TS:=λD σ H=>te σ H D.rt
theorem jE (he:PE X e te):PS X (.Return (some e) pos) (Cr te):=by
 intro pins s σ H D I h;exact wpAny_Return_some (jI (he pins s σ H _ I h) λv s1 #[x,H1,I1,r1,q1]=>#[x,σ,H1,I1,r1,q1])
def aU (c:TT) (t u:TS):TS:=λD σ H=>c σ H λb H1=>if b=true then t D σ H1 else u D σ H1
theorem j8 {c:Expr}{a b:List Stmt} (hc:PT X c tc) (ha:Z0 X a t) (hb:Z0 X b u):PS X (.If c a b pos) (aU tc t u):=by
 intro pins s σ H D I h;refine wpAny_If (jI (hc pins s σ H _ I h) λd s1 #[H1,I1,q1]=>?_);cases d with
 | true=>exact ha pins s1 σ H1 D I1 q1
 | false=>exact hb pins s1 σ H1 D I1 q1
def AH:TS:=λ_ _ _=>False
theorem uK:PS X st AH:=λ_ _ _ _ _ _ h=>h.elim
end
abbrev TG:=V->St->Hp->(St->Hp->Prop)->Prop
abbrev Z2:=List V->St->Hp->(St->Hp->Prop)->Prop
def PG (X:Cx) (target:Expr) (t:TG):Prop :=
 ∀(pins:De) (s:Shared) (σ:St) (H:Hp) (v:V) (u:Value) (Q:St->Hp->Prop),jp X pins σ H s->jG v u->t v σ H Q ->
  wpAny '%' X.A (assign target X.env u) (λ_ s'=>∃σ' H',jp X pins σ' H' s'/\Q σ' H') X.xe s
def rG (X:Cx) (ts:Dp) (t:Z2):Prop :=
 ∀(pins:De) (s:Shared) (σ:St) (H:Hp) (vs:List V) (us:Dh) (Q:St->Hp->Prop),jp X pins σ H s->jH vs us->t vs σ H Q ->
  wpAny '%' X.A (assignInOrder ((assignEach ts X.env).map (·.2)) us) (λ_ s'=>∃σ' H',jp X pins σ' H' s'/\Q σ' H') X.xe s
abbrev pH:=V->V->V->Hp->(Hp->Prop)->Prop
def wU (X:Cx) (t:pH):Prop :=
 ∀(pins:De) (s:Shared) (σ:St) (H:Hp) (o i v:V) (ov iv u:Value) (Q:Hp->Prop),jp X pins σ H s->jG o ov->jG i iv->jG v u->t o i v H Q ->
  wpAny '%' X.A (setItem ov iv u) (λ_ s'=>∃H',jp X pins σ H' s'/\Q H') X.xe s
section
variable {X:Cx}{pos:Pos}
def UW (i:Nat):TG:=λv σ H Q=>Q (σ.set i<|some v) H
theorem jl (i:Nat) {x:Str} (hN:X.N.Nodup:=by exact fo (by kernel_rfl)) (hi:autoParam (X.N[i]?=some x) Fk) (hx:autoParam (hV X.env.scope x) zzu) (hf:autoParam (X.fn x=true\/X.env.scope.names.lookup x=some .local) zzi):PG X (.Name x pos) (UW i):=by
 intro pins s σ H v u Q I r h;exact wpAny_assign_Name (aS I hN hi hx r (λs' I'=>#[_,H,I',h]) hf)
def KZ:Z2:=λvs σ H Q=>match vs with|[]=>Q σ H|_=>False
theorem KZ.out {Q:St->Hp->Prop} (h:KZ vs σ H Q):vs=[]/\Q σ H:=by
 cases vs with
 | nil=>exact#[rfl,h]
 | cons _ _=>cases h
def Vz (t:TG) (u:Z2):Z2:=λvs σ H Q=>match vs with|v::r=>t v σ H λσ' H'=>u r σ' H' Q|[]=>False
theorem Vz.out {t:TG}{u:Z2}{Q:St->Hp->Prop} (h:Vz t u vs σ H Q):∃v r,vs=v::r/\t v σ H λσ' H'=>u r σ' H' Q:=by
 cases vs with
 | nil=>cases h
 | cons v r=>exact#[v,r,rfl,h]
theorem jV:rG X [] KZ:=by
 intro pins s σ H vs us Q I r h;obtain⟨e,h⟩:=KZ.out h;subst e;exact assignInOrder_nil #[σ,H,I,h]
theorem jr {t:TG}{u:Z2} (h1:PG X e t) (h2:rG X es u)
  (hs:autoParam ((assignEach (e::es) X.env).map (·.2)=assign e X.env::(assignEach es X.env).map (·.2)) Fk):rG X (e::es) (Vz t u):=by
 intro pins s σ H vs us Q I r h;obtain⟨v,vr,e1,h⟩:=Vz.out h;subst e1;cases r with
 | cons r rr =>
  rw[hs];refine assignInOrder_cons (jI (h1 pins s σ H _ _ _ I r h) λ_ s1 #[σ1,H1,I1,q1]=>?_);exact h2 pins s1 σ1 H1 _ _ Q I1 rr q1
inductive rR (K:C9) (n:Nat) (t:Z2) (v:V) (σ:St) (H:Hp) (Q:St->Hp->Prop):Prop
 | mk (a:_) (xs:_) (h0:v=.ref a) (h1:ju K H a xs) (h2:xs.length=n) (h3:t xs σ H Q):rR K n t v σ H Q
inductive rS (K:C9) (n:Nat) (t:Z2) (a:Addr) (σ:St) (H:Hp) (Q:St->Hp->Prop):Prop
 | mk (xs:_) (h1:ju K H a xs) (h2:xs.length=n) (h3:t xs σ H Q):rS K n t a σ H Q
def d9 (K:C9) (n:Nat) (t:Z2):TG:=λv σ H Q=>match v with|.ref a=>rS K n t a σ H Q|_=>False
theorem d9.out {K:C9}{t:Z2}{v:V}{Q:St->Hp->Prop} (h:d9 K n t v σ H Q):rR K n t v σ H Q:=by
 cases v with
 | ref a =>
  obtain⟨xs,h1,h2,h3⟩:=h;exact#[a,xs,rfl,h1,h2,h3]
 | _=>cases h
theorem j5 {K:C9}{k:Nat}{t:Z2} (h:rG X es t) (hc:autoParam (X.calm=true) Fk)
  (hn:autoParam ((assignEach es X.env).length=n) Fk) (DX:autoParam ((assignEach es X.env).findIdx? (·.1)=none) Fk) (hK:autoParam (X.K=K) zze):PG X (.Tuple es k pos) (d9 K n t):=by
 subst hK;intro pins s σ H v u Q I r hw;obtain⟨a,xs,e1,hq,hl,PJ⟩:=d9.out hw;subst e1;cases r;obtain⟨Dy,rv,ht,hz⟩:=I.tuple hq;refine assign_Tuple_tuple (I.ok.hd hc) ht (by simp [hn,<-hl,rv.length]) DX λh' hx=>?_;have I1:=I.kept (t':=s.toks) λb o e=>hx b o (yE<|yo e) e;exact h pins _ σ H xs _ Q I1 (by simpa using rv) PJ
def B9 (to ti:TE) (t:pH):TG:=λv σ H Q=>to σ H λo H1=>ti σ H1 λi H2=>t o i v H2 λH3=>Q σ H3
theorem xU {o i:Expr}{to ti:TE}{t:pH} (ho:PE X o to) (hi:PE X i ti) (hs:wU X t)
  (ha:autoParam (∀v,assign (.Subscript o i pos) X.env v=(do
   let ov <-holding [v] (eval o X.env)
   let iv <-holding [v,ov] (eval i X.env)
   standAt pos
   holding [v,ov,iv] (setItem ov iv v)
   release [v,ov,iv] [])) zzg):PG X (.Subscript o i pos) (B9 to ti t):=by
 intro pins s σ H v u Q I r h;rw[ha];refine Du (wpAny_holding (jI (ho pins s σ H _ I h) λov s1 #[x,H1,I1,r1,q1]=>?_));refine Du (wpAny_holding (jI (hi pins s1 σ H1 _ I1 q1) λiv s2 #[y,H2,I2,r2,q2]=>?_));refine Du (wpAny_standAt (Du (wpAny_holding (jI (hs pins s2 σ H2 x y v ov iv u _ I2 r1 r2 r q2) λ_ s3 #[H3,I3,q3]=>?_))));exact wpAny_release #[σ,H3,I3,q3]
def aT (te:TE) (g:TG):TS:=λD σ H=>te σ H λx H1=>g x σ H1 D.nx
theorem zc (he:PE X e te) (hg:PG X tg g) (hs:autoParam (swapsWithSole [tg] e pos.line X.env=pure false) Fk) (hw:autoParam (swappedStores [tg] e X.env=pure none) Fk)
  (h1:autoParam ((assignEach [tg] X.env).map (·.2)=[assign tg X.env]) Fk):PS X (.Assign [tg] e pos) (aT te g):=by
 intro pins s σ H D I h;refine wpAny_Assign_stores (jI (he pins s σ H _ I h) λv s1 #[x,H1,I1,r1,q1]=>?_) hs hw;rw[h1];exact jI (hg pins s1 σ H1 x v _ I1 r1 q1) λ_ s2 q=>q
theorem jt (i:Nat) {x:Str} {pos':Pos} (he:PE X e te) (hN:X.N.Nodup:=by exact fo (by kernel_rfl)) (hi:autoParam (X.N[i]?=some x) Fk) (hx:autoParam (hV X.env.scope x) zzu) (hs:autoParam (swapsWith e (some<|.Name x pos') pos.line X.env=pure false) Fk) (hf:autoParam (X.fn x=true\/X.env.scope.names.lookup x=some .local) zzi) :
  PS X (.Assign [.Name x pos'] e pos) (aT te<|UW i):=by
 intro pins s σ H D I h;refine wpAny_Assign_Name (jI (he pins s σ H _ I h) λv s1 #[y,H1,I1,r1,q1]=>?_) hs;exact aS I1 hN hi hx r1 (λs2 I2=>#[_,H1,I2,q1]) hf
end
section
variable {X:Cx}{pos:Pos}
def AI (c:TT) (tb:TS):TS:=λD σ H=>∃W:Nat->St->Hp->Prop,(∃m,W m σ H)/\∀m σ H,W m σ H ->
 c σ H λb H1=>if b=true then ∃N:St->Hp->Prop,(∀σ' H',N σ' H'->∃m',m'<m/\W m' σ' H')/\tb { D with nx:=N,ct:=N,bk:=D.nx } σ H1 else D.nx σ H1
theorem qC {c:Expr} (hp:PassesOwn '%' X.A X.env X.xe) (hc:PT X c tc) (hb:Z0 X body tb):PS X (.While c body [] pos) (AI tc tb):=by
 intro pins s σ H D I h;obtain⟨W,⟨m0,w0⟩,turn⟩:=h;refine wpAny_While (codeAny_whileLoop (λn s'=>∃σ' H',jp X pins σ' H' s'/\W n σ' H') ?_ m0 #[σ,H,I,w0]);rintro n s1 ⟨σ1,H1,I1,w1⟩;refine wpAny_passesOwn hp (jI (hc pins s1 σ1 H1 _ I1<|turn n σ1 H1 w1) λb s2 #[H2,I2,q2]=>?_);cases b with
 | true =>
  obtain⟨N,hN,q2⟩:=q2;refine wpAny_passesOwn hp (jI (hb pins s2 σ1 H2 _ I2 q2) λf s3 q3=>?_);cases f with
  | next =>
   obtain⟨σ3,H3,I3,n3⟩:=q3;obtain⟨m',hm,w3⟩:=hN σ3 H3 n3;exact#[m',hm,σ3,H3,I3,w3]
  | cont =>
   obtain⟨σ3,H3,I3,n3⟩:=q3;obtain⟨m',hm,w3⟩:=hN σ3 H3 n3;exact#[m',hm,σ3,H3,I3,w3]
  | brk=>exact q3
  | ret v=>exact q3
 | false =>
  exact wpAny_execs_nil #[σ1,H2,I2,q2]
end
structure It where
 go:Nat->Hp->Prop
 yld:Nat->Hp->V->Hp->Prop
 stop:Nat->Hp->Prop
def VP (X:Cx) (pins:De) (H:Hp) (b:Addr):Prop :=
 H b=none/\b≠X.env.locals/\b ∉ X.fs/\(b∈X.ex\/X.s₀.heap.objs.size<=b)/\(∀x c,X.env.cells.lookup x=some c->c≠b)/\∀p∈X.pn++pins,p.1≠b
theorem jp.fpOk {pins:De}{H':Hp}{b:Addr} (I:jp X pins σ H s) (hb:s.heap.objs.size<=b) (hn:H' b=none):VP X pins H' b:=by
 refine#[hn,Qq<|yC I.lt hb,I.nofs hb,.inr<|yk I.sz hb,λx c e z=>?_,λp hp z=>?_]
 ·obtain⟨v,q⟩:=I.cell x c e;exact absurd (yC q.lt (by rw[z];exact hb)) (QF _)
 ·exact absurd (yC (yo (I.pin p hp).1) (by rw[z];exact hb)) (QF _)
structure VS (P:Dt) (w:World) (K:C9) (tg:Expr) (J:It) (fp:Di) (it:Addr) (tn:Nat->Heap->Prop) (nm:Bool):Prop where
 mem:it∈fp
 obj:∀i h,tn i h->∀b∈fp,∃o,h.get? b=some o/\∀v,o.data≠.cell v
 keep:∀i h h',tn i h->(∀b∈fp,∀o,h.get? b=some o->h'.get? b=some o)->tn i h'
 item:∀(X:Cx),X.prog=P->X.w=w->X.K=K->(nm=true->X.calm=true)->∀(i:Nat) (pins:De) (s:Shared) (σ:St) (H:Hp) (E:C3),jp X pins σ H s->(∀b∈fp,VP X pins H b)->tn i s.heap->J.go i H ->
  wpAny (model P w) X.A (pyNext<|.ref it) (λr s1=>∃u,r=some u /\
   wpAny (model P w) X.A (letOwnedTupleGo tg (.ref it) u) (λ_ s2=>∃x H',jp X pins σ H' s2/\jG x u/\J.yld i H x H'/\tn (i+1) s2.heap/\∀b∈fp,H' b=none) E s1) E s
 done:∀(X:Cx),X.prog=P->X.w=w->X.K=K->(nm=true->X.calm=true)->∀(i:Nat) (pins:De) (s:Shared) (σ:St) (H:Hp) (E:C3),jp X pins σ H s->(∀b∈fp,VP X pins H b)->tn i s.heap->J.stop i H ->
  wpAny (model P w) X.A (pyNext<|.ref it) (λr s1=>r=none/\jp X pins σ H s1) E s
 self:∀(A:Around) (i:Nat) (s:Shared) (Q:C3) (E:C3),tn i s.heap->Q (.ref it) s->wpAny (model P w) A (pyIter<|.ref it) Q E s
def Zk (X:Cx) (tg:Expr) (J:It) (fp:Di) (it:Addr) (tn:Nat->Heap->Prop):Prop:=∃nm,VS X.prog X.w X.K tg J fp it tn nm/\(nm=true->X.calm=true)
theorem Zk.of {J:It}{tn:Nat->Heap->Prop} (T:VS X.prog X.w X.K tg J fp it tn false):Zk X tg J fp it tn:=#[false,T,λz=>by cases z]
abbrev TI:=St->Hp->(It->Hp->Prop)->Prop
def BQ (X:Cx) (pins:De) (σ:St) (tg:Expr) (R:It->Hp->Prop) (PK:Value) (s2:Shared):Prop :=
 ∃(it:Addr) (fp:Di) (tn:Nat->Heap->Prop) (J:It) (H':Hp),PK=.ref it/\jp X pins σ H' s2/\Zk X tg J fp it tn/\tn 0 s2.heap/\(∀b∈fp,VP X pins H' b)/\R J H'
def PI (X:Cx) (tg iter:Expr) (wi:TI):Prop :=
 ∀(pins:De) (s:Shared) (σ:St) (H:Hp) (R:It->Hp->Prop),jp X pins σ H s->wi σ H R ->
  wpAny '%' X.A (eval iter X.env) (λv s1=>wpAny '%' X.A (pyIter v) (BQ X pins σ tg R) X.xe s1) X.xe s
theorem gZ {M:Model}{A:Around}{u:Value}{o:Obj}{n:String}{vs:Do}{Q:C6} (ho:s.heap.get? it=some o) (hc:o.cls=.type n) (hd:o.data=.fields vs)
  (hn:["enumerate","zip","dict_itemiterator","dict_reverseitemiterator","odict_iterator","itertools.zip_longest","itertools.pairwise"].contains n=false) (hQ:Q () s):wpAny M A (letOwnedTupleGo tg (.ref it) u) Q E s:=by
 cases tg<;>first
  | exact Dv hQ
  | (cases u<;>first
    | exact Dv hQ
    | (refine Du (wpAny_load ho ?_)
       rw[hc,hd];show wpAny M A (if (["enumerate","zip","dict_itemiterator","dict_reverseitemiterator","odict_iterator","itertools.zip_longest","itertools.pairwise"].contains n&&vs[0]?==some _)=true then _ else _) Q E s;rw[if_neg (by grind)];exact Dv hQ))
def kA (K:C9) (a:Addr):It :=
 #[λi H=>∃xs x,jj K H a xs/\xs[i]?=some x,λi H x H'=>H'=H/\∀xs,jj K H a xs->xs[i]?=some x,λi H=>∃xs,jj K H a xs/\xs.length<=i]
def bZ (K:C9) (a:Addr):It :=
 #[λi H=>∃xs x,ju K H a xs/\xs[i]?=some x,λi H x H'=>H'=H/\∀xs,ju K H a xs->xs[i]?=some x,λi H=>∃xs,ju K H a xs/\xs.length<=i]
def my (lo:Int) (n:Nat):It:=#[λi _=>i<n,λi H x H'=>H'=H/\x=.int (lo+i),λi _=>n<=i]
theorem o9 {w:World}{K:C9} (a it:Addr):VS P w K tg (kA K a) [it] it (λi h=>h.IsListIter it a i) false where
 mem:=by simp
 obj:=λi h st b hb=>by
  have e:=by simpa using hb
  subst e;obtain⟨o,e,c,d⟩:=st;exact#[o,e,λv z=>by rw[d] at z;cases z]
 keep:=λi h h' st k=>st.at λo e=>k it on o e
 item:=by
  intro X hP hw hK hc i pins s σ H E I hf st hg;subst hP hw hK;obtain⟨xs,x,hq,hx⟩:=hg;obtain⟨Dy,rv,p,hz⟩:=I.list hq;obtain⟨u,hu,ru⟩:=rv.get hx;obtain⟨f0,f1,f2,f3,f4,f5⟩:=hf it on;refine wpAny_pyNext_list_item st p.isList (by simpa using hu) λh' D7 sb=>?_;have I1:=I.turned (t':=s.toks) (λb o hb e=>(sb.2 b hb).trans e) f0 f1 f3 f4 f5;obtain⟨o,e,c,d⟩:=id D7;exact#[u,rfl,gZ e c d ac #[x,H,I1,ru,#[rfl,λys hy=>by rw[I.list_inj hy hq];exact hx],D7,λb hb=>(hf b hb).1]]
 done:=by
  intro X hP hw hK hc i pins s σ H E I hf st hg;subst hP hw hK;obtain⟨xs,hq,hx⟩:=hg;obtain⟨Dy,rv,p,hz⟩:=I.list hq;obtain⟨f0,f1,f2,f3,f4,f5⟩:=hf it on;have hl:=rv.length;exact cJ (I.hn.now I.hok) st p.isList (by simp;lia) λh' eb=>#[rfl,I.turned (λb o hb e=>eb b o hb e) f0 f1 f3 f4 f5]
 self:=λ_ _ _ _ _ st h=>wpAny_pyIter_listiter st h
theorem fW {w:World}{K:C9} (a it:Addr):VS P w K tg (bZ K a) [it] it (λi h=>h.IsTupleIter it a i) false where
 mem:=by simp
 obj:=λi h st b hb=>by
  have e:=by simpa using hb
  subst e;obtain⟨o,e,c,d⟩:=st;exact#[o,e,λv z=>by rw[d] at z;cases z]
 keep:=λi h h' st k=>st.at λo e=>k it on o e
 item:=by
  intro X hP hw hK hc i pins s σ H E I hf st hg;subst hP hw hK;obtain⟨xs,x,hq,hx⟩:=hg;obtain⟨Dy,rv,p,hz⟩:=I.tuple hq;obtain⟨u,hu,ru⟩:=rv.get hx;obtain⟨f0,f1,f2,f3,f4,f5⟩:=hf it on;refine wpAny_pyNext_tuple_item st (p) (by simpa using hu) λh' D7 sb=>?_;have I1:=I.turned (t':=s.toks) (λb o hb e=>(sb.2 b hb).trans e) f0 f1 f3 f4 f5;obtain⟨o,e,c,d⟩:=id D7;exact#[u,rfl,gZ e c d ac #[x,H,I1,ru,#[rfl,λys hy=>by rw[I.tuple_inj hy hq];exact hx],D7,λb hb=>(hf b hb).1]]
 done:=by
  intro X hP hw hK hc i pins s σ H E I hf st hg;subst hP hw hK;obtain⟨xs,hq,hx⟩:=hg;obtain⟨Dy,rv,p,hz⟩:=I.tuple hq;obtain⟨f0,f1,f2,f3,f4,f5⟩:=hf it on;have hl:=rv.length;exact rg (I.hn.now I.hok) st (p) (by simp;lia) λh' eb=>#[rfl,I.turned (λb o hb e=>eb b o hb e) f0 f1 f3 f4 f5]
 self:=λ_ _ _ _ _ st h=>wpAny_pyIter_tupleiter st h
theorem fV {w:World}{K:C9} (it:Addr) (lo:Int) (n:Nat):VS P w K tg (my lo n) [it] it (λi h=>IsRangeIter h it (lo+(i:Nat)*1) ((n:Int) - (i:Nat)) 1) false where
 mem:=by simp
 obj:=λi h st b hb=>by
  grind
 keep:=λi h h' st k=>k it on _ st
 item:=by
  intro X hP hw hK hc i pins s σ H E I hf st hg;obtain⟨f0,f1,f2,f3,f4,f5⟩:=hf it on;refine wpAny_pyNext_range_item st (by have:i<n:=hg;lia) λh' D7 sb=>?_;obtain⟨tk,ON⟩:∃tk,tk=s.toks+1:=#[_,rfl];rw[<-ON];have I1:jp X pins σ H { s with heap:=h',toks:=tk }:=I.turned (λb o hb e=>(sb.2 b hb).trans e) f0 f1 f3 f4 f5;have Ft:IsRangeIter h' it (lo+((i+1))*1) ((n) - ((i+1))) 1:=by
   grind
  refine#[_,rfl,gZ D7 rfl rfl ac #[.int _,H,I1,#[s.toks,?_],#[rfl,rfl],Ft,λb hb=>(hf b hb).1]];rw[Int.mul_one]
 done:=by
  intro X hP hw hK hc i pins s σ H E I hf st hg;obtain⟨f0,f1,f2,f3,f4,f5⟩:=hf it on;exact qI (I.hn.now I.hok) st (by have:n<=i:=hg;lia) λh' eb=>#[rfl,I.turned (λb o hb e=>eb b o hb e) f0 f1 f3 f4 f5]
 self:=λ_ _ _ _ _ st h=>wpAny_pyIter_rangeiter st h
section
variable {X:Cx}{tg:Expr}
inductive iO (K:C9) (R:It->Hp->Prop) (x:V) (H1:Hp):Prop
 | mk (a:_) (h0:x=.ref a) (h1:(∃xs,jj K H1 a xs)) (h2:R (kA K a) H1):iO K R x H1
def AZ (K:C9) (tl:TE):TI:=λσ H R=>tl σ H λx H1=>iO K R x H1
inductive rV (K:C9) (R:It->Hp->Prop) (x:V) (H1:Hp):Prop
 | mk (a:_) (h0:x=.ref a) (h1:(∃xs,ju K H1 a xs)) (h2:R (bZ K a) H1):rV K R x H1
def Cb (K:C9) (tl:TE):TI:=λσ H R=>tl σ H λx H1=>rV K R x H1
theorem jN {K:C9} (hl:PE X l tl) (hK:autoParam (X.K=K) zze):PI X tg l (AZ K tl):=by
 subst hK;intro pins s σ H R I h;refine jI (hl pins s σ H _ I h) λv s1 #[x,H1,I1,r1,q1]=>?_;obtain⟨a,e,⟨xs,hq⟩,q⟩:=q1;subst e;cases r1;obtain⟨Dy,rv,p,hz⟩:=I1.list hq;refine wpAny_pyIter_list p.isList ?_;refine#[s1.heap.objs.size,_,_,_,H1,rfl,I1.kept λb o e=>yf _ e,Zk.of<|o9 a _,#[_,yt _ rfl,rfl,rfl],λb hb=>?_,q];have e:=by simpa using hb
 subst e;exact I1.fpOk (yj _) (I1.hok.fresh<|yj _)
theorem og {K:C9} (hl:PE X l tl) (hK:autoParam (X.K=K) zze):PI X tg l (Cb K tl):=by
 subst hK;intro pins s σ H R I h;refine jI (hl pins s σ H _ I h) λv s1 #[x,H1,I1,r1,q1]=>?_;obtain⟨a,e,⟨xs,hq⟩,q⟩:=q1;subst e;cases r1;obtain⟨Dy,rv,p,hz⟩:=I1.tuple hq;refine wpAny_pyIter_tuple (p) ?_;refine#[s1.heap.objs.size,_,_,_,H1,rfl,I1.kept λb o e=>yf _ e,Zk.of<|fW a _,#[_,yt _ rfl,rfl,rfl],λb hb=>?_,q];have e:=by simpa using hb
 subst e;exact I1.fpOk (yj _) (I1.hok.fresh<|yj _)
theorem qH {pins:De}{R:It->Hp->Prop}{hi:Int}{t u v:Tok}{tk:Nat} (I:jp X pins σ H s) (h1:-(2^62)<=lo) (h2:lo<2^62) (h3:-(2^62)<=hi) (h4:hi<2^62)
  (q:R (my lo (hi - lo).toNat) H):wpAny '%' X.A (pyIter<|.ref s.heap.objs.size) (BQ X pins σ tg R) E { s with heap:=s.heap.push { cls:=.type "range",data:=.fields (Yb [.int lo t,.int hi u,.int 1 v]) },toks:=tk }:=by
 refine wpAny_pyIter_range (IsRange.new ..) (small_one h1 h2 h3 h4) ?_;have I1:jp X pins σ H { s with heap:=s.heap.push { cls:=.type "range",data:=.fields (Yb [.int lo t,.int hi u,.int 1 v]) },toks:=tk }:=I.kept λb o e=>yf _ e;refine#[_,_,_,_,H,rfl,
  I1.kept λb o e=>yf _ e,Zk.of<|fV _ lo _,?_,λb hb=>?_,q]
 ·have e1:lo+((0:Nat))*1=lo:=by simp
  have e2:(((hi - lo).toNat)) - ((0:Nat))=Builtin.Range.rangeSize lo hi 1:=by rw[rangeSize_one];split<;>lia
  rw[e1,e2];exact yt _ rfl
 ·have e:b=(s.heap.push { cls:=.type "range",data:=.fields (Yb [.int lo t,.int hi u,.int 1 v]) }).objs.size:=by simpa using hb
  subst e;exact I1.fpOk (yj _) (I1.hok.fresh<|yj _)
inductive iP (R:It->Hp->Prop) (vs:List V) (H1:Hp):Prop
 | mk (j:Int) (h0:vs=[.int j]) (h1:-(2^62)<=j) (h2:j<2^62) (h3:R (my 0 j.toNat) H1):iP R vs H1
def A0 (ta:TA):TI:=λσ H R=>ta σ H λvs H1=>iP R vs H1
theorem ub {a:Expr}{ta:TA}{p pos:Pos} (hg:Gl X "range") (hm:X.mg "range"=none) (ha:PA X [a] ta) (hs:autoParam (starEach [a] X.env=[(false,eval a X.env)]) Fk):PI X tg (.Call (.Name "range" p) [a] [] pos) (A0 ta):=by
 intro pins s σ H R I h;refine Call_ (V5 I hg hm boot_range (Yu (jI (ha pos pins s σ H _ I h) λus s1 #[vs,H1,I1,r1,q1]=>?_) hs rfl));obtain⟨j,e,q1,q2,q⟩:=q1;subst e;cases r1 with
 | cons r rr =>
  cases rr;obtain⟨t,rfl⟩:=r;exact call_range_1 (qH I1 gt gt q1 q2 (by simpa using q))
def Cp (wi:TI) (g:TG) (tb:TS):TS:=λD σ H=>wi σ H λJ H1=>∃W:Nat->Nat->St->Hp->Prop,(∃m,W 0 m σ H1)/\∀i m σ H,W i m σ H ->
 (J.stop i H/\D.nx σ H)\/(J.go i H/\∃N:St->Hp->Prop,(∀σ' H',N σ' H'->∃m',m'<m/\W (i+1) m' σ' H')/\∀x H',J.yld i H x H'->g x σ H' λσ2 H2=>tb { D with nx:=N,ct:=N,bk:=D.nx } σ2 H2)
def Kv (fp:Di) (h:Heap):List (Addr×Obj):=fp.filterMap λb=>(h.get? b).map λo=>(b,o)
theorem VB {b:Addr}{o:Obj} (hb:b∈fp) (e:h.get? b=some o):(b,o)∈Kv fp h:=List.mem_filterMap.mpr #[b,hb,by rw[e];rfl]
theorem lO {p:Addr×Obj} (hp:p∈Kv fp h):p.1∈fp/\h.get? p.1=some p.2:=by
 obtain⟨b,hb,e⟩:=List.mem_filterMap.mp hp;cases q:h.get? b with
 | none=>rw[q] at e;cases e
 | some o =>
  rw[q] at e;have e':=Yd e;subst e';exact#[hb,q]
theorem jp.pinned {pins:De} (I:jp X pins σ H s) (hf:∀b∈fp,VP X pins H b) (ho:∀b∈fp,∃o,s.heap.get? b=some o/\∀v,o.data≠.cell v):jp X (pins++Kv fp s.heap) σ H s :=
 I.pins_of λp hp=>(yB.mp hp).elim (λz=>I.pin p<|yA _ z) λz=>by
  obtain⟨hb,e⟩:=lO z;obtain⟨f0,f1,f2,_⟩:=hf _ hb;obtain⟨o,e',d⟩:=ho _ hb;rw[e] at e';cases e';exact#[e,f0,f1,f2,d]
theorem jp.unpinned {pins pl:De} (I:jp X (pins++pl) σ H s):jp X pins σ H s:=I.pins_of λp hp=>I.pin p (yA _<|y9 _ hp)
theorem j0 {iter:Expr}{wi:TI}{pos:Pos} (hp:PassesOwn '%' X.A X.env X.xe) (hi:PI X tg iter wi) (hg:PG X tg g) (hb:Z0 X body tb)
  (hs:autoParam (∀x,foldedSetIterable iter X.env x=pure x) zzg):PS X (.For tg iter body [] pos) (Cp wi g tb):=by
 intro pins s σ H D I h;refine wpAny_For (jI (hi pins s σ H _ I h) λv s1 h1=>jI h1 λPK s2 h2=>?_) hs;obtain⟨it,fp,tn,J,H2,e,I2,T,Ft,f2,W,⟨m0,w0⟩,turn⟩:=h2;subst e;obtain⟨nm,T,hc⟩:=T;have EK:∀{H':Hp},(∀b∈fp,H' b=none)->∀b∈fp,VP X pins H' b:=λhn b hb=>#[hn b hb,(f2 b hb).2];refine codeAny_forLoop_any (λn s'=>∃i σ' H',jp X pins σ' H' s'/\tn i s'.heap/\(∀b∈fp,H' b=none)/\W i n σ' H') ?_ m0 #[0,σ,H2,I2,Ft,λb hb=>(f2 b hb).1,w0];rintro n s3 ⟨i,σ3,H3,I3,LC,LD,w3⟩;rcases turn i n σ3 H3 w3 with ⟨stop,qn⟩|⟨go,N,hN,step⟩
 ·refine wpAny_passesOwn hp (jI (T.done X rfl rfl rfl hc i pins s3 σ3 H3 X.xe I3 (EK LD) LC stop) λr s4 #[hr,I4]=>?_);subst hr;exact wpAny_execs_nil #[σ3,H3,I4,qn]
 ·refine wpAny_passesOwn hp (jI (T.item X rfl rfl rfl hc i pins s3 σ3 H3 X.xe I3 (EK LD) LC go) λr s4 #[u,hr,h4]=>?_);subst hr;refine wpAny_passesOwn hp (jI h4 λ_ s5 hh=>?_);obtain⟨x,H5,I5,r5,y5,Ii,PL⟩:=hh;have Xl:=I5.pinned (EK PL)<|T.obj _ _ Ii;refine wpAny_passesOwn hp (jI (hg _ s5 σ3 H5 x u _ Xl r5<|step x H5 y5) λ_ s6 #[σ6,H6,I6,q6]=>?_);refine wpAny_passesOwn hp (jI (hb _ s6 σ6 H6 _ I6 q6) λf s7 q7=>?_);have again:∀{σ7:St} {H7:Hp},jp X _ σ7 H7 s7->N σ7 H7->∃m,m<n/\∃i σ' H',jp X pins σ' H' s7/\tn i s7.heap/\(∀b∈fp,H' b=none)/\W i m σ' H':=λ{σ7 H7} I7 n7=>by
   obtain⟨m',hm,w7⟩:=hN σ7 H7 n7;refine#[m',hm,_,σ7,H7,I7.unpinned,T.keep _ _ _ Ii λb hb o e=>(I7.pin _<|yA _<|yA _<|VB hb e).1,λb hb=>?_,w7];obtain⟨o,e,d⟩:=T.obj _ _ Ii b hb;exact (I7.pin _<|yA _<|yA _<|VB hb e).2.1
  cases f with
  | next=>obtain⟨σ7,H7,I7,n7⟩:=q7;exact again I7 n7
  | cont=>obtain⟨σ7,H7,I7,n7⟩:=q7;exact again I7 n7
  | brk=>obtain⟨σ7,H7,I7,q7⟩:=q7;exact#[σ7,H7,I7.unpinned,q7]
  | ret v=>obtain⟨x7,σ7,H7,I7,r7,q7⟩:=q7;exact#[x7,σ7,H7,I7.unpinned,r7,q7]
end
theorem uJ {K:C9}{a:Addr} (Pv:Nat->St->Hp->Prop) (h0:Pv 0 σ H) (hl:∀i σ H,i<=xs.length->Pv i σ H->jj K H a xs)
  (hs:∀i x σ H,xs[i]?=some x->Pv i σ H->g x σ H λσ2 H2=>tb { D with nx:=Pv<|i+1,ct:=Pv<|i+1,bk:=D.nx } σ2 H2) (hd:∀σ H,Pv xs.length σ H->D.nx σ H) :
  ∃W:Nat->Nat->St->Hp->Prop,(∃m,W 0 m σ H)/\∀i m σ H,W i m σ H ->
   ((kA K a).stop i H/\D.nx σ H)\/((kA K a).go i H/\∃N:St->Hp->Prop,(∀σ' H',N σ' H'->∃m',m'<m/\W (i+1) m' σ' H')/\∀x H',(kA K a).yld i H x H'->g x σ H' λσ2 H2=>tb { D with nx:=N,ct:=N,bk:=D.nx } σ2 H2):=by
 refine#[λi m σ H=>m=xs.length - i/\i<=xs.length/\Pv i σ H,#[xs.length,by simp,yP _,h0],?_];rintro i m σ H ⟨rfl,hi,p⟩;have q:=hl i σ H hi p;by_cases DA:i<xs.length
 ·refine .inr #[#[xs,xs[i],q,by simp [DA]],_,λσ' H' p'=>#[_,by omega,rfl,DA,p'],λx H' y=>?_];obtain⟨e,y⟩:=y;subst e;exact hs i x σ _ (y xs q) p
 ·have e:i=xs.length:=by lia
  subst e;exact .inl #[#[xs,q,yj _],hd σ H p]
theorem tj {K:C9}{a:Addr} (Pv:Nat->St->Hp->Prop) (h0:Pv 0 σ H) (hl:∀i σ H,i<=xs.length->Pv i σ H->ju K H a xs)
  (hs:∀i x σ H,xs[i]?=some x->Pv i σ H->g x σ H λσ2 H2=>tb { D with nx:=Pv<|i+1,ct:=Pv<|i+1,bk:=D.nx } σ2 H2) (hd:∀σ H,Pv xs.length σ H->D.nx σ H) :
  ∃W:Nat->Nat->St->Hp->Prop,(∃m,W 0 m σ H)/\∀i m σ H,W i m σ H ->
   ((bZ K a).stop i H/\D.nx σ H)\/((bZ K a).go i H/\∃N:St->Hp->Prop,(∀σ' H',N σ' H'->∃m',m'<m/\W (i+1) m' σ' H')/\∀x H',(bZ K a).yld i H x H'->g x σ H' λσ2 H2=>tb { D with nx:=N,ct:=N,bk:=D.nx } σ2 H2):=by
 refine#[λi m σ H=>m=xs.length - i/\i<=xs.length/\Pv i σ H,#[xs.length,by simp,yP _,h0],?_];rintro i m σ H ⟨rfl,hi,p⟩;have q:=hl i σ H hi p;by_cases DA:i<xs.length
 ·refine .inr #[#[xs,xs[i],q,by simp [DA]],_,λσ' H' p'=>#[_,by omega,rfl,DA,p'],λx H' y=>?_];obtain⟨e,y⟩:=y;subst e;exact hs i x σ _ (y xs q) p
 ·have e:i=xs.length:=by lia
  subst e;exact .inl #[#[xs,q,yj _],hd σ H p]
theorem UM (Pv:Nat->St->Hp->Prop) (h0:Pv 0 σ H)
  (hs:∀i σ H,i<n->Pv i σ H->g (.int<|lo+i) σ H λσ2 H2=>tb { D with nx:=Pv<|i+1,ct:=Pv<|i+1,bk:=D.nx } σ2 H2) (hd:∀σ H,Pv n σ H->D.nx σ H) :
  ∃W:Nat->Nat->St->Hp->Prop,(∃m,W 0 m σ H)/\∀i m σ H,W i m σ H ->
   ((my lo n).stop i H/\D.nx σ H)\/((my lo n).go i H/\∃N:St->Hp->Prop,(∀σ' H',N σ' H'->∃m',m'<m/\W (i+1) m' σ' H')/\∀x H',(my lo n).yld i H x H'->g x σ H' λσ2 H2=>tb { D with nx:=N,ct:=N,bk:=D.nx } σ2 H2):=by
 refine#[λi m σ H=>m=n - i/\i<=n/\Pv i σ H,#[n,by simp,yP _,h0],?_];rintro i m σ H ⟨rfl,hi,p⟩;by_cases DA:i<n
 ·refine .inr #[DA,_,λσ' H' p'=>#[_,by omega,rfl,DA,p'],λx H' y=>?_];obtain⟨e,y⟩:=y;subst e y;exact hs i σ _ DA p
 ·have e:i=n:=by lia
  subst e;exact .inl #[yj _,hd σ H p]
abbrev R2:=V->V->Hp->VK->Prop
def uk (X:Cx) (f:Value->Value->Sem Value) (r:R2):Prop :=
 ∀(pins:De) (s:Shared) (σ:St) (H:Hp) (x y:V) (v u:Value) (Q:VK),jp X pins σ H s->jG x v->jG y u->r x y H Q ->
  wpAny '%' X.A (f v u) (EP X pins σ Q) X.xe s
def wY (X:Cx) (f:Value->Sem Value) (r:V->Hp->VK->Prop):Prop :=
 ∀(pins:De) (s:Shared) (σ:St) (H:Hp) (x:V) (v:Value) (Q:VK),jp X pins σ H s->jG x v->r x H Q ->
  wpAny '%' X.A (f v) (EP X pins σ Q) X.xe s
def Jr (X:Cx) (f:Value) (r:List V->Hp->VK->Prop):Prop :=
 ∀(pins:De) (s:Shared) (σ:St) (H:Hp) (xs:List V) (us:Dh) (Q:VK),jp X pins σ H s->jH xs us->r xs H Q ->
  wpAny '%' X.A (call f us) (EP X pins σ Q) X.xe s
def B6 (X:Cx) (r:V->Hp->(Bool->Hp->Prop)->Prop):Prop :=
 ∀(pins:De) (s:Shared) (σ:St) (H:Hp) (x:V) (v:Value) (Q:Bool->Hp->Prop),jp X pins σ H s->jG x v->r x H Q ->
  wpAny '%' X.A (truthy v) (TP X pins σ Q) X.xe s
def ZU (r:R2) (ta tb:TE):TE:=λσ H Q=>ta σ H λx H1=>tb σ H1 λy H2=>r x y H2 Q
def CT (r:V->Hp->VK->Prop) (ta:TE):TE:=λσ H Q=>ta σ H λx H1=>r x H1 Q
inductive BX (C:Int->Int->Prop) (g:Int->Int->V) (x:V) (y:V) (H:Hp) (Q:VK):Prop
 | mk (i:_) (j:_) (h0:x=.int i) (h1:y=.int j) (h2:C i j) (h3:Q (g i j) H):BX C g x y H Q
structure CH (C Q:Prop):Prop where
 h2:C
 h3:Q
def rI (C:Int->Int->Prop) (g:Int->Int->V):R2:=λx y H Q=>match x,y with|.int i,.int j=>CH (C i j) (Q (g i j) H)|_,_=>False
theorem rI.out {C:Int->Int->Prop}{g:Int->Int->V}{x:V} (h:rI C g x y H Q):BX C g x y H Q:=by
 unfold rI at h
 split at h
 ·exact#[_,_,rfl,rfl,h.1,h.2]
 ·cases h
inductive Ab (g:Int->Int->V) (x:V) (y:V) (H:Hp) (Q:VK):Prop
 | mk (i:_) (j:_) (h0:x=.int i) (h1:y=.int j) (h2:Q (g i j) H):Ab g x y H Q
def ZS (g:Int->Int->V):R2:=λx y H Q=>match x,y with|.int i,.int j=>Q (g i j) H|_,_=>False
theorem ZS.out {g:Int->Int->V}{x:V} (h:ZS g x y H Q):Ab g x y H Q:=by
 unfold ZS at h
 split at h
 ·exact#[_,_,rfl,rfl,h]
 ·cases h
inductive BY (g:Int->V) (x:V) (H:Hp) (Q:VK):Prop
 | mk (i:_) (h0:x=.int i) (h1:Q (g i) H):BY g x H Q
def rU (g:Int->V):V->Hp->VK->Prop:=λx H Q=>BY g x H Q
section
variable {X:Cx}{a b c:Expr}{ta tb tc:TE}{pos:Pos}
theorem pL (ha:PE X a ta) (hb:PE X b tb) {pins:De} (I:jp X pins σ H s)
  (h:ta σ H λx H1=>tb σ H1 λy H2=>R x y H2) {Q:C3} {f:Value->Value->Sem Value}
  (hf:∀v u s2 x y H2,jp X pins σ H2 s2->jG x v->jG y u->R x y H2->wpAny '%' X.A (f v u) Q X.xe s2) :
  wpAny '%' X.A (eval a X.env) (λv s₁=>wpAny '%' X.A (eval b X.env) (λu s₂=>wpAny '%' X.A (f v u) Q X.xe s₂) X.xe s₁) X.xe s:=by
 refine jI (ha pins s σ H _ I h) λv s1 #[x,H1,I1,r1,q1]=>?_;refine jI (hb pins s1 σ H1 _ I1 q1) λu s2 #[y,H2,I2,r2,q2]=>?_;exact hf v u s2 x y H2 I2 r1 r2 q2
theorem jB {op:Operator} (ho:uk X (binaryOp op) r) (ha:PE X a ta) (hb:PE X b tb):PE X (.BinOp a op b pos) (ZU r ta tb):=by
 intro pins s σ H Q I h;exact wpAny_BinOp (pL ha hb I h λv u s2 x y H2 I2 rx ry q=>ho pins s2 σ H2 x y v u Q I2 rx ry q)
theorem Kt {op:UnaryOp}{r:V->Hp->VK->Prop} (ho:wY X (unaryOp op) r) (ha:PE X a ta):PE X (.UnaryOp op a pos) (CT r ta):=by
 intro pins s σ H Q I h;exact UnaryOp_ (jI (ha pins s σ H _ I h) λv s1 #[x,H1,I1,r1,q1]=>ho pins s1 σ H1 x v Q I1 r1 q1)
theorem xN {C:Int->Int->Prop}{g:Int->Int->Int}
  (rule:∀(i j:Int) (t u:Tok) (s:Shared) (Q:C3) (E:C3),C i j->Q (.int (g i j) s.toks) { s with toks:=s.toks+1 }->wpAny '%' X.A (f (.int i t)<|.int j u) Q E s) :
  uk X f (rI C λi j=>.int<|g i j):=by
 intro pins s σ H x y v u Q I rx ry h;obtain⟨i,j,rfl,rfl,hc,q⟩:=rI.out h;obtain⟨t,rfl⟩:=rx;obtain⟨t',rfl⟩:=ry;exact rule i j t t' s _ _ hc #[.int _,H,I.tok _,#[_,rfl],q]
theorem xO {g:Int->Int->Int}
  (rule:∀(i j:Int) (t u:Tok) (s:Shared) (Q:C3) (E:C3),Q (.int (g i j) s.toks) { s with toks:=s.toks+1 }->wpAny '%' X.A (f (.int i t)<|.int j u) Q E s) :
  uk X f (ZS λi j=>.int<|g i j):=by
 intro pins s σ H x y v u Q I rx ry h;obtain⟨i,j,rfl,rfl,q⟩:=ZS.out h;obtain⟨t,rfl⟩:=rx;obtain⟨t',rfl⟩:=ry;exact rule i j t t' s _ _ #[.int _,H,I.tok _,#[_,rfl],q]
theorem qv {g:Int->Int->Bool}
  (rule:∀(i j:Int) (t u:Tok) (s:Shared) (Q:C3) (E:C3),Q (.bool<|g i j) s->wpAny '%' X.A (f (.int i t)<|.int j u) Q E s) :
  uk X f (ZS λi j=>.bl<|g i j):=by
 intro pins s σ H x y v u Q I rx ry h;obtain⟨i,j,rfl,rfl,q⟩:=ZS.out h;obtain⟨t,rfl⟩:=rx;obtain⟨t',rfl⟩:=ry;exact rule i j t t' s _ _ #[.bl _,H,I,rfl,q]
def B1 (i j:Int):Prop:=0<j/\j<1073741824
def pA (i j:Int):Prop:=(-(2^64)<i/\i<2^64)\/(-(2^64)<j/\j<2^64)
theorem pA.ok {i j:Int} (h:pA i j):IntMulOk i j:=by
 rcases h with ⟨h1,h2⟩|⟨h1,h2⟩
 ·exact .of_left (intBits_le_64 h1 h2)
 ·exact .of_right (intBits_le_64 h1 h2)
theorem uF:uk X (binaryOp .Add) (ZS λi j=>.int<|i+j):=xO λ_ _ _ _ _ _ _ q=>add_int q
theorem lW:uk X (binaryOp .Sub) (ZS λi j=>.int<|i - j):=xO λ_ _ _ _ _ _ _ q=>sub_int q
theorem V8:uk X (binaryOp .Mult) (rI pA λi j=>.int<|i*j):=xN λ_ _ _ _ _ _ _ hc q=>mul_int q hc.ok
theorem Vc:uk X (binaryOp .FloorDiv) (rI B1 λi j=>.int<|i / j):=xN λi j _ _ _ _ _ hc q=>by
 have h1:=hc.1;have h2:=hc.2;exact floordiv_int gt (by grind) (.inl (PyProof.noPylong_small (by omega)))
theorem Jy:uk X (binaryOp .Mod) (rI (λ_ j=>0<j) λi j=>.int<|i % j):=xN λi j _ _ _ _ _ hc q=>by
 exact mod_int' gt (by grind)
theorem CV {f:Value->Sem Value}{g:Int->Int}
  (rule:∀(i:Int) (t:Tok) (s:Shared) (Q:C3) (E:C3),Q (.int (g i) s.toks) { s with toks:=s.toks+1 }->wpAny '%' X.A (f<|.int i t) Q E s) :
  wY X f (rU λi=>.int<|g i):=by
 intro pins s σ H x v Q I rx h;obtain⟨i,rfl,q⟩:=h;obtain⟨t,rfl⟩:=rx;exact rule i t s _ _ #[.int _,H,I.tok _,#[_,rfl],q]
theorem gP:wY X (unaryOp .USub) (rU λi=>.int<|-i):=CV λ_ _ _ _ _ q=>neg_int q
end
def Ai:V->V->Bool
 | .non,.non=>true|.non,.int _=>true|.int _,.non=>true|.non,.bl _=>true|.bl _,.non=>true|.non,.str _=>true|.str _,.non=>true
 | .int _,.int _=>true|.bl _,.bl _=>true|.str _,.str _=>true|.byt _,.byt _=>true
 | .int _,.str _=>true|.str _,.int _=>true|.bl _,.str _=>true|.str _,.bl _=>true
 | _,_=>false
inductive Aa (x:V) (y:V) (H:Hp) (Q:VK):Prop
 | mk  (h0:Ai x y=true) (h1:Q (.bl<|decide (x=y)) H):Aa x y H Q
def CG:R2:=λx y H Q=>Aa x y H Q
inductive Ae (x:V) (y:V) (H:Hp) (Q:VK):Prop
 | mk  (h0:Ai x y=true) (h1:Q (.bl<|!decide (x=y)) H):Ae x y H Q
def CJ:R2:=λx y H Q=>Ae x y H Q
theorem cg {i j:Int}:decide (V.int i=V.int j)=(i==j):=by
 rw[Qr];simp
theorem ik {i j:Bool}:decide (V.bl i=V.bl j)=(i==j):=by
 rw[Qr];simp
theorem ci {i j:Str}:decide (V.str i=V.str j)=(i==j):=by
 rw[Qr];simp
theorem cf {i j:Array UInt8}:decide (V.byt i=V.byt j)=(i.toList==j.toList):=by
 rw[Qr];cases i;cases j;simp
section
variable {X:Cx}{a b c:Expr}{ta tb tc:TE}{pos:Pos}
theorem Je {pins:De}{k k':Bool} (I:jp X pins σ H s) (q:Q (.bl k) H) (e:k=k'):EP X pins σ Q (.bool k') s:=by
 subst e;exact#[.bl k,H,I,rfl,q]
theorem uZ:uk X (compareOp .Eq) CG:=by
 intro pins s σ H x y v u Q I rx ry h;obtain⟨hs,q⟩:=h;cases x with
 | non =>
  cases rx;cases y with
  | non=>cases ry;exact PySem.EqNone.eq_none_none (Je I q on)
  | bl j=>cases ry;exact PySem.EqNone.eq_none_bool (Je I q on)
  | int j=>obtain⟨t',rfl⟩:=ry;exact PySem.EqNone.eq_none_int (Je I q on)
  | str j=>obtain⟨t',rfl⟩:=ry;exact PySem.EqNone.eq_none_str (Je I q on)
  | _=>exact absurd (hs) yJ
 | bl i =>
  cases rx;cases y with
  | non=>cases ry;exact PySem.EqNone.eq_bool_none (Je I q on)
  | bl j=>cases ry;exact eq_bool (Je I q ik)
  | str j=>obtain⟨t',rfl⟩:=ry;exact PySem.EqMixed.eq_bool_str (Je I q on)
  | _=>exact absurd (hs) yJ
 | int i =>
  obtain⟨t,rfl⟩:=rx;cases y with
  | non=>cases ry;exact PySem.EqNone.eq_int_none (Je I q on)
  | int j=>obtain⟨t',rfl⟩:=ry;exact eq_int (Je I q cg)
  | str j=>obtain⟨t',rfl⟩:=ry;exact PySem.EqMixed.eq_int_str (Je I q on)
  | _=>exact absurd (hs) yJ
 | str i =>
  obtain⟨t,rfl⟩:=rx;cases y with
  | non=>cases ry;exact PySem.EqNone.eq_str_none (Je I q on)
  | bl j=>cases ry;exact PySem.EqMixed.eq_str_bool (Je I q on)
  | int j=>obtain⟨t',rfl⟩:=ry;exact PySem.EqMixed.eq_str_int (Je I q on)
  | str j=>obtain⟨t',rfl⟩:=ry;exact eq_str (Je I q ci)
  | _=>exact absurd (hs) yJ
 | byt i =>
  obtain⟨t,rfl⟩:=rx;cases y with
  | byt j=>obtain⟨t',rfl⟩:=ry;exact PySem.W.eq_bytes (Je I q cf)
  | _=>exact absurd (hs) yJ
 | _=>cases y<;>exact absurd (hs) yJ
theorem vh:uk X (compareOp .NotEq) CJ:=by
 intro pins s σ H x y v u Q I rx ry h;obtain⟨hs,q⟩:=h;cases x with
 | non =>
  cases rx;cases y with
  | non=>cases ry;exact PySem.EqNone.ne_none_none (Je I q on)
  | bl j=>cases ry;exact PySem.EqNone.ne_none_bool (Je I q on)
  | int j=>obtain⟨t',rfl⟩:=ry;exact PySem.EqNone.ne_none_int (Je I q on)
  | str j=>obtain⟨t',rfl⟩:=ry;exact PySem.EqNone.ne_none_str (Je I q on)
  | _=>exact absurd (hs) yJ
 | bl i =>
  cases rx;cases y with
  | non=>cases ry;exact PySem.EqNone.ne_bool_none (Je I q on)
  | bl j=>cases ry;exact ne_bool (Je I q<|congrArg not ik)
  | str j=>obtain⟨t',rfl⟩:=ry;exact PySem.EqMixed.ne_bool_str (Je I q on)
  | _=>exact absurd (hs) yJ
 | int i =>
  obtain⟨t,rfl⟩:=rx;cases y with
  | non=>cases ry;exact PySem.EqNone.ne_int_none (Je I q on)
  | int j=>obtain⟨t',rfl⟩:=ry;exact ne_int (Je I q<|congrArg not cg)
  | str j=>obtain⟨t',rfl⟩:=ry;exact PySem.EqMixed.ne_int_str (Je I q on)
  | _=>exact absurd (hs) yJ
 | str i =>
  obtain⟨t,rfl⟩:=rx;cases y with
  | non=>cases ry;exact PySem.EqNone.ne_str_none (Je I q on)
  | bl j=>cases ry;exact PySem.EqMixed.ne_str_bool (Je I q on)
  | int j=>obtain⟨t',rfl⟩:=ry;exact PySem.EqMixed.ne_str_int (Je I q on)
  | str j=>obtain⟨t',rfl⟩:=ry;exact ne_str (Je I q<|congrArg not ci)
  | _=>exact absurd (hs) yJ
 | byt i =>
  obtain⟨t,rfl⟩:=rx;cases y with
  | byt j=>obtain⟨t',rfl⟩:=ry;exact PySem.W.ne_bytes (Je I q<|congrArg not cf)
  | _=>exact absurd (hs) yJ
 | _=>cases y<;>exact absurd (hs) yJ
theorem Be:uk X (compareOp .Lt) (ZS λi j=>.bl<|decide (i<j)):=qv λ_ _ _ _ _ _ _ q=>lt_int q
theorem M4:uk X (compareOp .LtE) (ZS λi j=>.bl<|decide (i<=j)):=qv λ_ _ _ _ _ _ _ q=>le_int q
theorem Ge:uk X (compareOp .Gt) (ZS λi j=>.bl<|decide (j<i)):=qv λ_ _ _ _ _ _ _ q=>gt_int q
theorem Mf:uk X (compareOp .In) (λx y H Q=>E2 λi j=>A3 (x=.str i) (y=.str j)<|Q (.bl<|!(Builtin.Str.occurrences j i 0 j.length 1).isEmpty) H):=by
 intro pins s σ H x y v u Q I rx ry h;obtain⟨i,j,rfl,rfl,q⟩:=h;obtain⟨t,rfl⟩:=rx;obtain⟨t',rfl⟩:=ry;exact in_str (Je I q rfl)
theorem lK (b:Expr) {op:CmpOp} (h:autoParam (op≠.In) Ix) (h2:autoParam (op≠.NotIn) Ix):behindInMarks op b=false:=by
 have e1:(op==CmpOp.In)=false:=by grind
 have e2:(op==CmpOp.NotIn)=false:=by grind
 cases b<;>simp [behindInMarks,e1,e2]
theorem vD {op:CmpOp} (ho:uk X (compareOp op) r) (ha:PE X a ta) (hb:PE X b tb) (hm:behindInMarks op b=false:=by first|exact lK _|with_unfolding_all rfl):PE X (.Compare a [op] [b] pos) (ZU r ta tb):=by
 intro pins s σ H Q I h;exact wpAny_Compare1 (pL ha hb I h λv u s2 x y H2 I2 rx ry q=>ho pins s2 σ H2 x y v u Q I2 rx ry q) hm
def fK (t:TE):TT:=λσ H Q=>t σ H λx H'=>gN Q x H'
theorem jF {op:CmpOp} (ho:uk X (compareOp op) r) (ha:PE X a ta) (hb:PE X b tb) (hm:behindInMarks op b=false:=by first|exact lK _|with_unfolding_all rfl):PT X (.Compare a [op] [b] pos) (fK<|ZU r ta tb):=by
 intro pins s σ H Q I h;refine wpAny_isTrue_Compare1 (jI (ha pins s σ H _ I h) λv s1 #[x,H1,I1,r1,q1]=>jI (hb pins s1 σ H1 _ I1 q1) λu s2 #[y,H2,I2,r2,q2] =>
  jI (ho pins s2 σ H2 x y v u _ I2 r1 r2 q2) λc s3 #[z,H3,I3,r3,qq]=>?_) hm
 obtain⟨k,e,q3⟩:=gN.out qq;subst e;cases r3;exact wpAny_truthy_bool #[H3,I3,q3]
inductive c6 (r':R2) (tc:TE) (σ:St) (Q:VK) (y:V) (z:V) (H3:Hp):Prop
 | mk (k:_) (h0:z=.bl k) (h1:(if k=true then tc σ H3 λw' H4=>r' y w' H4 Q else Q (.bl false) H3)):c6 r' tc σ Q y z H3
def AD (r r':R2) (ta tb tc:TE):TE:=λσ H Q=>ta σ H λx H1=>tb σ H1 λy H2=>r x y H2 λz H3=>c6 r' tc σ Q y z H3
theorem aC {op PM:CmpOp}{r':R2} (ho:uk X (compareOp op) r) (Es:uk X (compareOp PM) r') (ha:PE X a ta) (hb:PE X b tb) (hc:PE X c tc)
  (hm:lastMarks [op,PM] [b,c]=false:=by with_unfolding_all rfl):PT X (.Compare a [op,PM] [b,c] pos) (fK<|AD r r' ta tb tc):=by
 intro pins s σ H Q I h;refine isTrue_chain (jI (ha pins s σ H _ I h) λv s1 #[x,H1,I1,r1,q1]=>test_link (jI (hb pins s1 σ H1 _ I1 q1) λu s2 #[y,H2,I2,r2,q2] =>
  jI (ho pins s2 σ H2 x y v u _ I2 r1 r2 q2) λd s3 #[z,H3,I3,r3,k,e,q3]=>?_)) hm
 subst e;cases r3;refine wpAny_truthy_bool ?_;cases k with
 | false =>
  exact ite_ff #[H3,I3,q3]
 | true =>
  refine ite_tt (test_last (jI (hc pins s3 σ H3 _ I3 q3) λw' s4 #[z',H4,I4,r4,q4]=>jI (Es pins s4 σ H4 y z' u w' _ I4 r2 r4 q4) λd' s5 #[z2,H5,I5,r5,qq]=>?_));obtain⟨k2,e2,q5⟩:=gN.out qq;subst e2;cases r5;exact wpAny_truthy_bool #[H5,I5,q5]
def wX (K:C9) (x:V) (H:Hp) (k:Bool):Prop :=
 match x with
 | .non=>k=false
 | .bl b=>k=b
 | .int i=>k=(i != 0)
 | .str y=>y.length<=sizeLine/\k=((y.length:Int) != 0)
 | .byt y=>y.size<=sizeLine/\k=((y.size:Int) != 0)
 | .ref p=>(∃xs,jj K H p xs/\k=!xs.isEmpty)\/(∃xs,ju K H p xs/\k=!xs.isEmpty)\/∃Dx,H p=some (.dK Dx)/\k=!Dx.isEmpty
 | _=>False
theorem eF {κ:Type}{Dx:List (κ×V)}{vs:List (κ×Value)} (r:KV Dx vs):(!vs.isEmpty)=!Dx.isEmpty:=by
 cases r<;>rfl
theorem k0 {Dy:Dh} (r:jH xs Dy):(!Dy.toArray.isEmpty)=!xs.isEmpty:=by
 cases r<;>simp
theorem zW:(sizeLine:Nat)<2^63:=by decide
theorem AJ:B6 X (λx H Q=>∃k,wX X.K x H k/\Q k H):=by
 intro pins s σ H x v Q I rx h;obtain⟨k,e,q⟩:=h;have hs:=sizeLine_eq;cases x with
 | non =>
  cases rx;have e':=e;subst e';exact truthy_none #[H,I,q]
 | bl b =>
  cases rx;have e':=e;subst e';exact wpAny_truthy_bool #[H,I,q]
 | int i =>
  obtain⟨t,rfl⟩:=rx;have e':=e;subst e';exact PySem.P.truthy_int #[H,I,q]
 | str y =>
  obtain⟨t,rfl⟩:=rx;obtain⟨hy,e'⟩:y.length<=sizeLine/\k=((y.length:Int) != 0):=e;subst e';exact PySem.P.truthy_str gt #[H,I.tok _,q]
 | byt y =>
  obtain⟨t,rfl⟩:=rx;obtain⟨hy,e'⟩:y.size<=sizeLine/\k=((y.size:Int) != 0):=e;subst e';exact PySem.W.truthy_bytes gt #[H,I.tok _,q]
 | ref p =>
  cases rx;have e':=e;rcases e' with ⟨xs,hx,e'⟩|⟨xs,hx,e'⟩|⟨Dx,hx,e'⟩
  ·subst e';obtain⟨Dy,r,pl,hz⟩:=I.list hx;have hlen:=r.length;exact wpAny_truthy_list pl.isList (by grind) #[H,I.tok _,by rw[k0 r];exact q]
  ·subst e';obtain⟨Dy,r,pl,hz⟩:=I.tuple hx;have hlen:=r.length;exact truthy_tuple pl (by grind) #[H,I.tok _,by rw[k0 r];exact q]
  ·subst e';obtain⟨hz,hS,vs,r,m⟩:Dx.length<=sizeLine/\(p==sysModules)=false/\∃vs,KV Dx vs/\s.heap.DictOf _ p vs:=I.hok p _ hx;have hlen:=Paired.length r;exact wpAny_truthy_dict hS m gt #[H,I.tok _,by rw[eF r];exact q]
 | _=>exact (e).elim
theorem aD (ha:PE X a ta) (he:∀whole,isTrue a X.env whole=(do let v <-whole;standAt a.pos;holding [v]<|truthy v)) :
  PT X a (λσ H Q=>ta σ H λx H'=>∃k,wX X.K x H' k/\Q k H'):=by
 intro pins s σ H Q I h;exact isTrue_plain (jI (ha pins s σ H _ I h) λv s1 #[x,H1,I1,r1,q1]=>AJ pins s1 σ H1 x v Q I1 r1 q1) (he _)
theorem vQ:uk X (binaryOp .Add) (λx y H Q=>E2 λi j=>A4 (x=.str i) (y=.str j) (i.length+j.length<=sizeLine)<|Q (.str<|i++j) H):=by
 intro pins s σ H x y v u Q I rx ry h;obtain⟨i,j,rfl,rfl,hz,q⟩:=h;obtain⟨t,rfl⟩:=rx;obtain⟨t',rfl⟩:=ry;exact add_str (λt' tk=>#[.str _,H,I.tok _,#[_,rfl],q]) hz
theorem uj {x:V} (r:jH [x] us):∃u,us=[u]/\jG x u:=by
 cases r with
 | cons r1 r2=>cases r2;exact#[_,rfl,r1]
theorem sN {x:V} (r:jH [x,y] us):∃u w',us=[u,w']/\jG x u/\jG y w':=by
 cases r with
 | cons r1 r2 =>
  cases r2 with
  | cons r3 r4=>cases r4;exact#[_,_,rfl,r1,r3]
theorem mG:Jr X (.type "int") (λxs H Q=>(∃i,xs=[.int i]/\Q (.int i) H)\/∃k,xs=[.bl k]/\Q (.int (if k then 1 else 0)) H):=by
 intro pins s σ H xs us Q I r h;rcases h with ⟨i,rfl,q⟩|⟨k,rfl,q⟩
 ·obtain⟨u,rfl,t,rfl⟩:=uj r;exact call_int_int #[.int i,H,I,#[_,rfl],q]
 ·obtain⟨u,rfl,r1⟩:=uj r;cases r1;exact call_int_bool #[.int _,H,I.tok _,#[_,rfl],q]
theorem VU:Jr X (.type "str") (λxs H Q=>∃i,A3 (xs=[.int i]) (i.natAbs.log2<1920)<|Q (.str<|toString i) H):=by
 intro pins s σ H xs us Q I r h;obtain⟨i,rfl,hz,q⟩:=h;obtain⟨u,rfl,t,rfl⟩:=uj r;exact PySem.P.str_of_int hz #[.str _,H,I.tok _,#[_,rfl],q]
end
structure GL (h:Heap) (x dx C:Addr) (mA:Dd):Prop where
 obj:h.get? x=some (instObj C dx)
 ns:h.Ns1 dx mA
 ne:dx≠x
theorem i7 (n:h.Ns1 dx mA):∃od,h.get? dx=some od/\∀name,lookIn name od=some (mA name):=by
 obtain⟨o,es,ep,ho,hd,hk,_,hm⟩:=n;refine#[o,ho,λname=>?_];have e:=hm name;unfold nsFind findBy at e;rw[<-Array.find?_toList] at e;unfold lookIn;rw[hd];dsimp only;split
 ·grind
 ·rename_i q;rw[q] at e;have a:es.toList.any (·.refKey)=false:=by
   rw[List.any_eq_false];intro y hy;obtain⟨z,t,PQ⟩:=hk y<|Array.mem_toList_iff.mp hy;simp [DictEntry.refKey,PQ]
  have a':¬es.toList.any (·.refKey)=true:=by grind
  rw[if_neg a'];exact congrArg some e
theorem GL.look {x:Addr} (I:GL h x dx C mA):∃od,InstAt h x (instObj C dx) C (some od)/\∀name,lookIn name od=some (mA name) :=
 let ⟨od,ho,hl⟩:=i7 I.ns
 #[od,#[I.obj,rfl,rfl,ho],hl]
section
variable {prog:Dt}{w:World}{A:Around}{E:C3}{s:Shared}{K:C9}{x dx C f:Addr}{mA:Dd}{name:Str}{v:Value}
theorem tz {expr:Bool}{Q:C3} (X:K.In s.heap) (I:GL s.heap x dx C mA) (hg:plainGet K C name=true) (hh:hasDictIn K C=true)
  (ha:findIn K (.ref C) name=some none) (hv:mA name=some v) (Xm:handedIn v=true) (h:Q v { s with toks:=s.toks+1 }) :
  wpAny '$' A (getAttr (.ref x) name expr) Q E s:=by
 obtain⟨od,J,hl⟩:=I.look;exact PySem.W.get_value X J (plainGet_of hg).1 (PySem.W.findObj_own hh ha rfl (by rw[hl,hv])) Xm h
theorem qd {Q:Value×List Value->Shared->Prop} (X:K.In s.heap) (I:GL s.heap x dx C mA) (hg:plainGet K C name=true)
  (hf:findIn K (.ref C) name=some (some<|.ref f)) (ht:isFn K (.ref f)=true) (hv:mA name=none) (h:Q (.ref f,[.ref x]) s) :
  wpAny '$' A (getMethod (.ref x) name pl) Q E s:=by
 obtain⟨od,J,hl⟩:=I.look;exact PySem.W.method_fn X J (plainGet_of hg).1 (plainGet_of hg).2 hf (beq_iff_eq.mp ht) (by show (lookIn name od).map _=some false;rw[hl,hv];rfl) h
theorem wq {ns:Dm}{Q:C6} (X:K.In s.heap) (I:GL s.heap x dx C mA)
  (hs:findIn K (.ref C) "__setattr__"=some (some<|.builtin "object.__setattr__")) (hp:plainOver K C=true) (ht:takerIn K C name=some none) (hh:hasDictIn K C=true)
  (hw:aa0 mA ns) (hsz:ns.length<=sizeLine)
  (h:∀h',GL h' x dx C (λy=>if y=name then some v else mA y)->Heap.SameBut dx s.heap h'->Q () { s with heap:=h',toks:=s.toks+2 }) :
  wpAny '$' A (setAttr (.ref x) name v) Q E s:=by
 obtain⟨od,J,hl⟩:=I.look;refine PySem.W.set_plain X J hs (PySem.W.osa_open X J hp ht λb=>?_);obtain⟨cd,hc,Hi⟩:=PySem.W.any_some hh;have hx:=I.obj;refine Du<|Dv<|Du<|Du<|wpAny_loadPart hx<|Du<|Looks.here (PySem.W.looks_clsIn X hc) ?_;rw[Hi];refine Dv<|Du<|Dv<|Du ?_;refine wpAny_nsSet1 I.ns λh' Lc HF=>?_;obtain⟨oD,esD,epD,Xn,Xo,Xp⟩:=Lc.count<|PySem.Within.cons name v hw;refine Du (wpAny_lookBehind Xn (by rw[Xo];exact pastItsLine_dict (yk Xp (by rw[Qe];lia))) ?_);exact Dv (h _ #[(HF.2 _<|yV I.ne).trans I.obj,Lc,I.ne] HF)
theorem qm {R:Result->Shared->Prop}{vs:Dh} (X:K.In s.heap) (hm:makesIn K C=true)
  (hi:findIn K (.ref C) "__init__"=some (some<|.ref f)) (hf:typeIn K (.ref f)=some (.type "function"))
  (h:codeAny '$' (A.under<|.builtin "type.__call__" #[.ref C::vs,kw]) (.call (.ref f) #[.ref (s.heap.objs.size+1)::vs,kw]) (PySem.W.InitBack (s.heap.objs.size+1) R)
   { s with heap:=(s.heap.push emptyDict).push (instObj C s.heap.objs.size) }) :
  codeAny '$' A (.call (.ref C) #[vs,kw]) R s:=by
 exact PySem.W.make_core (PySem.W.makes_of X hm) (PySem.W.looks_findIn X hi) (λself=>PySem.W.bind_fn X self hf) (.inl rfl) h
end
def Jz (f:Str) (v:V):List (Str×V)->List (Str×V)
 | []=>[(f,v)]
 | (g,x)::r=>if g=f then (g,v)::r else (g,x)::Jz f v r
theorem Gv (f g:Str) (v:V):∀fs:List (Str×V),(Jz f v fs).lookup g=if g=f then some v else fs.lookup g
 | []=>by
  show List.lookup g [(f,v)]=_;by_cases h:g=f
  ·simp_all
  ·grind
 | (k,x)::r=>by
  have ih:=Gv f g v r;rw[show Jz f v _=(if k=f then (k,v)::r else (k,x)::Jz f v r) from rfl];by_cases hk:k=f
  ·grind
  ·grind
theorem gl (f:Str) (v:V):∀fs:List (Str×V),f∈(Jz f v fs).map (·.1)/\∀g,g∈fs.map (·.1)->g∈(Jz f v fs).map (·.1)
 | []=>#[by simp [Jz],λg h=>by simp at h]
 | (k,x)::r=>by
  obtain⟨i1,i2⟩:=gl f v r;rw[show Jz f v _=(if k=f then (k,v)::r else (k,x)::Jz f v r) from rfl];by_cases hk:k=f
  ·grind
  ·refine#[?_,λg h=>?_]
   ·grind
   ·grind
theorem Gu (f:Str) (v:V):∀fs:List (Str×V),(Jz f v fs).length<=fs.length+1
 | []=>by simp [Jz]
 | (k,x)::r=>by
  have ih:=Gu f v r;rw[show Jz f v _=(if k=f then (k,v)::r else (k,x)::Jz f v r) from rfl];by_cases hk:k=f
  ·simp_all
  ·grind
theorem U3.some_of {v:V}{o:Option Value} (r:U3 (some v) o):∃u,o=some u/\jG v u:=by
 cases o with
 | none=>exact (r).elim
 | some u=>exact#[u,rfl,r]
theorem U3.none_of {o:Option Value} (r:U3 none o):o=none:=by
 cases o with
 | none=>rfl
 | some u=>exact (r).elim
theorem iK {v:V}{u:Value} (r:jG v u):handedIn u=true:=by
 cases v with
 | non=>cases (r);rfl
 | bl b=>cases (r);rfl
 | int i=>obtain⟨t,e⟩:=(r);cases e;rfl
 | str x=>obtain⟨t,e⟩:=(r);cases e;rfl
 | byt b=>obtain⟨t,e⟩:=(r);cases e;rfl
 | flt b=>obtain⟨t,e⟩:=(r);cases e;rfl
 | ref a=>cases (r);rfl
 | ty n=>cases (r);rfl
section
variable {P:Dt}{w:World}{H H':Hp}{h h':Heap}{a C dx:Addr}{fs Xj:List (Str×V)}
theorem Ga (hok:JU P w H h) (e:H a=some (.ins C dx fs)):∃mA,GL h a dx C mA/\(∀f,U3 (fs.lookup f)<|mA f)/\aa0 mA (fs.map (·.1))/\fs.length<=1000/\H dx=some (.own a):=by
 obtain⟨d,z,ne,ob,mA,n,r,q⟩:=(hok a _ e);exact#[mA,#[ob,n,ne],r,q,z,d]
end
structure zg (K:C9) (C:Addr):Prop where
 pg:plainGet K C Str.empty=true
 hd:hasDictIn K C=true
 po:plainOver K C=true
 sa:findIn K (.ref C) "__setattr__"=some (some<|.builtin "object.__setattr__")
theorem zg.get {K:C9} (c:zg K C) (f:Str):plainGet K C f=true:=c.pg
def Uf (K:C9) (C:Addr) (f:Str):Prop:=findIn K (.ref C) f=some none
theorem Uf.taker {K:C9}{f:Str} (n:Uf K C f):takerIn K C f=some none:=by
 unfold takerIn;rw[n]
 rfl
structure nJ (K:C9) (C:Addr) (m:Str) (f:Addr):Prop where
 at_:findIn K (.ref C) m=some (some<|.ref f)
 fn:isFn K (.ref f)=true
 kp:keepIn K (.ref f)=true
section
variable {X:Cx}{pins:De}{σ:St}{H:Hp}{s:Shared}{a C dx:Addr}{fs:List (Str×V)}{f:Str}{v:V}{A:Around}{E:C3}
theorem ef {b:Bool}{Q:C3} (I:jp X pins σ H s) (e:H a=some (.ins C dx fs)) (c:zg X.K C) (n:Uf X.K C f) (l:fs.lookup f=some v)
  (h:∀u s',jp X pins σ H s'->jG v u->Q u s'):wpAny '%' A (getAttr (.ref a) f b) Q E s:=by
 obtain⟨mA,O,r,_,_,_⟩:=Ga I.hok e;obtain⟨u,hu,ru⟩:=U3.some_of (by rw[<-l];exact r f);exact tz I.kIn O (c.get f) c.hd n hu (iK ru) (h u _ (I.tok _) ru)
theorem Zr {m:Str}{g:Addr}{Q:Value×List Value->Shared->Prop} (I:jp X pins σ H s) (e:H a=some (.ins C dx fs)) (c:zg X.K C) (k:nJ X.K C m g) (l:fs.lookup m=none)
  (h:Q (.ref g,[.ref a]) s):wpAny '%' A (getMethod (.ref a) m pl) Q E s:=by
 obtain⟨mA,O,r,_,_,_⟩:=Ga I.hok e;have hn:=U3.none_of (by rw[<-l];exact r m);exact qd I.kIn O (c.get m) k.at_ k.fn hn h
theorem fF {u:Value}{Q:C6} (I:jp X pins σ H s) (e:H a=some (.ins C dx fs)) (c:zg X.K C) (n:Uf X.K C f) (hl:fs.length<1000) (ry:jG y u)
  (h:∀s',jp X pins σ (upd H a<|.ins C dx<|Jz f y fs) s'->Q () s'):wpAny '%' A (setAttr (.ref a) f u) Q E s:=by
 obtain⟨mA,O,r,wi,_,ho⟩:=Ga I.hok e;have hz:(fs.map (·.1)).length<=sizeLine:=by rw[ya,sizeLine_eq];lia
 refine wq I.kIn O c.sa c.po n.taker c.hd wi hz λh' O' sb=>h _ ?_;have hd:∃o,h'.get? dx=some o:=let ⟨o,_,_,e',_⟩:=O'.ns;#[o,e']
 refine I.write (by rw[e];exact Yp) (.inr ho) (λb q hb z=>(sb.2 b hb).trans z) hd ?_;refine#[jy O.ne ho,?_,O.ne,O'.obj,_,O'.ns,λg=>?_,λg hg=>?_]
 ·have:=Gu f y fs;lia
 ·rw[Gv];by_cases q:g=f
  ·rw[if_pos q,if_pos q];exact ry
  ·grind
 ·by_cases q:g=f
  ·rw[q];exact (gl f y fs).1
  ·refine (gl f y fs).2 g (wi g λz=>hg ?_);show (if g=f then some u else mA g)=none;rw[if_neg q];exact z
theorem jp.made (I:jp X pins σ H s):jp X pins σ (upd (upd H s.heap.objs.size<|.own<|s.heap.objs.size+1) (s.heap.objs.size+1)<|.ins C s.heap.objs.size [])
  { s with heap:=(s.heap.push emptyDict).push (instObj C s.heap.objs.size) }:=by
 have e1:(s.heap.push emptyDict).get? s.heap.objs.size=some emptyDict:=yt s.heap rfl;have e2:=by
  have:=yt (s.heap.push emptyDict) (o:=instObj C s.heap.objs.size) rfl;rwa [Qu] at this
 have e3:(s.heap.push emptyDict).Ns s.heap.objs.size _:=#[emptyDict,_,_,e1,rfl,(λe he=>absurd he on),λ_=>rfl];have I1:=I.laid (o:=.own<|s.heap.objs.size+1) (t':=s.toks) (λb u q=>yf _ q) (yj _) #[_,e1];refine I1.laid (λb u q=>yf _ q) (aa8<|Qu _ _) ?_;have ne:s.heap.objs.size≠s.heap.objs.size+1:=yE<|Y2 _;refine#[by rw[jC ne,jc],yP _,ne,e2,_,(Heap.Ns1.of_empty e3).at λo q=>yf _ q,λ_=>Yp,λy hy=>absurd rfl hy]
theorem sS {prog:Dt}{w:World}{env:Env}{pos:Pos}{Q:C3} (hb:attributeBase e f env (eval e env)=eval e env)
  (h:wpAny '$' A (eval e env) (λo s₁=>wpAny '$' A (getAttr o f true) Q E s₁) E s):wpAny '$' A (eval (.Attribute e f pos) env) Q E s :=
 Attribute_any_ h (by rw[arm_eval_Attribute,hb])
end
inductive sG (K:C9) (f:Str) (Q:VK) (x:V) (H1:Hp):Prop
 | mk (a:_) (C:_) (dx:_) (fs:_) (v:_) (h0:x=.ref a) (h1:H1 a=some (.ins C dx fs)) (h2:zg K C) (h3:Uf K C f) (h4:fs.lookup f=some v) (h5:Q v H1):sG K f Q x H1
def Co (K:C9) (ta:TE) (f:Str):TE:=λσ H Q=>ta σ H λx H1=>sG K f Q x H1
inductive sA (K:C9) (f:Str) (D:vS) (σ:St) (y:V) (x:V) (H2:Hp):Prop
 | mk (a:_) (C:_) (dx:_) (fs:_) (h0:x=.ref a) (h1:H2 a=some (.ins C dx fs)) (h2:zg K C) (h3:Uf K C f) (h4:fs.length<1000) (h5:D.nx σ (upd H2 a<|.ins C dx<|Jz f y fs)):sA K f D σ y x H2
def qR (K:C9) (ta tv:TE) (f:Str):TS:=λD σ H=>tv σ H λy H1=>ta σ H1 λx H2=>sA K f D σ y x H2
section
variable {X:Cx}{o e value:Expr}{f:Str}{pos pos' DV:Pos}{ta tv:TE}
theorem uM {K:C9} (he:PE X e ta) (hb:autoParam (attributeBase e f X.env (eval e X.env)=eval e X.env) Fk) (hK:autoParam (X.K=K) zze):PE X (.Attribute e f pos) (Co K ta f):=by
 subst hK;intro pins s σ H Q I h;refine sS hb (jI (he pins s σ H _ I h) λu s1 hh=>?_);obtain⟨x,H1,I1,rx,a,C,dx,fs,v,ex,ea,c,n,l,q⟩:=hh;subst ex;obtain rfl:u=Value.ref a:=rx;exact ef I1 ea c n l λu' s2 I2 ru=>#[v,H1,I2,ru,q]
theorem zd (ha:PE X o ta) (hv:PE X value tv) (hs:swapsWith value (some<|.Attribute o f pos') pos.line X.env=pure false):PS X (.Assign [.Attribute o f pos'] value pos) (qR X.K ta tv f):=by
 intro pins s σ H D I h;refine plainObj_wpAny_Assign_Attribute (jI (hv pins s σ H _ I h) λu s1 #[y,H1,I1,ry,q]=>jI (ha pins s1 σ H1 _ I1 q) λov s2 hh=>?_) hs;obtain⟨x,H2,I2,rx,a,C,dx,fs,ex,ea,c,n,l,q2⟩:=hh;subst ex;obtain rfl:ov=Value.ref a:=rx;exact fF I2 ea c n l ry λs3 I3=>#[σ,_,I3,q2]
theorem AO {m:Str}{apos:Pos}{args:Dp}{pins:De}{Q:C3} (he:PE X e te) (I:jp X pins σ H s)
  (h:te σ H λx H1=>∃a C dx fs g,x=.ref a/\H1 a=some (.ins C dx fs)/\zg X.K C/\nJ X.K C m g/\fs.lookup m=none /\
   ∀s1,jp X pins σ H1 s1->wpAny '%' X.A (callWith pos (.ref g) [.ref a] (backTo pos<|starEach args X.env)<|backToKw pos<|keywordEach [] X.env) Q X.xe s1)
  (ht:eval (.Call (.Attribute e m apos) args [] pos) X.env=(do
   let ov <-eval e X.env
   standAt apos.atName
   let (f,first) <-holding [ov] (getMethod ov m pl)
   callWith pos f first (backTo pos<|starEach args X.env) (backToKw pos<|keywordEach [] X.env))) :
  wpAny '%' X.A (eval (.Call (.Attribute e m apos) args [] pos) X.env) Q X.xe s:=by
 refine methodCall_KW (jI (he pins s σ H _ I h) λu s1 hh=>?_) ht;obtain⟨x,H1,I1,rx,a,C,dx,fs,g,ex,ea,c,k,l,q⟩:=hh;subst ex;obtain rfl:u=Value.ref a:=rx;exact Zr I1 ea c k l (q s1 I1)
end
section
variable {X:Cx}{pins:De}{σ:St}{H:Hp}{s:Shared}{A:Around}{E:C3}{Q:C3}{c:Value}{b:Bool}
inductive vV (K:C9) (H:Hp):V->Value->Prop where
 | non:vV K H .non (.type "NoneType")
 | bl (x:Bool):vV K H (.bl x) (.type "bool")
 | int (i:Int):vV K H (.int i) (.type "int")
 | str (x:Str):vV K H (.str x) (.type "str")
 | flt (x:UInt64):vV K H (.flt x) (.type "float")
 | lst {a:Addr} {xs:List V} (e:H a=some (.lst xs)):vV K H (.ref a) (.type "list")
 | frz {a:Addr} {o:Obj} {xs:List V} (e:H a=some (.frz o<|.lst xs)):vV K H (.ref a) (.type "list")
 | tup {a:Addr} {xs:List V} (e:H a=some (.tup xs)):vV K H (.ref a) (.type "tuple")
 | dK {a:Addr} {Dx:List (Key×V)} (e:H a=some (.dK Dx)):vV K H (.ref a) (.type "dict")
 | dT {a:Addr} {Dx:List (List Key×V)} (e:H a=some (.dT Dx)):vV K H (.ref a) (.type "dict")
 | ins {a C dx:Addr} {fs:List (Str×V)} (e:H a=some (.ins C dx fs)) (cl:zg K C) (ha:findIn K (.ref C) "__class__"=some (some<|.builtin "object.__class__"))
   (hn:PySem.W.specialIn K (.builtin "object.__class__") "__get__"=some (some<|.builtin "getset_descriptor.__get__")) (ON:PySem.W.takesIn K (.builtin "object.__class__")=some true)
   (hm:mroIn K C (.type "object")=some true):vV K H (.ref a) (.ref C)
theorem iT {x:V}{u t:Value} (I:jp X pins σ H s) (rx:jG x u) (ty:vV X.K H x t) (e:kitOne X.K t c=some b) (h:∀tk,Q (.bool b) { s with toks:=tk }) :
  wpAny '%' A (call (.builtin "isinstance") [u,c]) Q E s:=by
 cases ty with
 | non=>cases (rx);exact kia_one PySem.W.kitx_none I.kIn Yp e (λz=>nomatch z) h
 | bl y=>cases (rx);exact kia_one PySem.W.kitx_bool I.kIn Yp e (λz=>nomatch z) h
 | int i=>obtain⟨t,q⟩:=(rx);cases q;exact kia_one PySem.W.kitx_int I.kIn Yp e (λz=>nomatch z) h
 | str y=>obtain⟨t,q⟩:=(rx);cases q;exact kia_one PySem.W.kitx_str I.kIn Yp e (λz=>nomatch z) h
 | flt y=>obtain⟨t,q⟩:=(rx);cases q;exact kia_one PySem.W.kitx_float I.kIn Yp e (λz=>nomatch z) h
 | @lst a xs ea =>
  cases (rx);obtain⟨_,_,n,_,h1⟩:=(I.hok a _ ea);exact kia_one kitx_list I.kIn #[_,h1,rfl] e (λz=>nomatch z) h
 | @frz a ob xs ea =>
  cases (rx);obtain⟨_,_,_,n,_,h1⟩:=(I.hok a _ ea);exact kia_one kitx_list I.kIn #[_,h1,rfl] e (λz=>nomatch z) h
 | @tup a xs ea =>
  cases (rx);obtain⟨_,_,_,p⟩:=(I.hok a _ ea);obtain⟨o,h1,h2,_⟩:=p;exact kia_one PySem.W.kitx_tuple I.kIn #[o,h1,h2] e (λz=>nomatch z) h
 | @dK a Dx ea =>
  cases (rx);obtain⟨_,_,vs,_,p⟩:=(I.hok a _ ea);obtain⟨o,es,ep,h1,h2,_⟩:=p;exact kia_one kitx_dict I.kIn #[o,h1,h2.1] e (λz=>nomatch z) h
 | @dT a Dx ea =>
  cases (rx);obtain⟨_,_,xs,_,o,es,ep,h1,h2,_⟩:=(I.hok a _ ea);exact kia_one kitx_dict I.kIn #[o,h1,h2.1] e (λz=>nomatch z) h
 | @ins a C dx fs ea cl ha hn ON hm =>
  cases (rx);obtain⟨mA,O,_⟩:=Ga I.hok ea;obtain⟨od,J,_⟩:=O.look;exact kia_one (PySem.W.kitx_own (cl.get _) cl.hd ha hn ON hm) I.kIn J e (λz=>nomatch z) h
end
structure JI (c:Bool) (k:Nat) (A:Around):Prop where
 hd:c=true->A.handled=none
 dp:A.depth+3*k+5<recursionLimit
 un:A.units+16*k+200<cLine
abbrev Zi:=JI true
theorem JI.mono {c':Bool}{j k:Nat}{A:Around} (r:JI c k A) (h:j<=k) (hc:autoParam (c'=true->c=true) Ix):JI c' j A:=#[λz=>r.hd<|hc z,by have:=r.dp;lia,by have:=r.un;lia]
theorem JI.m {c c':Bool}{j k:Nat}{A:Around} (r:JI c k A) (h:autoParam (j<=k) Ix) (hc:autoParam (c'=true->c=true) Ix):JI c' j A:=r.mono h hc
theorem JI.deeper {k:Nat}{A:Around} (r:JI c (k+1) A) (env:Env):JI c k (A.deeper env) :=
 #[r.hd,by have:=r.dp;show A.depth+1+3*k+5<_;lia,by have:=r.un;show A.units+3+16*k+200<_;lia]
theorem fg {A:Around}:(A.under<|.builtin "type.__call__" #[.ref C::us,kw]).depth=A.depth+1:=by
 first|rfl
theorem fh {A:Around}:(A.under<|.builtin "type.__call__" #[.ref C::us,kw]).units=A.units+1:=by
 first|rfl
theorem JI.make {k:Nat}{A:Around} (r:JI c (k+1) A) (C:Addr) (us:Dh) (kw:List (Str×Value)):JI c k (A.under<|.builtin "type.__call__" #[.ref C::us,kw]) :=
 #[r.hd,by have:=r.dp;rw[fg];lia,by have:=r.un;rw[fh];lia]
theorem JI.depth {k:Nat}{A:Around} (r:JI c k A):A.depth<recursionLimit:=by have:=r.dp;lia
theorem JI.units {k:Nat}{A:Around} (r:JI c k A):A.units+64<cLine:=by have:=r.un;lia
theorem JI.units0 {k:Nat}{A:Around} (r:JI c k A):A.units<cLine:=by have:=r.un;lia
def aV:TA:=λ_ H Q=>Q [] H
def M5 (ta:TE) (tr:TA):TA:=λσ H Q=>ta σ H λx H1=>tr σ H1 λxs H2=>Q (x::xs) H2
section
variable {X:Cx}{e:Expr}{es:Dp}{te:TE}{t:TA}{pos:Pos}
theorem jb:PA X [] aV:=λ_ _ _ _ H Q I h=>Calls.spliced_nil #[_,H,I,.nil,h]
theorem ja (ha:PE X e te) (hr:PA X es t) (hs:autoParam (starEach (e::es) X.env=(false,eval e X.env)::starEach es X.env) Fk):PA X (e::es) (M5 te t):=by
 intro pos pins s σ H Q I h;rw[hs];refine Calls.spliced_cons (jI (ha pins s σ H _ I h) λu s1 #[x,H1,I1,r1,q1]=>?_);exact jI (hr pos pins s1 σ H1 _ I1 q1) λus s2 #[xs,H2,I2,r2,q2]=>#[_,H2,I2,.cons r1 r2,q2]
inductive sK (Q:VK) (xs:List V) (H1:Hp):Prop
 | mk  (h0:xs.length<=sizeLine) (h1:∀p,H1 p=none->Q (.ref p) (upd H1 p<|.tup xs)):sK Q xs H1
def Cs (t:TA):TE:=λσ H Q=>t σ H λxs H1=>sK Q xs H1
inductive sH (Q:VK) (xs:List V) (H1:Hp):Prop
 | mk  (h0:xs.length<=sizeLine) (h1:∀p,H1 p=none->Q (.ref p) (upd H1 p<|.lst xs)):sH Q xs H1
def re (t:TA):TE:=λσ H Q=>t σ H λxs H1=>sH Q xs H1
theorem jL {x1} (h:PA X es t):PE X (.Tuple es x1 pos) (Cs t):=by
 intro pins s σ H Q I hq;refine wpAny_Tuple_spliced (jI (h pos pins s σ H _ I hq) λus s1 #[xs,H1,I1,r,z,q]=>#[by rw[<-r.length];exact z,?_]);have hf:=I1.hok.fresh<|yj _;refine#[.ref s1.heap.objs.size,_,I1.laid (λb u e=>yf _ e) (yj _) ?_,rfl,q _ hf];exact#[z,us,r,#[_,yt _ rfl,rfl,_,rfl]]
theorem jY (h:PA X es t):PE X (.List es pos) (re t):=by
 intro pins s σ H Q I hq;refine wpAny_List_spliced (jI (h pos pins s σ H _ I hq) λus s1 #[xs,H1,I1,r,z,q]=>#[by rw[<-r.length];exact z,?_]);have hf:=I1.hok.fresh<|yj _;refine#[.ref s1.heap.objs.size,_,I1.laid (λb u e=>yf _ e) (yj _) ?_,rfl,q _ hf];exact#[z,us,0,r,yt _ rfl]
end
abbrev Sp:=List V->Hp->VK->XK->Prop
abbrev kj:=List Env->Hp->Shared->XK->Value->Shared->Prop
structure GI (P:Dt) (w:World) (K:C9) (mg:Dd) (base:Heap) (A:Around) (outer:List Env) (s:Shared) (H:Hp):Prop where
 frames:A.frames=some outer
 mod:Mod K mg base
 bs:∀b o,base.get? b=some o->s.heap.get? b=some o/\H b=none
 bsz:base.objs.size<=s.heap.objs.size
 funs:s.heap.FunFrames base outer
 frf:∀b∈UN outer,H b=none
 hok:JU P w H s.heap
 bare:AllBare s.gens
 hn:nG A H
def CE (outer:List Env) (P:Dt) (w:World) (H:Hp) (s:Shared) (Q:VK) (u:Value) (s':Shared):Prop :=
 ∃v H',s'.os=s.os/\AllBare s'.gens/\Un (UN outer) [] H H' s.heap s'.heap/\JU P w H' s'.heap/\jG v u/\Q v H'
def CR (CX:kj) (outer:List Env) (P:Dt) (w:World) (H:Hp) (s:Shared) (Q:VK) (E:XK) (r:Result) (s':Shared):Prop :=
 match r with
 | .ok (.ret u)=>CE outer P w H s Q u s'
 | .ok _=>False
 | .error e=>CX outer H s E e s'
structure U1 (P:Dt) (w:World) (K:C9) (mg:Dd) (base:Heap) (CX:kj) (k:Nat) (f:Addr) (fd:FuncData) (ps:Dm) (sp:Sp) (c:Bool:=true):Prop where
 len:∀vs H Q E,sp vs H Q E->vs.length=ps.length
 run:∀(A:Around) (outer:List Env) (s:Shared) (H:Hp) (args:Args) (us:Dh) (vs:List V) (Q:VK) (E:XK),JI c k A->GI P w K mg base A outer s H->BindsTo s fd args (ps.zip us)->jH vs us->sp vs H Q E ->
  codeAny (model P w) A (.call (.ref f) args) (CR CX outer P w H s Q E) s
theorem GI.make {w:World}{K:C9}{mg:Dd}{base:Heap}{A:Around}{outer:List Env} (e:GI P w K mg base A outer s H) (C:Addr) (us:Dh) (kw:List (Str×Value)) :
  GI P w K mg base (A.under<|.builtin "type.__call__" #[.ref C::us,kw]) outer s H:=#[by first|exact e.frames,e.mod,e.bs,e.bsz,e.funs,e.frf,e.hok,e.bare,e.hn]
section
variable {X:Cx}{pins:De}{σ:St}{H:Hp}{s s':Shared}
theorem jp.env0 (I:jp X pins σ H s):GI X.prog X.w X.K X.mg X.base X.A X.stack s H :=
 #[I.ok.frames,I.ok.mod,I.bs,yk I.ok.bsz I.sz,I.stack,I.stkFree,I.hok,I.bare,I.hn]
theorem jp.after {u:Value} (I:jp X pins σ H s) (h:CE X.stack X.prog X.w H s Q u s'):EP X pins σ Q u s':=by
 obtain⟨v,H',os,bare,un,hok,r,q⟩:=h;obtain⟨hh,g,d,t,Ld⟩:=s';obtain rfl:Ld=s.os:=os;exact#[v,H',I.call un hok bare (λb z=>absurd z on),r,q]
end
def sF (sp:Sp) (Eh:List V) (E:XK) (t:TA):TE:=λσ H Q=>t σ H λvs H1=>sp (vs++Eh) H1 Q E
inductive oU (C:Addr) (m:Str) (sp:Sp) (Eh:List V) (E:XK) (t:TA) (σ:St) (Q:VK) (x:V) (H1:Hp):Prop
 | mk (a:_) (dx:_) (fs:_) (h0:x=.ref a) (h1:H1 a=some (.ins C dx fs)) (h2:fs.lookup m=none) (h3:t σ H1 λvs H2=>sp (x::(vs++Eh)) H2 Q E):oU C m sp Eh E t σ Q x H1
def sJ (C:Addr) (m:Str) (sp:Sp) (Eh:List V) (E:XK) (ta:TE) (t:TA):TE:=λσ H Q=>ta σ H λx H1=>oU C m sp Eh E t σ Q x H1
def sI (C:Addr) (sp:Sp) (Eh:List V) (E:XK) (t:TA):TE:=λσ H Q=>t σ H λvs H1=>∀x dx,H1 x=none->H1 dx=none->dx≠x ->
 sp (.ref x::(vs++Eh)) (upd (upd H1 dx<|.own x) x<|.ins C dx []) (λv H2=>v=.non/\Q (.ref x) H2) E
def ve (K:C9) (fd:FuncData) (ps:Dm) (ds:Dh):Prop :=
 ∀(s:Shared) (us:Dh),K.In s.heap->(us++ds).length=ps.length->BindsTo s fd #[us,[]] (ps.zip<|us++ds)
theorem ve.all {K:C9}{fd:FuncData} (h:∀us:List Value,us.length=ps.length->bindArgs fd ⟨us,[]⟩=pure (ps.zip us)):ve K fd ps []:=λs us _ hl=>by
 rw[Qk] at hl ⊢;exact .of_eq (h us hl)
def UC (CX:kj) (X:Cx) (E:XK):Prop:=∀(pins:De) (σ:St) (H:Hp) (s:Shared) (e:Value) (s':Shared),jp X pins σ H s->CX X.stack H s E e s'->X.xe e s'
section
variable {X:Cx}{CX:kj}{k:Nat}{f C:Addr}{fd:FuncData}{ps:Dm}{sp:Sp}{Eh:List V}{ds:Dh}{E:XK}{x m:Str}{p pos apos:Pos}{e o:Expr}{es:Dp}{ta:TE}{t:TA}
theorem Ky {pins:De} (F:U1 X.prog X.w X.K X.mg X.base CX k f fd ps sp cm) (hr:JI cm k X.A) (hb:ve X.K fd ps ds) (hd:jH Eh ds) (hx:UC CX X E)
  (I:jp X pins σ H s) (r:jH vs us) (h:sp (vs++Eh) H Q E):wpAny '%' X.A (call (.ref f) us) (EP X pins σ Q) X.xe s:=by
 have r2:=r.append hd;have hl:(us++ds).length=ps.length:=by rw[<-r2.length];exact F.len _ _ _ _ h
 refine wpAny_call (codeAny_mono (F.run X.A X.stack s H _ _ _ Q E hr I.env0 (hb s us I.kIn hl) r2 h) λr s' hq=>?_);cases r with
 | error e=>exact hx pins σ H s e s' I hq
 | ok fl =>
  cases fl with
  | ret u=>exact I.after hq
  | next=>exact Yv hq
  | brk=>exact Yv hq
  | cont=>exact Yv hq
theorem tX (F:U1 X.prog X.w X.K X.mg X.base CX k f fd ps sp cm) (hr:JI cm k X.A) (hg:Gl X x) (hm:X.mg x=some (.ref f)) (hk:keepIn X.K (.ref f)=true) (hb:ve X.K fd ps ds) (hd:jH Eh ds) (hx:UC CX X E)
  (ha:PA X (e::es) t) (Fc:autoParam ((x==("__debug__":Str))=false) Ix) (he:autoParam (starEach (e::es) X.env=(false,eval e X.env)::starEach es X.env) Fk) (DJ:autoParam ((backTo pos<|starEach es X.env).any (·.1)=false) Fk) :
  PE X (.Call (.Name x p) (e::es) [] pos) (sF sp Eh E t):=by
 intro pins s σ H Q I h;refine wpAny_Call_Name_kw<|K5 I hg hm ?_ Fc;refine callWith_K I.ok.mod.kin hk (jI (ha pos pins s σ H _ I h) λus s1 #[vs,H1,I1,r,q]=>#[I1.kIn,?_]) he DJ;exact Ky F hr hb hd hx I1 r q
theorem tZ {pl:Sem Bool} (he:PE X o ta) (c:zg X.K C) (hm:nJ X.K C m f) (F:U1 X.prog X.w X.K X.mg X.base CX k f fd ps sp cm) (hr:JI cm k X.A) (hb:ve X.K fd ps ds) (hd:jH Eh ds) (hx:UC CX X E) (ha:PA X (e::es) t)
  (DX:autoParam (starEach (e::es) X.env=(false,eval e X.env)::starEach es X.env) Fk) (DJ:autoParam ((backTo pos<|starEach es X.env).any (·.1)=false) Fk)
  (ht:autoParam (eval (.Call (.Attribute o m apos) (e::es) [] pos) X.env=(do
   let ov <-eval o X.env
   standAt apos.atName
   let (f,first) <-holding [ov] (getMethod ov m pl)
   callWith pos f first (backTo pos<|starEach (e::es) X.env) (backToKw pos<|keywordEach [] X.env))) Fk) :
  PE X (.Call (.Attribute o m apos) (e::es) [] pos) (sJ C m sp Eh E ta t):=by
 intro pins s σ H Q I h;refine methodCall_KW (jI (he pins s σ H _ I h) λu s1 hh=>?_) ht;obtain⟨x,H1,I1,rx,a,dx,fs,ex,ea,l,q⟩:=hh;subst ex;obtain rfl:u=Value.ref a:=rx;refine Zr I1 ea c hm l ?_;refine callWith_K I.ok.mod.kin hm.kp (jI (ha pos pins s1 σ H1 _ I1 q) λus s2 #[vs,H2,I2,r,q2]=>#[I2.kIn,?_]) DX DJ;exact Ky (vs:=.ref a::vs) F hr hb hd hx I2 (.cons rfl r) q2
structure Mk (K:C9) (C f:Addr):Prop where
 makes:makesIn K C=true
 init:findIn K (.ref C) "__init__"=some (some<|.ref f)
 fn:isFn K (.ref f)=true
 kp:keepIn K (.ref C)=true
theorem qQ {pins:De} (M:Mk X.K C f) (F:U1 X.prog X.w X.K X.mg X.base CX k f fd ps sp) (hr:Zi (k+1) X.A) (hb:ve X.K fd ps ds) (hd:jH Eh ds)
  (hx:UC CX X E) (I:jp X pins σ H s) (r:jH vs us)
  (h:∀x dx,H x=none->H dx=none->dx≠x->sp (.ref x::(vs++Eh)) (upd (upd H dx<|.own x) x<|.ins C dx []) (λv H2=>v=.non/\Q (.ref x) H2) E) :
  wpAny '%' X.A (call (.ref C) us) (EP X pins σ Q) X.xe s:=by
 have hq:=h _ s.heap.objs.size (I.hok.fresh<|abh _) (I.hok.fresh<|yj _)<|yE<|Y2 _;have I2:=jp.made (C:=C) I;have r2:jH (V.ref (s.heap.objs.size+1)::(vs++Eh)) _:=.cons rfl<|r.append hd;have hl:=by
  have e:=r2.length;rw[F.len _ _ _ _ hq] at e;exact e.symm
 refine wpAny_call (qm I.kIn M.makes M.init (beq_iff_eq.mp M.fn) (codeAny_mono (F.run _ X.stack _ _ _ _ _ _ E (hr.make C us _)
  (I2.env0.make C us _) (hb _ _ I2.kIn hl) r2 hq) λr s' Ij=>?_))
 cases r with
 | error e=>exact hx pins σ _ _ e s' I2 Ij
 | ok fl =>
  cases fl with
  | ret u =>
   obtain⟨v,H',I3,rv,ev,q3⟩:=I2.after Ij;subst ev;exact#[rv,#[V.ref _,H',I3,rfl,q3]]
  | next=>exact Yv Ij
  | brk=>exact Yv Ij
  | cont=>exact Yv Ij
theorem tY (M:Mk X.K C f) (F:U1 X.prog X.w X.K X.mg X.base CX k f fd ps sp) (hr:Zi (k+1) X.A) (hg:Gl X x) (hm:X.mg x=some (.ref C)) (hb:ve X.K fd ps ds) (hd:jH Eh ds) (hx:UC CX X E)
  (ha:PA X (e::es) t) (Fc:autoParam ((x==("__debug__":Str))=false) Ix) (he:autoParam (starEach (e::es) X.env=(false,eval e X.env)::starEach es X.env) Fk) (DJ:autoParam ((backTo pos<|starEach es X.env).any (·.1)=false) Fk) :
  PE X (.Call (.Name x p) (e::es) [] pos) (sI C sp Eh E t):=by
 intro pins s σ H Q I h;refine wpAny_Call_Name_kw<|K5 I hg hm ?_ Fc;refine callWith_K I.ok.mod.kin M.kp (jI (ha pos pins s σ H _ I h) λus s1 #[vs,H1,I1,r,q]=>#[I1.kIn,?_]) he DJ;exact qQ M F hr hb hd hx I1 r q
end
structure vA (N P:Dm) (sc:Scope):Prop where
 kind:sc.kind=.function
 co:sc.isCoroutine=false
 gen:sc.isGenerator=false
 nd:N.Nodup
 pre:N.take P.length=P
 par:∀x∈P,sc.names.lookup x=some .local\/sc.names.lookup x=some .cell
 nofree:∀y∈sc.names,y.2≠.free
theorem CY {N P:Dm}{sc:Scope} (a:autoParam (sc.kind=.function) Fk) (b:autoParam (sc.isCoroutine=false) Fk) (c:autoParam (sc.isGenerator=false) Fk) (d:N.Nodup:=by decide +kernel) (e:autoParam (N.take P.length=P) Fk) (f:∀x∈P,sc.names.lookup x=some .local\/sc.names.lookup x=some .cell:=by decide +kernel) (g:∀y∈sc.names,y.2≠.free:=by decide +kernel):vA N P sc:=#[a,b,c,d,e,f,g]
theorem mF {x:Str}:∀{binds:List (Str×Value)} {m:Dd},(∀v,(x,v) ∉ binds)->bindL kindOf binds m x=m x
 | [],_,_=>rfl
 | (n,v)::r,m,h=>by
  unfold bindL;rw[mF λw hw=>h w<|yl _ hw];split
  ·grind
  ·rfl
theorem mD {x:Str}:∀{binds:List (Str×Value)} {m:Dd},(∀v,(x,v) ∉ binds)->bindC kindOf binds m x=m x
 | [],_,_=>rfl
 | (n,v)::r,m,h=>by
  unfold bindC;rw[mD λw hw=>h w<|yl _ hw];split
  ·rfl
  ·grind
theorem mE {x:Str}{v:Value}:∀{P:Dm} {vs:Dh} {i:Nat} {m:Dd},P.Nodup->P[i]?=some x->vs[i]?=some v->kindOf x=some .local ->
  bindL kindOf (P.zip vs) m x=some v
 | [],_,_,_,_,h,_,_=>by simp at h
 | _::_,[],_,_,_,_,h,_=>by simp at h
 | p::P,w::vs,0,m,nd,h1,h2,hk=>by
  simp at h1 h2;subst h1;subst h2;show bindL kindOf ((p,w)::P.zip vs) m p=_;unfold bindL;rw[mF λv hv=>(yO.mp nd).1 (aaK hv).1,if_pos hk];simp
 | p::P,w::vs,i+1,m,nd,h1,h2,hk=>by
  unfold bindL;exact mE (yO.mp nd).2 (by simpa using h1) (by simpa using h2) hk
theorem mC {x:Str}{v:Value}:∀{P:Dm} {vs:Dh} {i:Nat} {m:Dd},P.Nodup->P[i]?=some x->vs[i]?=some v->kindOf x≠some .local ->
  bindC kindOf (P.zip vs) m x=some v
 | [],_,_,_,_,h,_,_=>by simp at h
 | _::_,[],_,_,_,_,h,_=>by simp at h
 | p::P,w::vs,0,m,nd,h1,h2,hk=>by
  simp at h1 h2;subst h1;subst h2;show bindC kindOf ((p,w)::P.zip vs) m p=_;unfold bindC;rw[mD λv hv=>(yO.mp nd).1 (aaK hv).1,if_neg hk];simp
 | p::P,w::vs,i+1,m,nd,h1,h2,hk=>by
  unfold bindC;exact mC (yO.mp nd).2 (by simpa using h1) (by simpa using h2) hk
def start (N:Dm) (vs:List V):St:=vs.map some++Ye (N.length - vs.length) none
def GP (CX:kj) (P:Dt) (w:World) (K:C9) (mg:Dd) (base:Heap) (N:Dm) (qual:Str) (scope:Scope) (f:Addr) (cd:Value) (A:Around) (outer:List Env) (s:Shared) (H:Hp) (E:XK) (c:Bool:=true):Cx where
 prog:=P
 w:=w
 K:=K
 mg:=mg
 base:=base
 A:=A.deeper (envOfC qual scope s.heap.objs.size f cd)
 N:=N
 s₀:=s
 H₀:=H
 env:=envOfC qual scope s.heap.objs.size f cd
 outer:=outer
 stack:=envOfC qual scope s.heap.objs.size f cd::outer
 ex:=[]
 calm:=c
 fn:=λ_=>true
 pn:=[]
 xe:=λe s'=>wpAny (model P w) (A.deeper<|envOfC qual scope s.heap.objs.size f cd) (leaving (envOfC qual scope s.heap.objs.size f cd) e) (λ_ PR=>CX outer H s E e PR) (λe' PR=>CX outer H s E e' PR) s'
theorem nQ {sc:Scope}{x:Str} (h:sc.names.lookup x=some .cell):∃c,(cellsFrom n sc.names []).lookup x=some c:=by
 have q:=cellsFrom_some sc.names n []<|.inl h;exact Option.isSome_iff_exists.mp q
theorem iS {w:World}{K:C9}{mg:Dd}{base:Heap}{N:Dm}{f:Addr}{cd:Value}{A:Around}{outer:List Env}{s1:Shared}{E:XK}
  {c:Bool} (S:vA N ps scope) (hd:c=true->A.handled=none) (e0:GI P w K mg base A outer s H) (hl:vs.length=ps.length) (r:jH vs us)
  (x:InCallC s s.heap.objs.size (bindL (envOfC qual scope s.heap.objs.size f cd).kindOf (ps.zip us) λ_=>none) (cellsFrom (s.heap.objs.size+1) scope.names []) (bindC (envOfC qual scope s.heap.objs.size f cd).kindOf (ps.zip us) λ_=>none) s1) :
  jp (GP CX P w K mg base N qual scope f cd A outer s H E c) [] (start N vs) H s1:=by
 have DJ:=by have:=congrArg Ys S.pre;rw[yF] at this;omega
 obtain⟨h1,tk,rfl,hk⟩:=x.done;have LH:∀b:Addr,b ∉ (GP CX P w K mg base N qual scope f cd A outer s H E c).ex:=λb z=>absurd (show b∈([]) from z) on;refine#[#[e0.mod,S.kind,rfl,rfl,yj _,λy z c h1 h2=>?_,λy hy=>?_,λy c' _ h=>?_,hd,Around.frames_deeper e0.frames,.inr #[rfl,rfl],λb z=>absurd z<|LH b,e0.bs,e0.bsz,λb _ _=>LH b,λb z=>absurd z<|LH b,e0.funs,e0.frf],
  rfl,e0.bare,Un.kept hk,#[_,x.toInCall.ns,λi y v h1 h2 h3=>?_],λy c h=>#[_,x.cell y c h],e0.hok.fresh<|yj _,λy c h=>?_,λp hp=>absurd (show p∈([]) from hp) on,e0.hok.kept hk,?_,e0.hn]
 ·exact name_of_addr x.apart (Yy h1) (Yy h2)
 ·rcases hy with hy|hy
  ·exact nQ hy
  ·exact absurd rfl (S.nofree _<|Yy hy)
 ·exact yX (x.above y c'<|Yy h)
 ·have hi:i<vs.length:=by
   unfold start at h2;by_cases hi:i<vs.length
   ·exact hi
   ·grind
  have ha:vs[i]?=some v:=by
   unfold start at h2;rw[yx (by simpa using hi),ye] at h2;cases e:vs[i]? with
   | none=>rw[e] at h2;cases h2
   | some a=>rw[e] at h2;cases h2;rfl
  obtain⟨u,hu,rv⟩:=r.get ha;have hp:ps[i]?=some y:=by
   rw[<-S.pre,List.getElem?_take_of_lt gt];exact h1
  have LJ:ps.Nodup:=by rw[<-S.pre];exact S.nd.sublist (List.take_sublist _ _)
  refine#[u,rv,?_];rcases S.par y (yh hp) with k|k
  ·exact .inl #[k,mE LJ hp hu k]
  ·obtain⟨c,e⟩:=nQ k;refine .inr #[.inl k,c,e,?_];have q:=x.cell y c e;rw[mC LJ hp hu (by show scope.names.lookup y≠_;rw[k];decide)] at q;exact q
 ·exact e0.hok.fresh (yX<|x.above y c<|Yy h)
 ·unfold start;show _=N.length;rw[yg,ya,QW]
  lia
theorem AV {w:World}{K:C9}{mg:Dd}{base:Heap}{k:Nat}{f:Addr}{name:Str}{params:Arguments}{dV kV doc pm DF ct oc:Value}{an od:Ds}
  {Ik:Dl} {N ps:Dm} {sp:Sp} {c:Bool} (lk:K.lookup f=some #[oc,od,.func<|fnOf name qual params body scope dV kV doc pm an DF ct,Ik]) (FX:codeIn K DF qual=true) (S:vA N ps scope)
  (len:∀vs H Q E,sp vs H Q E->vs.length=ps.length)
  (Fu:∀(A:Around) (outer:List Env) (s:Shared) (H:Hp) (vs:List V) (Q:VK) (E:XK),JI c k (A.deeper<|envOfC qual scope s.heap.objs.size f DF)->sp vs H Q E ->
   ∃t,Z0 (GP CX P w K mg base N qual scope f DF A outer s H E c) body t/\t { nx:=λ_ H'=>Q .non H',rt:=Q } (start N vs) H) :
  U1 P w K mg base CX (k+1) f (fnOf name qual params body scope dV kV doc pm an DF ct) ps sp c:=by
 refine#[len,λA outer s H args us vs Q E hr e0 hb r El=>?_];have hl:=len _ _ _ _ El;have KX:=e0.mod.kin.keeps λb o e=>(e0.bs b o e).1;have lim:=e0.mod.nolimit.keeps λb o e=>(e0.bs b o e).1;have LL:∀y∈ps.zip us,scope.names.lookup y.1=some _\/(scope.names.lookup y.1=some _/\((cellsFrom (s.heap.objs.size+1) scope.names []).lookup y.1).isSome=true):=λ⟨n,v⟩ hy=>by
  rcases S.par n (aaK hy).1 with q|q
  ·exact .inl q
  ·exact .inr #[q,cellsFrom_some _ _ _<|.inl q]
 refine codeAny_call_function hr.depth (KX _ _ lk) rfl S.co S.gen rfl (PySem.W.codeRec_of KX FX)<|hb _ _ _ _ ?_;refine wpAny_newFunctionEnv_cells S.kind LL λenv he s1 x=>?_;subst he;refine#[lim.keeps x.toInCall.keep,codeAny_func ?_];obtain⟨t,ht,hq⟩:=Fu A outer s H vs Q E (hr.deeper _) El;have I:jp (GP CX P w K mg base N qual scope f DF A outer s H E c) _ _ H s1:=iS S hr.hd e0 hl r x;refine wpAny_mono (ht _ s1 _ H _ I hq) (λfl s' hs=>?_) λe s' hs=>hs;have fin:∀{σ':St} {H':Hp} {v:V} {u:Value},jp (GP CX P w K mg base N qual scope f DF A outer s H E c) [] σ' H' s'->jG v u->Q v H'->CE outer P w H s Q u s' :=
  λ{σ' H' v u} J rv q=>#[v,H',J.os,J.bare,J.base,J.hok,rv,q]
 cases fl with
 | ret u =>
  obtain⟨v,σ',H',J,rv,q⟩:=hs;exact fin J rv q
 | next =>
  obtain⟨σ',H',J,q⟩:=hs;exact fin (v:=V.non) J rfl q
 | brk =>
  obtain⟨_,_,_,q⟩:=hs;exact Yv q
 | cont =>
  obtain⟨_,_,_,q⟩:=hs;exact Yv q
section
variable {X:Cx}{x:Str}{p pos:Pos}{e:Expr}{es:Dp}{t:TA}{id T:String}{r:List V->Hp->VK->Prop}
def oQ (r:List V->Hp->VK->Prop) (t:TA):TE:=λσ H Q=>t σ H λvs H1=>r vs H1 Q
theorem jw (hc:Jr X (.builtin id) r) (hg:Gl X x) (hm:X.mg x=none) (hv:bootBuiltins x=some (.builtin id)) (ha:PA X (e::es) t) (hn:autoParam (x≠"__name__") Ix) (Fc:autoParam ((x==("__debug__":Str))=false) Ix)
  (he:autoParam (starEach (e::es) X.env=(false,eval e X.env)::starEach es X.env) Fk) (DJ:autoParam ((backTo pos<|starEach es X.env).any (·.1)=false) Fk):PE X (.Call (.Name x p) (e::es) [] pos) (oQ r t):=by
 intro pins s σ H Q I h;refine wpAny_Call_Name_kw<|V5 I hg hm hv ?_ hn Fc;exact PyProof.Rows.callWith_builtin1 (jI (ha pos pins s σ H _ I h) λus s1 #[vs,H1,I1,r1,q1]=>hc pins s1 σ H1 vs us Q I1 r1 q1) he DJ
theorem jT (hc:Jr X (.type T) r) (hg:Gl X x) (hm:X.mg x=none) (hv:bootBuiltins x=some (.type T)) (ha:PA X (e::es) t) (hn:autoParam (x≠"__name__") Ix) (Fc:autoParam ((x==("__debug__":Str))=false) Ix)
  (he:autoParam (starEach (e::es) X.env=(false,eval e X.env)::starEach es X.env) Fk) (DJ:autoParam ((backTo pos<|starEach es X.env).any (·.1)=false) Fk):PE X (.Call (.Name x p) (e::es) [] pos) (oQ r t):=by
 intro pins s σ H Q I h;refine wpAny_Call_Name_kw<|V5 I hg hm hv ?_ hn Fc;exact Yu (jI (ha pos pins s σ H _ I h) λus s1 #[vs,H1,I1,r1,q1]=>hc pins s1 σ H1 vs us Q I1 r1 q1) he DJ
end
end L2
namespace HT
open PySem PyProof.Rows
variable {Q:C3}{sl:Addr}{vl vu:Value}{lo hi:Option Int}
section
variable {prog:Dt}{w:World}{A:Around}{E:C3}{s:Shared}
theorem cat_tup {t b:Addr}{vs ws:Dh} (ht:IsTup s.heap t vs.toArray) (hb:IsTup s.heap b ws.toArray) (hv:vs≠[])
  (h1:ws=[]->Q (.ref t) s) (h2:ws≠[]->Q (.ref s.heap.objs.size) { s with heap:=s.heap.push { cls:=.type "tuple",data:=.seq (vs++ws).toArray } })
  (hsz:vs.length+ws.length<=sizeLine):wpAny '$' A (binaryOp .Add (.ref t)<|.ref b) Q E s:=by
 obtain⟨⟨cls,dd,data,sl⟩,ho,hc,n,hd⟩:=id ht;obtain⟨⟨LM,FY,data2,FZ⟩,Ei,LP,n2,hd2⟩:=id hb;subst hc hd LP hd2;have e:vs.toArray++ws.toArray=(vs++ws).toArray:=by simp
 by_cases hw:ws=[]
 ·exact concat_meets #[_,ho,rfl] #[_,Ei,rfl] noFill_tuple_add seq_tuple_add aaV aaR (aaN _ _)
   (tuple_addW1 t b vs.toArray ws.toArray n n2 dd FY sl FZ (by simpa using hv) (by simp [hw])) #[ho,Ei,h1 hw]
 ·refine concat_meets #[_,ho,rfl] #[_,Ei,rfl] noFill_tuple_add seq_tuple_add aaV aaR (aaN _ _)
   (tuple_addW2 t b vs.toArray ws.toArray n n2 dd FY sl FZ (by simpa using hv) (by simpa using hw) (by omega)) #[ho,Ei,?_]
  rw[e];exact h2 hw
def sIx (n d:Nat):Option Int->Nat
 | none=>d
 | some v=>if v<0 then (v+(n:Int)).toNat else min v.toNat n
theorem Ah (n d:Nat) (hd:d<=n) (o:Option Int):sIx n d o<=n:=by
 cases o with
 | none=>exact hd
 | some v =>
  show (if v<0 then (v+(n:Int)).toNat else min v.toNat n)<=n;by_cases hv:v<0
  ·rw[if_pos hv];lia
  ·rw[if_neg hv];exact QO _ _
theorem ce (v:Int) (n d:Nat):(if v<0 then max (v+(n:Int)) 0 else min v (n:Int))=((sIx n d (some v):Nat):Int):=by
 show (if v<0 then max (v+(n:Int)) 0 else min v (n:Int))=(((if v<0 then (v+(n:Int)).toNat else min v.toNat n):Nat):Int);by_cases hv:v<0
 ·simp only[if_pos hv];lia
 ·simp only[if_neg hv];lia
theorem dv (lo hi:Option Int) (n:Nat):Builtin.Slice.sliceAdjust lo hi 1 (n:Int)=(((sIx n 0 lo:Nat):Int),((sIx n n hi:Nat):Int)):=by
 have h1:¬((1:Int)<0):=by lia
 unfold Builtin.Slice.sliceAdjust;simp only[h1,if_false];refine Y8 ?_ ?_
 ·cases lo with
  | none=>rfl
  | some v=>exact ce v n 0
 ·cases hi with
  | none=>rfl
  | some v=>exact ce v n n
theorem fB (i j:Nat):Builtin.Slice.slicePlaces (i:Int) (j:Int) 1=j - i:=by
 unfold Builtin.Slice.slicePlaces;have h1:(1:Int) > 0:=by lia
 simp only[h1,if_true,Int.ediv_one]
 split<;>lia
theorem Kz {v:Value}{o:Option Int}{Q:Option Int->Shared->Prop} (p:IsPart v o) (h:Q o s):wpAny '$' A (Builtin.Slice.slicePartIndex v) Q E s:=by
 cases p with
 | none=>exact slicePart_none h
 | int i t=>exact slicePart_int h
theorem kg {n:Nat}{Q:Int×Int×Nat->Shared->Prop} (hs:s.heap.IsSliceOf sl vl vu .none) (pl:IsPart vl lo) (pu:IsPart vu hi)
  (h:Q (((sIx n 0 lo:Nat):Int),1,sIx n n hi - sIx n 0 lo) s):wpAny '$' A (Builtin.Slice.sliceApplied (.ref sl)<|pure (n:Int)) Q E s:=by
 obtain⟨os,LQ,S9,OO⟩:=id hs;unfold Builtin.Slice.sliceApplied Builtin.Slice.sliceFields;refine Du<|Du<|wpAny_field LQ OO (x:=vl) rfl<|Du<|wpAny_field LQ OO (x:=vu) rfl<|Du<|wpAny_field LQ OO (x:=.none) rfl<|Dv ?_;refine Du<|slicePart_none ?_;show wpAny _ _ (if ((1:Int)==0)=true then _ else _) _ _ s;rw[if_neg ac];refine Du<|Kz pl<|Du<|Kz pu<|Du<|Dv ?_;show wpAny _ _ (match Builtin.Slice.sliceAdjust lo hi 1 (n:Int) with|(lo,hi)=>pure (lo,(1:Int),Builtin.Slice.slicePlaces lo hi 1)) _ _ s;rw[dv lo hi n];show wpAny _ _ (pure (((sIx n 0 lo:Nat):Int),(1:Int),Builtin.Slice.slicePlaces ((sIx n 0 lo:Nat):Int) ((sIx n n hi:Nat):Int) 1)) _ _ s;rw[fB];exact Dv h
theorem qA (xs:Do) (i k:Nat):((Yc k).filterMap λ(m:Nat)=>xs[((i:Int)+(m:Int)*1).toNat]?).toArray=((xs.toList.drop i).take k).toArray:=by
 have e:(λ(m:Nat)=>xs[((i:Int)+(m:Int)*1).toNat]?)=λm=>xs[i+m]?:=by
  funext m;have:((i:Int)+(m:Int)*1).toNat=i+m:=by lia
  rw[this]
 rw[e];have:=pick_run xs i k;rw[List.filterMap_map] at this;have e2:((λx=>xs[x]?)∘λx=>i+x)=λm=>xs[i+m]?:=rfl;rw[e2] at this;rw[this]
theorem getItem_tuple_cut {t:Addr}{items:Do} (ht:IsTup s.heap t items) (hs:s.heap.IsSliceOf sl vl vu .none) (pl:IsPart vl lo) (pu:IsPart vu hi)
  (hw:¬(sIx items.size 0 lo=0/\sIx items.size items.size hi=items.size))
  (h:Q (.ref s.heap.objs.size) { s with heap:=s.heap.push { cls:=.type "tuple",data:=.seq ((items.toList.drop<|sIx items.size 0 lo).take<|sIx items.size items.size hi - sIx items.size 0 lo).toArray } })
  (hsz:items.size<=sizeLine):wpAny '$' A (getItem (.ref t)<|.ref sl) Q E s:=by
 have EU:sizeOk (.seq ((items.toList.drop<|sIx items.size 0 lo).take<|sIx items.size items.size hi - sIx items.size 0 lo).toArray):=by
  show ((items.toList.drop<|sIx items.size 0 lo).take<|sIx items.size items.size hi - sIx items.size 0 lo).toArray.size<=sizeLine;rw[yw,yF,abD,yN];omega
 have hj:sIx items.size items.size hi<=items.size:=Ah _ _ (yj _) hi;obtain⟨os,LQ,S9,OO⟩:=id hs;have Xq:s.TypeIs (.ref sl) "slice":=#[os,LQ,S9];unfold getItem
 try with_reducible refine wpAny_holding ?_
 first|refine Du (Dv ?_)|skip
 refine Du (wpAny_sequenceKey ht.typeIs ac ?_);refine Du (wpAny_callSpecial?_slot (name:=Str.ofString "__getitem__") ht.typeIs aau
  (wpAny_call_entry aau ht.typeIs entry_tuple_getitem ?_<|args_tuple_getitem _ _))
 show wpAny _ _ (Builtin.Tuple.tupleItemsOf (.ref t)>>=_) _ _ s;refine Du<|tupleItemsOf_ ht ?_;refine Du<|wpAny_typeOf Xq ?_;rw[if_pos ac];refine Du<|kg hs pl pu ?_;have Fi:¬((((sIx items.size 0 lo:Nat):Int)==0&&(1:Int)==1&&(sIx items.size items.size hi - sIx items.size 0 lo)==items.size)=true):=by
  intro q;rw[QP,QP] at q;have q1:((sIx items.size 0 lo:Nat):Int)=0:=eq_of_beq q.1.1;have q2:sIx items.size items.size hi - sIx items.size 0 lo=items.size:=eq_of_beq q.2;exact hw #[by lia,by omega]
 show wpAny _ _ (if (((sIx items.size 0 lo:Nat):Int)==0&&(1:Int)==1&&(sIx items.size items.size hi - sIx items.size 0 lo)==items.size)=true then _ else _) _ _ s;rw[if_neg Fi,qA]
 first
  | exact Du (m:=Builtin.Tuple.tupleExact _) (wpAny_newObj_type (Dv ⟨_,rfl,Dv h⟩) EU)
  | exact Du (m:=Builtin.Tuple.tupleExact _) (wpAny_newObj_type (Du<|Dv<|Dv ⟨_,rfl,Dv h⟩) EU)
  | exact Du (Du (m:=Builtin.Tuple.tupleExact _)<|wpAny_newObj_type (Dv<|Dv ⟨_,rfl,Dv h⟩) EU)
  | exact Du (Du (m:=Builtin.Tuple.tupleExact _)<|wpAny_newObj_type (Dv ⟨_,rfl,Dv h⟩) EU)
end
end HT
namespace L2
open PySem PySem.Spec PyProof.Rows
variable {xs:List V}{us Dy D9:Dh}{n j t':Nat}{i:Int}{x y:V}{H:Hp}{Q:VK}{σ:St}{s:Shared}{p:Addr}{A:Around}{u v:Value}
abbrev TO:=St->Hp->(Option Int->Hp->Prop)->Prop
def PO (X:Cx) (e:Option Expr) (t:TO):Prop :=
 ∀(pins:De) (s:Shared) (σ:St) (H:Hp) (Q:Option Int->Hp->Prop),jp X pins σ H s->t σ H Q ->
  wpAny '%' X.A (evalPart e X.env) (λu s'=>∃o H',jp X pins σ H' s'/\IsPart u o/\Q o H') X.xe s
def wI:TO:=λ_ H Q=>Q none H
inductive oW (Q:Option Int->Hp->Prop) (x:V) (H1:Hp):Prop
 | mk (i:_) (h0:x=.int i) (h1:Q (some i) H1):oW Q x H1
def BF (t:TE):TO:=λσ H Q=>t σ H λx H1=>oW Q x H1
theorem eE {ns:List Int}:∀{us:Dh},jH (ns.map V.int) us->IntsAre us ns:=by
 induction ns with
 | nil=>intro us r;cases r;exact .nil
 | cons n ns ih =>
  intro us r;cases r with
  | cons r1 r2 =>
   obtain⟨t,e⟩:=r1;subst e;exact .cons n t (ih r2)
section
variable {X:Cx}{e:Expr}{te:TE}{lo hi:Option Expr}{tl th:TO}{pos p2:Pos}
theorem t8:PO X none wI:=by
 intro pins s σ H Q I h;rw[evalPart_none];exact Dv #[none,H,I,.none,h]
theorem t9 (h:PE X e te):PO X (some e) (BF te):=by
 intro pins s σ H Q I hw;rw[evalPart_some];refine jI (h pins s σ H _ I hw) λu s1 #[x,H1,I1,r1,q1]=>?_;obtain⟨i,rfl,q⟩:=q1;obtain⟨t,rfl⟩:=r1;exact#[some i,H1,I1,.int i t,q]
def wV (X:Cx) (r:V->Option Int->Option Int->Hp->VK->Prop):Prop :=
 ∀(pins:De) (s:Shared) (σ:St) (H:Hp) (x:V) (v vl vu:Value) (lo hi:Option Int) (sl:Addr) (Q:VK),jp X pins σ H s->jG x v->s.heap.IsSliceOf sl vl vu .none->IsPart vl lo->IsPart vu hi->r x lo hi H Q ->
  ∃T id,typeLookup (.type T) "__getitem__"=pure (some<|.builtin id)/\s.TypeIs v T/\wpAny '%' X.A (getItem v<|.ref sl) (EP X pins σ Q) X.xe s
def CS (r:V->Option Int->Option Int->Hp->VK->Prop) (te:TE) (tl th:TO):TE:=λσ H Q=>te σ H λx H1=>tl σ H1 λl H2=>th σ H2 λu H3=>r x l u H3 Q
theorem qy {r:V->Option Int->Option Int->Hp->VK->Prop} (hr:wV X r) (he:PE X e te) (hl:PO X lo tl) (hu:PO X hi th):PE X (.Subscript e (.Slice lo hi none p2) pos) (CS r te tl th):=by
 intro pins s σ H Q I h;refine Subscript_ (jI (he pins s σ H _ I h) λv s1 #[x,H1,I1,r1,q1]=>?_);refine wpAny_Slice (jI (hl pins s1 σ H1 _ I1 q1) λvl s2 #[l,H2,I2,pl,q2]=>jI (hu pins s2 σ H2 _ I2 q2) λvu s3 #[u,H3,I3,pu,q3]=>?_);rw[evalPart_none];refine Dv ?_;have I4:jp X pins σ H3 { s3 with heap:=s3.heap.push { cls:=.type "slice",data:=.fields (Yb [vl,vu,.none]) } }:=I3.kept (t':=s3.toks) λb ob q=>yf _ q;obtain⟨T,id,hT,ht,hg⟩:=hr pins { s3 with heap:=s3.heap.push { cls:=.type "slice",data:=.fields (Yb [vl,vu,.none]) } } σ H3 x v vl vu l u s3.heap.objs.size Q I4 r1 (Heap.IsSliceOf.new ..) pl pu q3;show wpAny '%' X.A (subscriptTail e (.Slice lo hi none p2) v<|.ref s3.heap.objs.size) (EP X pins σ Q) X.xe { s3 with heap:=s3.heap.push { cls:=.type "slice",data:=.fields (Yb [vl,vu,.none]) } };exact tail_any (ops:=[.ref s3.heap.objs.size,v]) ht hT hg (by with_unfolding_all rfl)
def Z8 (xs:List V) (lo hi:Option Int):List V:=(xs.drop<|HT.sIx xs.length 0 lo).take (HT.sIx xs.length xs.length hi - HT.sIx xs.length 0 lo)
theorem Gp (xs:List V) (lo hi:Option Int):(Z8 xs lo hi).length<=xs.length:=by
 unfold Z8;rw[yF,abD]
 lia
inductive sx (K:C9) (x:V) (lo:Option Int) (hi:Option Int) (H:Hp) (Q:VK):Prop
 | mk (a:_) (xs:_) (h0:x=.ref a) (h1:ju K H a xs) (h2:¬(HT.sIx xs.length 0 lo=0/\HT.sIx xs.length xs.length hi=xs.length)) (h3:∀p,H p=none->Q (.ref p) (upd H p<|.tup<|Z8 xs lo hi)):sx K x lo hi H Q
def Ch (K:C9):V->Option Int->Option Int->Hp->VK->Prop:=λx lo hi H Q=>sx K x lo hi H Q
theorem Al:wV X (Ch X.K):=by
 intro pins s σ H x v vl vu lo hi sl Q I rx hs pl pu h;obtain⟨a,xs,rfl,hx,hw,q⟩:=h;cases rx;obtain⟨Dy,r,ht,hz⟩:=I.tuple hx;have hlen:Dy.toArray.size=xs.length:=by rw[yw];exact r.length.symm
 refine#["tuple",_,PyProof.Rows.slot_tuple_getitem.lookup,ht.typeIs,?_];refine HT.getItem_tuple_cut ht hs pl pu (by rw[hlen];exact hw) ?_ (by rw[hlen];exact hz);rw[hlen];refine#[.ref s.heap.objs.size,_,I.laid (t':=s.toks) (o:=.tup<|Z8 xs lo hi) (λb ob q=>yf _ q) (yj _) ?_,rfl,q _<|I.hok.fresh<|yj _];exact#[yk (Gp xs lo hi) hz,_,(r.drop<|HT.sIx xs.length 0 lo).take<|HT.sIx xs.length xs.length hi - HT.sIx xs.length 0 lo,IsTup.new _ _]
def Bf (K:C9):R2:=λx y H Q=>∃a b xs ys,x=.ref a/\y=.ref b/\ju K H a xs/\ju K H b ys/\xs≠[]/\xs.length+ys.length<=sizeLine /\
 (ys=[]->Q (.ref a) H)/\(ys≠[]->∀p,H p=none->Q (.ref p) (upd H p<|.tup<|xs++ys))
theorem jH.nil_iff (r:jH xs us):us=[]↔xs=[]:=by
 cases r with
 | nil=>simp
 | cons _ _=>simp
theorem cR:uk X (binaryOp .Add) (Bf X.K):=by
 intro pins s σ H x y v u Q I rx ry h;obtain⟨a,b,xs,ys,rfl,rfl,ha,hb,hx,hz,q1,q2⟩:=h;cases rx;cases ry;obtain⟨Dy,r1,p1,_⟩:=I.tuple ha;obtain⟨DG,r2,p2,_⟩:=I.tuple hb;refine HT.cat_tup p1 p2 (λz=>hx<|r1.nil_iff.mp z) (λz=>#[.ref a,H,I,rfl,q1<|r2.nil_iff.mp z]) (λz=>?_) (by rw[<-r1.length,<-r2.length];exact hz);refine#[.ref s.heap.objs.size,_,I.laid (λb ob q=>yf _ q) (yj _) ?_,rfl,q2 (λw=>z<|r2.nil_iff.mpr w) _<|I.hok.fresh<|yj _];exact#[by grind,_,r1.append r2,IsTup.new _ _]
end
def Gs (n:Nat) (i:Int):Option Nat:=if 0<=i then (if i<n then some i.toNat else none) else if -(n:Int)<=i then some (i+n).toNat else none
def vG {α:Type} (xs:List α) (i:Int):Option α:=(Gs xs.length i).bind λj=>xs[j]?
theorem cD (h:Gs n i=some j):seqIndex? i n=some j/\j<n/\-(n:Int)<=i/\i<n:=by
 unfold Gs at h;by_cases h0:0<=i
 ·rw[if_pos h0] at h;by_cases h1:i<n
  ·rw[if_pos h1] at h;have e:=Yd h;exact#[by rw[seqIndex_of h0 h1,e],by lia,by lia,h1]
  ·rw[if_neg h1] at h;cases h
 ·rw[if_neg h0] at h;by_cases h1:-(n)<=i
  ·rw[if_pos h1] at h;have e:=Yd h;exact#[by rw[seqIndex_neg gt h1,e],by lia,h1,by lia]
  ·rw[if_neg h1] at h;cases h
theorem KM {α:Type}{xs:List α}{v:α} (h:vG xs i=some v):∃j,seqIndex? i xs.length=some j/\xs[j]?=some v/\j<xs.length/\-(xs.length:Int)<=i/\i<xs.length:=by
 unfold vG at h;cases e:Gs xs.length i with
 | none=>rw[e] at h;cases h
 | some j =>
  rw[e] at h;obtain⟨h1,h2,h3,h4⟩:=cD e;exact#[j,h1,h,h2,h3,h4]
theorem jX {α:Type}{xs:List α}{v:α} (h:xs[j]?=some v):vG xs (j:Int)=some v:=by
 have hj:=(yc.mp h).1;have e:Gs xs.length (j)=some j:=by
  unfold Gs;rw[if_pos gt,if_pos gt];simp
 unfold vG;rw[e];exact h
def sP (b:Expr):Prop:=∀o i,subscripted b false o i=operate [o,i] (getItem o i)
def rF (X:Cx) (r:R2):Prop :=
 ∀(value slice:Expr) (pins:De) (s:Shared) (σ:St) (H:Hp) (x y:V) (v u:Value) (Q:VK),jp X pins σ H s->jG x v->jG y u->r x y H Q ->
  subscripted slice false v u=operate [v,u] (getItem v u)->wpAny '%' X.A (subscriptTail value slice v u) (EP X pins σ Q) X.xe s
def wT (X:Cx) (id:String) (r:V->List V->Hp->VK->Prop):Prop :=
 ∀(pins:De) (s:Shared) (σ:St) (H:Hp) (x:V) (xs:List V) (v:Value) (us:Dh) (Q:VK),jp X pins σ H s->jG x v->jH xs us->r x xs H Q ->
  wpAny '%' X.A (call (.builtin id) (v::us)) (EP X pins σ Q) X.xe s
section
variable {X:Cx}{a b:Expr}{ta tb:TE}{pos:Pos}
theorem jo {r:R2} (hr:rF X r) (ha:PE X a ta) (hb:PE X b tb) (hs:autoParam (sP b) zzk):PE X (.Subscript a b pos) (ZU r ta tb):=by
 intro pins s σ H Q I h;exact Subscript_ (pL ha hb I h λv u s2 x y H2 I2 rx ry q=>hr a b pins s2 σ H2 x y v u Q I2 rx ry q<|hs _ _)
inductive si (K:C9) (x:V) (y:V) (H:Hp) (Q:VK):Prop
 | mk (p:_) (xs:_) (i:_) (v:_) (h0:x=.ref p) (h1:y=.int i) (h2:jj K H p xs) (h3:vG xs i=some v) (h4:Q v H):si K x y H Q
inductive sj (K:C9) (p:Addr) (i:Int) (H:Hp) (Q:VK):Prop
 | mk (xs:_) (v:_) (h2:jj K H p xs) (h3:vG xs i=some v) (h4:Q v H):sj K p i H Q
def aG (K:C9):R2:=λx y H Q=>match x,y with|.ref p,.int i=>sj K p i H Q|_,_=>False
theorem aG.out {K:C9} (h:aG K x y H Q):si K x y H Q:=by
 unfold aG at h
 split at h
 ·obtain⟨xs,v,h2,h3,h4⟩:=h;exact#[_,xs,_,v,rfl,rfl,h2,h3,h4]
 ·cases h
inductive sq (K:C9) (x:V) (y:V) (H:Hp) (Q:VK):Prop
 | mk (p:_) (xs:_) (i:_) (v:_) (h0:x=.ref p) (h1:y=.int i) (h2:ju K H p xs) (h3:vG xs i=some v) (h4:Q v H):sq K x y H Q
inductive su (K:C9) (p:Addr) (i:Int) (H:Hp) (Q:VK):Prop
 | mk (xs:_) (v:_) (h2:ju K H p xs) (h3:vG xs i=some v) (h4:Q v H):su K p i H Q
def gJ (K:C9):R2:=λx y H Q=>match x,y with|.ref p,.int i=>su K p i H Q|_,_=>False
theorem gJ.out {K:C9} (h:gJ K x y H Q):sq K x y H Q:=by
 unfold gJ at h
 split at h
 ·obtain⟨xs,v,h2,h3,h4⟩:=h;exact#[_,xs,_,v,rfl,rfl,h2,h3,h4]
 ·cases h
inductive sn (x:V) (y:V) (H:Hp) (Q:VK):Prop
 | mk (z:_) (i:_) (c:_) (h0:x=.str z) (h1:y=.int i) (h2:z.length<=sizeLine) (h3:vG z.cps.toList i=some c) (h4:Q (.str ⟨(Yb [c])⟩) H):sn x y H Q
def Ce:R2:=λx y H Q=>sn x y H Q
theorem jx {K:C9} (hK:autoParam (X.K=K) zze):rF X (aG K):=by
 subst hK;intro value slice pins s σ H x y v u Q I rx ry h hs;obtain⟨p,xs,i,z,rfl,rfl,hq,he,q⟩:=aG.out h;cases rx;obtain⟨t,rfl⟩:=ry;obtain⟨Dy,r,pl,hz⟩:=I.list hq;obtain⟨j,h1,h2,h3,h4,h5⟩:=KM he;obtain⟨w,ew,DY⟩:=r.get h2;have hl:=r.length;have hn:=zW;have fin:EP X pins σ Q w s:=#[z,H,I,DY,q];by_cases h0:0<=i
 ·have hj:=by
   rw[seqIndex_of h0 h5] at h1;exact Yd h1
  exact item_listR pl.isList h0 gt (by rw[hj];simpa using ew) fin hs
 ·have hj:(i+(Dy.toArray.size)).toNat=j:=by
   rw[seqIndex_neg gt h4] at h1;rw[yw,<-hl];exact Yd h1
  exact subscriptTail_builtinR pl.isList.typeIs slot_list_getitem.lookup
   (wpAny_getItem_list_neg pl.isList gt (by grind) gt (by rw[hj];simpa using ew) #[rfl,fin]) hs
theorem jz {K:C9} (hK:autoParam (X.K=K) zze):rF X (gJ K):=by
 subst hK;intro value slice pins s σ H x y v u Q I rx ry h hs;obtain⟨p,xs,i,z,rfl,rfl,hq,he,q⟩:=gJ.out h;cases rx;obtain⟨t,rfl⟩:=ry;obtain⟨Dy,r,pl,hz⟩:=I.tuple hq;obtain⟨j,h1,h2,h3,h4,h5⟩:=KM he;obtain⟨w,ew,DY⟩:=r.get h2;have hl:=r.length;have hn:=zW;have fin:EP X pins σ Q w s:=#[z,H,I,DY,q];exact subscriptTail_builtinR pl.typeIs slot_tuple_getitem.lookup
  (getItem_tuple (j:=j) pl gt gt (by grind) (by simpa using ew) #[rfl,fin]) hs
theorem xr:rF X Ce:=by
 intro value slice pins s σ H x y v u Q I rx ry h hs;obtain⟨z,i,c,rfl,rfl,hz,he,q⟩:=h;obtain⟨t,rfl⟩:=rx;obtain⟨t',rfl⟩:=ry;obtain⟨j,h1,h2,h3,h4,h5⟩:=KM he;have hl:z.cps.toList.length=z.length:=by simp [Str.length]
 rw[hl] at h1 h4 h5;have hn:=zW;exact tail_any (typeIs_str s z t) slot_str_getitem.lookup (getItem_str (by
  grind) (by rw[h1];simpa using h2) #[.str _,H,I.tok _,#[_,rfl],q]) hs
theorem fi (Dy:Dh) (n j:Nat) (u:Value):Obj.mapSeq (·.setIfInBounds j u) { cls:=.type "list",data:=.seq Dy.toArray n }={ cls:=.type "list",data:=.seq (Dy.set j u).toArray n }:=by
 simp [Obj.mapSeq]
theorem jp.lst {pins:De}{σ:St}{H:Hp}{s:Shared}{p:Addr}{xs:List V} (I:jp X pins σ H s) (h:H p=some (.lst xs)) :
  ∃(Dy:Dh) (n:Nat),jH xs Dy/\s.heap.get? p=some { cls:=.type "list",data:=.seq Dy.toArray n }/\xs.length<=sizeLine:=by
 obtain⟨z,Dy,n,r,e⟩:=I.hok p _ h;exact#[Dy,n,r,e,z]
theorem jp.lstUpd {pins:De}{ys:List V}{n':Nat}{f:Obj->Obj} (I:jp X pins σ H s) (h:H p=some (.lst xs))
  (ho:s.heap.get? p=some { cls:=.type "list",data:=.seq Dy.toArray n }) (hf:f { cls:=.type "list",data:=.seq Dy.toArray n }={ cls:=.type "list",data:=.seq D9.toArray n' }) (r:jH ys D9) (hz:ys.length<=sizeLine) (t:Nat) :
  jp X pins σ (upd H p<|.lst ys) { s with heap:=s.heap.update p f,toks:=t }:=by
 have e:(s.heap.update p f).get? p=some { cls:=.type "list",data:=.seq D9.toArray n' }:=by
  rw[yY f ho (by rw[hf]<;>rfl),hf]
 refine I.write (x:=p) (e:=p) (by rw[h];trivial) (.inl rfl) (λb u hb q=>(yK _ _<|yV hb).trans q) #[_,e] ?_;exact#[hz,D9,n',r,e]
inductive ou (o:V) (i:V) (v:V) (H:Hp) (Q:Hp->Prop):Prop
 | mk (p:_) (xs:_) (k:_) (j:_) (h0:o=.ref p) (h1:i=.int k) (h2:H p=some (.lst xs)) (h3:Gs xs.length k=some j) (h4:Q (upd H p<|.lst<|xs.set j v)):ou o i v H Q
def Bg:V->V->V->Hp->(Hp->Prop)->Prop:=λo i v H Q=>ou o i v H Q
theorem qS:wU X Bg:=by
 intro pins s σ H o i v ov iv u Q I ro ri rv h;obtain⟨p,xs,k,j,rfl,rfl,hp,hj,q⟩:=h;cases ro;obtain⟨t,rfl⟩:=ri;obtain⟨Dy,n,r,ho,hz⟩:=I.lst hp;obtain⟨h1,h2,h3,h4⟩:=cD hj;have hl:=r.length;have hn:=zW;have I':jp X pins σ (upd H p<|.lst<|xs.set j v) { s with heap:=s.heap.update p (Obj.mapSeq (·.setIfInBounds j u)) } :=
  I.lstUpd hp ho (fi Dy n j u) (r.set rv j) (by rw[aap];exact hz) s.toks
 by_cases h0:0<=k
 ·have hk:k.toNat=j:=by
   rw[seqIndex_of h0 h4] at h1;exact Yd h1
  exact PySem.W.ki_setAt ho h0 gt (by rw[yw,<-hl];exact h4) (by rw[hk];exact#[_,I',q])
 ·have hk:(k+(Dy.toArray.size:Int)).toNat=j:=by
   rw[seqIndex_neg gt h3] at h1;rw[yw,<-hl];exact Yd h1
  exact PySem.W.ki_setBack ho gt (by rw[yw,<-hl];exact h3) gt (by rw[hk];exact#[_,I',q])
theorem aL (lo hi:Option Int) (n:Nat):(sliceBounds lo hi none n).1=((HT.sIx n 0 lo:Nat):Int)/\(sliceBounds lo hi none n).2.1=((HT.sIx n n hi:Nat):Int)/\(sliceBounds lo hi none n).2.2=1:=by
 refine#[?_,?_,rfl]
 ·cases lo with
  | none=>simp [sliceBounds,HT.sIx]
  | some i =>
   simp only[sliceBounds,HT.sIx,if_true];by_cases h:i<0
   ·grind
   ·grind
 ·cases hi with
  | none=>simp [sliceBounds,HT.sIx]
  | some i =>
   simp only[sliceBounds,HT.sIx,if_true];by_cases h:i<0
   ·grind
   ·grind
theorem MR (Dy:Dh) (lo hi:Option Int):slicePick Dy.toArray lo hi none=((Dy.drop<|HT.sIx Dy.length 0 lo).take<|HT.sIx Dy.length Dy.length hi - HT.sIx Dy.length 0 lo).toArray:=by
 obtain⟨h1,h2,h3⟩:=aL lo hi Dy.toArray.size;unfold slicePick;rw[h1,h2,h3];simp only[sliceRange_one,pick_run,yw]<;>rfl
inductive sw (K:C9) (x:V) (lo:Option Int) (hi:Option Int) (H:Hp) (Q:VK):Prop
 | mk (a:_) (xs:_) (h0:x=.ref a) (h1:jj K H a xs) (h2:∀p,H p=none->Q (.ref p) (upd H p<|.lst<|Z8 xs lo hi)):sw K x lo hi H Q
def Cg (K:C9):V->Option Int->Option Int->Hp->VK->Prop:=λx lo hi H Q=>sw K x lo hi H Q
theorem Ct {K:C9} (hK:autoParam (X.K=K) zze):wV X (Cg K):=by
 subst hK;intro pins s σ H x v vl vu lo hi sl Q I rx hs pl pu h;obtain⟨a,xs,rfl,hx,q⟩:=h;cases rx;obtain⟨Dy,r,ht,hz⟩:=I.list hx;have hlen:=r.length;refine#["list",_,slot_list_getitem.lookup,ht.isList.typeIs,?_];refine wpAny_getItem_list_slice ht.isList hs pl pu .none on ?_ (by grind);rw[MR,<-hlen];refine#[.ref s.heap.objs.size,_,I.laid (λb ob q=>yf _ q) (yj _) ?_,rfl,q _<|I.hok.fresh<|yj _];exact#[yk (Gp xs lo hi) hz,_,0,(r.drop _).take _,yt _ rfl]
def zl:V->Bool
 | .non=>true
 | .bl _=>true
 | .int _=>true
 | .str _=>true
 | _=>false
def Gq:V->V->Bool
 | .non,.non=>true
 | .bl a,.bl b=>a==b
 | .bl a,.int b=>(if a then 1 else 0)==b
 | .int a,.bl b=>a==(if b then 1 else 0)
 | .int a,.int b=>a==b
 | .str a,.str b=>a==b
 | _,_=>false
theorem xc (ry:jG y u) (rx:jG x v) (fy:zl y=true) (fx:zl x=true):SeqAt.EqAt A s u v (Gq y x):=by
 cases y with
 | non =>
  cases ry;cases x with
  | non=>cases rx;exact SeqAt.EqAt.same _
  | bl b=>cases rx;exact SeqAt.EqAt.none_bool b
  | int b=>obtain⟨t,rfl⟩:=rx;exact SeqAt.EqAt.none_int b t
  | str b=>obtain⟨t,rfl⟩:=rx;exact SeqAt.EqAt.none_str b t
  | _=>exact absurd (fx) yJ
 | bl a =>
  cases ry;cases x with
  | non=>cases rx;exact SeqAt.EqAt.bool_none a
  | bl b=>cases rx;exact SeqAt.EqAt.bool_bool a b
  | int b=>obtain⟨t,rfl⟩:=rx;exact SeqAt.EqAt.bool_int a b t
  | str b=>obtain⟨t,rfl⟩:=rx;exact SeqAt.EqAt.bool_str a b t
  | _=>exact absurd (fx) yJ
 | int a =>
  obtain⟨t',rfl⟩:=ry;cases x with
  | non=>cases rx;exact SeqAt.EqAt.int_none a t'
  | bl b=>cases rx;exact SeqAt.EqAt.int_bool a t' b
  | int b=>obtain⟨t,rfl⟩:=rx;exact SeqAt.EqAt.int_int a t' b t
  | str b=>obtain⟨t,rfl⟩:=rx;exact SeqAt.EqAt.int_str a t' b t
  | _=>exact absurd (fx) yJ
 | str a =>
  obtain⟨t',rfl⟩:=ry;cases x with
  | non=>cases rx;exact SeqAt.EqAt.str_none a t'
  | bl b=>cases rx;exact SeqAt.EqAt.str_bool a t' b
  | int b=>obtain⟨t,rfl⟩:=rx;exact SeqAt.EqAt.str_int a t' b t
  | str b=>obtain⟨t,rfl⟩:=rx;exact SeqAt.EqAt.str_str a t' b t
  | _=>exact absurd (fx) yJ
 | _=>exact absurd (fy) yJ
def iz (x:V) (u:Value):Bool:=match u with
 | .none=>Gq .non x
 | .bool b=>Gq (.bl b) x
 | .int i _=>Gq (.int i) x
 | .str z _=>Gq (.str z) x
 | _=>false
theorem iA (r:jG y u) (f:zl y=true):iz x u=Gq y x:=by
 cases y with
 | non=>cases r;rfl
 | bl b=>cases r;rfl
 | int i=>obtain⟨t,rfl⟩:=r;rfl
 | str z=>obtain⟨t,rfl⟩:=r;rfl
 | _=>exact absurd (f) yJ
theorem ca:∀{xs:List V} {us:Dh},jH xs us->xs.all zl=true->us.any (iz x)=xs.any λy=>Gq y x:=by
 intro _ _ h f
 induction h with
 | nil=>rfl
 | cons r t ih =>
  rw[abO,QP] at f;rw[aah,aah,iA r f.1,ih f.2]
theorem NS (rx:jG x v) (fx:zl x=true):∀{xs:List V} {us:Dh},jH xs us->xs.all zl=true->∀u∈us,SeqAt.EqAt A s u v (iz x u):=by
 intro _ _ h f
 induction h with
 | nil=>exact λu hu=>nomatch hu
 | cons r t ih =>
  intro u' hu;rw[abO,QP] at f;rcases yD.mp hu with rfl|hu
  ·rw[iA r f.1];exact xc r rx f.1 fx
  ·exact ih f.2 u' hu
def mS (x:V) (xs:List V):Bool:=xs.any λy=>Gq y x
inductive Ac (K:C9) (neg:Bool) (x:V) (y:V) (H:Hp) (Q:VK):Prop
 | mk (p:_) (xs:_) (h0:y=.ref p) (h1:(jj K H p xs\/ju K H p xs)) (h2:zl x=true) (h3:xs.all zl=true) (h4:Q (.bl (if neg then !mS x xs else mS x xs)) H):Ac K neg x y H Q
def CI (K:C9) (neg:Bool):R2:=λx y H Q=>Ac K neg x y H Q
theorem Me:uk X (compareOp .In) (CI X.K false):=by
 intro pins s σ H x y v u Q I rx ry h;obtain⟨p,xs,rfl,hq,fx,fs,q⟩:=h;cases ry;rcases hq with hq|hq
 ·obtain⟨Dy,r,pl,hz⟩:=I.list hq;refine SeqAt.in_listAt _ pl.isList (λw hw=>NS rx fx r fs w (by simpa using hw)) #[.bl _,H,I,rfl,?_];rw[show Dy.toArray.any _=Dy.any (iz x) by simp,ca r fs];exact q
 ·obtain⟨Dy,r,pl,hz⟩:=I.tuple hq;refine SeqAt.in_tupleAt _ pl (λw hw=>NS rx fx r fs w (by simpa using hw)) #[.bl _,H,I,rfl,?_];rw[show Dy.toArray.any _=Dy.any (iz x) by simp,ca r fs];exact q
theorem jW {K:C9} (hK:autoParam (X.K=K) zze):Jr X (.builtin "len") (λxs H Q=>E2 λp ys=>A3 (xs=[.ref p]) (jj K H p ys\/ju K H p ys)<|Q (.int ys.length) H):=by
 subst hK;intro pins s σ H xs us Q I r h;obtain⟨p,ys,rfl,hq,q⟩:=h;obtain⟨u,rfl,rx⟩:=uj r;cases rx;have hn:=zW;rcases hq with hq|hq
 ·obtain⟨Dy,r',pl,hz⟩:=I.list hq;have hlen:=r'.length;exact Calls.call_len_list pl.isList (by grind) #[.int ys.length,H,I.tok _,#[_,by rw[yw,hlen]],q]
 ·obtain⟨Dy,r',pl,hz⟩:=I.tuple hq;have hlen:=r'.length;exact len_tuple pl (by grind) #[.int ys.length,H,I.tok _,#[_,by rw[yw,hlen]],q]
theorem nP:Jr X (.builtin "len") (λxs H Q=>∃z,A3 (xs=[.str z]) (z.length<=sizeLine)<|Q (.int z.length) H):=by
 intro pins s σ H xs us Q I r h;obtain⟨z,rfl,hz,q⟩:=h;obtain⟨u,rfl,t,rfl⟩:=uj r;have hn:=zW;exact len_str gt #[.int z.length,H,I.tok _,#[_,rfl],q]
theorem VT:Jr X (.type "list") (λxs H Q=>E2 λp ys=>A3 (xs=[.ref p]) (jj X.K H p ys\/ju X.K H p ys) (∀l,H l=none->Q (.ref l) (upd H l<|.lst ys))):=by
 intro pins s σ H xs us Q I r h;obtain⟨p,ys,rfl,hq,q⟩:=h;obtain⟨u,rfl,rx⟩:=uj r;cases rx;have fin:∀(Dy:Dh),jH ys Dy->ys.length<=sizeLine->∀(h':Heap) (c':Nat),(∀b o',s.heap.get? b=some o'->h'.get? b=some o') ->
   h'.get? s.heap.objs.size=some _->EP X pins σ Q _ _:=λDy r' hz h' c' kp e =>
  #[.ref s.heap.objs.size,_,I.laid (t':=s.toks) kp (yj _) (show JZ X.prog X.w _ h' _ (.lst ys) from#[hz,Dy,c',r',e]),rfl,q _<|I.hok.fresh<|yj _]
 rcases hq with hq|hq
 ·obtain⟨Dy,r',pl,hz⟩:=I.list hq;have hlen:=r'.length;obtain⟨o,ho,hc,n,hd⟩:=pl.isList;exact call_list_seq p (.inl rfl) ho hc hd (λh' c' kp e=>fin Dy r' hz h' c' kp e) (by grind)
 ·obtain⟨Dy,r',pl,hz⟩:=I.tuple hq;have hlen:=r'.length;obtain⟨o,ho,hc,n,hd⟩:=pl;exact call_list_seq p (.inr rfl) ho hc hd (λh' c' kp e=>fin Dy r' hz h' c' kp e) (by grind)
theorem vg:Jr X (.type "tuple") (λxs H Q=>E2 λp ys=>xs=[.ref p]/\((jj X.K H p ys/\∀l,H l=none->Q (.ref l) (upd H l<|.tup ys))\/(ju X.K H p ys/\Q (.ref p) H))):=by
 intro pins s σ H xs us Q I r h;obtain⟨p,ys,rfl,h⟩:=h;obtain⟨u,rfl,rx⟩:=uj r;cases rx;rcases h with ⟨hq,q⟩|⟨hq,q⟩
 ·obtain⟨Dy,r',pl,hz⟩:=I.list hq;have hlen:=r'.length;refine call_tuple_list pl.isList (λh' kp=>?_) (by grind);have I1:=I.kept (t':=s.toks) kp;have I2 :=
   I1.laid (t':=s.toks) (λb o e=>yf _ e) (yj _) (show JZ X.prog X.w _ _ _ (.tup ys) from#[hz,Dy,r',IsTup.new _ _])
  exact#[.ref h'.objs.size,_,I2,rfl,q _<|I1.hok.fresh<|yj _]
 ·obtain⟨Dy,r',pl,hz⟩:=I.tuple hq;exact call_tuple_same pl #[.ref p,H,I,rfl,q]
def AL (K:C9) (T:String) (x:V) (H:Hp):Prop:=match x with
 | .str _=>T="str"
 | .int _=>T="int"
 | .ref p=>(T="list"/\∃xs,jj K H p xs)\/(T="tuple"/\∃o,K.lookup p=some o/\o.cls=.type "tuple"/\o.dict=none) \/
   (T="dict"/\((∃Dx,H p=some (.dK Dx))\/∃Dx,H p=some (.dT Dx)))\/(T="set"/\∃S n,H p=some (.set S n))
 | _=>False
theorem ph {pins:De}{T:String} (I:jp X pins σ H s) (r:jG x v) (ty:AL X.K T x H) :
  s.TypeIs v T/\∀a,v=.ref a->∃ob,s.heap.get? a=some ob/\ob.dict=none:=by
 cases x with
 | str z =>
  obtain⟨t,rfl⟩:=r;cases (ty);exact#[typeIs_str s z t,λ_ e=>nomatch e]
 | int i =>
  obtain⟨t,rfl⟩:=r;cases (ty);exact#[typeIs_int s i t,λ_ e=>nomatch e]
 | ref p =>
  cases r;rcases ty with ⟨rfl,xs,hq⟩|⟨rfl,o,hk,hc,hd⟩|⟨rfl,hk⟩|⟨rfl,S,n,hk⟩
  ·obtain⟨Dy,_,pl,_⟩:=I.list hq;refine#[pl.isList.typeIs,λa e=>?_];cases e;obtain⟨o,n,e,c,hd,_⟩:=pl;exact#[o,e,hd]
  ·refine#[#[o,I.kIn p o hk,hc],λa e=>?_];cases e;exact#[o,I.kIn _ o hk,hd]
  ·have z:∃o,s.heap.get? p=some o/\o.ExactDict:=by
    rcases hk with ⟨Dx,hk⟩|⟨Dx,hk⟩
    ·obtain⟨_,_,_,_,o,_,_,e,ex,_⟩:=I.hok p _ hk;exact#[o,e,ex]
    ·obtain⟨_,_,_,_,o,_,_,e,ex,_⟩:=I.hok p _ hk;exact#[o,e,ex]
   obtain⟨o,e,ex⟩:=z;refine#[#[o,e,ex.1],λa e2=>?_];cases e2;exact#[o,e,ex.2.1]
  ·obtain⟨o,_,_,_,e,ex,_⟩:=I.hok p _ hk;refine#[#[o,e,ex.1],λa e2=>?_];cases e2;exact#[o,e,ex.2.1]
 | _=>exact Yv ty
inductive sE (K:C9) (T:String) (r:V->List V->Hp->VK->Prop) (Q:VK) (x:V) (H1:Hp):Prop
 | mk  (h0:AL K T x H1) (h1:r x [] H1 Q):sE K T r Q x H1
def Cl (K:C9) (T:String) (r:V->List V->Hp->VK->Prop) (to:TE):TE:=λσ H Q=>to σ H λx H1=>sE K T r Q x H1
inductive AB (K:C9) (T:String) (r:V->List V->Hp->VK->Prop) (t:TA) (σ:St) (Q:VK) (x:V) (H1:Hp):Prop
 | mk  (h0:AL K T x H1) (h1:t σ H1 λxs H2=>r x xs H2 Q):AB K T r t σ Q x H1
def CM (K:C9) (T:String) (r:V->List V->Hp->VK->Prop) (to:TE) (t:TA):TE:=λσ H Q=>to σ H λx H1=>AB K T r t σ Q x H1
variable {o e:Expr}{es:Dp}{to:TE}{t:TA}{name:Str}{apos Eu:Pos}{T id:String}{r:V->List V->Hp->VK->Prop}
theorem xQ {K:C9} (pa:PlainAttrs T) (slot:Slot T name id) (PU:typeOf (.builtin id)=pure (.type "method_descriptor")) (hm:wT X id r) (ho:PE X o to)
  (Fv:autoParam (attributeBase o name X.env (eval o X.env)=eval o X.env) Fk) (Ew:autoParam ((apos.endLine==Eu.line)=true) Fk) (hK:autoParam (X.K=K) zze):PE X (.Call (.Attribute o name apos) [] [] Eu) (Cl K T r to):=by
 subst hK;intro pins s σ H Q I h;refine wpAny_Call_method0_late Fv Ew (jI (ho pins s σ H _ I h) λv s1 hh=>?_);obtain⟨x,H1,I1,r1,ty,q1⟩:=hh;obtain⟨h1,h2⟩:=ph I1 r1 ty;exact#[T,id,pa,slot,PU,h1,h2,Calls.callWith_builtin rfl<|PySem.evalArgs_none<|hm pins s1 σ H1 x _ v _ Q I1 r1 .nil q1]
theorem j3 {K:C9} (pa:PlainAttrs T) (slot:Slot T name id) (PU:typeOf (.builtin id)=pure (.type "method_descriptor")) (hm:wT X id r) (ho:PE X o to) (ha:PA X (e::es) t)
  (Fv:autoParam (attributeBase o name X.env (eval o X.env)=eval o X.env) Fk)
  (PV:autoParam (((backTo Eu<|starEach (e::es) X.env).all (λx=>!x.1)&&(backToKw Eu<|keywordEach [] X.env).all (λx=>x.1.isSome)
   && decide ((e::es).length+([]:List Keyword).length+(if ([]:List Keyword).isEmpty then 0 else 1)<30))=true) Fk)
  (Ew:autoParam ((apos.endLine==Eu.line)=true) Fk) (hs:autoParam (starEach (e::es) X.env=(false,eval e X.env)::starEach es X.env) Fk) (hplain:autoParam ((backTo Eu<|starEach es X.env).any (·.1)=false) Fk) (hK:autoParam (X.K=K) zze) :
  PE X (.Call (.Attribute o name apos) (e::es) [] Eu) (CM K T r to t):=by
 subst hK;intro pins s σ H Q I h;refine wpAny_Call_method_late Fv PV Ew rfl (jI (ho pins s σ H _ I h) λv s1 hh=>?_);obtain⟨x,H1,I1,r1,ty,q1⟩:=hh;obtain⟨h1,h2⟩:=ph I1 r1 ty;refine#[T,id,pa,slot,PU,h1,h2,?_];have hA:=ha Eu pins s1 σ H1 _ I1 q1;rw[hs] at hA ⊢;refine Calls.callWith_builtin (by grind)<|Calls.evalArgs_plain ?_;exact jI hA λus s2 #[vs,H2,I2,r2,q2]=>hm pins s2 σ H2 x vs v us Q I2 r1 r2 q2
end
def ZL (X:Cx) (id:String) (r:V->List V->Hp->VK->Prop):Prop :=
 ∀(pins:De) (s:Shared) (σ:St) (H:Hp) (x:V) (xs:List V) (v:Value) (us:Dh) (Q:VK),jp X pins σ H s->jG x v->jH xs us->r x xs H Q ->
  wpAny '%' X.A (call (.builtin id) (v::us)) (EP X pins σ Q) X.xe s
theorem jH.one:∀{x:V} {us:Dh},jH [x] us->∃u,us=[u]/\jG x u:=λ{_ _} h=>by
 cases h with
 | cons r t=>cases t;exact#[_,rfl,r]
theorem jH.eraseIdx:∀{xs:List V} {us:Dh} (i:Nat),jH xs us->jH (xs.eraseIdx i) (us.eraseIdx i)
 | _,_,_,.nil=>.nil
 | _,_,0,.cons _ t=>t
 | _,_,i+1,.cons r t=>.cons r (jH.eraseIdx i t)
theorem jH.rep (h:jH xs us):∀k:Nat,jH (Ye k xs).flatten (Ye k us).flatten
 | 0=>.nil
 | k+1=>by
  exact jH.append h (jH.rep h k)
theorem mP (Dy:Dh):∀(k:Nat) (acc:Dh),
  List.foldl (λx1 x2=>x1++x2) acc.toArray (Ye k Dy.toArray)=(acc++(Ye k Dy).flatten).toArray
 | 0,acc=>by simp
 | k+1,acc=>by
  have e:acc.toArray++Dy.toArray=(acc++Dy).toArray:=by simp
  have e2:(acc++Dy)++(Ye k Dy).flatten=acc++(Ye (k+1) Dy).flatten:=by
   grind
  rw[<-e2,<-mP Dy k _,<-e,aax,aar]
section
variable {X:Cx}{pins:De}{σ:St}{H:Hp}{s:Shared}{l b:Addr}{xs ys zs:List V}
theorem jp.lset {f:Array Value->Array Value} (I:jp X pins σ H s) (hH:H l=some (.lst xs))
  (e:s.heap.get? l=some { cls:=.type "list",data:=.seq Dy.toArray n }) (hf:f Dy.toArray=D9.toArray) (hv:jH ys D9) (hz:ys.length<=sizeLine) :
  jp X pins σ (upd H l<|.lst ys) { s with heap:=s.heap.update l<|Obj.mapSeq f,toks:=t' }:=by
 have q:=PySem.IsL.update e f;rw[hf] at q;refine I.write (by rw[hH];exact trivial) (.inl rfl) (λb' u hb hu=>(yK s.heap _<|yV hb).trans hu) #[_,q] ?_;exact#[hz,D9,_,hv,q]
theorem jp.lnew (I:jp X pins σ H s) (hv:jH ys Dy) (hz:ys.length<=sizeLine) :
  jp X pins σ (upd H s.heap.objs.size<|.lst ys) { s with heap:=s.heap.push { cls:=.type "list",data:=.seq Dy.toArray },toks:=t' } :=
 I.laid (λ_ _ q=>yf _ q) (yj _) #[hz,Dy,0,hv,yt _ rfl]
theorem jp.fresh (I:jp X pins σ H s):H s.heap.objs.size=none:=I.hok.fresh (yj _)
theorem jp.lstM (I:jp X pins σ H s) (hH:H l=some (.lst xs)):xs.length<=sizeLine/\∃(Dy:Dh) (n:Nat),jH xs Dy/\xs.length=Dy.length/\s.heap.get? l=some { cls:=.type "list",data:=.seq Dy.toArray n }:=by
 obtain⟨z,Dy,n,r,e⟩:=I.hok l _ hH;exact#[z,Dy,n,r,r.length,e]
theorem aa (h:n<=sizeLine):Builtin.List.listTooLong n=false:=by
 exact decide_eq_false gt
end
section
variable {X:Cx}
inductive aF (x:V) (vs:List V) (H:Hp) (Q:VK):Prop
 | mk (l:_) (xs:_) (y:_) (h0:x=.ref l) (h1:vs=[y]) (h2:H l=some (.lst xs)) (h3:xs.length<sizeLine) (h4:Q .non (upd H l<|.lst<|xs++[y])):aF x vs H Q
def wg:V->List V->Hp->VK->Prop:=λx vs H Q=>aF x vs H Q
theorem Jb:ZL X "list.append" wg:=by
 intro pins s σ H x vs v us Q I rx rv h;obtain⟨l,xs,y,rfl,rfl,hH,hz,q⟩:=h;cases rx;obtain⟨u,rfl,ru⟩:=rv.one;obtain⟨z,Dy,n,r,hl,e⟩:=I.lstM hH;refine call_meets F.slot_list_append #[_,e,rfl] F.entry_list_append (F.args_list_append_2 _ _) (PySem.list_append l Dy.toArray n u (by rw[yw];lia)) #[e,?_];refine#[.non,_,I.lset hH e on (r.append<|.cons ru .nil) ?_,rfl,q];rw[yg,aba]
 lia
def wj:V->List V->Hp->VK->Prop:=λx vs H Q=>∃l b xs zs,x=.ref l/\vs=[.ref b]/\H l=some (.lst xs)/\H b=some (.lst zs)/\xs.length+zs.length<=sizeLine/\Q .non (upd H l<|.lst<|xs++zs)
theorem lG:ZL X "list.extend" wj:=by
 intro pins s σ H x vs v us Q I rx rv h;obtain⟨l,b,xs,zs,rfl,rfl,hH,hB,hz,q⟩:=h;cases rx;obtain⟨u,rfl,ru⟩:=rv.one;cases ru;obtain⟨z,Dy,n,r,hl,e⟩:=I.lstM hH;obtain⟨z2,DG,n2,r2,F1,e2⟩:=I.lstM hB;have hsz:Dy.toArray.size+DG.toArray.size<=sizeLine:=by grind
 have Fw:¬(!Dy.toArray.isEmpty&&Builtin.List.listTooLong (Dy.toArray.size+DG.toArray.size))=true:=by
  rw[aa hsz,aaT];exact yJ
 refine call_meets F.slot_list_extend #[_,e,rfl] F.entry_list_extend (F.args_list_extend_2 _ _)
  (AutoSeq1.list_extend_list_list_0 l Dy.toArray n b DG.toArray n2 Fw gt gt) #[e,e2,?_]
 refine#[.non,_,I.lset hH e on (r.append r2) ?_,rfl,q];rw[yg];omega
def Af:V->List V->Hp->VK->Prop:=λx vs H Q=>∃l xs i k y,x=.ref l/\vs=[.int i]/\H l=some (.lst xs)/\-(2^63)<=i/\i<2^63/\seqIndex? i xs.length=some k/\xs[k]?=some y/\Q y (upd H l<|.lst<|xs.eraseIdx k)
theorem qo:ZL X "list.pop" Af:=by
 intro pins s σ H x vs v us Q I rx rv h;obtain⟨l,xs,i,k,y,rfl,rfl,hH,h1,h2,hk,hy,q⟩:=h;cases rx;obtain⟨u,rfl,ru⟩:=rv.one;obtain⟨t,rfl⟩:=ru;obtain⟨z,Dy,n,r,hl,e⟩:=I.lstM hH;obtain⟨w,hw,DY⟩:=r.get hy;refine call_meets F.slot_list_pop #[_,e,rfl] F.entry_list_pop (F.args_list_pop_2 _ _)
  (MeetsSeq.list_pop_at l Dy.toArray n i t k w (fitsIndex_both h1 h2) (by grind) (by grind) (by rw[yw];lia)) #[e,?_]
 refine#[y,_,I.lset hH e ?_ (r.eraseIdx k) ?_,DY,q]
 ·grind
 ·grind
inductive sg (x:V) (y:V) (H:Hp) (Q:VK):Prop
 | mk (l:_) (b:_) (xs:_) (zs:_) (h0:x=.ref l) (h1:y=.ref b) (h2:H l=some (.lst xs)) (h3:H b=some (.lst zs)) (h4:xs.length+zs.length<=sizeLine) (h5:∀p,H p=none->Q (.ref p) (upd H p<|.lst<|xs++zs)):sg x y H Q
def xZ:R2:=λx y H Q=>sg x y H Q
theorem uL:uk X (binaryOp .Add) xZ:=by
 intro pins s σ H x y v u Q I rx ry h;obtain⟨l,b,xs,zs,rfl,rfl,hH,hB,hz,q⟩:=h;cases rx;cases ry;obtain⟨z,Dy,n,r,hl,e⟩:=I.lstM hH;obtain⟨z2,DG,n2,r2,F1,e2⟩:=I.lstM hB;refine PySem.P.add_list e e2 ?_ (by grind);have ea:Dy.toArray++DG.toArray=(Dy++DG).toArray:=by simp
 rw[ea];exact#[.ref _,_,I.lnew (r.append r2) (by rw[yg];omega),rfl,q _ I.fresh]
inductive sv (x:V) (y:V) (H:Hp) (Q:VK):Prop
 | mk (l:_) (k:_) (xs:_) (h0:x=.ref l) (h1:y=.int k) (h2:H l=some (.lst xs)) (h3:-(2^63)<=k) (h4:k<2^63) (h5:xs.length*k.toNat<=sizeLine) (h6:∀p,H p=none->Q (.ref p) (upd H p<|.lst (Ye k.toNat xs).flatten)):sv x y H Q
def Cf:R2:=λx y H Q=>sv x y H Q
theorem tG {α:Type} (xs:List α) (k:Nat):(Ye k xs).flatten.length=k*xs.length:=by
 simp_all
theorem xP:uk X (binaryOp .Mult) Cf:=by
 intro pins s σ H x y v u Q I rx ry h;obtain⟨l,k,xs,rfl,rfl,hH,h1,h2,hz,q⟩:=h;cases rx;obtain⟨t,rfl⟩:=ry;obtain⟨z,Dy,n,r,hl,e⟩:=I.lstM hH;have hlen:Dy.toArray.size*k.toNat<=sizeLine:=by grind
 have PX:¬Dy.toArray.size*k.toNat > (2^63 - 1) / 8:=by
  have:(sizeLine)<=(2^63 - 1) / 8:=by decide
  lia
 have Il:¬(!Builtin.List.listFitsIndex k)=true:=by
  rw[fitsIndex_both h1 h2];exact yJ
 have Fw:¬Builtin.List.listTooLong (Dy.toArray.size*k.toNat)=true:=by
  rw[aa hlen];exact yJ
 have PY:List.foldl (λx1 x2=>x1++x2) (Yb []) (Ye (if Dy.toArray.isEmpty=true then 0 else k.toNat) Dy.toArray)=(Ye k.toNat Dy).flatten.toArray:=by
  have f0:=λm=>by
   have:=mP Dy m [];rw[abI] at this;exact this
  rw[f0];cases Dy with
  | nil=>simp
  | cons a r'=>rw[if_neg on]
 refine wpAny_binaryOp_repeat_ref ac #[_,e,rfl] (λs'=>typeIs_int s' k t) noFill_list_mul F.fills_int_mul F.slot_int_rmul repeat_list F.slot_int_index.lookup
  (call_meets F.slot_int_rmul (typeIs_int s k t) F.entry_int_rmul (F.args_int_rmul_2 _ _) (int___rmul___int_list k t l Dy.toArray n)
   #[e,rfl,#[_,e,rfl],call_meets F.slot_list_mul #[_,e,rfl] F.entry_list_mul (F.args_list_mul_2 _ _) (AutoListH.list___mul___list_int_3 l Dy.toArray n k t Il PX Fw) #[e,?_]])
 rw[PY];exact#[.ref _,_,I.lnew (r.rep k.toNat) (by rw[tG,Q6];exact hz),rfl,q _ I.fresh]
end
end L2
namespace Att
open PySem PySem.W PySem.Calls PyProof.Rows
variable {P:Params}{h:Heap}{l:OpenLaw}{n:Nat}
theorem kZ:∀(ns:List Int) (vs:Dh),WellAll P h vs (ns.map WData.int)->IntsAre vs ns:=by
 intro ns
 induction ns with
 | nil =>
  intro vs w;rw[List.map_nil] at w;cases w;exact .nil
 | cons n ns ih =>
  intro vs w;rw[Ql] at w;cases w with
  | cons a b =>
   cases a;exact .cons _ _ (ih _ b)
theorem oJ (hn:l.most=some n) {args:List WData} {vals:Dh}
  (Hk:l.row.toRowW.claim.pre args=true) (hwl:WellAll P h vals args) :
  ∃a vs ns,vals=[Value.ref a]/\args=[WData.list<|ns.map WData.int]/\h.get? a=some { cls:=.type "list",data:=.seq vs.toArray }/\IntsAre vs ns/\ns.length<=n:=by
 have Im:WShape.hasAll [] args [.list .int]=true:=(pre_splitW Hk).1;have hc:l.pre.holds [] { args:=args }=true:=(pre_splitW Hk).2;obtain⟨d,r,rfl,h1,h2⟩:=hasAllW_cons Im;obtain rfl:=hasAllW_nil h2;obtain⟨xs,rfl,h3⟩:=hasW_list h1;obtain⟨ns,rfl⟩:=items_int h3;have hlen:ns.length<=n:=by
  unfold OpenLaw.pre at hc;have h4:(WTm.not<|.lt (.lit<|.int (n:Int))<|.len<|.arg 0).holds [] { args:=[.list<|ns.map .int] }=true:=by
   have h4:=(holds_andW hc).1;rw[hn] at h4;exact h4
  have h5:=condW_of h4<|w_not<|w_lt w_lit<|w_len_list<|w_arg rfl;rw[ya] at h5;refine aam λq=>?_;have q':(n:Int)<((ns.length:Nat):Int):=by omega
  first
   | (rw[decide_eq_true q'] at h5;exact absurd h5 (by decide))
   | (simp at h5;omega)
 cases hwl with
 | cons w1 w2 =>
  cases w2;cases w1 with
  | list ho DL=>exact⟨_,_,ns,rfl,rfl,ho,kZ ns _ DL,hlen⟩
theorem oo (l:OpenLaw) (args:List WData):l.row.toRowW.claim.post args (.bool true) args=true :=
 postW_of (r:=l.row.toRowW) (X:=(true==true))
  (show WShape.has [] (.bool true) .bool=true by first|rfl|decide|simp [WShape.has,WShape.arms,WShape.armsAll])
  (show (WTm.eq .res<|.lit<|.bool true).value [] { args:=args,res:=some<|.bool true,after:=args }=some (.bool<|true==true) from w_eq_bool (w_res rfl) w_lit) rfl
theorem attach_call {q:Dt}{loose:Dm}{XP:(Str->Option Value)->Heap->Prop}{YP:World->Heap->Prop}{d:DefRec}
  (hn:l.most=some n) (LR:d.params.defaults=[])
  (call:∀(w:World) (s₀ s₁:Shared) (mg mb:Dd) (fa:Addr) (o:Obj) (pm cd doc:Value) (a:Addr) (vs:Dh) (ns:List Int),
   Ground q loose [] XP w s₀ mg mb s₁.heap->YP w s₁.heap ->
   s₁.heap.get? fa=some o->o.data=.func (docDef d.name d.params d.body d.scope pm cd doc)->s₁.heap.CodeRec cd d.name->mg d.name=some (.ref fa) ->
   s₁.heap.get? a=some { cls:=.type "list",data:=.seq vs.toArray }->IntsAre vs ns->ns.length<=n->s₁.gens=(Yb []) ->
   codeAny (model l.prog w) callerA (.call (.ref fa) #[[.ref a],[]]) (λr s'=>r=.ok (.ret<|.bool true)/\OldK s₁.heap s'.heap/\s'.os=s₁.os/\AllBare s'.gens) s₁) :
  WalkO q loose XP YP l.row.toRowW d [] (λf vs=>abf f vs):=by
 intro w s₀ s₁ mg mb G Y fa o pm cd doc dV kV ho hd FX hD PZ hg args vals as Hk hlay hrd hwl P0;obtain rfl:dV=.none:=Dflts.none hD LR;obtain rfl:kV=.none:=Dflts.noKw hD;obtain⟨a,vs,ns,rfl,rfl,Fx,hints,hlen⟩:=oJ hn Hk hwl;refine enter_call (codeAny_mono (call w s₀ s₁ mg mb fa o pm cd doc a vs ns G Y ho (fd_plain hd) FX PZ Fx hints hlen hg) λr s' hq=>?_);obtain⟨rfl,h2,h3,h4⟩:=hq;exact#[.inl #[.bool true,.bool true,[],rfl,λ_=>rfl,.bool true,oo l _,λ_=>#[aas,λ_ hm=>(nomatch hm)]],h2,h3,h4]
end Att
namespace L2
open PySem PySem.Spec PyProof.Rows
variable {P:Dt}{w:World}{a C:Addr}{x:Str}{h h':Heap}{A:Around}{pos:Pos}{H H1 H2 H':Hp}{xs:List V}{ch:Di}{σ:St}{s:Shared}{env:Env}{X:Cx}{pl:Sem Bool}{g:TG}
theorem zB:∀{vs:Dh} {ns:List Int},IntsAre vs ns->jH (ns.map V.int) vs
 | _,_,.nil=>.nil
 | _,_,.cons n t h=>.cons #[t,rfl] (zB h)
def pG (H:Hp):Prop:=∀b,H b=none\/∃o xs,H b=some (.frz o<|.lst xs)
theorem qj {K:C9}{mg mb:Dd}{CX:kj}{k:Nat}{fa:Addr}{fd:FuncData}{sp:Sp}{s₁:Shared}{vs:Dh}{ns:List Int}
  (KX:K.In s₁.heap) (F2:s₁.heap.Ns mainGlobals mg) (hb:s₁.heap.Ns builtinsNs mb) (Xr:∀x:Str,x≠"__name__"->mb x=bootBuiltins x) (P4:s₁.heap.NoLimit) (hg:s₁.gens=(Yb []))
  (ha:s₁.heap.get? a=some { cls:=.type "list",data:=.seq vs.toArray }) (hi:IntsAre vs ns) (hl:ns.length<=sizeLine) (hr:Zi k callerA)
  (F:∀base:Heap,K.In base->base.Ns mainGlobals mg->U1 P w K mg base CX k fa fd [x] sp) (LS:∀(s:Shared) (u:Value),BindsTo s fd #[[u],[]] [(x,u)])
  (El:∀H:Hp,pG H->jj K H a (ns.map V.int)->sp [.ref a] H (λv _=>v=.bl true) λ_ _ _=>False)
  (P5:∀H e s',CX [] H s₁ (λ_ _ _=>False) e s'->False) :
  codeAny (model P w) callerA (.call (.ref fa) #[[.ref a],[]]) (λr s'=>r=.ok (.ret<|.bool true)/\OldK s₁.heap s'.heap/\s'.os=s₁.os/\AllBare s'.gens) s₁:=by
 have rv:=zB hi;have P6:=hi.length;have core:∀H:Hp,pG H->jj K H a (ns.map V.int)->JU P w H s₁.heap->(∀b,H b≠none->b=a)->(H a≠none->K.lookup a=none) ->
   codeAny (model P w) callerA (.call (.ref fa) #[[.ref a],[]]) (λr s'=>r=.ok (.ret<|.bool true)/\OldK s₁.heap s'.heap/\s'.os=s₁.os/\AllBare s'.gens) s₁:=by
  intro H hO hS hok hA hK;have EV:∀{b:Addr} {o:Obj},s₁.heap.get? b=some o->H b=none->(Zs s₁.heap H).get? b=some o:=λe n=>qf e n;have LH:∀{b:Addr} {o:Obj} {es:Array DictEntry} {ep:Nat},s₁.heap.get? b=some o->o.data=.dict es ep->H b=none:=λ{b o es ep} e d=>by
   cases q:H b with
   | none=>rfl
   | some u =>
    have e':b=a:=hA b (by rw[q];simp);subst e';rw[ha] at e;cases e;have d':Data.seq vs.toArray _=Data.dict es ep:=d;cases d'
  have OP:∀{b:Addr} {m:Dd},s₁.heap.Ns b m->(Zs s₁.heap H).Ns b m:=λ{b m} ⟨o,es,ep,e,d,r⟩=>#[o,es,ep,EV e<|LH e d,d,r];have Ta:K.In (Zs s₁.heap H):=λb o e=>EV (KX b o e) (by
   cases q:H b with
   | none=>rfl
   | some u =>
    have e':b=a:=hA b (by rw[q];simp);subst e'
    rw[hK (by rw[q];simp)] at e;cases e)
  have hM:Mod K mg (Zs s₁.heap H):=#[Ta,OP F2,#[mb,OP hb,Xr],let ⟨mc,h1,h2⟩:=P4;#[mc,OP h1,h2]];have e0:GI P w K mg (Zs s₁.heap H) callerA [] s₁ H:=#[rfl,hM,λb o e=>tQ e,aa8<|iM _ _,trivial,λb hb=>absurd (show b∈([]:Di) from hb) on,hok,.of_eq hg,.inl rfl];refine codeAny_mono ((F _ Ta<|OP F2).run callerA [] s₁ H #[[.ref a],[]] [.ref a] [.ref a] _ _ hr e0 (LS s₁<|.ref a) (.cons rfl .nil)<|El H hO hS) λr s' h=>?_;cases r with
  | error e=>exact (P5 H e s' h).elim
  | ok fl =>
   cases fl with
   | next=>exact Yv h
   | brk=>exact Yv h
   | cont=>exact Yv h
   | ret u =>
    obtain⟨v,H',os,bare,un,P7,r',q⟩:=h;have q':v=.bl true:=q;subst q';obtain rfl:u=Value.bool true:=r';refine#[rfl,OldK.of_keep λb o e=>?_,os,bare];cases q:H b with
    | none=>exact un.keep b o e q (by intro z;exact absurd (show b∈([]:Di) from z) on) on
    | some u =>
     rcases hO b with z|⟨ob,xs,z⟩
     ·rw[q] at z;cases z
     ·have z2:=un.frzs b ob _ z;obtain⟨e1,_⟩:=hok b _ z;obtain⟨e2,_⟩:=P7 b _ z2;rw[e] at e1;cases e1;exact e2
 cases hk:K.lookup a with
 | some o =>
  have e:=KX a o hk;rw[ha] at e;cases e;refine core (λ_=>none) (λ_=>.inl rfl) (.inr #[_,vs.toArray,_,hk,rfl,rfl,rfl,by rw[yw,P6];exact hl,by simpa using rv]) (λb u z=>by have z':(none:Option HO)=some u:=z;cases z') (λb z=>absurd rfl z) λz=>absurd rfl z
 | none =>
  refine core (λb=>if b=a then some (.frz { cls:=.type "list",data:=.seq vs.toArray } (.lst<|ns.map V.int)) else none) (λb=>?_) (.inl<|.inr #[{ cls:=.type "list",data:=.seq vs.toArray },if_pos rfl]) (λb u z=>?_) (λb z=>?_) λ_=>hk
  ·by_cases hb:b=a
   ·exact .inr #[_,_,if_pos hb]
   ·exact .inl (if_neg hb)
  ·by_cases hb:b=a
   ·have z':=(if_pos hb).symm.trans z;cases z';subst hb;exact#[ha,by rw[ya];exact hl,vs,_,rv,ha]
   ·have z':=(if_neg hb).symm.trans z;cases z'
  ·by_cases hb:b=a
   ·exact hb
   ·exact absurd (if_neg hb) z
abbrev KOf {K:C9} (_:K.In h):Frag:=K
theorem walk_of {l:abl}{n k:Nat}{q:Dt}{loose:Dm}{XP:(Str->Option Value)->Heap->Prop}{YP:World->Heap->Prop}{d:DefRec}{K:Params->Frag}{CX:World->kj}{sp:World->Sp}
  (hn:l.most=some n) (Lc:n<=sizeLine) (LR:d.params.defaults=[]) (hr:Zi k callerA)
  (hY:∀(w:World) (h:Heap),YP w h->(K w.params).In h)
  (F:∀(w:World) (mg:Dd) (fa:Addr) (h:Heap),(K w.params).In h->h.Ns mainGlobals mg->mg d.name=some (.ref fa) ->
   ∃fd:FuncData,(∀(s:Shared) (u:Value),BindsTo s fd #[[u],[]] [(x,u)]) /\
    ∀base:Heap,(K w.params).In base->base.Ns mainGlobals mg->U1 l.prog w (K w.params) mg base (CX w) k fa fd [x] (sp w))
  (El:∀(w:World) (H:Hp) (a:Addr) (ns:List Int),ns.length<=n->pG H->jj (K w.params) H a (ns.map V.int)->sp w [.ref a] H (λv _=>v=.bl true) λ_ _ _=>False)
  (P5:∀(w:World) (H:Hp) (s:Shared) (e:Value) (s':Shared),CX w [] H s (λ_ _ _=>False) e s'->False) :
  abB q loose XP YP l.row.toRowW d [] (λf vs=>abf f vs):=by
 refine Att.attach_call hn LR λw s₀ s₁ mg mb fa o pm cd doc a vs ns G Y ho hd FX PZ Fx hints hlen hg=>?_;have KX:=hY w _ Y;obtain⟨fd,hb,hF⟩:=F w mg fa _ KX G.T.g PZ;exact qj KX G.T.g G.T.b G.T.builtins G.T.nolimit hg Fx hints (yk hlen Lc) hr hF hb (λH hO hS=>El w H a ns hlen hO hS) λH e s'=>P5 w H s₁ e s'
def VM (s:Stmt) (j:Nat):Stmt:=match s with
 | .ClassDef _ _ _ body _ _ _ _ _ _ _=>body.getD j (.Pass #[0,0,0,0])
 | _=>.Pass #[0,0,0,0]
def zS (s:Stmt):Arguments:=match s with
 | .FunctionDef _ a _ _ _ _ _ _ _ _=>a
 | _=>{ posonlyargs:=[],args:=[],vararg:=none,kwonlyargs:=[],kw_defaults:=[],kwarg:=none,defaults:=[] }
def vY (s:Stmt):List Stmt:=match s with
 | .FunctionDef _ _ b _ _ _ _ _ _ _=>b
 | _=>[]
def uh (s:Stmt):Scope:=match s with
 | .FunctionDef _ _ _ _ _ _ sc _ _ _=>sc
 | _=>{ kind:=.function,names:=[],isGenerator:=false,isCoroutine:=false }
theorem M3 {k:Nat} (hr:Zi k A):A.units+1<cLine:=yG (Nat.add_le_add_left ac _) hr.units
section
variable {X:Cx}
theorem pv (i:Nat) {pos:Pos} (hN:autoParam (X.N[i]?=some x) Fk) (hv:wZ X.env.scope x:=by first|exact Or.inl rfl|exact Or.inr (Or.inl rfl)|exact Or.inr (Or.inr rfl)) (hd:autoParam ((x==("__debug__":Str))=false) Ix)
  (FX:autoParam ((x==("__classdict__":Str))=false) Ix):PE X (.Name x pos) (US i):=xT hN hv hd FX
end
theorem Uq {c A B:Prop} [Decidable c] (hc:c) (h:B):if (!decide c)=true then A else B:=by
 grind
def Same (H H':Hp):Prop:=∀b o,H b=some o->H' b=some o
theorem Same.refl (H:Hp):Same H H:=λ_ _ h=>h
theorem Same.trans (a:Same H H1) (b:Same H1 H2):Same H H2:=λc o h=>b c o (a c o h)
theorem Same.seq {K:C9} (e:Same H H') (h:jj K H a xs):jj K H' a xs:=by
 rcases h with (h|⟨o,h⟩)|h
 ·exact .inl (.inl<|e _ _ h)
 ·exact .inl (.inr #[o,e _ _ h])
 ·exact .inr h
theorem JZ.there {o:HO} (x:JZ P w H h a o):∃u,h.get? a=some u:=by
 cases o with
 | lst xs=>obtain⟨_,_,_,_,e⟩:=x;exact#[_,e]
 | tup xs=>obtain⟨_,_,_,ob,e,_⟩:=x;exact#[_,e]
 | dK Dx=>obtain⟨_,_,_,_,ob,_,_,e,_⟩:=x;exact#[_,e]
 | dT Dx=>obtain⟨_,_,_,_,ob,_,_,e,_⟩:=x;exact#[_,e]
 | set S n=>obtain⟨ob,_,_,_,e,_⟩:=x;exact#[_,e]
 | ins C dx fs=>obtain⟨_,_,_,e,_⟩:=x;exact#[_,e]
 | own y=>exact x
 | xd fs=>obtain⟨_,⟨_,_,_,e,_⟩,_⟩:=x;exact#[_,e]
 | rng lo hi=>obtain⟨_,_,_,e⟩:=x;exact#[_,e]
 | frz ob u=>obtain⟨e,_⟩:=x;exact#[_,e]
 | tbl ps=>exact#[_,(x)]
 | met f y=>exact#[_,(x)]
 | ext φ=>obtain⟨_,e,_⟩:=x;exact e
theorem JU.free_of (x:JU P w H h) (e:h.get? a=none):H a=none:=by
 cases q:H a with
 | none=>rfl
 | some o=>obtain⟨u,z⟩:=(x a o q).there;rw[e] at z;cases z
structure gS (h0 h:Heap) (H:Hp) (e C:Addr):Prop where
 ex:∃oe vs T oT ts,∃a0:Value×Value,h.get? e=some oe/\oe.cls=.ref C/\vs[0]?=some a0.1/\oe.data=.fields vs/\vs[1]?=some (.ref T)/\T≠e/\h.get? T=some oT/\oT.data=.fields ts/\ts[3]?=some .none/\h0.get? T=none/\H T=none/\vs[2]?=some a0.2/\ZX H a0.2
 new:h0.get? e=none
 free:H e=none
def XC (P:Dt) (w:World):kj:=λouter H s E e s'=>∃(ea C:Addr) (H':Hp),e=.ref ea/\s'.os=s.os/\AllBare s'.gens/\Un (UN outer) [] H H' s.heap s'.heap/\JU P w H' s'.heap/\gS s.heap s'.heap H' ea C/\E (.ref C) none H'
theorem Un.late {fs ex:Di}{h1 h2:Heap} (u:Un fs ex H H' h h1) (fresh:∀b∈ch,h.get? b=none)
  (k:∀b o,b ∉ fs->b ∉ ch->h1.get? b=some o->h2.get? b=some o) (ks:∀b o,b∈fs->h1.get? b=some o->∃sl,h2.get? b=some { o with slots:=sl }):Un fs ex H H' h h2:=by
 have Ih:∀b o,h.get? b=some o->b ∉ ch:=λb o q z=>by grind
 refine#[λb o q n hb hx=>k b o hb (Ih b o q)<|u.keep b o q n hb hx,λb o q n hb hx=>?_,u.free,λb o q hx=>?_,u.tups,u.frzs,u.tbls]
 ·obtain⟨sl,e1⟩:=u.slot b o q n hb hx;obtain⟨Pz,e2⟩:=ks b _ hb e1;exact#[Pz,e2]
 ·obtain⟨o',e1⟩:=u.there b o q hx;by_cases hb:b∈fs
  ·grind
  ·grind
section
variable {X:Cx}{pins:De}{σ:St}{H H':Hp}{s s':Shared}{ea C:Addr}{a0:Value×Value}{h':Heap}{ch:Di}
theorem iF (I:jp X pins σ H s) (DX:X.stack=X.env::X.outer) (os:s'.os=s.os) (bare:AllBare s'.gens) (un:Un (UN X.stack) [] H H' s.heap s'.heap) (hok:JU X.prog X.w H' s'.heap)
  (Ez:∀b∈ch,s.heap.get? b=none/\H' b=none) (Tb:ea∈ch) (Xs:ZX H' a0.2) (L:kD (hideAll s'.heap<|ch++UN X.stack) (X.env::X.outer) ea (.ref C) a0 .none s'.heap h') :
  jp X pins σ H' { s' with heap:=h' }/\gS s.heap h' H' ea C:=by
 have I1:=I.call' os un hok bare (λb z=>absurd z on);obtain⟨st,ff,tr,up⟩:=L;have FF:=I1.stack;have keep:=λb o hb hc e=>st b o (hideAll_get _ e λz=>(yB.mp z).elim hc hb);have slots:∀b o,b∈UN X.stack->s'.heap.get? b=some o->∃sl,h'.get? b=some _:=λb o hb e=>by
  obtain⟨_,o',Es,hd⟩:=FF.mem hb;rw[e] at Es;cases Es;exact up b o e hd
 have P8:=un.late (λb hb=>(Ez b hb).1) keep slots;have free:∀b,H' b≠none->b ∉ UN X.stack/\b ∉ ch:=λb n=>#[λz=>n<|I1.stkFree b z,λz=>n (Ez b z).2];have P9:JU X.prog X.w H' h':=λb o e=>(hok b o e).stay (λc u hc q=>by
  grind) (λ_ q=>q) λ_ _ q=>q
 refine#[I.call' os P8 P9 bare (λb z=>absurd z on),#[?_,(Ez ea Tb).1,(Ez ea Tb).2]];obtain⟨oe,vs,T,oT,ts,e1,⟨e2,e3,c3⟩,e4,e5,e6,e7,e8,e9,Io⟩:=tr;have hT:s.heap.get? T=none/\H' T=none:=by
  cases q:s'.heap.get? T with
  | none =>
   refine#[?_,hok.free_of q];cases q2:s.heap.get? T with
   | none=>rfl
   | some o=>obtain⟨o',z⟩:=un.there T o q2 on;rw[q] at z;cases z
  | some o =>
   by_cases hc:T∈ch
   ·exact Ez T hc
   ·by_cases hf:T∈UN X.stack
    ·have Xt:=DX▸hf;obtain⟨_,o',Es,hd⟩:=ff.mem Xt;rw[e8] at Es;cases Es;exact absurd e9 (hd ts)
    ·rw[hideAll_get _ q λz=>(yB.mp z).elim hc hf] at e6;cases e6
 exact#[oe,vs,T,oT,ts,a0,e1,e2,e3,e4,e5,e7,e8,e9,Io,hT.1,hT.2,c3,Xs]
theorem dY (I:jp X pins σ H' s') (DX:X.stack=X.env::X.outer) (ch:Di):s'.heap.FunFrames (hideAll s'.heap<|ch++UN X.stack) (X.env::X.outer):=by
 have FF:=I.stack;rw[<-DX];exact PySem.W.funFrames_hide FF λenv he a hf=>yA _ (List.mem_filterMap.mpr #[env,he,hf])
theorem qk (I:jp X pins σ H s) (DX:X.stack=X.env::X.outer) (hf:X.env.frame=some X.env.locals) (os:s'.os=s.os) (bare:AllBare s'.gens) (un:Un (UN X.stack) [] H H' s.heap s'.heap) (hok:JU X.prog X.w H' s'.heap)
  (fl:gS s.heap s'.heap H' ea C) {M:Model} {E:C3} {Q:C6} (h:∀h',jp X pins σ H' { s' with heap:=h' }->gS s.heap h' H' ea C->Q () { s' with heap:=h' }) :
  wpAny M X.A (leaving X.env<|.ref ea) Q E s':=by
 have I1:=I.call' os un hok bare (λb z=>absurd z on);obtain⟨oe,vs,T,oT,ts,a0,e1,e2,e3,e4,e5,e7,e8,e9,Io,OQ,Tc,c3,cx⟩:=fl.ex;have Ic:X.A.frames=some (X.env::X.outer):=by rw[<-DX];exact I.ok.frames
 refine eV Ic (dY I1 DX [ea,T]) hf
  #[oe,vs,T,oT,ts,e1,#[e2,e3,c3],e4,e5,hideAll_none _ on,e7,e8,e9,Io] (λb o q=>of_hideAll _ q) (hideAll_none _ on) λh' L=>?_
 obtain⟨J,F⟩:=iF I DX os bare un hok (λb hb=>by
  rcases yD.mp hb with rfl|hb
  ·exact#[fl.new,fl.free]
  ·grind) (by simp) cx L
 exact h h' J F
end
section
variable {P:Dt}{w:World}{K:C9}{mg:Dd}{base:Heap}{N ps:Dm}{qual:Str}{scope:Scope}{f:Addr}{cd:Value}{A:Around}{outer:List Env}{s:Shared}{H:Hp}{E:XK}
abbrev nU (P:Dt) (w:World) (K:C9) (mg:Dd) (base:Heap) (N:Dm) (qual:Str) (scope:Scope) (f:Addr) (cd:Value) (A:Around) (outer:List Env) (s:Shared) (H:Hp) (E:XK) (c:Bool:=true):Cx :=
 GP (XC P w) P w K mg base N qual scope f cd A outer s H E c
theorem bG {c:Bool}{pins:De}{s1:Shared}{ea:Addr} (I:jp (nU P w K mg base N qual scope f cd A outer s H E c) pins σ H1 s1) (F:gS s1.heap h' H' ea C):gS s.heap h' H' ea C:=by
 have z:∀b,s1.heap.get? b=none->s.heap.get? b=none:=λb q=>by
  cases q2:s.heap.get? b with
  | none=>rfl
  | some o=>obtain⟨o',e⟩:=I.base.there b o q2 (by simp [GP]);rw[q] at e;cases e
 obtain⟨oe,vs,T,oT,ts,a0,e1,e2,e3,e4,e5,e7,e8,e9,Io,OQ,Tc,c3,cx⟩:=F.ex;exact#[#[oe,vs,T,oT,ts,a0,e1,e2,e3,e4,e5,e7,e8,e9,Io,z _ OQ,Tc,c3,cx],z _ F.new,F.free]
theorem Vq {c:Bool}:UC (XC P w) (nU P w K mg base N qual scope f cd A outer s H E c) E:=by
 intro pins σ H1 s1 e s' I h;obtain⟨ea,C',H',rfl,os,bare,un,hok,fl,q⟩:=h;refine qk I rfl rfl os bare un hok fl λh' J F=>?_;exact#[ea,C',H',rfl,J.os,J.bare,J.base,J.hok,bG I F,q]
theorem jR {c:Bool}:PassesOwn (model P w) (nU P w K mg base N qual scope f cd A outer s H E c).A (nU P w K mg base N qual scope f cd A outer s H E c).env (nU P w K mg base N qual scope f cd A outer s H E c).xe:=PassesOwn.leaving
end
theorem dG {prog:Dt}{R:Result->Shared->Prop}{elt tg iter:Expr}{ifs:Dp}{scope:Scope}{pos:Pos}{it acc:Value}{env:Env} (J:Nat->Shared->Prop)
  (turn:∀n s,J n s->wpAny '$' A (pyNext it) (λr s1=>match r with
   | none=>R (.ok .next) s1
   | some v=>wpAny '$' A (letOwnedTupleGo tg it v) (λ_ s2=>wpAny '$' A (assign tg env v) (λ_ s3 =>
     wpAny '$' A (forIn ifs true λc r=>if r=true then do let ok <-isTrue c env (eval c env);pure (YY ok) else pure (YY r)) (λok s4 =>
      if ok=true then wpAny '$' A (eval elt env) (λx s5=>wpAny '$' A (call (.builtin "list.append") [acc,x]) (λ_ s6=>∃m,m<n/\J m s6) (λ_ _=>False) s5) (λ_ _=>False) s4
      else ∃m,m<n/\J m s4) (λ_ _=>False) s3) (λ_ _=>False) s2) (λ_ _=>False) s1) (λ_ _=>False) s)
  (n:Nat) (h:J n s):codeAny '$' A (.compLoop (.ListComp elt [#[tg,iter,ifs,0]] scope pos) 0 it acc env) R s:=by
 refine codeAny_loop rfl J (λn s hJ=>?_) n h;refine wpAny_noted<|wpAny_noRaise ?_;refine Du (wpAny_standAt (Du (jI (turn n s hJ) λr s1 h1=>?_)));cases r with
 | none=>exact Dv h1
 | some v =>
  refine Du (jI h1 λ_ s2 h2=>Du (jI h2 λ_ s3 h3=>Du (jI h3 λok s4 h4=>?_)));cases ok with
  | false=>exact Dv #[rfl,h4]
  | true=>exact Du (Du (jI h4 λx s5 h5=>Du (jI h5 λ_ s6 h6=>Dv<|Dv #[rfl,h6])))
abbrev Cx.blk (X:Cx) (scope:Scope) (cl:Dj) (C:Addr) (own:Dm) (s:Shared) (H:Hp) (fp:Di) (pins:De):Cx :=
 { X with N:=X.N++own,env:=compEnvC scope cl C X.env,s₀:=s,H₀:=H,outer:=X.stack,ex:=fp,fn:=λ_=>false,pn:=X.pn++pins,xe:=λ_ _=>False }
theorem gs {env:Env}{x:Str}:∀{names:List (Str×NameKind)},(names.map λ(n,k)=>if (k==NameKind.free&&env.scope.kind==.function&&env.kindOf n==some .cell) then (n,NameKind.cell) else (n,k)).lookup x =
  (names.lookup x).map λk=>if (k==NameKind.free&&env.scope.kind==.function&&env.kindOf x==some .cell) then NameKind.cell else k
 | []=>rfl
 | (n,k)::r=>by
  have ih:=@gs env x r;show List.lookup x ((if (k==NameKind.free&&env.scope.kind==.function&&env.kindOf n==some _)=true then (n,NameKind.cell) else (n,k))::_)=_;have e:(if (k==NameKind.free&&env.scope.kind==.function&&env.kindOf n==some .cell)=true then (n,NameKind.cell) else (n,k))=(n,if (k==NameKind.free&&env.scope.kind==.function&&env.kindOf n==some .cell)=true then NameKind.cell else k):=by
   split<;>rfl
  rw[e];cases q:x==n with
  | true =>
   obtain rfl:x=n:=by simpa using q
   simp [aal]
  | false=>simp only[aal,q];exact ih
theorem Ke {α β:Type} [BEq α] [LawfulBEq α] {l:List (α×β)} {x:α} {b:β} (h:l.lookup x=some b):(x,b)∈l:=by
 induction l with
 | nil=>simp at h
 | cons p r ih =>
  rw[aal] at h
  split at h
  ·grind
  ·exact .tail _ (ih h)
section
variable {X:Cx}{scope:Scope}{cl:Dj}{own:Dm}{pins:De}{σ:St}{H2 H3:Hp}{s2:Shared}{fp:Di}{C:Addr}{h1:Heap}
theorem aQ {b:Addr} (I2:jp X pins σ H2 s2) (n1:b≠X.env.locals) (n2:b ∉ X.fs):b ∉ UN X.stack:=λz=>(yD.mp<|I2.stkSub b z).elim n1 n2
end
def PF (X:Cx) (ifs:Dp) (t:TT):Prop :=
 ∀(pins:De) (s:Shared) (σ:St) (H:Hp) (Q:Bool->Hp->Prop),jp X pins σ H s->t σ H Q ->
  wpAny '%' X.A (forIn ifs true λc r=>if r=true then do let ok <-isTrue c X.env (eval c X.env);pure (YY ok) else pure (YY r)) (TP X pins σ Q) X.xe s
theorem j4:PF X [] (λ_ H Q=>Q true H):=λ_ _ _ H _ I h=>wpAny_tests_nil #[H,I,h]
theorem zb {c:Expr}{t:TT} (h:PT X c t):PF X [c] t:=λpins s σ H Q I q=>wpAny_tests_one (h pins s σ H Q I q)
def vJ (k:Nat) (g:TG) (tc:TT) (te:TE) (σ:St) (Q:VK):It->Hp->Prop:=λJ H1=>∀D,H1 D=none->∃W:Nat->Nat->List V->Hp->Prop,(∃m,W 0 m []<|upd H1 D<|.lst [])/\∀i m ys H,W i m ys H ->
 H D=some (.lst ys)/\((J.stop i H/\Q (.ref D) H)\/(J.go i H/\ys.length<sizeLine/\∀x H',J.yld i H x H'->g x (σ++Ye k none) H' λσ2 H2=>(∃zs,σ2=σ++zs/\zs.length=k)/\tc σ2 H2 λb H3 =>
  if b=true then te σ2 H3 λy H4=>H4 D=some (.lst ys)/\∃m',m'<m/\W (i+1) m' (ys++[y]) (upd H4 D<|.lst<|ys++[y]) else ∃m',m'<m/\W (i+1) m' ys H3))
def KD (wi:TI) (k:Nat) (g:TG) (tc:TT) (te:TE):TE:=λσ H Q=>wi σ H (vJ k g tc te σ Q)
section
variable {X:Cx}{tg elt iter:Expr}{ifs:Dp}{scope:Scope}{cl:Dj}{own:Dm}{wi:TI}{g:TG}{tc:TT}{te:TE}{pos:Pos}
theorem jp.let_go {pins:De}{σ2:St}{s2:Shared} (I:jp X pins σ H s) (I2:jp X pins σ2 H2 s2) (hC:s2.heap.objs.size<=C) (hf:H C=none) (sb:Heap.SameBut C s.heap h'):jp X pins σ H { s with heap:=h' }:=by
 have nC:=Qi hC;have CF:C ∉ UN X.stack:=λz=>by
  obtain⟨_,o,ho,_⟩:=I2.stack.mem z;rw[nC] at ho;cases ho
 have off:∀b o,s2.heap.get? b=some o->b≠C:=λb o e z=>by rw[z,nC] at e;cases e
 have un:Un _ [C] H H s.heap h':=#[λb o q _ _ hx=>(sb.2 b λz=>hx (by simp [z])).trans q,λb o q _ hb _=>#[o.slots,(sb.2 b λz=>CF<|z▸hb).trans q],λ_ _ _ n _=>n,λb o q hx=>#[o,(sb.2 b λz=>hx (by simp [z])).trans q],λ_ _ q=>q,λ_ _ _ q=>q,λb ps q=>#[(Yb []),by grind]];have hok:=λb o e=>(I.hok b o e).stay (λc u hc q=>(sb.2 c λz=>by
  grind).trans q) (λ_ q=>q) λ_ _ q=>q
 refine I.call' rfl un hok I.bare λb hb=>?_;obtain rfl:b=C:=by simpa using hb
 obtain⟨_,hn,_⟩:=I2.loc;obtain⟨_,_,_,hL,_⟩:=hn;refine#[.inr<|yk I2.sz hC,λz=>off _ _ hL z.symm,λx c e=>?_,λp hp=>off _ _ (I2.pin p hp).1];obtain⟨_,_,hc,_⟩:=I2.cell x c e;exact off _ _ hc
end
theorem jp.track {pins:De}{o:HO} (I:jp X pins σ H s) (hn:H a=none) (h0:X.s₀.heap.get? a=none) (hL:a≠X.env.locals)
  (hc:∀x c,X.env.cells.lookup x=some c->c≠a) (hp:∀p∈X.pn++pins,p.1≠a) (new:JZ X.prog X.w (upd H a o) s.heap a o):jp X pins σ (upd H a o) s:=by
 have ne:∀b u,H b=some u->b≠a:=λb u e z=>by rw[z,hn] at e;cases e
 refine#[I.ok,I.os,I.bare,#[I.base.keep,I.base.slot,λb u e n hx=>?_,I.base.there,λb xs e=>?_,λb u v e=>?_,λb ps e=>?_],I.loc,I.cell,?_,λx c e=>?_,λp h=>?_,λb u e=>?_,I.len,I.hn.mono λb u v e=>jy (ne b _ e) e]
 ·rw[jC (λz=>by rw[z,h0] at e;cases e)];exact I.base.free b u e n hx
 ·have q:=I.base.tups b xs e;rw[jC<|ne b _ q];exact q
 ·have q:=I.base.frzs b u v e;rw[jC<|ne b _ q];exact q
 ·obtain⟨m,q⟩:=I.base.tbls b ps e;exact#[m,jy (ne b _ q) q]
 ·rw[jC<|yV hL];exact I.free
 ·rw[jC<|hc x c e];exact I.freeC x c e
 ·obtain⟨q1,q2,q3⟩:=I.pin p h;exact#[q1,jy (hp p h) q2,q3]
 ·by_cases hb:b=a
  ·subst hb;rw[jc] at e;cases e;exact new
  ·rw[jC hb] at e;exact (I.hok b u e).stay (λ_ _ _ q=>q) (λc q=>jy (ne c _ q) q) λc xs q=>by rw[jC<|ne c _ q];exact q
section
variable {P:Dt}{w:World}{K:C9}{mg:Dd}{base:Heap}{k:Nat}{x m:Str}{C:Addr}{ps:Dm}{sp:Sp}
structure j7 (P:Dt) (w:World) (K:C9) (mg:Dd) (base:Heap) (k:Nat) (x:Str) (ps:Dm) (sp:Sp) (c:Bool:=true):Prop where
 ex:∃f fd,U1 P w K mg base (XC P w) k f fd ps sp c/\ve K fd ps []/\keepIn K (.ref f)=true/\mg x=some (.ref f)
structure MU (P:Dt) (w:World) (K:C9) (mg:Dd) (base:Heap) (k:Nat) (x:Str) (C:Addr) (ps:Dm) (sp:Sp):Prop where
 ex:∃f fd,Mk K C f/\U1 P w K mg base (XC P w) k f fd ps sp/\ve K fd ps []/\mg x=some (.ref C)
structure Zg (P:Dt) (w:World) (K:C9) (mg:Dd) (base:Heap) (k:Nat) (C:Addr) (m:Str) (ps:Dm) (sp:Sp):Prop where
 cl:zg K C
 ex:∃f fd,nJ K C m f/\U1 P w K mg base (XC P w) k f fd ps sp/\ve K fd ps []
end
section
variable {X:Cx}{k:Nat}{x m:Str}{C:Addr}{ps:Dm}{sp:Sp}{E:XK}{p pos apos:Pos}{e o:Expr}{es:Dp}{ta:TE}{t:TA}
theorem jq {cm:Bool} (G:j7 X.prog X.w X.K X.mg X.base k x ps sp cm) (ha:PA X (e::es) t) (hr:autoParam (JI cm k X.A) zzm) (hx:autoParam (UC (XC X.prog X.w) X E) zzo) (hg:autoParam (Gl X x) Fk)
  (Fc:autoParam ((x==("__debug__":Str))=false) Ix) (he:autoParam (starEach (e::es) X.env=(false,eval e X.env)::starEach es X.env) Fk) (DJ:autoParam ((backTo pos<|starEach es X.env).any (·.1)=false) Fk) :
  PE X (.Call (.Name x p) (e::es) [] pos) (sF sp [] E t):=by
 obtain⟨f,fd,F,b,kp,Ra⟩:=G.ex;exact tX F hr hg Ra kp b .nil hx ha Fc he DJ
theorem G7 (G:MU X.prog X.w X.K X.mg X.base k x C ps sp) (ha:PA X (e::es) t) (hr:autoParam (Zi (k+1) X.A) zzm) (hx:autoParam (UC (XC X.prog X.w) X E) zzo) (hg:autoParam (Gl X x) Fk)
  (Fc:autoParam ((x==("__debug__":Str))=false) Ix) (he:autoParam (starEach (e::es) X.env=(false,eval e X.env)::starEach es X.env) Fk) (DJ:autoParam ((backTo pos<|starEach es X.env).any (·.1)=false) Fk) :
  PE X (.Call (.Name x p) (e::es) [] pos) (sI C sp [] E t):=by
 obtain⟨f,fd,M,F,b,Ra⟩:=G.ex;exact tY M F hr hg Ra b .nil hx ha Fc he DJ
theorem aq {pl:Sem Bool} (ho:PE X o ta) (G:Zg X.prog X.w X.K X.mg X.base k C m ps sp) (ha:PA X (e::es) t) (hr:autoParam (Zi k X.A) zzm) (hx:autoParam (UC (XC X.prog X.w) X E) zzo)
  (DX:autoParam (starEach (e::es) X.env=(false,eval e X.env)::starEach es X.env) Fk) (DJ:autoParam ((backTo pos<|starEach es X.env).any (·.1)=false) Fk)
  (ht:autoParam (eval (.Call (.Attribute o m apos) (e::es) [] pos) X.env=(do
   let ov <-eval o X.env
   standAt apos.atName
   let (f,first) <-holding [ov] (getMethod ov m pl)
   callWith pos f first (backTo pos<|starEach (e::es) X.env) (backToKw pos<|keywordEach [] X.env))) Fk) :
  PE X (.Call (.Attribute o m apos) (e::es) [] pos) (sJ C m sp [] E ta t):=by
 obtain⟨f,fd,M,F,b⟩:=G.ex;exact tZ ho G.cl M F hr b .nil hx ha DX DJ ht
inductive cW (C:Addr) (m:Str) (sp:Sp) (E:XK) (x:V) (H:Hp) (Q:VK):Prop
 | mk (a:_) (dx:_) (fs:_) (h0:x=.ref a) (h1:H a=some (.ins C dx fs)) (h2:fs.lookup m=none) (h3:sp [x] H Q E):cW C m sp E x H Q
def Ad (C:Addr) (m:Str) (sp:Sp) (E:XK):V->Hp->VK->Prop:=λx H Q=>cW C m sp E x H Q
def BP (X:Cx) (m:Str) (r:V->Hp->VK->Prop):Prop:=∀(pins:De) (s:Shared) (σ:St) (H:Hp) (x:V) (u:Value) (Q:VK) (pl:Sem Bool) (pos:Pos),jp X pins σ H s->jG x u->r x H Q ->
 wpAny '%' X.A (holding [u]<|getMethod u m pl) (λfm s1=>wpAny '%' X.A (callWith pos fm.1 fm.2 (backTo pos<|starEach [] X.env)<|backToKw pos<|keywordEach [] X.env) (EP X pins σ Q) X.xe s1) X.xe s
theorem fe (G:Zg X.prog X.w X.K X.mg X.base k C m ps sp) (hr:autoParam (Zi k X.A) zzm) (hx:autoParam (UC (XC X.prog X.w) X E) zzo):BP X m (Ad C m sp E):=by
 intro pins s σ H x u Q pl pos I r h;obtain⟨f,fd,M,F,b⟩:=G.ex;obtain⟨a,dx,fs,rfl,ea,l,q⟩:=h;obtain rfl:u=Value.ref a:=r;refine wpAny_holding<|Zr I ea G.cl M l ?_;exact PySem.W.callWith_K0 I.kIn M.kp (Ky (vs:=[.ref a]) F hr b .nil hx I (.cons rfl .nil) q)
def CO (r:V->Hp->VK->Prop) (ta:TE):TE:=λσ H Q=>ta σ H λx H1=>r x H1 Q
theorem gF {r:V->Hp->VK->Prop} (hr:BP X m r) (ho:PE X o ta)
  (ht:autoParam (eval (.Call (.Attribute o m apos) [] [] pos) X.env=(do
   let ov <-eval o X.env
   standAt apos.atName
   let (f,first) <-holding [ov] (getMethod ov m pl)
   callWith pos f first (backTo pos<|starEach [] X.env) (backToKw pos<|keywordEach [] X.env))) Fk):PE X (.Call (.Attribute o m apos) [] [] pos) (CO r ta):=by
 intro pins s σ H Q I h;rw[ht];refine Du (jI (ho pins s σ H _ I h) λu s1 #[x,H1,I1,rx,q]=>Du<|wpAny_standAt<|Du ?_);exact hr pins s1 σ H1 x u Q pl pos I1 rx q
end
inductive ng:V->Value->Prop where
 | ty (n:String):ng (.ty n) (.type n)
 | ref (a:Addr):ng (.ref a) (.ref a)
theorem ng.val {c:V}{cv u:Value} (h:ng c cv) (r:jG c u):u=cv:=by cases h<;>exact r
section
variable {X:Cx}
theorem ug:Jr X (.builtin "isinstance") (λxs H Q=>E5 λx c t cv b=>A5 (xs=[x,c]) (vV X.K H x t) (ng c cv) (kitOne X.K t cv=some b)<|Q (.bl b) H):=by
 intro pins s σ H xs us Q I r h;obtain⟨x,c,t,cv,b,rfl,ty,hc,e,q⟩:=h;obtain⟨u,w,rfl,ru,rc⟩:=sN r;obtain rfl:=hc.val rc;exact iT I ru ty e λtk=>#[.bl b,H,I.tok tk,rfl,q]
end
def f9 (K:C9) (a b:Addr):It :=
 #[λi H=>∃xs ys x y,jj K H a xs/\jj K H b ys/\xs[i]?=some x/\ys[i]?=some y,
  λi H v H'=>∃p x y,H p=none/\v=.ref p/\H'=upd H p (.tup [x,y])/\∀xs ys,jj K H a xs->jj K H b ys->xs[i]?=some x/\ys[i]?=some y,
  λi H=>∃xs ys,jj K H a xs/\jj K H b ys/\(xs.length<=i\/ys.length<=i)]
theorem jp.turnedL {pins:De}{t':Nat} (I:jp X pins σ H s) (fp:∀c∈ch,VP X pins H c) (keep:∀c o,c ∉ ch->s.heap.get? c=some o->h'.get? c=some o) :
  jp X pins σ H { s with heap:=h',toks:=t' }:=by
 have Td:∀c o,H c=some o->c ∉ ch:=λc o e hc=>by have:=(fp c hc).1;rw[e] at this;cases this
 refine I.step (λc hc=>#[(fp c hc).2.2.2.1,(fp c hc).2.1,(fp c hc).2.2.2.2.1,(fp c hc).2.2.2.2.2])
  (λc o _ _ hc e _=>keep c o hc e) (λc o _ _ hc e _=>#[o.slots,keep c o hc e]) (λ_ _ _ _ n=>n) (λc o hc e=>#[o,keep c o hc e]) (λ_ _ e=>e) (λ_ _ _ e=>e) (λc ps e=>#[(Yb []),by rw[e];simp]) (λm hm=>?_) (λc o e=>?_) I.bare
 ·obtain⟨o,es,ep,ho,r⟩:=hm;exact#[o,es,ep,keep _ o (λhc=>(fp _ hc).2.1 rfl) ho,r]
 ·refine (I.hok c o e).stay (λd u hd q=>keep d u ?_ q) (λ_ q=>q) λ_ _ q=>q;rcases hd with z|z
  ·rw[z];exact Td c o e
  ·exact Td d _ z
theorem rj {K:C9}{elts:Dp}{kk:Nat}{DV:Pos} (z TI TO i1 i2 l1 l2:Addr) (D:ZipApart z TI TO i1 i2 l1 l2) :
  VS P w K (.Tuple elts kk DV) (f9 K l1 l2) [z,TI,TO,i1,i2] z (λi h=>IsZip h z TI TO .none/\IsPair h TI (.ref i1) (.ref i2)/\(∃a b,IsPair h TO a b)/\h.IsListIter i1 l1 i/\h.IsListIter i2 l2 i) true where
 mem:=by simp
 obj:=λi h st b hb=>by
  obtain⟨q1,q2,⟨_,_,q3⟩,⟨o4,q4,_,d4⟩,⟨o5,q5,_,d5⟩⟩:=st;simp only[yD,yS,or_false] at hb;rcases hb with rfl|rfl|rfl|rfl|rfl
  ·exact#[_,q1,λv e=>by cases e]
  ·exact#[_,q2,λv e=>by cases e]
  ·exact#[_,q3,λv e=>by cases e]
  ·exact#[_,q4,λv e=>by rw[d4] at e;cases e]
  ·exact#[_,q5,λv e=>by rw[d5] at e;cases e]
 keep:=λi h h' st k=>by
  obtain⟨q1,q2,⟨a,b,q3⟩,q4,q5⟩:=st;exact#[k z on _ q1,k TI on _ q2,#[a,b,k TO on _ q3],q4.at λo e=>k i1 on o e,q5.at λo e=>k i2 on o e]
 item:=by
  intro X hP hw hK hc i pins s σ H E I hf st hg;subst hP hw hK;obtain⟨xs,ys,x,y,hx,hy,ex,ey⟩:=hg;obtain⟨Dy,rv,p,_⟩:=I.list hx;obtain⟨OR,DY,p',_⟩:=I.list hy;obtain⟨u,hu,ru⟩:=rv.get ex;obtain⟨v,hv,Xu⟩:=DY.get ey;obtain⟨q1,q2,⟨a,b,q3⟩,q4,q5⟩:=st;refine wpAny_pyNext_zip_item D q1 q2 q3 q4 q5 p.isList p'.isList (by simpa using hu) (by simpa using hv) λh1 z1 z2 z3 z4 z5 z6 z7=>?_;refine#[_,rfl,wpAny_letOwnedTupleGo_zip z1 λh2 LU sb=>?_];have keep:∀c o,c ∉ [z,TO,i1,i2]->s.heap.get? c=some o->h2.get? c=some o:=λc o hc e=>by
   simp only[yD,yS,or_false,not_or] at hc;exact (sb.2 c hc.1).trans (z7 c o hc.1 hc.2.1 hc.2.2.1 hc.2.2.2 e)
  have DA:∀{c o},s.heap.get? c=some o->c≠s.heap.objs.size:=λe=>yE<|yo e;have g4:=q4;have g5:=q5;obtain⟨o4,e4,_,_⟩:=g4;obtain⟨o5,e5,_,_⟩:=g5;have fp:∀c∈[z,TO,i1,i2],VP X pins H c:=λc hc=>by
   grind
  have I1:=I.turnedL (t':=s.toks) fp keep;have hp:=I.fresh;have tp:=(sb.2 _<|yV<|DA q1).trans z5;have I2:jp X pins σ (upd H s.heap.objs.size<|.tup _) _:=I1.track hp (Qi I.sz) (Qq I.lt)
   (λn c e zz=>by obtain⟨v0,o0,h0,_⟩:=I.cell n c e;exact DA h0 zz) (λq hq zz=>DA (I.pin q hq).1 zz) #[by show 2<=sizeLine;decide,_,.cons ru<|.cons Xu .nil,_,tp,rfl,_,rfl]
  refine#[.ref s.heap.objs.size,_,I2,rfl,#[_,x,y,hp,rfl,rfl,λEB Le Fj Lf=>?_],#[LU,?_,#[u,v,(sb.2 _ D.TOz).trans z2],z3.extBut sb.extBut D.i1z,z4.extBut sb.extBut D.i2z],λc hc=>?_]
  ·rw[I.list_inj Fj hx,I.list_inj Lf hy];exact#[ex,ey]
  ·exact (sb.2 _ D.TIz).trans (z7 _ _ D.TIz D.TITO D.TIi1 D.TIi2 q2)
  ·have LV:=(hf c hc).1;rw[jC ?_]
   ·exact LV
   ·grind
 done:=by
  intro X hP hw hK hc i pins s σ H E I hf st hg;subst hP hw hK;obtain⟨xs,ys,hx,hy,Rb⟩:=hg;obtain⟨Dy,rv,p,_⟩:=I.list hx;obtain⟨OR,DY,p',_⟩:=I.list hy;obtain⟨q1,q2,⟨a,b,q3⟩,q4,q5⟩:=st;have hl:=rv.length;have DU:=DY.length;refine wpAny_pyNext_zip_end (I.ok.hd<|hc rfl) D q1 q2 q3 q4 q5 p.isList p'.isList (by simp;lia) λh1 k=>#[rfl,?_];refine I.turnedL (ch:=[z,TO,i1,i2]) (λc hc=>hf c ?_) λc o hc e=>?_
  ·grind
  ·simp only[yD,yS,or_false,not_or] at hc;exact k c o hc.1 hc.2.1 hc.2.2.1 hc.2.2.2 e
 self:=λ_ _ _ _ _ st h=>wpAny_pyIter_zip st.1 h
section
variable {X:Cx}{elts:Dp}{kk:Nat}{DV:Pos}
def Cc (K:C9) (ta:TA):TI:=λσ H R=>ta σ H λvs H1=>∃a b,vs=[.ref a,.ref b]/\(∃xs,jj K H1 a xs)/\(∃ys,jj K H1 b ys)/\R (f9 K a b) H1
theorem oh {a b:Expr}{ta:TA}{p pos:Pos} (Fd:X.calm=true) (hg:Gl X "zip") (hm:X.mg "zip"=none) (ha:PA X [a,b] ta) (hs:autoParam (starEach [a,b] X.env=[(false,eval a X.env),(false,eval b X.env)]) Fk) (HF:autoParam (starEach [b] X.env=[(false,eval b X.env)]) Fk) :
  PI X (.Tuple elts kk DV) (.Call (.Name "zip" p) [a,b] [] pos) (Cc X.K ta):=by
 intro pins s σ H R I h;refine Call_ (V5 I hg hm boot_zip (Yu (jI (ha pos pins s σ H _ I h) λus s1 #[vs,H1,I1,r1,q1]=>?_) (by rw[hs,HF]) (by rw[HF];rfl)));obtain⟨l1,l2,e,⟨xs,hx⟩,⟨ys,hy⟩,q⟩:=q1;subst e;obtain⟨u,v,rfl,ru,rv⟩:=sN r1;cases ru;cases rv;obtain⟨Dy,_,p1,_⟩:=I1.list hx;obtain⟨OR,_,p2,_⟩:=I1.list hy;have a1:l1<s1.heap.objs.size:=by obtain⟨_,e,_⟩:=p1.isList;exact yo e
 have a2:l2<s1.heap.objs.size:=by obtain⟨_,e,_⟩:=p2.isList;exact yo e
 refine call_zip_2 p1.isList p2.isList λh' z1 z2 z3 z4 z5 z6 k=>wpAny_pyIter_zip z1 ?_;have I2:=I1.kept (t':=s1.toks) k;refine#[_,_,_,_,H1,rfl,I2,#[true,rj _ _ _ _ _ l1 l2<|zipApart_new a1 a2,λ_=>Fd],#[z1,z2,#[_,_,z3],z4,z5],λc hc=>?_,q];have le:s1.heap.objs.size<=c:=by
  grind
 exact I1.fpOk le (I1.hok.fresh le)
end
section
variable {X:Cx}{tg:Expr}
theorem cq {K:C9}{b:Addr}{ys:List V}{tb:TS}{D:vS} (Pv:Nat->St->Hp->Prop) (h0:Pv 0 σ H) (hl:∀i σ H,i<=(xs.zip ys).length->Pv i σ H->jj K H a xs/\jj K H b ys)
  (hs:∀i x y p σ H,(xs.zip ys)[i]?=some (x,y)->H p=none->Pv i σ H->g (.ref p) σ (upd H p<|.tup [x,y]) λσ2 H2=>tb { D with nx:=Pv<|i+1,ct:=Pv<|i+1,bk:=D.nx } σ2 H2) (hd:∀σ H,Pv (xs.zip ys).length σ H->D.nx σ H) :
  ∃W:Nat->Nat->St->Hp->Prop,(∃m,W 0 m σ H)/\∀i m σ H,W i m σ H ->
   ((f9 K a b).stop i H/\D.nx σ H)\/((f9 K a b).go i H/\∃N:St->Hp->Prop,(∀σ' H',N σ' H'->∃m',m'<m/\W (i+1) m' σ' H')/\∀x H',(f9 K a b).yld i H x H'->g x σ H' λσ2 H2=>tb { D with nx:=N,ct:=N,bk:=D.nx } σ2 H2):=by
 refine#[λi m σ H=>m=(xs.zip ys).length - i/\i<=(xs.zip ys).length/\Pv i σ H,#[(xs.zip ys).length,by simp,yP _,h0],?_];rintro i m σ H ⟨rfl,hi,p⟩;obtain⟨qa,qb⟩:=hl i σ H hi p;have hz:(xs.zip ys).length=min xs.length ys.length:=yM;by_cases DA:i<(xs.zip ys).length
 ·have h1:i<xs.length:=by lia
  have h2:=by omega
  refine .inr #[#[xs,ys,xs[i],ys[i],qa,qb,by simp [h1],by simp [h2]],_,λσ' H' p'=>#[_,by lia,rfl,DA,p'],λv H' yy=>?_];obtain⟨t,x,y,ht,rfl,rfl,e⟩:=yy;obtain⟨ex,ey⟩:=e xs ys qa qb;exact hs i x y t σ H (by grind) ht p
 ·obtain rfl:i=(xs.zip ys).length:=by lia
  exact .inl #[#[xs,ys,qa,qb,by lia],hd σ H p]
end
theorem dy:bootBuiltins "int"=some (.type "int"):=by decide +kernel
theorem w5:bootBuiltins "bool"=some (.type "bool"):=by decide +kernel
theorem kG:bootBuiltins "str"=some (.type "str"):=by decide +kernel
theorem Ug:bootBuiltins "list"=some (.type "list"):=by decide +kernel
theorem UU:bootBuiltins "tuple"=some (.type "tuple"):=by decide +kernel
theorem Jl:bootBuiltins "isinstance"=some (.builtin "isinstance"):=by decide +kernel
theorem AT:bootBuiltins "min"=some (.builtin "min"):=by decide +kernel
theorem JC:bootBuiltins "len"=some (.builtin "len"):=by decide +kernel
theorem Ks:UC (XC X.prog X.w) X (λ_ _ _=>False):=by
 intro pins σ H s e s' I h;obtain⟨_,_,_,_,_,_,_,_,_,q⟩:=h;exact q.elim
section
variable {X:Cx}
theorem Mw:Jr X (.builtin "min") (λxs H Q=>E2 λ(p:Addr) (ns:List Int)=>A4 (xs=[.ref p]) (jj X.K H p<|ns.map V.int) (0<ns.length) (∀M,M∈ns->(∀a∈ns,M<=a)->Q (.int M) H)):=by
 intro pins s σ H xs us Q I r h;obtain⟨p,ns,rfl,hq,D8,q⟩:=h;obtain⟨u,rfl,ru⟩:=uj r;cases ru;obtain⟨Dy,rv,pl,_⟩:=I.list hq;have hi:=eE rv;obtain⟨zs,e⟩:=hi.allInts.items;have F2:ns=zs.toList.map (·.1):=by rw[<-hi.numsOf,<-nums_intItems,<-e]
 have hsz:0<zs.size:=by grind
 have hl:=e▸pl.isList;refine xG (I.hn.now I.hok) hl hsz λv h' tk hv hk=>?_;obtain⟨t,rfl⟩:=intItems_at hv;obtain⟨h1,h2⟩:=argBest_lt (numAt zs)<|zs.size - 1;refine#[.int _,H,I.kept hk,#[t,rfl],q _ ?_ λa ha=>?_]
 ·rw[F2,numAt_eq];exact getD_mem (by grind)
 ·rw[F2] at ha;obtain⟨j,hj,rfl⟩:=mem_getD ha;rw[ya,yN] at hj;rw[<-numAt_eq];exact h2 j gt
theorem Vp {K:C9} (hu:X.A.units<cLine) (hK:autoParam (X.K=K) zze):uk X (compareOp .NotEq) (λx y H Q=>E3 λa b xs=>A5 (x=.ref a) (y=.ref b) (jj K H a xs) (jj K H b [])<|Q (.bl<|!xs.isEmpty) H):=by
 subst hK;intro pins s σ H x y v u Q I rx ry h;obtain⟨a,b,xs,rfl,rfl,ha,hb,q⟩:=h;cases rx;cases ry;obtain⟨Dy,rv,p,_⟩:=I.list ha;obtain⟨OR,DY,p',_⟩:=I.list hb;cases DY;cases rv with
 | nil=>exact EqBoolInt.of_rcne (SeqAt.RcNeAt.lists (e:=λ_=>true) p.isList p'.isList rfl hu (λj h1=>absurd h1 on)) #[.bl false,H,I,rfl,q]
 | cons r t=>exact EqBoolInt.of_rcne (SeqAt.RcNeAt.lists_lengths p.isList p'.isList on hu) #[.bl true,H,I,rfl,q]
end
theorem Ux {K:C9}{tc:TT}{te:TE}{k:Nat}{Q:VK} (p:V->Bool) (f:V->V) (hl:jj K H a xs) (hz:xs.length<=sizeLine)
  (step:∀x∈xs,∀(H':Hp) (Qy:VK) (Qn:Hp->Prop),Same H H'->(p x=true->Qy (f x) H')->(p x=false->Qn H')->g x (σ++Ye k none) H' λσ2 H2=>(∃zs,σ2=σ++zs/\zs.length=k)/\tc σ2 H2 λb H3=>if b=true then te σ2 H3 Qy else Qn H3)
  (q:∀D,H D=none->Q (.ref D) (upd H D<|.lst<|(xs.filter p).map f)) :
  vJ k g tc te σ Q (kA K a) H:=by
 intro D hD;have sm:∀ys,Same H (upd H D<|.lst ys):=λys b o e=>by rw[jC<|jJ e hD];exact e
 refine#[λi m ys H'=>m=xs.length - i/\i<=xs.length/\ys=((xs.take i).filter p).map f/\H'=upd H D (.lst ys),#[xs.length,by simp,yP _,by simp,rfl],?_];rintro i m ys H' ⟨rfl,hi,rfl,rfl⟩;refine#[jc,?_];have q1:jj K (upd H D<|.lst<|((xs.take i).filter p).map f) a xs:=(sm _).seq hl;by_cases DA:i<xs.length
 ·refine .inr #[#[xs,xs[i],q1,by simp [DA]],?_,λx H2 y=>?_]
  ·grind
  ·obtain⟨rfl,y⟩:=y;have hx:=y xs q1;have hm:=yh hx;have et:=take_succ_filter p xs i x hx;refine step x hm _ _ _ (sm _) (λhp=>#[jc,_,by omega,rfl,DA,?_,?_]) λhp=>#[_,by omega,rfl,DA,?_,rfl]
   ·rw[et,hp];simp
   ·rw[wK]
   ·rw[et,hp];simp
 ·obtain rfl:i=xs.length:=by lia
  refine .inl #[#[xs,q1,yj _],?_];rw[aai];exact q D hD
end L2
namespace L2
open PySem PySem.Spec PyProof.Rows PySem.W
section
variable {X:Cx}
theorem Vd:∀{cs:Di} {us:Dh},jH (cs.map V.ref) us->us=cs.map Value.ref
 | [],_,.nil=>rfl
 | _::_,_,.cons r t=>by cases r;rw[Vd t];rfl
end
def rE (x:Str):It:=#[λi _=>i<x.length,λi H v H'=>H'=H/\∃c,x.cps[i]?=some c/\v=.str #[(Yb [c])],λi _=>x.length<=i]
theorem Zw (x:Str):strIterType x="str_ascii_iterator"\/strIterType x="str_iterator":=by
 unfold strIterType;split
 ·exact .inl rfl
 ·exact .inr rfl
theorem rh {P:Dt}{w:World}{K:C9}{tg:Expr} (it:Addr) (x:Str) (t:Tok):VS P w K tg (rE x) [it] it (λi h=>h.IsStrIter it (strIterType x) x t i) false where
 mem:=by simp
 obj:=λi h st b hb=>by
  obtain rfl:b=it:=by simpa using hb
  obtain⟨o,e,c,d⟩:=st;exact#[o,e,λv z=>by rw[d] at z;cases z]
 keep:=λi h h' st k=>by
  obtain⟨o,e,r⟩:=st;exact#[o,k it on o e,r]
 item:=by
  intro X hP hw hK hc i pins s σ H E I hf st hg;subst hP hw hK;obtain⟨f0,f1,f2,f3,f4,f5⟩:=hf it on;have hi:=hg;have hx:=yU hi;have fin:∀h',h'.IsStrIter it _ x t _->Heap.SameBut it s.heap h'->∃u,some (Value.str _ s.toks)=some u /\
    wpAny '%' X.A (letOwnedTupleGo tg _ u) (λ_ s2=>∃v H',jp X pins σ H' s2/\jG v u/\(rE x).yld i H v H'/\s2.heap.IsStrIter it (strIterType x) x t (i+1)/\∀b∈[it],H' b=none) E _:=λh' D7 sb=>by
   have I1:jp X pins σ H { s with heap:=h',toks:=s.toks+1 }:=I.turned (λb o hb e=>(sb.2 b hb).trans e) f0 f1 f3 f4 f5;obtain⟨o,e,c,d⟩:=id D7;refine#[_,rfl,gZ e c d ?_ #[.str _,H,I1,#[_,rfl],#[rfl,_,hx,rfl],D7,λb hb=>(hf b hb).1]];rcases Zw x with z|z<;>(rw[z];decide)
  rcases Zw x with z|z
  ·refine wpAny_pyNext_ascii_item (z▸st) hx λh' D7 sb=>fin h' (z▸D7) sb
  ·refine wpAny_pyNext_wide_item (z▸st) hx λh' D7 sb=>fin h' (z▸D7) sb
 done:=by
  intro X hP hw hK hc i pins s σ H E I hf st hg;obtain⟨f0,f1,f2,f3,f4,f5⟩:=hf it on;have hx:=aao<|hg;rcases Zw x with z|z
  ·exact pK (I.hn.now I.hok) (z▸st) hx λh' eb=>#[rfl,I.turned (λb o hb e=>eb b o hb e) f0 f1 f3 f4 f5]
  ·exact wL (I.hn.now I.hok) (z▸st) hx λh' eb=>#[rfl,I.turned (λb o hb e=>eb b o hb e) f0 f1 f3 f4 f5]
 self:=λA i s Q E st h=>by
  rcases Zw x with z|z
  ·exact wpAny_pyIter_striter_ascii (z▸st) h
  ·exact wpAny_pyIter_striter_wide (z▸st) h
section
variable {X:Cx}{tg:Expr}
inductive rT (R:It->Hp->Prop) (v:V) (H1:Hp):Prop
 | mk (x:_) (h0:v=.str x) (h1:R (rE x) H1):rT R v H1
def Ca (tl:TE):TI:=λσ H R=>tl σ H λv H1=>rT R v H1
theorem xV {l:Expr}{tl:TE} (hl:PE X l tl):PI X tg l (Ca tl):=by
 intro pins s σ H R I h;refine jI (hl pins s σ H _ I h) λv s1 hh=>?_;obtain⟨y,H1,I1,r1,x,e,q⟩:=hh;subst e;obtain⟨t,rfl⟩:=r1;refine wpAny_pyIter_strU ?_;refine#[s1.heap.objs.size,_,_,_,H1,rfl,I1.kept λb o e=>yf _ e,Zk.of<|rh _ x t,#[_,yt _ rfl,rfl,rfl],λb hb=>?_,q];obtain rfl:b=s1.heap.objs.size:=by simpa using hb
 exact I1.fpOk (yj _) (I1.hok.fresh<|yj _)
end
section
variable {X:Cx}{e:Expr}{te:TE}{pos p2 q1 q2:Pos}{j1 j2:Nat}
theorem ic {bs:List Bool}:(Yc bs.length).all (λj=>bs.getD j true)=bs.all id:=by
 rw[Qr,QG,QG];constructor
 ·intro h b hb;obtain⟨j,hj,rfl⟩:=yH hb;have:=h j<|yI.mpr hj;rwa [yn,yb hj] at this
 ·intro h j hj;have hj:=yI.mp hj;rw[yn,yb hj];exact h _ (yz hj)
theorem zQ (hc:X.calm=true):Jr X (.builtin "all") (λxs H Q=>E2 λ(p:Addr) (bs:List Bool)=>A3 (xs=[.ref p]) (jj X.K H p<|bs.map V.bl)<|Q (.bl<|bs.all id) H):=by
 intro pins s σ H xs us Q I r h;obtain⟨p,bs,rfl,hq,q⟩:=h;obtain⟨u,rfl,ru⟩:=uj r;cases ru;obtain⟨Dy,rv,pl,_⟩:=I.list hq;have hlen:Dy.length=bs.length:=by rw[<-rv.length,ya]
 have LW:∀(i:Nat) (v:Value),Dy.toArray[i]?=some v->v=.bool (bs.getD i true):=λi v e=>by
  have e':=by simpa using e
  have hi:i<bs.length:=by grind
  obtain⟨u,hu,ru⟩:=rv.get (i:=i) (x:=V.bl bs[i]) (by simp [hi]);rw[e'] at hu;cases hu;obtain rfl:=ru;rw[yn,yb hi];rfl
 have DA:p<s.heap.objs.size:=by obtain⟨_,e,_⟩:=pl.isList;exact yo e
 refine call_all_walk<|wpAny_pyIter_list pl.isList ?_;refine#[_,_,_,_,_,_,λj=>bs.getD j true,rfl,Walks.list (A:=X.A.in1) (I.ok.hd hc) s.heap.objs.size p (yE DA) Dy.toArray,#[#[_,yt _ rfl,rfl,rfl],pl.isList.push _],?_,λh' tk hk=>?_]
 ·intro i v s' Q' E' hP Ij;obtain rfl:=LW i v hP;exact wpAny_of_eq rfl Ij
 ·rw[yw,hlen,ic];exact#[.bl _,H,I.kept λb o e=>hk b o (λhm=>by simp at hm;exact absurd (hm▸yo e)<|QF _)<|yf _ e,rfl,q]
end
end L2
namespace Wd
open PySem L2 PySem.NumText PySem.W
theorem len_list (x:Str):x.length=x.cps.toList.length:=by simp [Str.length]
end Wd
namespace L2
open PySem PySem.Spec PyProof.Rows
variable {H:Hp}
theorem rL:bootBuiltins "all"=some (.builtin "all"):=by decide +kernel
theorem Zz {H':Hp}{D:Addr}{o:HO} (hD:H D=none) (s:Same H H'):Same H (upd H' D o):=λb u e=>by rw[jC<|jJ e hD];exact s b u e
theorem pR {x:Str}{g:TG}{tc:TT}{te:TE}{k:Nat}{σ:St}{Q:VK} (p:Nat->Bool) (f:Nat->V) (hz:x.length<=sizeLine)
  (step:∀c∈x.cps.toList,∀(H':Hp) (Qy:VK) (Qn:Hp->Prop),Same H H'->(p c=true->∀Fy,Same H' Fy->Qy (f c) Fy)->(p c=false->∀Fy,Same H' Fy->Qn Fy)->g (.str #[(Yb [c])]) (σ++Ye k none) H' λσ2 H2=>(∃zs,σ2=σ++zs/\zs.length=k)/\tc σ2 H2 λb H3=>if b=true then te σ2 H3 Qy else Qn H3)
  (q:∀D H',H D=none->Same H H'->H' D=some (.lst<|(x.cps.toList.filter p).map f)->Q (.ref D) H'):vJ k g tc te σ Q (rE x) H:=by
 intro D hD;have hn:=Wd.len_list x;refine#[λi m ys H'=>m=x.length - i/\i<=x.length/\ys=((x.cps.toList.take i).filter p).map f/\Same H H'/\H' D=some (.lst ys),#[x.length,by simp,yP _,by simp,Zz hD<|Same.refl H,jc],?_];rintro i m ys H' ⟨rfl,hi,rfl,sm,eD⟩;refine#[eD,?_];by_cases DA:i<x.length
 ·refine .inr #[DA,?_,λv H2 y=>?_]
  ·grind
  ·obtain⟨rfl,c,hc,rfl⟩:=y;have hx:x.cps.toList[i]?=some c:=by grind
   have et:(x.cps.toList.take<|i+1).filter p=(x.cps.toList.take i).filter p++(if p c then [c] else []):=by
    rw[abw,hx,QI];cases Xv:p c<;>simp [Xv]
   refine step c (yh hx) _ _ _ sm (λhp H4 s4=>#[s4 _ _ eD,_,by lia,rfl,DA,?_,Zz hD<|Same.trans sm s4,jc]) λhp H4 s4=>#[_,by lia,rfl,DA,?_,Same.trans sm s4,s4 _ _ eD]
   ·rw[et,hp];simp
   ·rw[et,hp];simp
 ·obtain rfl:i=x.length:=by lia
  refine .inl #[yj _,?_];rw[hn,aai] at eD;exact q D H' hD sm eD
end L2
namespace L2
open PySem PySem.Spec PyProof.Rows PySem.W
variable {H:Hp}{a:Addr}{xs:List V}{g:TG}{tc:TT}{te:TE}{σ:St}{Q:VK}
theorem GN {α:Type} [DecidableEq α] (d:α) (xs ys:List α):((Yc<|min xs.length ys.length).all (λj=>decide (xs.getD j d=ys.getD j d))&&xs.length==ys.length)=decide (xs=ys):=by
 rw[Qr,QP,QG,decide_eq_true_iff,beq_iff_eq];constructor
 ·rintro⟨h,hl⟩;refine y7 hl λj h1 h2=>?_;have:=of_decide_eq_true (h j (yI.mpr gt));rwa [yn,yn,yb h1,yb h2] at this
 ·grind
theorem Same.sqT {K:C9}{H':Hp} (e:Same H H') (h:ju K H a xs):ju K H' a xs:=by
 rcases h with (h|⟨o,h⟩)|h
 ·exact .inl (.inl<|e _ _ h)
 ·exact .inl (.inr #[o,e _ _ h])
 ·exact .inr h
section
variable {X:Cx}{pins:De}{σ:St}{H:Hp}{s:Shared}
theorem iu {A:Around}{Dy DG:Dh}{ns ms:List Int} (r1:jH (ns.map V.int) Dy) (r2:jH (ms.map V.int) DG) (j:Nat) (h1:j<Dy.toArray.size) (h2:j<DG.toArray.size) :
  SeqAt.EqAt A s Dy.toArray[j] DG.toArray[j] (decide (ns.getD j 0=ms.getD j 0)):=by
 have l1:=r1.length;have l2:=r2.length;rw[ya] at l1 l2;rw[yw] at h1 h2;have g1:j<ns.length:=by lia
 have g2:j<ms.length:=by lia
 obtain⟨u,hu,ru⟩:=r1.get (i:=j) (x:=V.int ns[j]) (by simp [g1]);obtain⟨v,hv,rv⟩:=r2.get (i:=j) (x:=V.int ms[j]) (by simp [g2]);obtain⟨t,rfl⟩:=ru;obtain⟨t2,rfl⟩:=rv;have e1:Dy.toArray[j]=.int ns[j] t:=by
  grind
 have e2:DG.toArray[j]=.int ms[j] t2:=by
  grind
 rw[e1,e2];have e3:(ns[j]==ms[j])=decide (ns.getD j 0=ms.getD j 0):=by
  grind
 rw[<-e3];exact SeqAt.EqAt.int_int _ _ _ _
end
theorem dF {K:C9}{k:Nat} (p:V->Bool) (f:V->V) (hl:ju K H a xs) (hz:xs.length<=sizeLine)
  (step:∀x∈xs,∀(H':Hp) (Qy:VK) (Qn:Hp->Prop),Same H H'->(p x=true->∀Fy,Same H' Fy->Qy (f x) Fy)->(p x=false->∀Fy,Same H' Fy->Qn Fy)->g x (σ++Ye k none) H' λσ2 H2=>(∃zs,σ2=σ++zs/\zs.length=k)/\tc σ2 H2 λb H3=>if b=true then te σ2 H3 Qy else Qn H3)
  (q:∀D H',H D=none->Same H H'->H' D=some (.lst<|(xs.filter p).map f)->Q (.ref D) H'):vJ k g tc te σ Q (bZ K a) H:=by
 intro D hD;refine#[λi m ys H'=>m=xs.length - i/\i<=xs.length/\ys=((xs.take i).filter p).map f/\Same H H'/\H' D=some (.lst ys),#[xs.length,by simp,yP _,by simp,Zz hD<|Same.refl H,jc],?_];rintro i m ys H' ⟨rfl,hi,rfl,sm,eD⟩;refine#[eD,?_];have q1:=sm.sqT hl;by_cases DA:i<xs.length
 ·refine .inr #[#[xs,xs[i],q1,by simp [DA]],?_,λx H2 y=>?_]
  ·grind
  ·obtain⟨rfl,y⟩:=y;have hx:=y xs q1;have et:=take_succ_filter p xs i x hx;refine step x (yh hx) _ _ _ sm (λhp H4 s4=>#[s4 _ _ eD,_,by omega,rfl,DA,?_,Zz hD<|Same.trans sm s4,jc]) λhp H4 s4=>#[_,by omega,rfl,DA,?_,Same.trans sm s4,s4 _ _ eD]
   ·rw[et,hp];simp
   ·rw[et,hp];simp
 ·obtain rfl:i=xs.length:=by lia
  refine .inl #[#[xs,q1,yj _],?_];rw[aai] at eD;exact q D H' hD sm eD
theorem vK {lo:Int}{n:Nat}{k:Nat} (Pv:Addr->Nat->List V->Hp->Prop) (hn:n<=sizeLine)
  (h0:∀D,H D=none->Pv D 0 [] (upd H D<|.lst [])) (hD:∀D i ys H',Pv D i ys H'->H' D=some (.lst ys)/\ys.length=i)
  (step:∀D i ys H' (Qy:VK) (Qn:Hp->Prop),i<n->Pv D i ys H'->(∀y H4,H4 D=some (.lst ys)->Pv D (i+1) (ys++[y]) (upd H4 D<|.lst<|ys++[y])->Qy y H4) ->
   g (.int<|lo+i) (σ++Ye k none) H' λσ2 H2=>(∃zs,σ2=σ++zs/\zs.length=k)/\tc σ2 H2 λb H3=>if b=true then te σ2 H3 Qy else Qn H3)
  (q:∀D ys H',H D=none->Pv D n ys H'->Q (.ref D) H'):vJ k g tc te σ Q (my lo n) H:=by
 intro D EW;refine#[λi m ys H'=>m=n - i/\i<=n/\Pv D i ys H',#[n,by simp,yP _,h0 D EW],?_];rintro i m ys H' ⟨rfl,hi,p⟩;obtain⟨e,hl⟩:=hD D i ys H' p;refine#[e,?_];by_cases DA:i<n
 ·refine .inr #[DA,by lia,λx H2 y=>?_];obtain⟨rfl,rfl⟩:=y;exact step D i ys H2 _ _ DA p λy H4 e4 p4=>#[e4,_,by lia,rfl,DA,p4]
 ·obtain rfl:i=n:=by lia
  exact .inl #[yj _,q D ys H' EW p]
theorem JV {K:C9}{k:Nat} (Pv:Addr->Nat->List V->Hp->Prop) (hz:xs.length<=sizeLine)
  (h0:∀D,H D=none->Pv D 0 [] (upd H D<|.lst [])) (hD:∀D i ys H',Pv D i ys H'->H' D=some (.lst ys)/\ys.length<=i/\jj K H' a xs)
  (step:∀D i x ys H' (Qy:VK) (Qn:Hp->Prop),xs[i]?=some x->Pv D i ys H'->(∀y H4,H4 D=some (.lst ys)->Pv D (i+1) (ys++[y]) (upd H4 D<|.lst<|ys++[y])->Qy y H4)->(∀H4,Pv D (i+1) ys H4->Qn H4) ->
   g x (σ++Ye k none) H' λσ2 H2=>(∃zs,σ2=σ++zs/\zs.length=k)/\tc σ2 H2 λb H3=>if b=true then te σ2 H3 Qy else Qn H3)
  (q:∀D ys H',H D=none->Pv D xs.length ys H'->Q (.ref D) H'):vJ k g tc te σ Q (kA K a) H:=by
 intro D EW;refine#[λi m ys H'=>m=xs.length - i/\i<=xs.length/\Pv D i ys H',#[xs.length,by simp,yP _,h0 D EW],?_];rintro i m ys H' ⟨rfl,hi,p⟩;obtain⟨e,hl,q1⟩:=hD D i ys H' p;refine#[e,?_];by_cases DA:i<xs.length
 ·refine .inr #[#[xs,xs[i],q1,by simp [DA]],by lia,λx H2 y=>?_];obtain⟨rfl,y⟩:=y;exact step D i x ys H2 _ _ (y xs q1) p (λy H4 e4 p4=>#[e4,_,by lia,rfl,DA,p4]) λH4 p4=>#[_,by lia,rfl,DA,p4]
 ·obtain rfl:i=xs.length:=by lia
  exact .inl #[#[xs,q1,yj _],q D ys H' EW p]
section
variable {X:Cx}{K:C9}
theorem ZN (h:X.K=K):Jr X (.type "list") (λxs H Q=>E2 λp ys=>A3 (xs=[.ref p]) (jj K H p ys\/ju K H p ys) (∀l,H l=none->Q (.ref l) (upd H l<|.lst ys))):=by
 subst h;exact VT
theorem ZM (h:X.K=K):Jr X (.builtin "len") (λxs H Q=>E2 λp ys=>A3 (xs=[.ref p]) (jj K H p ys\/ju K H p ys)<|Q (.int ys.length) H):=by
 subst h;exact jW
end
end L2
namespace L2
open PySem PySem.Spec PyProof.Rows
variable {h':Heap}{s:Shared}{σ:St}{H H':Hp}{Q:C3}{x qual:Str}{u:Value}{y v:V}{P:Dt}{w:World}{a b f:Addr}{Dx:List (List Key×V)}{xs:List (List Key×Addr×Value)}{pos:Pos}{X:Cx}{HG:List (TE×TE)}{st:Stmt}
section
variable {X:Cx}
def wn:V->List V->Hp->VK->Prop:=λx vs H Q=>∃l xs y,∃i:Int,x=.ref l/\vs=[.int i,y]/\H l=some (.lst xs)/\xs.length<sizeLine/\0<=i/\i<2^63/\Q .non (upd H l<|.lst<|xs.take (min i.toNat xs.length)++[y]++xs.drop (min i.toNat xs.length))
theorem gz:ZL X "list.insert" wn:=by
 intro pins s σ H x vs v us Q I rx rv h;obtain⟨l,xs,y,i,rfl,rfl,hH,hz,h0,hi,q⟩:=h;cases rx;cases rv with
 | cons ra rr =>
  cases rr with
  | cons rb rr =>
   cases rr;obtain⟨t,rfl⟩:=ra;rename_i yv;obtain⟨z,Dy,n,r,hl,e⟩:=I.lstM hH;have Il:¬(!Builtin.List.listFitsIndex i)=true:=by rw[fitsIndex_both gt hi];decide
   have hm:=AutoListH.list_insert_list_int_val_1 l Dy.toArray n i t yv Il (by rw[yw];lia);refine call_meets F.slot_list_insert #[_,e,rfl] F.entry_list_insert (F.args_list_insert_3 _ _ _) hm #[e,?_];refine#[.non,_,I.lset hH e ?_ (((r.take _).append<|.cons rb .nil).append<|r.drop _) ?_,rfl,q]
   ·grind
   ·grind
end
abbrev Cx.blkN (X:Cx) (N0:Dm) (scope:Scope) (cl:Dj) (C:Addr) (own:Dm) (s:Shared) (H:Hp) (fp:Di) (pins:De):Cx :=
 { X.blk scope cl C own s H fp pins with N:=N0++own }
structure UT (X:Cx) (N0:Dm) (scope:Scope) (cl:Dj):Prop where
 clos:closureFor scope X.env=pure cl
 kind:scope.kind=.function
 nocell:∀y∈scope.names,y.2≠.cell
 names:∀y∈scope.names,y.2=.local->scope.names.lookup y.1=some .local
 sub:∀x c,cl.lookup x=some c->X.env.cells.lookup x=some c
 has:∀x,scope.names.lookup x=some .free->∃c,cl.lookup x=some c
 outer:∀x,scope.names.lookup x=some .free->X.env.kindOf x=some .cell\/X.env.kindOf x=some .free
 lenN:N0.length=X.N.length
 nm:∀(i:Nat) (x:Str),N0[i]?=some x->(X.N[i]?=some x/\scope.names.lookup x≠some .local)\/scope.names.lookup x=none
section
variable {X:Cx}{scope:Scope}{cl:Dj}{own N0:Dm}{pins:De}{σ:St}{H2 H3:Hp}{s2:Shared}{fp:Di}{C:Addr}{h1:Heap}
theorem sU (S:UT X N0 scope cl) (I2:jp X pins σ H2 s2) (f2:∀b∈fp,VP X pins H2 b) (DA:∀b∈fp,b<s2.heap.objs.size) (hC:s2.heap.objs.size<=C) {m:Dd} (F2:h1.Ns C m)
  (keep:∀b o,s2.heap.get? b=some o->h1.get? b=some o) (hH:∀b o,s2.heap.get? b=some o->H2 b=none->H3 b=none) (un:Un (UN X.stack) fp H2 H3 s2.heap h1) (hok:JU X.prog X.w H3 h1) (Xw:H3 C=none) {tk:Nat} :
  jp (X.blkN N0 scope cl C own s2 H2 fp pins) [] (σ++Ye own.length none) H3 { s2 with heap:=h1,toks:=tk }:=by
 have Lb:∀b o,s2.heap.get? b=some o->b≠C:=λb o e=>yE<|yC (yo e) hC;have Te:∀x,(compEnvC scope cl C X.env).kindOf x=(scope.names.lookup x).map _:=λx=>gs;have EL:∀x,((compEnvC scope cl C X.env).kindOf x=some .cell\/(compEnvC scope cl C X.env).kindOf x=some .free)->scope.names.lookup x=some .free:=λx hx=>by
  rw[Te x] at hx;cases q:scope.names.lookup x with
  | none=>rw[q] at hx;rcases hx with z|z<;>cases z
  | some k =>
   have nc:=S.nocell _<|Ke q;cases k<;>simp_all
 refine#[#[I2.ok.mod,S.kind,I2.ok.glob,I2.ok.blt,hC,λx y c e1 e2=>I2.ok.inj x y c (S.sub x c e1)<|S.sub y c e2,λx hx=>S.has x<|EL x hx,λx c z _=>(by cases z),I2.ok.hd,I2.ok.frames,.inl rfl,
  λb hb=>#[yE<|yC (DA b hb) hC,λx c e=>(f2 b hb).2.2.2.2.1 x c<|S.sub x c e],λb o e=>#[(I2.bs b o e).1,(I2.bs b o e).2],yk I2.ok.bsz I2.sz,λb o e hb=>?_,λb hb=>aQ I2 (f2 b hb).2.1 (f2 b hb).2.2.1,I2.stack,I2.stkFree],
  rfl,I2.bare,un,#[m,F2,λi x v e1 e2 e3=>?_],λx c e=>?_,Xw,λx c e=>?_,λp hp=>?_,hok,?_,I2.hn.mono un.frzs]
 ·rcases (f2 b hb).2.2.2.1 with z|z
  ·exact I2.ok.noex b o e z
  ·exact absurd (yC (yC (yo e) I2.ok.bsz) z) (QF _)
 ·
  have hi:i<σ.length:=by
   grind
  rw[yx hi] at e2;have Lh:i<N0.length:=by rw[S.lenN,<-I2.len];exact hi
  have Xx:N0[i]?=some x:=by grind
  have OS:=S.nm i x Xx;have Xy:(compEnvC scope cl C X.env).kindOf x=some _\/(compEnvC scope cl C X.env).kindOf x=some _\/(compEnvC scope cl C X.env).kindOf x=some _:=e3;have OS:=OS.resolve_right λz=>by
   grind
  have Xz:=OS.1;have nl:(compEnvC scope cl C X.env).kindOf x≠some .local:=λz=>by
   rw[Te x] at z;cases q:scope.names.lookup x with
   | none=>rw[q] at z;cases z
   | some k =>
    rw[q,QX] at z;have na:=OS.2;rw[q] at na;cases k<;>first
     | exact na rfl
     | (have z':=Yd z;split at z'<;>cases z')
  have Rc:=Xy.resolve_left nl;obtain⟨c,hc⟩:=S.has x<|EL x Rc;obtain⟨m0,hn0,XA⟩:=I2.loc;have XB:=S.sub x c hc;have ho:=S.outer x<|EL x Rc;obtain⟨u,r,l⟩:=XA i x v Xz e2<|.inr ho;refine⟨u,r,.inr ⟨Rc,c,hc,?_⟩⟩;rcases l with ⟨z,_⟩|⟨_,c',Hj,oc,FV,OT⟩
  ·grind
  ·rw[XB] at Hj;cases Hj;exact⟨oc,keep _ _ FV,OT⟩
 ·obtain⟨v,⟨oc,FV,OT⟩⟩:=I2.cell x c<|S.sub x c e;exact⟨v,oc,keep _ _ FV,OT⟩
 ·obtain⟨v,⟨oc,FV,OT⟩⟩:=I2.cell x c<|S.sub x c e;exact hH c oc FV (I2.freeC x c<|S.sub x c e)
 ·obtain⟨q1,q2,q3,q4,q5⟩:=I2.pin p (by simpa using hp);exact⟨keep _ _ q1,hH _ _ q1 q2,Lb _ _ q1,aQ I2 q3 q4,q5⟩
 ·rw[yg,yg,QW,I2.len,S.lenN]
theorem pM (I2:jp X pins σ H2 s2) (f2:∀b∈fp,VP X pins H2 b) (hC:s2.heap.objs.size<=C) {pl:De} {σ':St} {s4:Shared} (I4:jp (X.blkN N0 scope cl C own s2 H2 fp pins) pl σ' H3 s4) (sb:Heap.SameBut C s4.heap h') :
  jp X pins σ H3 { s4 with heap:=h' }:=by
 have un:=I4.base;have nC:=Qi hC;have CF:C ∉ UN X.stack:=λz=>by
  obtain⟨_,o,ho,_⟩:=I2.stack.mem z;rw[nC] at ho;cases ho
 have P8:=un.late (ch:=[C]) (λb hb=>by
  grind) (λb o _ hb e=>(sb.2 b (by simpa using hb)).trans e) λb o hb e=>#[o.slots,(sb.2 b λz=>CF<|z▸hb).trans e]
 have hf:H3 C=none:=I4.free;have hok:=λb o e=>(I4.hok b o e).stay (λc u hc q=>(sb.2 c λz=>by
  grind).trans q) (λ_ q=>q) λ_ _ q=>q
 exact I2.call' I4.os P8 hok I4.bare λb hb=>#[(f2 b hb).2.2.2.1,(f2 b hb).2.1,(f2 b hb).2.2.2.2.1,(f2 b hb).2.2.2.2.2]
end
section
variable {X:Cx}{tg elt iter:Expr}{ifs:Dp}{scope:Scope}{cl:Dj}{own N0:Dm}{wi:TI}{g:TG}{tc:TT}{te:TE}{pos:Pos}
theorem kO {p2:Pos}{use:Option (Value->Sem Unit)}{QV:C3}{pins:De}{Q:VK} (S:UT X N0 scope cl) (hi:PI X tg iter wi)
  (hg:∀C s H fp pins,PG (X.blkN N0 scope cl C own s H fp pins) tg g) (ht:∀C s H fp pins,PF (X.blkN N0 scope cl C own s H fp pins) ifs tc) (he:∀C s H fp pins,PE (X.blkN N0 scope cl C own s H fp pins) elt te)
  (hs:∀x,foldedSetIterable iter X.env x=pure x) (I:jp X pins σ H s) (h:KD wi own.length g tc te σ H Q)
  (fin:∀D C s2 H2 H3 s4,jp X pins σ H2 s2->s2.heap.objs.size<=C->H3 C=none->(∃m,s4.heap.Ns C m)->(∀h',Heap.SameBut C s4.heap h'->jp X pins σ H3 { s4 with heap:=h' })->Q (.ref D) H3->compPost '%' X.A X.xe use QV (.ref D) C (.ok .next) s4) :
  wpAny '%' X.A (comprehension (.ListComp elt [#[tg,iter,ifs,0]] scope pos) scope X.env p2 (newList []) false (eval iter X.env) use) QV X.xe s:=by
 refine wpAny_comprehension_free rfl hs S.clos S.kind S.names (jI (hi pins s σ H _ I h) λv s1 h1=>jI h1 λPK s2 h2=>?_);obtain⟨it,fp,tn,J,H2,e,I2,T,Ft,f2,R⟩:=h2;subst e;obtain⟨nm,T,hc⟩:=T;refine wpAny_newObj_type (wpAny_newFunctionEnv S.nocell (by intro y hy;simp at hy) (λh1 F2 Tf=>?_) S.kind);have DA:∀b∈fp,b<s2.heap.objs.size:=λb hb=>by
  obtain⟨o,ho,_⟩:=T.obj 0 _ Ft b hb;exact yo ho
 generalize hp:s2.heap.push _=hl at F2 Tf ⊢;have hC:hl.objs.size=s2.heap.objs.size+1:=by rw[<-hp,Qu]
 have FA:s2.heap.objs.size<=hl.objs.size:=by rw[hC];exact abh _
 have XD:s2.heap.objs.size≠hl.objs.size:=by lia
 have old:=λb o e=>Tf.extBut b o (yE<|yo e)<|yf _ e;have FC:=λb o e=>old b o<|hp▸yf _ e;have Dn:=I2.fresh;have Cn:=I2.hok.fresh FA;obtain⟨W,⟨m0,w0⟩,step⟩:=R s2.heap.objs.size Dn;have Fx:=old _ _<|hp▸yt _ rfl;have I3:jp _ _ (σ++Ye own.length none) _ { s2 with heap:=h1,toks:=s2.toks+([]:List (Str×Value)).length } :=
  sU S I2 f2 DA FA F2 FC (λb o e n=>jy (yE<|yo e) n) (Un.laid FC (yj _) Dn) (I2.hok.laid FC (yj _) (show JZ X.prog X.w _ h1 s2.heap.objs.size (.lst _) from#[yP _,_,0,.nil,Fx])) (jy (yV XD) Cn)
 have XE:∀b∈fp,upd H2 s2.heap.objs.size (.lst []) b=none:=λb hb=>by rw[jC<|yE<|DA b hb];exact (f2 b hb).1
 have EK:∀{H':Hp},(∀b∈fp,H' b=none)->∀b∈fp,VP (X.blkN N0 scope cl hl.objs.size own s2 H2 fp pins) [] H' b:=λhn b hb =>
  #[hn b hb,yE<|yC (DA b hb) FA,aQ I2 (f2 b hb).2.1 (f2 b hb).2.2.1,.inl hb,λx c e=>(f2 b hb).2.2.2.2.1 x c<|S.sub x c e,λp hp=>(f2 b hb).2.2.2.2.2 p (by simpa using hp)]
 have loop:∀s3:Shared,s3={ s2 with heap:=h1,toks:=s2.toks+([]:List (Str×Value)).length } ->
   codeAny '%' X.A (.compLoop (.ListComp elt [#[tg,iter,ifs,0]] scope pos) 0 (.ref it) (.ref s2.heap.objs.size)<|compEnvC scope cl hl.objs.size X.env) (compPost '%' X.A X.xe use QV (.ref s2.heap.objs.size) hl.objs.size) s3:=by
  rintro s3 rfl;refine dG (λn s'=>∃i ys H',jp _ _ _ H' s'/\tn i s'.heap/\(∀b∈fp,H' b=none)/\W i n ys H') ?_ m0
   #[0,_,_,I3,T.keep 0 _ _ Ft (λb _ o e=>FC b o e),XE,w0]
  rintro n s3 ⟨i,ys,H3,J3,LC,LD,w3⟩;obtain⟨hD,⟨stop,q⟩|⟨go,hlen,turn⟩⟩:=step i n ys H3 w3
  ·refine jI (T.done (X.blkN N0 scope cl hl.objs.size own s2 H2 fp pins) rfl rfl rfl hc i _ s3 _ H3 _ J3 (EK LD) LC stop) λr s4 #[hr,J4]=>?_;subst hr;obtain⟨m4,XF,_⟩:=J4.loc;exact fin _ _ s2 H2 H3 s4 I2 FA J4.free #[m4,XF] (λh' sb=>pM I2 f2 FA J4 sb) q
  ·refine jI (T.item (X.blkN N0 scope cl hl.objs.size own s2 H2 fp pins) rfl rfl rfl hc i _ s3 _ H3 _ J3 (EK LD) LC go) λr s4 #[u,hr,h4]=>?_;subst hr;refine jI h4 λ_ s5 hh=>?_;obtain⟨x,H5,J5,r5,y5,Ii,PL⟩:=hh;have XG:=J5.pinned (EK PL)<|T.obj _ _ Ii;refine jI (hg _ _ _ _ _ _ s5 _ H5 x u _ XG r5<|turn x H5 y5) λ_ s6 hh=>?_;obtain⟨σ6,H6,J6,⟨ts,e6,XH⟩,q6⟩:=hh;subst e6;refine jI (ht _ _ _ _ _ _ s6 _ H6 _ J6 q6) λok s7 #[H7,J7,q7]=>?_;have again:∀{s8:Shared} {H8:Hp} {zs:List V},jp _ ([]++Kv fp s5.heap) (σ++ts) H8 s8->(∃m',m'<n/\W (i+1) m' zs H8) ->
     ∃m,m<n/\∃i ys H',jp (X.blkN N0 scope cl hl.objs.size own s2 H2 fp pins) _ (σ++Ye own.length none) H' s8/\tn i s8.heap/\(∀b∈fp,H' b=none)/\W i m ys H':=λ{s8 H8 zs} J8 ⟨m',hm,w8⟩=>by
    refine#[m',hm,_,zs,H8,?_,T.keep _ _ _ Ii λb hb o e=>(J8.pin _<|yA _<|yA _<|VB hb e).1,λb hb=>?_,w8]
    ·refine J8.unpinned.weak (by rw[yg,yg,QW,XH]) λj v ej=>?_;by_cases hj:j<σ.length
     ·rw[yx hj] at ej ⊢;exact ej
     ·grind
    ·obtain⟨o,e,d⟩:=T.obj _ _ Ii b hb;exact (J8.pin _<|yA _<|yA _<|VB hb e).2.1
   cases ok with
   | false=>exact again J7 q7
   | true =>
    refine jI (he _ _ _ _ _ _ s7 _ H7 _ J7 q7) λz s8 hh=>?_;obtain⟨y,H8,J8,r8,XI,q8⟩:=hh;refine jI (Jb _ s8 _ H8 (.ref s2.heap.objs.size) _ _ _ _ J8 rfl (.cons r8 .nil) #[_,ys,y,rfl,rfl,XI,hlen,q8]) λ_ s9 #[_,H9,J9,_,q9]=>again J9 q9
 exact codeAny_compStart_list (loop _ rfl) (T.self _ 0 _ _ _ (T.keep 0 _ _ Ft λb _ o e=>FC b o e)<|loop _ rfl)
theorem vx (S:UT X N0 scope cl) (hi:PI X tg iter wi)
  (hg:∀C s H fp pins,PG (X.blkN N0 scope cl C own s H fp pins) tg g) (ht:∀C s H fp pins,PF (X.blkN N0 scope cl C own s H fp pins) ifs tc) (he:∀C s H fp pins,PE (X.blkN N0 scope cl C own s H fp pins) elt te)
  (hs:autoParam (∀x,foldedSetIterable iter X.env x=pure x) zzg):PE X (.ListComp elt [#[tg,iter,ifs,0]] scope pos) (KD wi own.length g tc te):=by
 intro pins s σ H Q I h;exact kO S hi hg ht he hs I h λD C s2 H2 H3 s4 _ _ _ hn inv q=>hn.elim λm hn=>#[m,hn,λh' sb=>#[.ref D,H3,inv h' sb,rfl,q]]
theorem vd (i:Nat) {pos' LX:Pos} (S:UT X N0 scope cl) (hi:PI X tg iter wi)
  (hg:∀C s H fp pins,PG (X.blkN N0 scope cl C own s H fp pins) tg g) (ht:∀C s H fp pins,PF (X.blkN N0 scope cl C own s H fp pins) ifs tc) (he:∀C s H fp pins,PE (X.blkN N0 scope cl C own s H fp pins) elt te)
  (hN:X.N.Nodup:=by exact fo (by kernel_rfl)) (XJ:autoParam (X.N[i]?=some x) Fk) (hx:autoParam (hV X.env.scope x) zzu) (hs:autoParam (∀x,foldedSetIterable iter X.env x=pure x) zzg) (XM:autoParam (swapsWith (.ListComp elt [#[tg,iter,ifs,0]] scope pos) (some<|.Name x pos') LX.line X.env=pure true) Fk)
  (hf:autoParam (X.fn x=true\/X.env.scope.names.lookup x=some .local) zzi) :
  PS X (.Assign [.Name x pos'] (.ListComp elt [#[tg,iter,ifs,0]] scope pos) LX) (aT (KD wi own.length g tc te)<|UW i):=by
 intro pins s σ H D I h;rw[exec_Assign_Name_used _ _ _ _ XM];refine Du<|wpAny_standAt<|Du ?_;refine Du (wpAny_mono (kO S hi hg ht he hs I h λDa C s2 H2 H3 s4 I2 hC ET hn inv q=>?_) (λ_ s' hq=>Dv<|Dv hq) λ_ _ e=>e);obtain⟨m,hn⟩:=hn;have I4:=inv s4.heap<|Heap.SameBut.refl _ _;have nC:=Qi hC;refine wpAny_assign_Name (Mi I4 hN XJ hx (show jG (.ref Da) _ from rfl) (λs5 I5 #[a,sb,ha]=>#[m,hn.sameBut sb ?_,λh' XN=>#[_,H3,I5.let_go I2 hC ET XN,q]]) hf);rintro rfl;rcases ha with z|z
 ·obtain⟨_,Lc,_⟩:=I2.loc;obtain⟨_,_,_,hL,_⟩:=Lc;rw[<-z,nC] at hL;cases hL
 ·obtain⟨_,_,hc,_⟩:=I2.cell x _ z;rw[nC] at hc;cases hc
end
section
variable {κ:Type} [DecidableEq κ]
def Jp (Dx:List (κ×V)) (k:κ):Option V:=(Dx.find? λkv=>decide (kv.1=k)).map (·.2)
def uA (Dx:List (κ×V)) (k:κ) (v:V):List (κ×V) :=
 if (Dx.any λkv=>decide (kv.1=k))=true then Dx.map (λkv=>if kv.1=k then (kv.1,v) else kv) else Dx++[(k,v)]
theorem uX {p:κ×V}{r:List (κ×V)}{k:κ} (e:p.1=k):Jp (p::r) k=some p.2:=by simp [Jp,e]
theorem uW {p:κ×V}{r:List (κ×V)}{k:κ} (e:¬p.1=k):Jp (p::r) k=Jp r k:=by simp [Jp,e]
theorem vy (k:κ):∀Dx:List (κ×V),(Dx.any λkv=>decide (kv.1=k))=(Jp Dx k).isSome
 | []=>rfl
 | p::r=>by
  rw[aah];by_cases e:p.1=k
  ·simp only[uX e,decide_eq_true e,Bool.true_or,Option.isSome_some]
  ·rw[uW e,decide_eq_false e,Bool.false_or];exact vy k r
theorem ba (k j:κ) (y:V):∀Dx:List (κ×V),Jp (Dx.map λkv=>if kv.1=k then (kv.1,y) else kv) j=(Jp Dx j).map λx=>if j=k then y else x
 | []=>rfl
 | p::r=>by
  have ih:=ba k j y r;rw[Ql];by_cases h:p.1=k
  ·rw[if_pos h];by_cases e:p.1=j
   ·rw[uX (p:=(p.1,y)) e,uX e,QX,if_pos<|e.symm.trans h]
   ·rw[uW (p:=(p.1,y)) e,uW e,ih]
  ·rw[if_neg h];by_cases e:p.1=j
   ·rw[uX (p:=p) e,uX e,QX,if_neg (λz=>h<|e.trans z)]
   ·rw[uW (p:=p) e,uW e,ih]
theorem Mj (k j:κ) (y:V):∀Dx:List (κ×V),Jp Dx k=none->Jp (Dx++[(k,y)]) j=if j=k then some y else Jp Dx j
 | [],_=>by
  by_cases e:k=j
  ·rw[if_pos e.symm];exact uX (p:=(k,y)) e
  ·rw[if_neg (λz=>e z.symm)];exact uW (p:=(k,y)) e
 | p::r,hn=>by
  rw[List.cons_append];have hk:¬p.1=k:=λz=>by rw[uX z] at hn;cases hn
  rw[uW hk] at hn;have ih:=Mj k j y r hn;by_cases e:p.1=j
  ·rw[uX e,uX e,if_neg (λz=>hk<|e.trans z)]
  ·rw[uW e,uW e,ih]
theorem rn (Dx:List (κ×V)) (k j:κ) (y:V):Jp (uA Dx k y) j=if j=k then some y else Jp Dx j:=by
 unfold uA;by_cases a:(Dx.any λkv=>decide (kv.1=k))=true
 ·rw[if_pos a,ba];rw[vy] at a;by_cases e:j=k
  ·obtain⟨x,hx⟩:=Option.isSome_iff_exists.mp a;rw[if_pos e,e,hx,QX,if_pos rfl]
  ·rw[if_neg e];cases Jp Dx j with
   | none=>rfl
   | some x=>rw[QX,if_neg e]
 ·rw[if_neg a];refine Mj k j y Dx ?_;rw[vy] at a;cases q:Jp Dx k with
  | none=>rfl
  | some x=>rw[q] at a;exact (a rfl).elim
theorem Vi (Dx:List (κ×V)) (k:κ) (v:V):(uA Dx k v).length<=Dx.length+1:=by
 unfold uA;split
 ·rw[ya];lia
 ·grind
theorem ZC {Dx:List (κ×V)}{k:κ} (v:V) (h:Jp Dx k=none):uA Dx k v=Dx++[(k,v)]:=by
 unfold uA;rw[vy,h];exact if_neg ac
theorem U3.isSome_eq {o:Option V}{u:Option Value} (r:U3 o u):o.isSome=u.isSome:=by
 cases o with
 | none=>cases u with
  | none=>rfl
  | some _=>exact (r).elim
 | some _=>cases u with
  | none=>exact (r).elim
  | some _=>rfl
theorem KV.val {Dx:List (κ×V)}{vs:List (κ×Value)} (r:KV Dx vs) (k:κ):U3 (Jp Dx k) (valueAt vs k):=by
 induction r with
 | nil=>exact Yp
 | @cons p q ps qs h t ih =>
  obtain⟨h1,h2⟩:=h;by_cases e:p.1=k
  ·have e':=h1.symm.trans e;have b:valueAt (q::qs) k=some q.2:=by simp [valueAt,e']
   rw[uX e,b];exact h2
  ·have e':¬q.1=k:=λz=>e<|h1.trans z;have b:valueAt (q::qs) k=valueAt qs k:=by simp [valueAt,e']
   rw[uW e,b];exact ih
theorem KV.any {Dx:List (κ×V)}{vs:List (κ×Value)} (r:KV Dx vs) (k:κ):(Dx.any λkv=>decide (kv.1=k))=vs.any λkv=>decide (kv.1=k):=by
 induction r with
 | nil=>rfl
 | cons h t ih=>rw[aah,aah,ih,h.1]
theorem KV.repl {Dx:List (κ×V)}{vs:List (κ×Value)} (r:KV Dx vs) (k:κ) (ry:jG y u) :
  KV (Dx.map λkv=>if kv.1=k then (kv.1,y) else kv) (vs.map λkv=>if kv.1=k then (kv.1,u) else kv):=by
 induction r with
 | nil=>exact .nil
 | @cons p q ps qs h t ih =>
  refine .cons ?_ ih;by_cases e:p.1=k
  ·grind
  ·grind
theorem KV.put {Dx:List (κ×V)}{vs:List (κ×Value)} (r:KV Dx vs) (k:κ) (ry:jG y u):KV (uA Dx k y) (stored vs k u):=by
 unfold uA stored;rw[r.any k];by_cases e:(vs.any λkv=>decide (kv.1=k))=true
 ·rw[if_pos e,if_pos e];exact r.repl k ry
 ·rw[if_neg e,if_neg e];exact Paired.snoc r #[rfl,ry]
theorem KV.length {Dx:List (κ×V)}{vs:List (κ×Value)} (r:KV Dx vs):Dx.length=vs.length:=Paired.length r
end
theorem Kc {k:Key} (r:jG (kV k) u):(jM P w).is k u=true:=by
 cases k with
 | inl i=>obtain⟨t,e⟩:=(r);subst e;exact bK P w i t
 | inr x=>obtain⟨t,e⟩:=(r);subst e;exact bL P w x t
theorem xx {a b:Key} (e:kV a=kV b):a=b:=by
 cases a with
 | inl i=>cases b with
  | inl j=>have e':=e;injection e' with e';rw[e']
  | inr y=>exact nomatch (e)
 | inr x=>cases b with
  | inl j=>exact nomatch (e)
  | inr y=>have e':=e;injection e' with e';rw[e']
theorem mV:∀{ks:List Key} {us:Dh},jH (ks.map kV) us->ItemsAre (jM P w) ks us
 | [],_,r=>by cases r;exact .nil
 | k::ks,_,r=>by
  cases r with
  | cons h t=>exact .cons (Kc h) (mV t)
abbrev KT (H:Hp):List (List Key×V)->List (List Key×Addr×Value)->Prop:=Paired λp q=>p.1=q.1/\H q.2.1=some (.tup<|p.1.map kV)/\jG p.2 q.2.2
theorem KT.val (r:KT H Dx xs) (k:List Key):U3 (Jp Dx k) ((atKey xs k).map (·.2)):=by
 induction r with
 | nil=>exact Yp
 | @cons p q ps qs h t ih =>
  obtain⟨h1,_,h2⟩:=h;by_cases e:p.1=k
  ·have e':=h1.symm.trans e;have b:atKey (q::qs) k=some q.2:=by simp [atKey,e']
   rw[uX e,b];exact h2
  ·have e':¬q.1=k:=λz=>e<|h1.trans z;have b:atKey (q::qs) k=atKey qs k:=by simp [atKey,e']
   rw[uW e,b];exact ih
theorem KT.repl (r:KT H Dx xs) (k:List Key) (ry:jG y u) :
  KT H (Dx.map λkv=>if kv.1=k then (kv.1,y) else kv) (xs.map<|putAt k u):=by
 induction r with
 | nil=>exact .nil
 | @cons p q ps qs h t ih =>
  refine .cons ?_ ih;unfold putAt;by_cases e:p.1=k
  ·grind
  ·grind
theorem KT.put (r:KT H Dx xs) (k:List Key) (hb:H b=some (.tup<|k.map kV)) (ry:jG y u) :
  KT H (uA Dx k y) (storedH xs k b u):=by
 have e:(Dx.any λkv=>decide (kv.1=k))=(atKey xs k).isSome:=by
  rw[vy,(r.val k).isSome_eq,abg]
 unfold uA storedH;rw[e];by_cases q:(atKey xs k).isSome=true
 ·rw[if_pos q,if_pos q];exact r.repl k ry
 ·rw[if_neg q,if_neg q];exact Paired.snoc r #[rfl,hb,ry]
theorem KT.keeps (r:KT H Dx xs) (ht:∀b ys,H b=some (.tup ys)->H' b=some (.tup ys)):KT H' Dx xs :=
 Paired.mapP r λ_ _ z=>#[z.1,ht _ _ z.2.1,z.2.2]
section
variable {P:Dt}{w:World}{H:Hp}{h:Heap}{a:Addr}
theorem sy {u:HO} (ok:JU P w H h) (e:Rd H a u):JZ P w H h a u:=e.ok ok
theorem MY {Dx:List (Key×V)} (ok:JU P w H h) (e:Rd H a (.dK Dx)):Dx.length<=sizeLine/\(a==sysModules)=false/\∃vs,KV Dx vs/\h.DictOf (jM P w) a vs :=
 sy ok e
theorem gW {Dx:List (Key×V)} (ok:JU P w H h) (e:H a=some (.dK Dx)):Dx.length<=sizeLine/\(a==sysModules)=false/\∃vs,KV Dx vs/\h.DictOf (jM P w) a vs:=MY ok (.inl e)
theorem zV {ks:List Key} (ok:JU P w H h) (e:H a=some (.tup<|ks.map kV)):(tupleKind<|jM P w).is h ks a:=by
 obtain⟨_,Dy,r,o,h1,h2,n,h3⟩:=(ok a _ e);exact#[o,Dy.toArray,n,h1,h2,h3,by simpa using mV r]
theorem MZ (ok:JU P w H h) (e:Rd H a (.dT Dx)):Dx.length<=sizeLine/\(a==sysModules)=false /\
  ∃xs,KT H Dx xs/\h.DictOfH (tupleKind<|jM P w) a xs:=by
 obtain⟨z,y,xs,r,o,es,ep,h1,h2,h3,h4,h5⟩:=(sy ok e);refine#[z,y,xs,r,o,es,ep,h1,h2,h3,h4,λx hx=>?_,h5];have all:∀{l:List _} {m:List _},KT H l m->∀x∈m,(tupleKind<|jM P w).is h x.1 x.2.1:=by
  intro l m q
  induction q with
  | nil=>intro x hx;exact nomatch hx
  | @cons p q ps qs hq t ih =>
   intro x hx;rcases yD.mp hx with e|hx
   ·subst e;exact zV ok (by rw[<-hq.1];exact hq.2.1)
   ·exact ih x hx
 exact all r x hx
theorem dH (ok:JU P w H h) (e:H a=some (.dT Dx)):Dx.length<=sizeLine/\(a==sysModules)=false /\
  ∃xs,KT H Dx xs/\h.DictOfH (tupleKind<|jM P w) a xs:=MZ ok (.inl e)
end
def JX (H:Hp) (a:Addr) (y:V) (r:Option V):Prop :=
 (∃Dx k,Rd H a (.dK Dx)/\y=kV k/\r=Jp Dx k)\/∃Dx k b,Rd H a (.dT Dx)/\y=.ref b/\H b=some (.tup<|k.map kV)/\r=Jp Dx k
def Vs (H:Hp) (a:Addr) (y v:V) (H':Hp):Prop :=
 (∃Dx k,H a=some (.dK Dx)/\y=kV k/\Dx.length<sizeLine/\H'=upd H a (.dK<|uA Dx k v)) \/
 ∃Dx k b,H a=some (.dT Dx)/\y=.ref b/\H b=some (.tup<|k.map kV)/\Dx.length<sizeLine/\H'=upd H a (.dT<|uA Dx k v)
theorem JX.k {Dx:List (Key×V)}{k:Key} (e:H a=some (.dK Dx)):JX H a (kV k) (Jp Dx k):=.inl #[Dx,k,.inl e,rfl,rfl]
theorem JX.t {k:List Key} (e:H a=some (.dT Dx)) (eb:H b=some (.tup<|k.map kV)):JX H a (.ref b) (Jp Dx k):=.inr #[Dx,k,b,.inl e,rfl,eb,rfl]
theorem Vs.k {Dx:List (Key×V)}{k:Key} (e:H a=some (.dK Dx)) (hl:Dx.length<sizeLine):Vs H a (kV k) v (upd H a<|.dK<|uA Dx k v):=.inl #[Dx,k,e,rfl,hl,rfl]
theorem Vs.t {k:List Key} (e:H a=some (.dT Dx)) (eb:H b=some (.tup<|k.map kV)) (hl:Dx.length<sizeLine) :
  Vs H a (.ref b) v (upd H a<|.dT<|uA Dx k v):=.inr #[Dx,k,b,e,rfl,eb,hl,rfl]
section
variable {X:Cx}{pins:De}{σ:St}{H:Hp}{s:Shared}{a:Addr}{y v:V}{u r:Value}{o:Option V}{A:Around}{E:C3}
theorem jp.big (I:jp X pins σ H s):sysModules<s.heap.objs.size:=by
 have h:=(I.mod.glob.keeps I.bk).lt;exact aaE ac h
theorem Z9 (hu:A.units+1<cLine) (I:jp X pins σ H s) (g:JX H a y (some v)) (ry:jG y u) (h:∀w' s',jp X pins σ H s'->jG v w'->Q w' s') :
  wpAny '%' A (getItem (.ref a) u) Q E s:=by
 rcases g with ⟨Dx,k,e,ey,l⟩|⟨Dx,k,b,e,ey,eb,l⟩
 ·subst ey;obtain⟨z,hd,vs,rel,dd⟩:=MY I.hok e;obtain⟨w',hw,DY⟩:=U3.some_of (by rw[l];exact rel.val k);exact wpAny_getItem_of (Kc ry) dd.mapOf hw (h w' _ (I.tok _) DY)
 ·subst ey;cases (ry);obtain⟨z,hd,xs,rel,dd⟩:=MZ I.hok e;obtain⟨w',hw,DY⟩:=U3.some_of (by rw[l];exact rel.val k);obtain⟨p,hp,EC⟩:=yr.mp hw;refine wpAny_getItem_heap (tupleKind_room_in1 hu) (zV I.hok eb) dd hp ?_;rw[EC];exact h w' _ (I.tok _) DY
theorem B8 (hu:A.units+1<cLine) (I:jp X pins σ H s) (g:JX H a y o) (ry:jG y u) (h:∀s',jp X pins σ H s'->Q (.bool o.isSome) s') :
  wpAny '%' A (compareOp .In u<|.ref a) Q E s:=by
 rcases g with ⟨Dx,k,e,ey,l⟩|⟨Dx,k,b,e,ey,eb,l⟩
 ·subst ey;obtain⟨z,hd,vs,rel,dd⟩:=MY I.hok e;refine wpAny_in_of (Kc ry) hd dd.mapOf ?_;rw[<-(rel.val k).isSome_eq,<-l];exact h _ (I.tok _)
 ·subst ey;cases (ry);obtain⟨z,hd,xs,rel,dd⟩:=MZ I.hok e;refine wpAny_in_heap (tupleKind_room_in1 hu) (zV I.hok eb) hd dd ?_;have q:=(rel.val k).isSome_eq;rw[abg] at q;rw[<-q,<-l];exact h _ (I.tok _)
theorem gV {t':Nat}{ob:HO} (I:jp X pins σ H s) (mu:ia (H a)) (hs:Heap.SameBut a s.heap h') (he:∃q,h'.get? a=some q) (new:JZ X.prog X.w (upd H a ob) h' a ob) :
  jp X pins σ (upd H a ob) { s with heap:=h',toks:=t' } :=
 I.write mu (.inl rfl) (λb q hb z=>(hs.2 b hb).trans z) he new
theorem im {Dx:List (Key×V)}{vs:List (Key×Value)} (z:Dx.length<=sizeLine) (hd:(a==sysModules)=false) (rel:KV Dx vs) (dd:h'.DictOf (jM P w) a vs) :
  JZ P w H' h' a (.dK Dx):=#[z,hd,vs,rel,dd]
theorem mJ {Q:C6} (hu:A.units+1<cLine) (I:jp X pins σ H s) (g:Vs H a y v H') (ry:jG y u) (rv:jG v r) (h:∀s',jp X pins σ H' s'->Q () s') :
  wpAny '%' A (setItem (.ref a) u r) Q E s:=by
 rcases g with ⟨Dx,k,e,ey,l,eH⟩|⟨Dx,k,b,e,ey,eb,l,eH⟩
 ·subst ey eH;obtain⟨z,hd,vs,rel,dd⟩:=gW I.hok e;have hz:vs.length<=sizeLine:=by rw[<-rel.length];exact z
  have hl:(uA Dx k v).length<=sizeLine:=by have:=Vi Dx k v;lia
  refine wpAny_setItem_pairs (hsz:=hz) (Kc ry) dd λh' F3 hs=>h _ ?_;have he:∃q,h'.get? a=some q:=let ⟨q,_,_,hq,_⟩:=F3;#[q,hq]
  exact gV I (by rw[e];exact Yp) hs he (im hl hd (rel.put k rv) F3)
 ·subst ey eH;cases (ry);obtain⟨z,hd,xs,rel,dd⟩:=dH I.hok e;have hz:xs.length<=sizeLine:=by rw[<-Paired.length rel];exact z
  have hl:(uA Dx k v).length<=sizeLine:=by have:=Vi Dx k v;lia
  refine wpAny_setItem_heap (tupleKind_room_in1 hu) (zV I.hok eb) dd λh' F3 hs=>h _ ?_;obtain⟨q,es,ep,hq,h2,h3,h4,_,h5⟩:=F3;refine gV I (by rw[e];exact Yp) hs #[q,hq] #[hl,hd,_,(rel.put k eb rv).keeps λc ys ec=>?_,q,es,ep,hq,h2,h3,h4,h5];rw[jC<|j9 ec e];exact ec
end
def du (i:Expr):Prop:=∀ov iv,subscripted i false ov iv=operate [ov,iv] (getItem ov iv)
theorem mw {prog:Dt}{A:Around}{E:C3}{env:Env}{value slice:Expr}{T id:String}
  (hl:typeLookup (.type T) "__getitem__"=pure (some<|.builtin id)) (hs:du slice)
  (h:wpAny '$' A (eval value env) (λo s₁=>wpAny '$' A (eval slice env) (λi s₂=>s₂.TypeIs o T/\wpAny '$' A (getItem o i) Q E s₂) E s₁) E s) :
  wpAny '$' A (eval (.Subscript value slice pos) env) Q E s:=by
 refine Subscript_ (wpAny_mono h (λo s₁ h₁=>wpAny_mono h₁ (λi s₂ h₂=>?_) λ_ _ x=>x) λ_ _ x=>x);obtain⟨hT,h₂⟩:=h₂;refine Du ?_;refine Du<|wpAny_specialOf hT hl ?_;have fin:wpAny '$' A (subscripted slice false o i) (λr s₃=>wpAny '$' A (letTemporaryGo value o r>>=λ_=>pure r) Q E s₃) E s₂:=by
  rw[hs o i];exact wpAny_operating (wpAny_mono h₂ (λr s₃ h₃=>Du<|wpAny_letTemporaryGo<|Dv h₃) λ_ _ x=>x)
 first
  | exact Dv (Du fin)
  | exact Du fin
theorem zE {pins:De}{o:Option V} (I:jp X pins σ H s) (g:JX H a y o):s.TypeIs (.ref a) "dict":=by
 rcases g with ⟨Dx,k,e,_,_⟩|⟨Dx,k,b,e,_,_,_⟩
 ·obtain⟨_,_,vs,_,dd⟩:=MY I.hok e;exact dd.typeIs
 ·obtain⟨_,_,xs,_,dd⟩:=MZ I.hok e;exact dd.typeIs
def BA (td ty:TE):TE:=λσ H Q=>td σ H λx H1=>ty σ H1 λy H2=>∃a v,x=.ref a/\JX H2 a y (some v)/\Q v H2
def Cm (ty td:TE):TE:=λσ H Q=>ty σ H λy H1=>td σ H1 λx H2=>∃a o,x=.ref a/\JX H2 a y o/\Q (.bl o.isSome) H2
def Bh (td ty tv:TE):TS:=λD σ H=>tv σ H λv H1=>td σ H1 λx H2=>ty σ H2 λy H3=>∃a H4,x=.ref a/\Vs H3 a y v H4/\D.nx σ H4
section
variable {X:Cx}{o i e value:Expr}{pos pos' DV:Pos}{td ty tv:TE}
theorem Ud (ho:PE X o td) (hi:PE X i ty) (hu:autoParam (X.A.units+1<cLine) zzq) (hs:autoParam (du i) zzk):PE X (.Subscript o i pos) (BA td ty):=by
 intro pins s σ H Q I h;refine mw PySem.F.slot_dict_getitem.lookup hs (jI (ho pins s σ H _ I h) λu s1 #[x,H1,I1,rx,q1]=>jI (hi pins s1 σ H1 _ I1 q1) λiv s2 hh=>?_);obtain⟨y,H2,I2,ry,a,v,ex,g,q2⟩:=hh;subst ex;obtain rfl:u=Value.ref a:=rx;exact#[zE I2 g,Z9 hu I2 g ry λw' s3 I3 DY=>#[v,H2,I3,DY,q2]]
theorem lZ (hi:PE X i ty) (ho:PE X o td) (hu:autoParam (X.A.units+1<cLine) zzq):PC X .In i o (Cm ty td):=by
 intro pins s σ H Q I h;refine jI (hi pins s σ H _ I h) λiv s1 #[y,H1,I1,ry,q1]=>jI (ho pins s1 σ H1 _ I1 q1) λu s2 hh=>?_;obtain⟨x,H2,I2,rx,a,ov,ex,g,q2⟩:=hh;subst ex;obtain rfl:u=Value.ref a:=rx;exact B8 hu I2 g ry λs3 I3=>#[.bl ov.isSome,H2,I3,rfl,q2]
theorem Gf (ho:PE X o td) (hi:PE X i ty) (hv:PE X value tv) (hu:autoParam (X.A.units+1<cLine) zzq) (hs:autoParam (swapsWith value (some<|.Subscript o i pos') pos.line X.env=pure false) Fk) :
  PS X (.Assign [.Subscript o i pos'] value pos) (Bh td ty tv):=by
 intro pins s σ H D I h;refine wpAny_Assign_Subscript (jI (hv pins s σ H _ I h) λr s1 #[v,H1,I1,rv,q1]=>jI (ho pins s1 σ H1 _ I1 q1) λu s2 #[x,H2,I2,rx,q2]=>jI (hi pins s2 σ H2 _ I2 q2) λiv s3 hh=>?_) hs;obtain⟨y,H3,I3,ry,a,H4,ex,g,q3⟩:=hh;subst ex;obtain rfl:u=Value.ref a:=rx;exact mJ hu I3 g ry rv λs4 I4=>#[σ,H4,I4,q3]
end
theorem nW (h:Heap) (hb:sysModules<h.objs.size):JZ P w H (h.push { cls:=.type "dict",data:=.dict (Yb []) }) h.objs.size (.dK []) :=
 #[yP _,beq_eq_false_iff_ne.mpr<|yV<|yE hb,_,.nil,Heap.DictOf.new h]
theorem nY (h:Heap) (hb:sysModules<h.objs.size):JZ P w H (h.push { cls:=.type "dict",data:=.dict (Yb []) }) h.objs.size (.dT []) :=
 #[yP _,beq_eq_false_iff_ne.mpr<|yV<|yE hb,_,.nil,_,_,0,yt _ rfl,#[rfl,rfl,rfl],rfl,rfl,yZ]
def AF:TE:=λ_ H Q=>∀p,H p=none->Q (.ref p) (upd H p<|.dK [])
def AG:TE:=λ_ H Q=>∀p,H p=none->Q (.ref p) (upd H p<|.dT [])
section
variable {X:Cx}{pos:Pos}
theorem G5:PE X (.Dict [] [] pos) AF:=λpins s σ H Q I h =>
 wpAny_Dict_empty #[.ref s.heap.objs.size,_,I.laid (λ_ _ q=>yf _ q) (yj _)<|nW s.heap I.big,rfl,h _<|I.hok.fresh<|yj _]
theorem G6:PE X (.Dict [] [] pos) AG:=λpins s σ H Q I h =>
 wpAny_Dict_empty #[.ref s.heap.objs.size,_,I.laid (λ_ _ q=>yf _ q) (yj _)<|nY s.heap I.big,rfl,h _<|I.hok.fresh<|yj _]
end
def aW:List (TE×TE)->St->Hp->(List (V×V)->Hp->Prop)->Prop
 | [],_,H,Q=>Q [] H
 | (tk,tv)::r,σ,H,Q=>tk σ H λx H1=>tv σ H1 λy H2=>aW r σ H2 λps H3=>Q ((x,y)::ps) H3
abbrev VV:List (V×V)->List (Value×Value)->Prop:=Paired λp q=>jG p.1 q.1/\jG p.2 q.2
def rH (X:Cx) (pos:Pos) (keys:List (Option Expr)) (values:Dp) (HG:List (TE×TE)):Prop :=
 ∀(pins:De) (s:Shared) (σ:St) (H:Hp) (Q:List (V×V)->Hp->Prop),jp X pins σ H s->aW HG σ H Q ->
  wpAny '%' X.A (evalPairs<|pairTrees keys values X.env pos) (λvs s'=>∃ps H',jp X pins σ H' s'/\VV ps vs/\Q ps H') X.xe s
theorem cV:rH X pos [] [] []:=λpins s σ H Q I h=>pairTrees_nil_walk #[_,H,I,.nil,h]
theorem ZB {k v:Expr}{ks:List (Option Expr)}{vs:Dp}{tk tv:TE} (hk:PE X k tk) (hv:PE X v tv) (hr:rH X pos ks vs HG) :
  rH X pos (some k::ks) (v::vs) ((tk,tv)::HG):=λpins s σ H Q I h =>
 pairTrees_cons_walk (jI (hk pins s σ H _ I h) λu s1 #[x,H1,I1,rx,q1]=>jI (hv pins s1 σ H1 _ I1 q1) λw2 s2 #[y,H2,I2,ry,q2] =>
  jI (hr pins s2 σ H2 _ I2 q2) λws s3 #[ps,H3,I3,rel,q3]=>#[_,H3,I3,.cons #[rx,ry] rel,q3])
def gy (Dx more:List (Key×V)):List (Key×V):=more.foldl (λacc kv=>uA acc kv.1 kv.2) Dx
theorem KV.merge:∀{more:List (Key×V)} {rs:List (Key×Value)} {Dx:List (Key×V)} {vs:List (Key×Value)},KV more rs->KV Dx vs->KV (gy Dx more) (merged vs rs):=by
 intro more rs Dx vs r
 induction r generalizing Dx vs with
 | nil=>intro q;exact q
 | @cons p q ps qs h t ih =>
  intro r0;have e:KV (uA Dx p.1 p.2) (stored vs q.1 q.2):=by
   have:=r0.put p.1 h.2;rw[<-h.1];exact this
  exact ih e
theorem ZR:∀(more Dx:List (Key×V)),(gy Dx more).length<=Dx.length+more.length
 | [],Dx=>by show Dx.length<=Dx.length+0;omega
 | p::r,Dx=>by
  have h1:=ZR r<|uA Dx p.1 p.2;have h2:=Vi Dx p.1 p.2;show (gy (uA Dx _ _) r).length<=_;rw[Qe];lia
theorem kL:∀{Dx:List (Key×V)} {ws:List (Value×Value)},VV (Dx.map λkv=>(kV kv.1,kv.2)) ws->∃rs,Carries (jM P w) ws rs/\KV Dx rs
 | [],_,r=>by cases r;exact#[[],Yp,.nil]
 | p::Dx,_,r=>by
  cases r with
  | @cons a b as bs h t =>
   obtain⟨rs,c,q⟩:=kL t;obtain⟨b1,b2⟩:=b;exact#[(p.1,b2)::rs,#[Kc h.1,rfl,c],.cons #[rfl,h.2] q]
def BB (HG:List (TE×TE)):TE:=λσ H Q=>∀p,H p=none->aW HG σ (upd H p<|.dK []) λps H2=>H2 p=some (.dK [])/\∃Dx:List (Key×V),ps=Dx.map (λkv=>(kV kv.1,kv.2))/\Dx.length<=15/\Q (.ref p) (upd H2 p<|.dK<|gy [] Dx)
theorem cS {keys:List (Option Expr)}{values:Dp} (h:rH X pos keys values HG) (DL:keys.all (·.isSome)=true) (hl:keys.length=values.length) (h0:keys≠[])
  (XO:keys.length<=15):PE X (.Dict keys values pos) (BB HG):=by
 intro pins s σ H Q I q;have hn:=I.hok.fresh<|yj s.heap.objs.size;have I1:=I.laid (t':=s.toks) (λ_ _ q=>yf _ q) (yj _)<|nW s.heap I.big;refine wpAny_Dict_walk (knd:=jM X.prog X.w) DL hl h0 XO (jI (h pins _ σ _ _ I1<|q _ hn) λws s2 hh=>?_);obtain⟨ps,H2,I2,rel,e,Dx,ep,lk,q2⟩:=hh;subst ep;obtain⟨rs,c,rk⟩:=kL rel;obtain⟨z,hd,LY,r0,dd⟩:=gW I2.hok e;cases r0;refine#[rs,c,dd,λh' F3 hs=>#[.ref s.heap.objs.size,_,?_,rfl,q2]];have hz:(gy [] Dx).length<=sizeLine:=by
  have h1:=ZR Dx [];rw[List.length_nil] at h1;rw[sizeLine_eq];lia
 have he:∃q,h'.get? s.heap.objs.size=some q:=let ⟨q,_,_,hq,_⟩:=F3;#[q,hq]
 exact gV I2 (by rw[e];exact Yp) hs he (im hz hd (rk.merge .nil) F3)
section
variable {κ:Type} [DecidableEq κ]
theorem ki {Dx:List (κ×V)}{k:κ} (h:Jp Dx k=none):¬k∈Dx.map (·.1):=by
 intro m;obtain⟨p,hp,e⟩:=yi.mp m;have q:(Dx.any λkv=>decide (kv.1=k))=true:=List.any_eq_true.mpr #[p,hp,decide_eq_true e];rw[vy,h] at q;exact absurd q on
theorem Zc {Dx:List (κ×V)}{k:κ} (h:Jp Dx k=some v):k∈Dx.map (·.1):=by
 have q:(Dx.any λkv=>decide (kv.1=k))=true:=by
  rw[vy,h]
  all_goals rfl
 obtain⟨p,hp,e⟩:=List.any_eq_true.mp q;exact yi.mpr #[p,hp,of_decide_eq_true e]
end
def KL (K:C9) (a:Addr):It :=
 #[λi H=>∃xs x,jj K H a xs/\xs[i]?=some x,
  λi H v H'=>∃t x,H t=none/\v=.ref t/\H'=upd H t (.tup [.int i,x])/\∀xs,jj K H a xs->xs[i]?=some x,
  λi H=>∃xs,jj K H a xs/\xs.length<=i]
theorem fT {K:C9}{elts:Dp}{kk:Nat}{DV:Pos} (e it l:Addr) (Li:e≠it) (hle:l≠e) (Rf:l≠it) :
  VS P w K (.Tuple elts kk DV) (KL K l) [e,it] e (λi h=>(∃old,IsEnum h e it i old)/\h.IsListIter it l i) true where
 mem:=by simp
 obj:=λi h st b hb=>by
  obtain⟨⟨old,q1⟩,⟨o4,q4,_,d4⟩⟩:=st;simp only[yD,yS,or_false] at hb;rcases hb with rfl|rfl
  ·grind
  ·grind
 keep:=λi h h' st k=>by
  obtain⟨⟨old,q1⟩,q4⟩:=st;exact#[#[old,k e on _ q1],q4.at λo x=>k it on o x]
 item:=by
  intro X hP hw hK hc i pins s σ H E I hf st hg;subst hP hw hK;obtain⟨xs,x,hx,ex⟩:=hg;obtain⟨Dy,r1,p1,_⟩:=I.list hx;obtain⟨v1,Rg,Rh⟩:=r1.get ex;obtain⟨⟨old,q1⟩,q4⟩:=st;refine wpAny_pyNext_enum_item q1 q4 p1.isList (by simpa using Rg) Li λh1 z1 z2 z3 z4 z5=>?_;refine#[_,rfl,wpAny_letOwnedTupleGo_enum z1 λh2 LU sb=>?_];have keep:∀c o,c ∉ [e,it]->s.heap.get? c=some o->h2.get? c=some o:=λc o hc y=>by
   simp only[yD,yS,or_false,not_or] at hc;exact (sb.2 c hc.1).trans (z5 c o hc.1 hc.2 y)
  have DA:∀{c o},s.heap.get? c=some o->c≠s.heap.objs.size:=λe=>yE<|yo e;obtain⟨o4,e4,_,_⟩:=id q4;have I1:=I.turnedL (t':=s.toks+1) hf keep;have hp:=I.fresh;have tp:=(sb.2 _<|yV<|DA q1).trans z3;have I2:jp X pins σ (upd H s.heap.objs.size<|.tup [.int i,x]) _:=I1.track hp (Qi I.sz) (Qq I.lt)
   (λn c e zz=>by obtain⟨v0,o0,h0,_⟩:=I.cell n c e;exact DA h0 zz) (λq hq zz=>DA (I.pin q hq).1 zz) #[by show 2<=sizeLine;decide,_,.cons #[_,rfl]<|.cons Rh .nil,_,tp,rfl,_,rfl]
  refine#[.ref s.heap.objs.size,_,I2,rfl,#[_,x,hp,rfl,rfl,λEB Fj=>?_],#[#[_,by simpa using LU],z2.extBut sb.extBut<|yV Li],λc hc=>?_]
  ·rw[I.list_inj Fj hx];exact ex
  ·have LV:=(hf c hc).1;rw[jC ?_]
   ·exact LV
   ·grind
 done:=by
  intro X hP hw hK hc i pins s σ H E I hf st hg;subst hP hw hK;obtain⟨xs,hx,Rb⟩:=hg;obtain⟨Dy,rv,p,_⟩:=I.list hx;obtain⟨⟨old,q1⟩,q4⟩:=st;have hl:=rv.length;refine wpAny_pyNext_enum_end (I.ok.hd<|hc rfl) q1 q4 p.isList (by simp;lia) λh1 k=>#[rfl,?_];refine I.turnedL (ch:=[it]) (λc hc=>hf c ?_) λc o hc y=>?_
  ·grind
  ·simp only[yD,yS,or_false,not_or] at hc;exact k c o hc y
 self:=λ_ _ _ _ _ st h=>let ⟨_,q⟩:=st.1;wpAny_pyIter_enum q h
section
variable {X:Cx}{elts:Dp}{kk:Nat}{DV:Pos}
def xi (K:C9) (ta:TA):TI:=λσ H R=>ta σ H λvs H1=>∃a,vs=[.ref a]/\(∃xs,jj K H1 a xs)/\R (KL K a) H1
theorem JT {a:Expr}{ta:TA}{p:Pos} (Fd:X.calm=true) (hg:Gl X "enumerate") (hm:X.mg "enumerate"=none) (ha:PA X [a] ta) (hs:autoParam (starEach [a] X.env=(false,eval a X.env)::starEach [] X.env) Fk) (DJ:autoParam ((backTo pos<|starEach [] X.env).any (·.1)=false) Fk) :
  PI X (.Tuple elts kk DV) (.Call (.Name "enumerate" p) [a] [] pos) (xi X.K ta):=by
 intro pins s σ H R I h;refine Call_ (V5 I hg hm boot_enumerate (Yu (jI (ha pos pins s σ H _ I h) λus s1 #[vs,H1,I1,r1,q1]=>?_) hs DJ));obtain⟨l1,e,⟨xs,hx⟩,q⟩:=q1;subst e;cases r1 with
 | cons ra rr =>
  cases rr;cases ra;obtain⟨Dy,_,p1,_⟩:=I1.list hx;have a1:l1<s1.heap.objs.size:=by obtain⟨_,e,_⟩:=p1.isList;exact yo e
  refine call_enumerate_list p1.isList λh' z1 z2 z3 k=>wpAny_pyIter_enum z1 ?_;have I2:=I1.kept (t':=s1.toks) k;refine#[_,_,_,_,H1,rfl,I2,#[true,fT _ _ l1 (abH _) (yE<|QA a1)<|yE a1,λ_=>Fd],#[#[_,z1],z2],λc hc=>?_,q];have le:s1.heap.objs.size<=c:=by
   grind
  exact I1.fpOk le (I1.hok.fresh le)
theorem ua {K:C9}{xs:List V}{g:TG}{tb:TS}{D:vS} (Pv:Nat->St->Hp->Prop) (h0:Pv 0 σ H) (hl:∀i σ H,i<=xs.length->Pv i σ H->jj K H a xs)
  (hs:∀(i:Nat) x p σ H,xs[i]?=some x->H p=none->Pv i σ H->g (.ref p) σ (upd H p<|.tup [.int i,x]) λσ2 H2=>tb { D with nx:=Pv<|i+1,ct:=Pv<|i+1,bk:=D.nx } σ2 H2) (hd:∀σ H,Pv xs.length σ H->D.nx σ H) :
  ∃W:Nat->Nat->St->Hp->Prop,(∃m,W 0 m σ H)/\∀i m σ H,W i m σ H ->
   ((KL K a).stop i H/\D.nx σ H)\/((KL K a).go i H/\∃N:St->Hp->Prop,(∀σ' H',N σ' H'->∃m',m'<m/\W (i+1) m' σ' H')/\∀x H',(KL K a).yld i H x H'->g x σ H' λσ2 H2=>tb { D with nx:=N,ct:=N,bk:=D.nx } σ2 H2):=by
 refine#[λi m σ H=>m=xs.length - i/\i<=xs.length/\Pv i σ H,#[xs.length,by simp,yP _,h0],?_];rintro i m σ H ⟨rfl,hi,p⟩;have qa:=hl i σ H hi p;by_cases DA:i<xs.length
 ·refine .inr #[#[xs,xs[i],qa,by simp [DA]],_,λσ' H' p'=>#[_,by omega,rfl,DA,p'],λv H' yy=>?_];obtain⟨t,x,ht,rfl,rfl,e⟩:=yy;exact hs i x t σ H (e xs qa) ht p
 ·obtain rfl:i=xs.length:=by lia
  exact .inl #[#[xs,qa,yj _],hd σ H p]
end
structure GK (K:C9) (x qual:Str) (st:Stmt) (f:Addr) (fd:FuncData):Prop where
 ex:∃(oc:Value) (od:Ds) (dV kV doc pm:Value) (an:Ds) (DF ct:Value) (Ik:Dl),
  fd=fnOf x qual (zS st) (vY st) (uh st) dV kV doc pm an DF ct/\K.lookup f=some #[oc,od,.func fd,Ik]/\codeIn K DF qual=true
 kp:keepIn K (.ref f)=true
section
variable {P:Dt}{w:World}{K:C9}{mg:Dd}{base:Heap}
theorem GK.okX {fd:FuncData}{N ps:Dm}{k:Nat}{sp:Sp}{c:Bool} (F:GK K x qual st f fd) (S:vA N ps (uh st)) (len:∀vs H Q E,sp vs H Q E->vs.length=ps.length)
  (Fu:∀(DF:Value) (A:Around) (outer:List Env) (s:Shared) (H:Hp) (vs:List V) (Q:VK) (E:XK),JI c k (A.deeper<|envOfC qual (uh st) s.heap.objs.size f DF)->sp vs H Q E ->
   ∃t,Z0 (nU P w K mg base N qual (uh st) f DF A outer s H E c) (vY st) t/\t { nx:=λ_ H'=>Q .non H',rt:=Q } (start N vs) H):U1 P w K mg base (XC P w) (k+1) f fd ps sp c:=by
 obtain⟨oc,od,dV,kV,doc,pm,an,DF,ct,Ik,rfl,lk,FX⟩:=F.ex;exact AV lk FX S len λA outer s H vs Q E hr El=>Fu DF A outer s H vs Q E hr El
theorem cw {oc:Value}{od an:Ds}{Ik:Dl}{dV kV doc pm DF ct:Value} (l:K.lookup f=some #[oc,od,.func<|fnOf x qual (zS st) (vY st) (uh st) dV kV doc pm an DF ct,Ik])
  (c:codeIn K DF qual=true) (k:keepIn K (.ref f)=true):GK K x qual st f (fnOf x qual (zS st) (vY st) (uh st) dV kV doc pm an DF ct):=#[#[oc,od,dV,kV,doc,pm,an,DF,ct,Ik,rfl,l,c],k]
end
section
variable {X:Cx}
theorem VE (hu:X.A.units<cLine):uk X (compareOp .NotEq) (λx y H Q=>E4 λ(a b:Addr) (ns ms:List Int)=>A5 (x=.ref a) (y=.ref b) (jj X.K H a<|ns.map V.int) (jj X.K H b<|ms.map V.int)<|Q (.bl<|!decide (ns=ms)) H):=by
 intro pins s σ H x y v u Q I rx ry h;obtain⟨a,b,ns,ms,rfl,rfl,ha,hb,q⟩:=h;cases rx;cases ry;obtain⟨Dy,r1,p1,_⟩:=I.list ha;obtain⟨DG,r2,p2,_⟩:=I.list hb;have l1:=r1.length;have l2:=r2.length;rw[ya] at l1 l2;by_cases hz:Dy.toArray.size=DG.toArray.size
 ·have e:(!((Yc Dy.toArray.size).all λj=>decide (ns.getD j 0=ms.getD j 0)))=!decide (ns=ms):=by
   have:=GN (0) ns ms;rw[yw] at hz ⊢;rw[yw] at hz;rw[show min ns.length ms.length=Dy.length by lia,show (ns.length==ms.length)=true by simp;lia,abP] at this;rw[this]
  rw[<-e] at q;exact EqBoolInt.of_rcne (SeqAt.RcNeAt.lists p1.isList p2.isList hz hu λj h1 h2=>iu r1 r2 j h1 h2) #[.bl _,H,I,rfl,q]
 ·have D8:ns≠ms:=λe=>by
   grind
  rw[decide_eq_false D8] at q;exact EqBoolInt.of_rcne (SeqAt.RcNeAt.lists_lengths p1.isList p2.isList (bne_iff_ne.mpr hz) hu) #[.bl true,H,I,rfl,q]
end
end L2
set_option maxHeartbeats 4000000
namespace TS
open PySem PyProof.Rows L2
variable {a i j lo n:Nat}{b c:L2.Key}{u:Tok}{Q:C7}{v:Value}{vs:Dh}{p:Keyed}{xs:Dg}{h:Heap}
def V3:L2.Key->L2.Key->Bool
 | .inl a,.inl b=>decide (a<b)
 | .inr a,.inr b=>decide (a.cps.toList<b.cps.toList)
 | .inl _,.inr _=>true
 | .inr _,.inl _=>false
def lx:List L2.Key->List L2.Key->Bool
 | [],[]=>false
 | [],_::_=>true
 | _::_,[]=>false
 | a::r,b::q=>if a=b then lx r q else V3 a b
theorem K3 (a:L2.Key):V3 a a=false:=by
 cases a with
 | inl n=>exact decide_eq_false (Int.lt_irrefl n)
 | inr x=>exact decide_eq_false (List.lt_irrefl _)
theorem gg {a:L2.Key} (h1:V3 a b=true) (h2:V3 b c=true):V3 a c=true:=by
 cases a with
 | inl n=>cases b with
  | inl m=>cases c with
   | inl k=>exact decide_eq_true (Int.lt_trans (of_decide_eq_true h1)<|of_decide_eq_true h2)
   | inr k=>rfl
  | inr m=>cases c with
   | inl k=>cases h2
   | inr k=>rfl
 | inr n=>cases b with
  | inl m=>cases h1
  | inr m=>cases c with
   | inl k=>cases h2
   | inr k=>exact decide_eq_true (List.lt_trans (of_decide_eq_true h1)<|of_decide_eq_true h2)
theorem fJ {x y:Str} (h:x.cps.toList=y.cps.toList):x=y:=Str.ext' (Array.toList_inj.mp h)
theorem K4 {a:L2.Key} (h1:V3 a b=false) (h2:V3 b a=false):a=b:=by
 cases a with
 | inl n=>cases b with
  | inl m =>
   have:=of_decide_eq_false h1;have:=of_decide_eq_false h2;congr 1;lia
  | inr m=>cases h1
 | inr n=>cases b with
  | inl m=>cases h2
  | inr m=>exact congrArg Yr (fJ<|List.le_antisymm (List.not_lt.mp<|of_decide_eq_false h2)<|List.not_lt.mp<|of_decide_eq_false h1)
theorem xv {a:L2.Key} (h:V3 a b=true):a≠b:=λe=>by rw[e,K3] at h;cases h
theorem lC:∀a:List L2.Key,lx a a=false
 | []=>rfl
 | a::r=>by unfold lx;rw[if_pos rfl];exact lC r
theorem NR:∀{a b:List L2.Key},lx a b=false->lx b a=false->a=b
 | [],[],_,_=>rfl
 | [],_::_,h,_=>by cases h
 | _::_,[],_,h=>by cases h
 | a::r,b::q,h1,h2=>by
  unfold lx at h1 h2;by_cases e:a=b
  ·rw[if_pos e] at h1;rw[if_pos e.symm] at h2;rw[e,NR h1 h2]
  ·rw[if_neg e] at h1;rw[if_neg (λz=>e z.symm)] at h2;exact absurd (K4 h1 h2) e
theorem GW:∀{a b c:List L2.Key},lx a b=true->lx b c=true->lx a c=true
 | [],[],_,h,_=>by cases h
 | [],_::_,[],_,h=>by cases h
 | [],_::_,_::_,_,_=>rfl
 | _::_,[],_,h,_=>by cases h
 | _::_,_::_,[],_,h=>by cases h
 | a::r,b::q,c::p,h1,h2=>by
  unfold lx at h1 h2 ⊢;by_cases e1:a=b
  ·subst e1;rw[if_pos rfl] at h1;by_cases e2:a=c
   ·rw[if_pos e2] at h2 ⊢;exact GW h1 h2
   ·grind
  ·rw[if_neg e1] at h1;by_cases e2:b=c
   ·simp_all
   ·rw[if_neg e2] at h2;have h3:=gg h1 h2;rw[if_neg<|xv h3];exact h3
theorem xF {a b c:List L2.Key} (h:lx a c=true):lx a b=true\/lx b c=true:=by
 cases h1:lx a b
 ·right
  cases h2:lx b a
  ·rw[<-NR h1 h2];exact h
  ·exact GW h2 h
 ·exact .inl rfl
def Uz:L2.Key->Value->Prop
 | .inl n,v=>∃t,v=.int n t
 | .inr x,v=>∃t,v=.str x t
def sd (ks:List L2.Key):List Bool:=ks.map Sum.isLeft
section
variable {prog:Dt}{w:World}{A:Around}{E:C3}{s:Shared}
theorem tR (f:Bool) {a b:Int} {t:Tok} (h:Q (decide (a<b)) s):wpAny '$' A (oneLt' f (.int a t)<|.int b u) Q E s:=by
 cases f with
 | true=>exact oneLt_int h
 | false =>
  exact Du (richCompare_gives (typeIs_int s a t) (typeIs_int s b u) F.slot_int_lt F.entry_int_lt (F.args_int_lt_2 _ _) (gives_int_lt a b t u) (λz=>nomatch z)<|wpAny_truthy_bool h)
theorem tT (f:Bool) {a b:Str} {t:Tok} (h:Q (decide (a.cps.toList<b.cps.toList)) s):wpAny '$' A (oneLt' f (.str a t)<|.str b u) Q E s:=by
 cases f with
 | true=>exact oneLt_str h
 | false =>
  exact Du (richCompare_gives (typeIs_str s a t) (typeIs_str s b u) F.slot_str_lt F.entry_str_lt (F.args_str_lt_2 _ _) (gives_str_lt a b t u) (λz=>nomatch z)<|wpAny_truthy_bool h)
theorem tS (f:Bool) {d:L2.Key} {u:Value} (hs:c.isLeft=d.isLeft) (hc:Uz c u) (hd:Uz d v) (h:Q (V3 c d) s):wpAny '$' A (oneLt' f u v) Q E s:=by
 cases c with
 | inl n=>cases d with
  | inl m =>
   obtain⟨t,rfl⟩:=hc;obtain⟨t',rfl⟩:=hd;exact tR f h
  | inr m=>cases hs
 | inr n=>cases d with
  | inl m=>cases hs
  | inr m =>
   obtain⟨t,rfl⟩:=hc;obtain⟨t',rfl⟩:=hd;exact tT f h
variable {f:Bool}{z:Dg}{o:KeyKind}
def kv (o:KeyKind) (p:Keyed):o.α:=(o.keyOf p.1).getD o.dflt
def Gm (prog:Dt) (w:World) (A:Around) (s:Shared) (f:Bool) (o:KeyKind) (z:Dg):Prop:=∀(E:C3) (p q:Keyed) (Q:C7),p∈z.toList->q∈z.toList->Q (o.blt (kv o p)<|kv o q) s->wpAny '$' A (keyLt' (tuples' f) p.1 q.1) Q E s
end
section
variable {prog:Dt}{w:World}{A:Around}{E:C3}{s:Shared}
theorem K8 {α β:Type}{g:α->Sem β}{r:α->β}{M:Model}:∀{l:List α} {R:List β->Shared->Prop},(∀x∈l,∀R:β->Shared->Prop,R (r x) s->wpAny M A (g x) R E s)->R (l.map r) s->wpAny M A (l.mapM g) R E s
 | [],R,_,h=>by exact Dv h
 | a::l,R,f,h=>by
  rw[List.mapM_cons];exact Du (f a (yu ..) _ (Du (K8 (λx hx=>f x<|yl _ hx)<|Dv h)))
theorem wJ {k:L2.Key} (h:Uz k v) {R:C3} (q:R (.type (if k.isLeft then "int" else "str")) s):wpAny '$' A (typeOf v) R E s:=by
 cases k with
 | inl n=>obtain⟨t,rfl⟩:=h;exact wpAny_typeOf (typeIs_int s n t) q
 | inr x=>obtain⟨t,rfl⟩:=h;exact wpAny_typeOf (typeIs_str s x t) q
theorem m9 (h:p∈(pairsOf vs).toList):p.1=p.2/\p.1∈vs:=mem_zip_self (pairsOf_toList vs▸h)
end
section
variable {prog:Dt}{w:World}{A:Around}{E:C3}{s:Shared}{f:Bool}{z:Dg}{o:KeyKind}
def CC (o:KeyKind) (p q:Keyed):Prop:=o.kle (kv o p) (kv o q)
def Up (o:KeyKind) (l:List Keyed):Prop:=l.Pairwise (CC o)
theorem Bb {st:SortSt}{q:Keyed}{Q:Option Bool->SortSt->Prop} (O:Gm prog w A s f o z) (kd:kindOf st=tuples' f) (hp:p∈z.toList) (hq:q∈z.toList) (h:Q (some<|o.blt (kv o p)<|kv o q) st):wpS '$' A E s (lt' p q) Q st:=by
 rw[lt'_eq];refine wpS_bind<|wpS_get ?_;rw[kd];exact wpS_bind (wpS_lift<|wpAny_attempt<|O _ p q _ hp hq #[rfl,wpS_pure h])
theorem rO {st:SortSt}{Q:Keyed->SortSt->Prop} (hi:i<xs.size) (h:Q xs[i] st):wpS '$' A E s (elem' xs i) Q st:=by
 rw[elem'_eq,getElem?_pos xs i hi];exact wpS_pure h
theorem lE (hi:i<xs.size):xs[i]∈xs.toList:=Array.getElem_mem_toList hi
end
section
variable {prog:Dt}{w:World}{A:Around}{E:C3}{s:Shared}{f:Bool}{z:Dg}{o:KeyKind}
structure Gd (f:Bool) (z:Dg) (y:SortSt):Prop where
 pm:(arrOf y).Perm z
 kd:kindOf y=tuples' f
 fl:failedOf y=none
theorem Gd.sz {y:SortSt} (g:Gd f z y):(arrOf y).size=z.size:=g.pm.size_eq
theorem Gd.mem {y:SortSt} (g:Gd f z y):∀p∈(arrOf y).toList,p∈z.toList:=λp hp=>(Array.perm_iff_toList_perm.mp g.pm).mem_iff.mp hp
end
def rN (lo a n:Nat):StateT SortSt Sem AscSt :=
 forIn [a:n] ((none,a):AscSt) λ_ c=>do
  let some r <-ltAt' (lo+c.2) (lo+c.2 - 1)|pure (.done (some none,c.2))
  if r then pure (.done (none,c.2)) else pure (.yield (none,c.2+1))
def rM (lo a n:Nat):StateT SortSt Sem DescSt :=
 forIn [a:n] ((none,a,0):DescSt) λ_ c=>do
  let some r <-ltAt' (lo+c.2.1) (lo+c.2.1 - 1)|pure (.done (some none,c.2.1,c.2.2))
  if r then
   if c.2.2 > 0 then
    reverseSlice' (lo+c.2.1 - (c.2.2+1)) (lo+c.2.1)
    pure (.yield (none,c.2.1+1,0))
   else pure (.yield (none,c.2.1+1,0))
  else
   let some r <-ltAt' (lo+c.2.1 - 1) (lo+c.2.1)|pure (.done (some none,c.2.1,c.2.2))
   if r then pure (.done (none,c.2.1,c.2.2)) else pure (.yield (none,c.2.1+1,c.2.2+1))
section
variable {prog:Dt}{w:World}{A:Around}{E:C3}{s:Shared}{f:Bool}{z:Dg}{o:KeyKind}
theorem NQ {st:SortSt}{Q:Option Bool->SortSt->Prop} (O:Gm prog w A s f o z) (g:Gd f z st) (hi:i<z.size) (hj:j<z.size) (h:Q (some<|o.blt (KK o (arrOf st) i)<|KK o (arrOf st) j) st):wpS '$' A E s (ltAt' i j) Q st:=by
 have kk:∀{k} (hk:k<(arrOf st).size),KK o _ k=kv o _:=λ{k} hk=>by unfold KK;rw[getElem?_pos _ k hk];rfl
 have h1:=g.sz▸hi;have h2:=g.sz▸hj;rw[kk h1,kk h2] at h;exact wpS_bind (wpS_get<|wpS_bind<|rO h1<|wpS_bind<|rO h2<|Bb O g.kd (g.mem _<|lE h1) (g.mem _<|lE h2) h)
structure Rn (f:Bool) (z:Dg) (x:SortSt) (lo:Nat) (y:SortSt):Prop where
 gd:Gd f z y
 pd:pendingOf y=pendingOf x
 low:∀k,k<lo->(arrOf y)[k]?=(arrOf x)[k]?
theorem Rn.refl {x:SortSt} (g:Gd f z x) (lo:Nat):Rn f z x lo x:=#[g,rfl,λ_ _=>rfl]
theorem Rn.mir {x y:SortSt} (r:Rn f z x lo y) (hi:lo<=i) (hj:j<=z.size):Rn f z x lo (setArr y<|mirror (arrOf y) i j<|(j - i) / 2):=by
 refine#[#[(mirror_perm _ _ _ _).trans r.gd.pm,r.gd.kd,r.gd.fl],r.pd,λk hk=>?_];rw[getElem?_mirror_all (by rw[r.gd.sz];exact hj),if_neg gt];exact r.low k hk
def SU (o:KeyKind) (xs:Dg) (lo m:Nat):Prop:=∀i j,i<=j->j<m->o.kle (KK o xs<|lo+i) (KK o xs<|lo+j)
def SD (o:KeyKind) (xs:Dg) (lo m:Nat):Prop:=∀i j,i<=j->j<m->o.kle (KK o xs<|lo+j) (KK o xs<|lo+i)
theorem SU.more (u:SU o xs lo i) (h:1<=i) (hl:o.kle (KK o xs<|lo+(i - 1)) (KK o xs<|lo+i)):SU o xs lo (i+1):=λg k Ri hk=>by
 rcases y6 k i with LZ|LZ
 ·exact u g k Ri LZ
 ·obtain rfl:k=i:=by lia
  rcases y6 g k with hg|hg
  ·exact KeyOrd.kle_trans (u g _ (by omega) (by omega)) hl
  ·obtain rfl:g=k:=by lia
   exact KeyOrd.kle_refl _
theorem SD.more {ys:Dg} (hk:∀k,KK o ys k=KK o xs k) (u:SD o xs lo i) (h:1<=i) (hl:o.kle (KK o xs<|lo+i) (KK o xs<|lo+(i - 1))):SD o ys lo (i+1):=λg k Ri Tg=>by
 rw[hk,hk];rcases y6 k i with LZ|LZ
 ·exact u g k Ri LZ
 ·obtain rfl:k=i:=by lia
  rcases y6 g k with hg|hg
  ·exact KeyOrd.kle_trans hl (u g _ (by omega) (by omega))
  ·obtain rfl:g=k:=by lia
   exact KeyOrd.kle_refl _
theorem ig {x st:SortSt}{Q:AscSt->SortSt->Prop} (O:Gm prog w A s f o z) (hn:lo+n<=z.size) (ha:1<=a) (Lj:a<=n) (r:Rn f z x lo st) (u:SU o (arrOf st) lo a)
  (q:∀m,a<=m->m<=n->SU o (arrOf st) lo m->(m=n\/o.klt (KK o (arrOf st)<|lo+m) (KK o (arrOf st)<|lo+(m - 1)))->Q (none,m) st):wpS '$' A E s (rN lo a n) Q st:=by
 refine wpS_forRange (I:=λi c y=>y=st/\c=(none,i)/\SU o _ lo i) (λi c y h1 h2 hy=>?_) (λc y hy=>?_) #[rfl,rfl,u]
 ·obtain⟨rfl,rfl,up⟩:=hy;refine wpS_bind (NQ O r.gd gt gt ?_);show wpS _ _ _ _ (if o.blt _ _=true then _ else _) _ _;rw[show lo+i - 1=lo+(i - 1) by lia];cases hl:o.blt _ _ with
  | true=>exact wpS_pure (q i h1 gt up<|.inr hl)
  | false=>exact wpS_pure #[rfl,rfl,up.more gt hl]
 ·grind
def wR (k:AscSt->StateT SortSt Sem (Option Nat)):Prop:=∀m,k (none,m)=pure (some m)
theorem cc {k:AscSt->StateT SortSt Sem (Option Nat)} (hk:wR k) {x st:SortSt} {Q:Option Nat->SortSt->Prop} (O:Gm prog w A s f o z) (hn:lo+n<=z.size) (ha:1<=a) (Lj:a<=n) (r:Rn f z x lo st) (d:SD o (arrOf st) lo a)
  (q:∀m y,Rn f z x lo y->1<=m->m<=n->SU o (arrOf y) lo m->Q (some m) y):wpS '$' A E s (reverseSlice' lo (lo+a)>>=λ_=>rN lo a n>>=k) Q st:=by
 have hz:lo+a<=(arrOf st).size:=by rw[r.gd.sz];lia
 have r2:=r.mir (j:=lo+a) (yj _) gt;refine wpS_bind (wpS_reverse (wpS_bind (ig O hn ha Lj r2 (λi j Fe hj=>?_) λm h1 h2 up _=>by rw[hk];exact wpS_pure (q m _ r2 gt h2 up))));rw[KK_mirror hz,KK_mirror hz,if_pos #[by lia,by lia],if_pos #[by lia,by lia]];have:=d (a - 1 - j) (a - 1 - i) (by omega) (by omega);rw[show lo+(lo+a) - 1 - (lo+i)=lo+(a - 1 - i) by lia,show lo+(lo+a) - 1 - (lo+j)=lo+(a - 1 - j) by lia];exact this
theorem pO {x st:SortSt}{Q:DescSt->SortSt->Prop} (O:Gm prog w A s f o z) (hn:lo+n<=z.size) (ha:1<=a) (Lj:a<=n) (r:Rn f z x lo st) (d:SD o (arrOf st) lo a)
  (q:∀m e y,Rn f z x lo y->a<=m->m<=n->SD o (arrOf y) lo m->e+1<=m->(∀i,lo+m - (e+1)<=i->i<lo+m->KK o (arrOf y) i=KK o (arrOf y) (lo+m - 1))->Q (none,m,e) y):wpS '$' A E s (rM lo a n) Q st:=by
 refine wpS_forRange (I:=λi c y=>∃e,c=(none,i,e)/\Rn f z x lo y/\SD o (arrOf y) lo i/\e+1<=i/\∀k,lo+i - (e+1)<=k->k<lo+i->KK o (arrOf y) k=KK o (arrOf y) (lo+i - 1)) (λi c y h1 h2 hy=>?_) (λc y hy=>?_) #[0,rfl,r,d,by omega,λk p1 p2=>congrArg _ gt]
 ·obtain⟨e,rfl,r2,dn,he,eqs⟩:=hy;have hz:lo+i<=(arrOf y).size:=by rw[r2.gd.sz];lia
  refine wpS_bind (NQ O r2.gd (show lo+i<_ by lia) (show lo+i - 1<_ by lia) ?_);show wpS _ _ _ _ (if o.blt _ _=true then _ else _) _ _;have ei:lo+i - 1=lo+(i - 1):=by lia
  cases hl:o.blt _ _ with
  | true =>
   have hle:o.kle (KK o (arrOf y)<|lo+i) (KK o (arrOf y)<|lo+(i - 1)):=by rw[<-ei];exact KeyOrd.kle_of_klt hl
   by_cases h0:e > 0
   ·rw[if_pos h0];exact wpS_bind (wpS_reverse (wpS_pure #[0,rfl,r2.mir (show lo<=lo+i - (e+1) by lia) (show lo+i<=_ by lia),SD.more (KK_mirror_equal hz eqs) dn gt hle,by lia,λk p1 p2=>congrArg _ gt]))
   ·rw[if_neg h0];exact wpS_pure #[0,rfl,r2,SD.more (λ_=>rfl) dn gt hle,by lia,λk p1 p2=>congrArg _ gt]
  | false =>
   refine wpS_bind (NQ O r2.gd (show lo+i - 1<_ by lia) (show lo+i<_ by lia) ?_);show wpS _ _ _ _ (if o.blt _ _=true then _ else _) _ _;cases hg:o.blt _ _ with
   | true=>exact wpS_pure (q i e y r2 h1 gt dn he eqs)
   | false =>
    have same:=o.total _ _ hl hg;refine wpS_pure #[e+1,rfl,r2,SD.more (λ_=>rfl) dn gt (by rw[<-ei];exact hg),by lia,λk p1 p2=>?_];rw[show lo+(i+1) - 1=lo+i by lia];rcases y6 k (lo+i) with hk|hk
    ·grind
    ·exact congrArg _ gt
 ·grind
def AS (lo n:Nat) (k:DescSt->StateT SortSt Sem (Option Nat)):Prop:=∃k1,wR k1/\∀m e,k (none,m,e)=if e > 0 then reverseSlice' (lo+m - (e+1)) (lo+m)>>=λ_=>reverseSlice' lo (lo+m)>>=λ_=>rN lo m n>>=k1 else reverseSlice' lo (lo+m)>>=λ_=>rN lo m n>>=k1
theorem nO {k2:DescSt->StateT SortSt Sem (Option Nat)}{x st:SortSt}{Q:Option Nat->SortSt->Prop} (hk:AS lo n k2) (O:Gm prog w A s f o z) (hn:lo+n<=z.size) (Lj:a+1<=n) (r:Rn f z x lo st) (d:SD o (arrOf st) lo (a+1))
  (q:∀m y,Rn f z x lo y->1<=m->m<=n->SU o (arrOf y) lo m->Q (some m) y):wpS '$' A E s (liftM (rule "list.sort.descending-run")>>=λ_=>rM lo (a+1) n>>=k2) Q st:=by
 obtain⟨k1,Th,Tg⟩:=hk;refine wpS_bind (wpS_lift (wpAny_rule #[rfl,wpS_bind (pO O hn gt Lj r d λm e y r2 h1 h2 dn he eqs=>?_)]));have hz:lo+m<=(arrOf y).size:=by rw[r2.gd.sz];lia
 rw[Tg];by_cases h0:e > 0
 ·rw[if_pos h0];refine wpS_bind (wpS_reverse (cc Th O hn gt h2 (r2.mir gt gt) (λi j Fe hj=>?_) q));have ek:=KK_mirror_equal hz eqs;rw[ek,ek];exact dn i j Fe hj
 ·rw[if_neg h0];exact cc Th O hn gt h2 r2 dn q
theorem w9 {st:SortSt}{Q:Option Nat->SortSt->Prop} (O:Gm prog w A s f o z) (hn:lo+n<=z.size) (h1:1<=n) (g:Gd f z st)
  (q:∀m y,Rn f z st lo y->1<=m->m<=n->SU o (arrOf y) lo m->Q (some m) y):wpS '$' A E s (countRun' lo n) Q st:=by
 have r:=Rn.refl g lo;refine wpS_bind (ig O hn (yj 1) h1 r (λi j Fe hj=>?_) λm m1 m2 up last=>?_)
 ·obtain rfl:i=j:=by lia
  exact KeyOrd.kle_refl _
 show wpS _ _ _ _ (if (m==n)=true then _ else _) _ _;rcases y6 m n with XQ|XQ
 ·rw[if_neg (by rw[beq_iff_eq];lia)];have hl:=last.resolve_left gt;rcases y6 1 m with hm|hm
  ·rw[if_pos hm];refine wpS_bind (NQ O g gt gt ?_);show wpS _ _ _ _ (if o.blt _ _=true then _ else _) _ _;cases hr:o.blt _ _ with
   | true=>exact wpS_pure (q m st r m1 m2 up)
   | false =>
    have hz:lo+m<=(arrOf st).size:=by rw[g.sz];lia
    have eqs:∀k,lo<=k->k<lo+m->KK o _ k=KK o _ (lo+m - 1):=λk k1 k2=>by
     have a1:=up (k - lo) (m - 1) gt gt;have a2:=up 0 (k - lo) gt (by omega);rw[show lo+(k - lo)=k by lia,show lo+(m - 1)=lo+m - 1 by lia] at a1;rw[show lo+(k - lo)=k by lia,aa9] at a2;exact KeyOrd.kle_antisymm a1 (KeyOrd.kle_trans hr a2)
    have ek:=KK_mirror_equal hz eqs;refine nO #[_,λ_=>rfl,λ_ _=>rfl] O hn gt (r.mir (yj _) gt) (SD.more ek (λi j Fe hj=>?_) m1<|KeyOrd.kle_of_klt hl) q;rw[eqs (lo+i) gt gt,eqs _ gt gt];exact KeyOrd.kle_refl _
  ·rw[if_neg gt];refine nO #[_,λ_=>rfl,λ_ _=>rfl] O hn gt r (SD.more (λ_=>rfl) (λi j Fe hj=>?_) m1<|KeyOrd.kle_of_klt hl) q;obtain rfl:i=j:=by lia
   exact KeyOrd.kle_refl _
 ·rw[if_pos (by rw[beq_iff_eq];lia)];exact wpS_pure (q m st r m1 m2 up)
theorem w6 {x st:SortSt}{Q:Bool->SortSt->Prop} (O:Gm prog w A s f o z) (hn:lo+n<=z.size) (Lj:a<=n) (r:Rn f z x lo st) (u:SU o (arrOf st) lo a)
  (q:∀y,Rn f z x lo y->SU o (arrOf y) lo n->Q true y):wpS '$' A E s (binarySort' lo n a) Q st:=by
 refine wpS_bind (wpS_mono (wpS_forRange (I:=λk c y=>c=(none,())/\Rn f z x lo y/\SU o (arrOf y) lo (min k n)) (Q:=λc y=>c=(none,())/\Rn f z x lo y/\SU o (arrOf y) lo n) (λk c y k1 k2 hy=>?_) (λc y hy=>?_) #[rfl,r,λi j Fe hj=>?_]) λc y hy=>?_)
 ·obtain⟨rfl,b2,up⟩:=hy;rw[Qs gt] at up;have hk:lo+k<z.size:=by lia
  refine wpS_bind (wpS_mono (wpS_forRange (I:=λi c y'=>y'=y/\∃l r,c=(none,l,r)/\l<=r/\r<=k/\r - l<=k - i/\(∀g,g<l->o.kle (KK o (arrOf y)<|lo+g) (KK o (arrOf y)<|lo+k))/\∀g,r<=g->g<k->o.klt (KK o (arrOf y)<|lo+k) (KK o (arrOf y)<|lo+g))
   (Q:=λc y'=>y'=y/\∃l r,c=(none,l,r)/\l<=k/\(∀g,g<l->o.kle (KK o (arrOf y)<|lo+g) (KK o (arrOf y)<|lo+k))/\∀g,l<=g->g<k->o.klt (KK o (arrOf y)<|lo+k) (KK o (arrOf y)<|lo+g)) (λi c y' i1 i2 hy=>?_) (λc y' hy=>?_) #[rfl,0,k,rfl,by lia,by lia,by lia,λg hg=>absurd hg gt,λg p1 p2=>absurd p1 gt]) λc y' hy=>?_)
  ·obtain⟨rfl,l,r',rfl,lr,rk,fu,lw,hw⟩:=hy;show wpS _ _ _ _ (if l>=r' then _ else _) _ _;rcases y6 l r' with Ti|Ti
   ·rw[if_neg gt];refine wpS_bind (NQ O b2.gd hk (show lo+(l+r') / 2<_ by lia) ?_);show wpS _ _ _ _ (if o.blt _ _=true then _ else _) _ _;cases hl:o.blt _ _ with
    | true=>exact wpS_pure #[rfl,l,(l+r') / 2,rfl,by lia,by lia,by omega,lw,λg p1 p2=>KeyOrd.klt_of_klt_of_kle hl<|up _ _ p1 p2]
    | false=>exact wpS_pure #[rfl,(l+r') / 2+1,r',rfl,by lia,by omega,by omega,λg p1=>KeyOrd.kle_trans (up g ((l+r') / 2) gt gt) hl,hw]
   ·rw[if_pos Ti];obtain rfl:l=r':=by lia
    exact wpS_pure #[rfl,l,l,rfl,rk,lw,hw]
  ·grind
  ·obtain⟨rfl,l,r',rfl,lk,lw,hw⟩:=hy;show wpS _ _ _ _ (moveDown' _ _>>=λ_=>pure _) _ _;rw[moveDown'_eq];have hz:lo+k<(arrOf y').size:=by rw[b2.gd.sz];exact hk
   refine wpS_bind (wpS_modify (wpS_pure #[rfl,#[#[(bubble_perm _ _ _).trans b2.gd.pm,b2.gd.kd,b2.gd.fl],b2.pd,λg hg=>?_],λi j Fe hj=>?_]))
   ·rw[getElem?_bubble hz _ gt,if_neg gt,if_neg gt];exact b2.low g hg
   ·have kb:=λg=>KK_bubble (κ:=o) hz (show lo+k - (lo+l)<=lo+k by lia) g;rw[kb,kb];split
    ·split
     ·exact KeyOrd.kle_refl _
     ·split
      ·rw[show lo+j - 1=lo+(j - 1) by lia];exact KeyOrd.kle_of_klt (hw _ gt gt)
      ·exact absurd Fe gt
    ·split
     ·split
      ·exact absurd Fe gt
      ·split
       ·rw[show lo+i - 1=lo+(i - 1) by lia,show lo+j - 1=lo+(j - 1) by lia];exact up _ _ (by omega) (by omega)
       ·exact absurd Fe gt
     ·split
      ·exact lw _ gt
      ·split
       ·rw[show lo+j - 1=lo+(j - 1) by lia];exact up _ _ gt gt
       ·exact up _ _ (by omega) gt
 ·grind
 ·rcases abv a with h0|h0
  ·obtain rfl:i=j:=by lia
   exact KeyOrd.kle_refl _
  ·exact u i j Fe gt
 ·obtain⟨rfl,b2,up⟩:=hy;exact wpS_pure (q y b2 up)
end
section
variable {prog:Dt}{w:World}{A:Around}{E:C3}{s:Shared}{f:Bool}{o:KeyKind}{z:Dg}
theorem SU.all (u:SU o xs 0 xs.size):Up o xs.toList:=by
 have kk:∀{k} (hk:k<xs.size),KK o xs k=kv o _:=λ{k} hk=>by unfold KK;rw[getElem?_pos xs k hk];rfl
 refine Qj.mpr λi j hi hj Fe=>?_;have:=u i j (yX Fe) hj;rw[Q7,Q7,kk hi,kk hj] at this;exact this
structure wO (o:KeyKind) (f:Bool) (z:Dg) (y:SortSt):Prop where
 gd:Gd f z y
 pd:pendingOf y=(Yb [(0,z.size,0)])
 up:SU o (arrOf y) 0 z.size
theorem Rn.done {x y:SortSt} (r:Rn f z x 0 y) (p0:pendingOf x=(Yb [])) (u:SU o (arrOf y) 0 z.size):wO o f z (setPending y<|(pendingOf y).push (0,z.size,0)) :=
 #[#[r.gd.pm,r.gd.kd,r.gd.fl],by rw[r.pd,p0];rfl,u]
theorem wt {st:SortSt}{Q:Unit->SortSt->Prop} (O:Gm prog w A s f o z) (g:Gd f z st) (p0:pendingOf st=(Yb [])) (h2:2<=z.size) (ED:z.size<64)
  (q:∀y,Gd f z y->Up o (arrOf y).toList->Q () y):wpS '$' A E s sortRuns' Q st:=by
 rw[sortRuns'_eq];refine wpS_bind<|wpS_get ?_;have XR:minRun' z.size z.size 0=z.size:=by
  obtain⟨n,hn⟩:∃n,z.size=n+1:=#[z.size - 1,by lia];have:minRun' (n+1) z.size 0=z.size:=by rw[minRun'_succ,if_pos ED];rfl
  rwa [<-hn] at this
 simp only[g.sz,XR];refine wpS_bind (wpS_mono (wpS_forRange (I:=λx c y=>(x=0/\c=(none,0)/\y=st)\/(1<=x/\c=(none,z.size)/\wO o f z y)) (Q:=λc y=>c=(none,z.size)/\wO o f z y) ?step ?fin<|.inl #[rfl,rfl,rfl]) ?post)
 case fin =>
  rintro c y (⟨hx,_,_⟩|⟨_,hc,hD⟩)
  ·lia
  ·exact#[hc,hD]
 case step =>
  rintro x c y _ hx (⟨rfl,rfl,rfl⟩|⟨EX,rfl,hD⟩)
  ·rw[if_neg gt];simp only[Nat.sub_zero,QS,Q7];refine wpS_bind (w9 O gt gt g λm y2 r2 m1 m2 u2=>?_);dsimp only;by_cases DA:m<z.size
   ·rw[if_pos DA];refine wpS_bind (wpS_lift (wpAny_rule #[rfl,wpS_bind (w6 O gt m2 r2 u2 λy3 r3 u3=>?_)]));refine wpS_bind<|wpS_get ?_;have hb:(pendingOf y3).back?=none:=by rw[r3.pd,p0];rfl
    rw[hb];exact wpS_bind (wpS_modify (wpS_pure (.inr #[by lia,rfl,r3.done p0 u3])))
   ·rw[if_neg DA];obtain rfl:m=z.size:=by lia
    refine wpS_bind<|wpS_get ?_;have hb:(pendingOf y2).back?=none:=by rw[r2.pd,p0];rfl
    rw[hb];exact wpS_bind (wpS_modify (wpS_pure (.inr #[by lia,rfl,r2.done p0 u2])))
  ·rw[if_pos<|yj _];exact wpS_pure #[rfl,hD]
 case post =>
  rintro c y ⟨rfl,hD⟩;refine wpS_bind (wpS_mono (wpS_forRange (I:=λ_ c y'=>y'=y/\c=(none,())) ?_ (λ_ _ hh=>hh) #[rfl,rfl]) ?_)
  ·rintro x c y' _ _ ⟨rfl,rfl⟩;refine wpS_bind<|wpS_get ?_;rw[if_pos (by rw[hD.pd];exact yj 1)];exact wpS_pure #[rfl,rfl]
  ·rintro c y' ⟨rfl,rfl⟩;exact wpS_pure (q _ hD.gd (SU.all (by rw[hD.gd.sz];exact hD.up)))
theorem sz64 (h:n<64):n<=sizeLine:=yk (yX h) ac
end
def zN (h:Heap) (d:Addr) (es:Array DictEntry) (ep:Nat):Prop:=∃ob,h.get? d=some ob/\ob.ExactDict/\ob.data=.dict es ep
theorem zN.typeIs {s:Shared}{d:Addr}{es:Array DictEntry}{ep:Nat} (x:zN s.heap d es ep):s.TypeIs (.ref d) "dict":=by
 obtain⟨ob,e,c,_⟩:=x;exact#[ob,e,c.1]
section
variable {prog:Dt}{w:World}{A:Around}{E:C3}{s:Shared}{d t:Addr}{es:Array DictEntry}{ep i:Nat}
theorem NH {Q:C3} (hd:(d==sysModules)=false) (x:zN s.heap d es ep)
  (q:Q (.ref s.heap.objs.size) { s with heap:=s.heap.push { cls:=.type "dict_keyiterator",data:=.fields (Yb [.ref d,.int 0 0,.int es.size 0,.int ep 0]) } }):wpAny '$' A (pyIter<|.ref d) Q E s:=by
 have ty:=x.typeIs;obtain⟨ob,e,c,dt⟩:=x;refine wpAny_pyIter_slot ty F.slot_dict_iter<|wpAny_call_entry F.slot_dict_iter ty F.entry_dict_iter (Du ?_)<|F.args_dict_iter_1 _;refine Du<|wpAny_notOrdered_dict ty ?_;refine Dv ?_;show wpAny _ _ (Builtin.Dict.showsAll d>>=_) _ _ s;unfold Builtin.Dict.showsAll;rw[if_neg (by rw[hd];decide)];refine Du<|Dv<|Du<|wpAny_dictEntries e dt<|Du<|wpAny_dictEpoch e dt ?_;exact Du (wpAny_newObj_type<|Dv #[_,rfl,"dict_keyiterator",_,#[_,yt _ rfl,rfl],F.slot_dict_keyiterator_next.lookup,q])
theorem NY {Q:C8} (k:s.heap.IsKeyIter t d i es.size ep) (x:zN s.heap d es ep) (hi:i<es.size)
  (q:∀h',h'.IsKeyIter t d (i+1) es.size ep->Heap.SameBut t s.heap h'->Q (some es[i].key) { s with heap:=h' }):wpAny '$' A (pyNext<|.ref t) Q E s:=by
 have ty:=k.typeIs;obtain⟨oi,e,c,dt⟩:=id k;obtain⟨ob,e2,_,L0⟩:=x;refine Du<|wpAny_attempt<|wpAny_callSpecial?_slot ty F.slot_dict_keyiterator_next<|wpAny_call_entry F.slot_dict_keyiterator_next ty F.entry_dict_keyiterator_next (Du<|Dv<|Du<|Du ?_)<|F.args_dict_keyiterator_next_1 _;refine Du<|wpAny_typeNameOfWhole_keyiter ty<|Dv<|Du<|wpAny_fieldsOf e dt ?_;rw[show Builtin.Dict_items.ownsTuple "dict_keyiterator"=false by decide];refine Du<|Dv<|Du<|wpAny_dictEntries e2 L0 ?_;rw[if_neg on];refine Du<|Dv<|Du<|wpAny_dictEpoch e2 L0 ?_;rw[if_neg on];refine Dv ?_;simp only[Qg,yU hi];refine Du<|Du<|wpAny_typeNameOfWhole_keyiter ty<|Dv<|Du<|wpAny_isOneOf_keyiter ty ?_;show wpAny _ _ (setField _ 1 _>>=_) _ _ s;refine Du (wpAny_setField e dt on ?_);have k2:(s.heap.update t<|Obj.mapFields (·.setIfInBounds 1<|rawInt<|(i)+1)).IsKeyIter t d (i+1) es.size ep:=#[_,yY _ e<|Obj.isFreed_of_fields<|Obj.data_mapFields dt _,(Obj.cls_mapFields ..).trans c,by rw[Obj.data_mapFields dt];simp [rawInt]];refine Du<|wpAny_holding<|Du<|wpAny_isOneOf_keyiter k2.typeIs ?_;exact Dv (Dv #[_,rfl,Dv<|q _ k2<|Heap.SameBut.update ..])
theorem aR {Q:C8} (hh:A.handled=none) (k:s.heap.IsKeyIter t d i es.size ep) (x:zN s.heap d es ep) (hi:es.size<=i)
  (q:∀h',Heap.ExtBut t s.heap h'->Q none { s with heap:=h' }):wpAny '$' A (pyNext<|.ref t) Q E s:=by
 have ty:=k.typeIs;obtain⟨oi,e,c,dt⟩:=id k;obtain⟨ob,e2,_,L0⟩:=x;refine Du<|wpAny_attempt<|wpAny_callSpecial?_slot ty F.slot_dict_keyiterator_next<|wpAny_call_entry F.slot_dict_keyiterator_next ty F.entry_dict_keyiterator_next (Du<|Dv<|Du<|Du ?_)<|F.args_dict_keyiterator_next_1 _;refine Du<|wpAny_typeNameOfWhole_keyiter ty<|Dv<|Du<|wpAny_fieldsOf e dt ?_;rw[show Builtin.Dict_items.ownsTuple "dict_keyiterator"=false by decide];refine Du<|Dv<|Du<|wpAny_dictEntries e2 L0 ?_;rw[if_neg on];refine Du<|Dv<|Du<|wpAny_dictEpoch e2 L0 ?_;rw[if_neg on];refine Dv ?_;simp only[Qg,aao hi];refine Du<|Du<|wpAny_typeNameOfWhole_keyiter ty<|Dv ?_;show wpAny _ _ (setField _ 0 _>>=_) _ _ s;refine Du (wpAny_setField e dt on ?_);refine Du ?_;refine Du (wpAny_newObj_type (Du (wpAny_of_eq (by rfl) (wpAny_newObj_type ?_ (by size_fits)))) (by size_fits));refine Du<|wpAny_handled ?_;rw[hh];refine Du<|Dv<|wpAny_throw ?_;exact Du (wpAny_isInstance #[_,yt _ rfl,rfl] isSubtype_stop<|Dv<|q _<|((Heap.SameBut.update ..).extBut.push _).push _)
theorem zN.keep {h':Heap} (x:zN h d es ep) (k:∀o,h.get? d=some o->h'.get? d=some o):zN h' d es ep:=by
 obtain⟨ob,e,c⟩:=x;exact#[ob,k _ e,c]
theorem wF (hd:(d==sysModules)=false):KdlSrc prog w "dict" d d es.size (λi v=>∃hi:i<es.size,v=es[i].key) (λh=>zN h d es ep) where
 type:=λ_ x=>x.typeIs
 there:=λ_ x=>by obtain⟨ob,e,_⟩:=x;exact#[yo e,yo e]
 keep:=λ_ _ x k=>x.keep λo e=>k d (.inl rfl) o e
 notList:=by decide
 notTuple:=by decide
 hint:=λ_ _ _ _ x q=>PySem.W.kdl_hint_dict x.typeIs q
 iter:=λA s hh x=>by
  have DA:d<s.heap.objs.size:=by obtain⟨ob,e,_⟩:=x;exact yo e
  refine#[_,λi h=>h.IsKeyIter s.heap.objs.size d i es.size ep/\zN h d es ep,λE Q q=>NH hd x q,?_,#[_,yt _ rfl,rfl,rfl],x.keep λo e=>yf _ e];refine#[λb hb=>by simp at hb;simp [hb],λi h h' st k=>#[?_,st.2.keep λo e=>k d on o e],λi s' Q E hi st q=>?_,λs' Q E st q=>?_,λi s' Q E st q=>wpAny_pyIter_keyiter st.1 q]
  ·obtain⟨ob,e,r⟩:=st.1;exact#[ob,k _ on ob e,r]
  ·refine NY st.1 st.2 hi λh' k' sb=>q _ h' s'.toks #[hi,rfl] #[k',st.2.keep λo e=>sb.extBut d o (yE DA) e] λb o hb e=>sb.extBut b o (λz=>hb (by simp [z])) e
  ·refine aR hh st.1 st.2 (yj _) λh' eb=>q h' s'.toks λb o hb e=>eb b o (λz=>hb (by simp [z])) e
theorem wo {Q:C3} (hh:A.handled=none) (hd:(d==sysModules)=false) (x:zN s.heap d es ep) (hn:es.size<=sizeLine)
  (q:∀h' tk acc c,(∀b o,s.heap.get? b=some o->h'.get? b=some o)->h'.get? s.heap.objs.size=some { cls:=.type "list",dict:=none,data:=.seq acc c,slots:=(Yb []) }->ItemsOf (λi v=>∃hi:i<es.size,v=es[i].key) acc es.size->Q (.ref s.heap.objs.size) { s with heap:=h',toks:=tk }) :
  wpAny '$' A (runValue<|.builtin "proto.collect" #[[.ref d],[]]) Q E s:=by
 have DA:d<s.heap.objs.size:=by obtain⟨ob,e,_⟩:=x;exact yo e
 have ne:=Qq DA;refine wpAny_runValue<|codeAny_builtin F.entry_proto_collect ?_;refine Du<|wpAny_newObj_type<|Dv #[plainId_quiet F.plain_list_iadd _,codeAny_builtin F.entry_list_iadd ?_];rw[Around.under_plainId F.plain_list_iadd _];have x2:zN (s.heap.push { cls:=.type "list",data:=.seq ([]).toArray }) d es ep:=x.keep λo e=>yf _ e;exact kdl_extend (R:=λr s'=>match r with|.ok (.ret v)=>Q v s'|.ok _=>False|.error e=>E e s') (wF hd) hh x2 _ ne ne _ 0 (yt _ rfl)
  (λh' tk acc c kp e items=>q h' tk acc c (λb o hb=>kp b o (yE<|yo hb)<|yf _ hb) e items) hn
theorem bq {Q:List Value->Shared->Prop} (hh:A.handled=none) (hd:(d==sysModules)=false) (x:zN s.heap d es ep) (hn:es.size<=sizeLine)
  (q:∀h' tk,(∀b o,s.heap.get? b=some o->h'.get? b=some o)->s.heap.objs.size<h'.objs.size->Q (es.toList.map (·.key)) { s with heap:=h',toks:=tk }):wpAny '$' A (collect<|.ref d) Q E s:=by
 refine Du (wo hh hd x hn λh' tk acc c kp e items=>?_);refine Du<|wpAny_load e<|Dv ?_;have ea:acc.toList=es.toList.map (·.key):=by
  apply QL
  intro k;rw[ye,Qa,Qa];rcases y6 k es.size with hk|hk
  ·have h1:k<acc.size:=by rw[items.1];exact hk
   rw[getElem?_pos es k hk,getElem?_pos acc k h1];obtain⟨_,e2⟩:=items.2 k _<|getElem?_pos acc k h1;rw[e2];rfl
  ·rw[getElem?_neg es k gt,getElem?_neg acc k (by rw[items.1];lia)];rfl
 rw[ea];exact q h' tk kp (yo e)
end
section
variable {prog:Dt}{w:World}{A:Around}{E:C3}{s:Shared}
theorem qF {α:Type}{R:α->α->Prop}{l:List α} (h:l.length<2):l.Pairwise R:=by
 cases l with
 | nil=>exact aas
 | cons v l =>
  cases l with
  | nil=>exact aaj _ _
  | cons u l=>exact absurd h on
theorem sortedHeap_at {a:Addr}{out:Do} (ho:h.get? a=some (seqObj "list" vs.toArray n)):∃c,(sortedHeap h a vs out).get? a=some (seqObj "list" out c)/\∀b o,b≠a->h.get? b=some o->(sortedHeap h a vs out).get? b=some o:=by
 have g1:=get?_update_seq ho (λ_=>(Yb []));have g2:(((h.update a _).push<|seqObj "tuple" vs.toArray 0).push<|seqObj "list" (Yb []) 0).get? a=_:=yf _<|yf _ g1;have g3:=get?_update_seq g2 (λ_=>out);refine#[_,g3,λb o hb e=>?_];exact (yK _ _<|yV hb).trans (yf _<|yf _<|(yK _ _<|yV hb).trans e)
end
end TS
namespace L2
open PySem PyProof.Rows TS
def CW:V->Key|.int n=>.inl n|.str x=>.inr x|_=>.inl 0
def KeyAt (H:Hp) (bs:Di) (ks:List (List Key)):Prop:=bs.length=ks.length/\∀(i:Nat) (b:Addr) (k:List Key),bs[i]?=some b->ks[i]?=some k->H b=some (.tup<|k.map kV)
def CZ (H:Hp):Value->List Key
 | .ref b=>match H b with|some (.tup ys)=>ys.map CW|_=>[]
 | _=>[]
def w4:Value->Addr|.ref b=>b|_=>0
end L2
namespace L2
open PySem PySem.Spec PyProof.Rows
theorem bw {lo:Int}{n:Nat}{g:TG}{tc:TT}{te:TE}{k:Nat}{σ:St}{H:Hp}{Q:VK} (Pv:Addr->Nat->List V->Hp->Prop) (hn:n<=sizeLine)
  (h0:∀D,H D=none->Pv D 0 [] (upd H D<|.lst [])) (hD:∀D i ys H',Pv D i ys H'->H' D=some (.lst ys)/\ys.length<=i)
  (step:∀D i ys H' (Qy:VK) (Qn:Hp->Prop),i<n->Pv D i ys H'->(∀y H4,H4 D=some (.lst ys)->Pv D (i+1) (ys++[y]) (upd H4 D<|.lst<|ys++[y])->Qy y H4)->(∀H4,Pv D (i+1) ys H4->Qn H4) ->
   g (.int<|lo+i) (σ++Ye k none) H' λσ2 H2=>(∃zs,σ2=σ++zs/\zs.length=k)/\tc σ2 H2 λb H3=>if b=true then te σ2 H3 Qy else Qn H3)
  (q:∀D ys H',H D=none->Pv D n ys H'->Q (.ref D) H'):vJ k g tc te σ Q (my lo n) H:=by
 intro D EW;refine#[λi m ys H'=>m=n - i/\i<=n/\Pv D i ys H',#[n,by simp,yP _,h0 D EW],?_];rintro i m ys H' ⟨rfl,hi,p⟩;obtain⟨e,hl⟩:=hD D i ys H' p;refine#[e,?_];by_cases DA:i<n
 ·refine .inr #[DA,by lia,λx H2 y=>?_];obtain⟨rfl,rfl⟩:=y;exact step D i ys H2 _ _ DA p (λy H4 e4 p4=>#[e4,n - (i+1),by omega,rfl,DA,p4]) λH4 p4=>#[n - (i+1),by omega,rfl,DA,p4]
 ·obtain rfl:i=n:=by lia
  exact .inl #[yj _,q D ys H' EW p]
end L2
namespace L2
open PySem PySem.Spec PyProof.Rows TS
section
variable {X:Cx}{pins:De}{σ:St}{H:Hp}{s:Shared}
theorem lR (hu:X.A.units<cLine):uk X (compareOp .Eq) (λx y H Q=>E3 λa b xs=>A5 (x=.ref a) (y=.ref b) (jj X.K H a xs) (jj X.K H b [])<|Q (.bl xs.isEmpty) H):=by
 intro pins s σ H x y v u Q I rx ry h;obtain⟨a,b,xs,rfl,rfl,ha,hb,q⟩:=h;cases rx;cases ry;obtain⟨Dy,rv,p,_⟩:=I.list ha;obtain⟨OR,DY,p',_⟩:=I.list hb;cases DY;cases rv with
 | nil=>exact EqBoolInt.of_rc (SeqAt.RcAt.lists (e:=λ_=>true) p.isList p'.isList rfl hu (λj h1=>absurd h1 on)) #[.bl true,H,I,rfl,q]
 | cons r t=>exact EqBoolInt.of_rc (SeqAt.RcAt.lists_lengths p.isList p'.isList on hu) #[.bl false,H,I,rfl,q]
open Classical in
end
end L2
namespace STb
open PySem SetTable
variable {mask n x i j p r:Nat}{h:Int}{xs:Array Nat}{hs:Nat->Int}{owner:Dq}{l:List (Nat×Nat)}
def sm:Nat->Nat
 | 0=>0
 | n+1=>5*sm n+1
theorem KC (m:Nat):∀n,sm (n+m)=5^n*sm m+sm n
 | 0=>by simp [sm]
 | n+1=>by
  have e:n+1+m=(n+m)+1:=by lia
  rw[e];show 5*sm _+1=5^(n+1)*sm m+(5*sm n+1);rw[KC m n,Q8,Q6 _ 5,Q2]
  lia
theorem Nq (n:Nat):5^n % 4=1:=by
 induction n with
 | zero=>rfl
 | succ n ih=>lia
theorem aM:∀k,∃d,sm (2^k)=2^k*(2*d+1)
 | 0=>#[0,rfl]
 | k+1=>by
  obtain⟨d,hd⟩:=aM k;have e:2^(k+1)=2^k+2^k:=by lia
  have h4:=Nq<|2^k;obtain⟨q,hq⟩:∃q,5^(2^k)=4*q+1:=#[5^(2^k) / 4,by lia];refine#[2*d*q+d+q,?_];rw[e,KC,hd,hq];have:(4*q+1)*(2^k*(2*d+1))+2^k*(2*d+1)=2^k*((4*q+2)*(2*d+1)):=by
   grind
  rw[this,<-Nat.two_mul,Q6 2<|2^k,Q2];congr 1;have:(4*q+2)*(2*d+1)=2*((2*q+1)*(2*d+1)):=by grind
  rw[this];congr 1;rw[Nat.add_mul,Nat.mul_add,show 2*q*(2*d)=2*(2*d*q) by rw[Q2,Q6 q _]]
  lia
theorem oK:∀(k b:Nat),∃n,n<2^k/\sm n % 2^k=b % 2^k
 | 0,b=>#[0,by decide,by simp [Nat.mod_one]]
 | k+1,b=>by
  obtain⟨n,hn,he⟩:=oK k b;have e:2^(k+1)=2^k+2^k:=by lia
  obtain⟨d,hd⟩:=aM k;by_cases h:sm n % 2^(k+1)=b % 2^(k+1)
  ·exact#[n,by lia,h]
  ·refine#[n+2^k,by lia,?_];obtain⟨c,hc⟩:∃c,5^n=2*c+1:=#[5^n / 2,by have:=Nq n;lia];have e1:sm (n+2^k)=sm n+2^k+2^(k+1)*(2*c*d+c+d):=by
    rw[KC,hd,hc,<-Q2,Q6<|2*c+1,Q2];have:(2*c+1)*(2*d+1)=2*(2*c*d+c+d)+1:=by
     grind
    rw[this,Nat.mul_add,Nat.mul_one,<-Q2,<-Q8];show 2^(k+1)*_+2^k+sm n=_
    lia
   rw[e1,aaW];have m1:=Y1 (sm n) (show 0<2^(k+1) by lia);have m2:=Y1 b (show 0<2^(k+1) by lia);have q1:sm n % 2^(k+1) % 2^k=sm n % 2^k:=abu _ #[2,by rw[Q8]];have q2:b % 2^(k+1) % 2^k=b % 2^k:=abu _ #[2,by rw[Q8]];rw[abi];generalize sm n % 2^(k+1)=x at *;generalize b % 2^(k+1)=y at *;rw[e] at *;generalize 2^k=p at *;have hx:x % p=y % p:=by lia
   have px:x % p=if x<p then x else x - p:=by
    split
    ·exact Qz ‹_›
    ·rw[aaz gt,Qz (by omega)]
   have py:y % p=if y<p then y else y - p:=by
    split
    ·exact Qz ‹_›
    ·rw[aaz gt,Qz (by omega)]
   have pp:p % (p+p)=p:=Qz gt;rw[px,py] at hx;by_cases h1:x<p
   ·rw[Qz gt]
    split at hx<;>split at hx<;>lia
   ·rw[aaz gt,Qz (by omega)]
    split at hx<;>split at hx<;>lia
def Fm (mask i:Nat):Nat:=(i*5+1) % (mask+1)
def gf (mask:Nat) (a:Nat):Nat->Nat
 | 0=>a
 | n+1=>Fm mask (gf mask a n)
theorem k6 {k:Nat} (hm:mask+1=2^k) (a:Nat) (ha:a<=mask):∀n,gf mask a n=(5^n*a+sm n) % 2^k
 | 0=>by
  show a=(5^0*a+0) % 2^k;rw[Nat.one_mul,aa9,Qz gt]
 | n+1=>by
  show (gf mask a n*5+1) % (mask+1)=(5^(n+1)*a+(5*sm n+1)) % 2^k;rw[k6 hm a ha n,hm,abi,Nat.mod_mul_mod,<-abi];congr 1;rw[Nat.add_mul,Q8,Q6 _ 5,Q6 (5^n) 5,Q2]
  lia
theorem K0 (mask a m:Nat):∀n,gf mask (gf mask a m) n=gf mask a (m+n)
 | 0=>rfl
 | n+1=>by show Fm mask _=Fm mask _;rw[K0 mask a m n];rfl
theorem cC {k:Nat} (hm:mask+1=2^k) {a b:Nat} (ha:a<=mask) (hb:b<=mask):∃n,n<=mask/\gf mask a n=b:=by
 have z:∀c,c<=mask->∃n,n<2^k/\gf mask 0 n=c:=λc hc=>by
  obtain⟨n,h1,h2⟩:=oK k c;refine#[n,h1,?_];rw[k6 hm 0<|yP _,aa6,Q7,h2,Qz gt]
 have XS:∀n,gf mask 0 (n+2^k)=gf mask 0 n:=λn=>by
  obtain⟨d,hd⟩:=aM k;rw[k6 hm 0<|yP _,k6 hm 0<|yP _,aa6,Q7,aa6,Q7,KC,hd,Q6 _,Q2,Nat.add_comm,aaW]
 obtain⟨m,m1,rfl⟩:=z a ha;obtain⟨m',m2,rfl⟩:=z b hb;by_cases h:m<=m'
 ·exact#[m' - m,by lia,by rw[K0];congr 1;lia]
 ·refine#[m'+2^k - m,by omega,?_];rw[K0,<-XS m'];congr 1;omega
def vq (mask:Nat) (p:Probe):Probe :=
 if p.more > 0 then { p with j:=p.j+1,more:=p.more - 1 } else { p with j:=(leap mask p.i p.perturb).1,more:=runEnd mask (leap mask p.i p.perturb).1 - (leap mask p.i p.perturb).1,i:=(leap mask p.i p.perturb).1,perturb:=(leap mask p.i p.perturb).2 }
theorem nM (t:SetTable) (p:Probe):t.advance p=vq t.mask p:=by
 unfold SetTable.advance vq
 split<;>rfl
def CL (mask:Nat) (h:Int):Probe:={ j:=bits h % (mask+1),more:=runEnd mask (bits h % (mask+1)) - bits h % (mask+1),i:=bits h % (mask+1),perturb:=bits h,dummy:=none }
def j6 (mask:Nat) (h:Int):Nat->Probe
 | 0=>CL mask h
 | n+1=>vq mask (j6 mask h n)
def lp (mask:Nat) (h:Int):Nat->Nat×Nat
 | 0=>(bits h % (mask+1),bits h)
 | m+1=>leap mask (lp mask h m).1 (lp mask h m).2
def MX (mask:Nat) (x:Nat×Nat):Probe:={ j:=x.1,more:=runEnd mask x.1 - x.1,i:=x.1,perturb:=x.2,dummy:=none }
theorem mr {x:Nat×Nat} (e:j6 mask h n=MX mask x):∀d,d<=runEnd mask x.1 - x.1->j6 mask h (n+d)={ MX mask x with j:=x.1+d,more:=runEnd mask x.1 - x.1 - d }
 | 0,_=>e
 | d+1,hd=>by
  show vq mask (j6 mask h<|n+d)=_;rw[mr e d gt];unfold vq;rw[if_pos (by grind)];simp only[Probe.mk.injEq,and_true]
  lia
theorem oF (mask i:Nat):runEnd mask i - i<=9:=by unfold runEnd;split<;>lia
theorem aE (mask:Nat) (h:Int):∀m,∃n,n<=10*m/\j6 mask h n=MX mask (lp mask h m)
 | 0=>#[0,yj _,rfl]
 | m+1=>by
  obtain⟨n,hn,e⟩:=aE mask h m;have hr:=oF mask (lp mask h m).1;refine#[n+(runEnd mask (lp mask h m).1 - (lp mask h m).1)+1,by lia,?_];show vq mask _=_;rw[mr e _<|yj _];unfold vq;rw[if_neg (by simp_all)]
  rfl
theorem cM (mask:Nat) (h:Int):∀m,(lp mask h m).2=bits h / 32^m
 | 0=>by show bits h=_;rw[Nat.div_one]
 | m+1=>by
  show (lp mask h m).2 / 32=_;rw[cM mask h m,Nat.div_div_eq_div_mul,Q8]
theorem sT (h:Int):bits h<2^64:=by
 unfold bits
 lia
theorem rZ (mask:Nat) (h:Int):∀m,(lp mask h m).1<=mask
 | 0=>Q3 (Y1 _<|Qh _)
 | m+1=>Q3 (Y1 _<|Qh _)
theorem tH (mask:Nat) (h:Int) (m:Nat):(lp mask h<|13+m).2=0:=by
 rw[cM];refine Nat.div_eq_of_lt<|yC (sT h) ?_;exact yk (by decide:2^64<=32^13) (aaw ac gt)
theorem fb (mask:Nat) (h:Int):∀m,(lp mask h<|13+m).1=gf mask (lp mask h 13).1 m
 | 0=>rfl
 | m+1=>by
  show (leap mask (lp mask h<|13+m).1 (lp mask h<|13+m).2).1=Fm mask _;rw[tH,fb mask h m]
  rfl
theorem wc {k:Nat} (hm:mask+1=2^k) (h:Int) {b:Nat} (hb:b<=mask):∃n,n<10*turns mask/\(j6 mask h n).j=b:=by
 obtain⟨m,m1,e⟩:=cC hm (rZ mask h 13) hb;obtain⟨n,n1,e2⟩:=aE mask h<|13+m;refine#[n,by unfold turns;lia,?_];rw[e2];show (lp mask h _).1=b;rw[fb,e]
theorem gI (mask:Nat) (h:Int):∀n,(j6 mask h n).dummy=none
 | 0=>rfl
 | n+1=>by
  show (vq mask _).dummy=none;unfold vq;split
  ·exact gI mask h n
  ·exact gI mask h n
theorem xX (n:Nat):(j6 mask h n).j+(j6 mask h n).more<=mask:=by
 have run:∀i,i<=mask->i+(runEnd mask i - i)<=mask:=λi hi=>by unfold runEnd;split<;>lia
 induction n with
 | zero=>exact run _ (Q3<|Y1 _<|Qh _)
 | succ n ih =>
  show (vq mask _).j+(vq mask _).more<=mask;unfold vq;split
  ·grind
  ·exact run _ (Q3<|Y1 _<|Qh _)
theorem fC (n:Nat):(j6 mask h n).j<=mask:=by have:=xX (mask:=mask) (h:=h) n;lia
def U8 (xs:Array Nat):Prop:=∀i k,i<k->k<xs.size->xs.getD i 0<xs.getD k 0
theorem tx (h:i<xs.size) (a b:Nat):xs.getD i a=xs.getD i b:=by simp [h]
theorem U8.le (R:U8 xs) {k:Nat} (h:i<=k) (hk:k<xs.size):xs.getD i 0<=xs.getD k 0:=by
 rcases YU h with h|h
 ·exact yX (R i k h hk)
 ·rw[h];exact yj _
theorem GO (R:U8 xs):∀(fuel lo hi:Nat),lo<=hi->hi<=xs.size->hi - lo<=fuel->(∀i,i<lo->xs.getD i 0<j)->(∀i,hi<=i->i<xs.size->j<=xs.getD i 0) ->
  below.go xs j fuel lo hi<=xs.size/\(∀i,i<below.go xs j fuel lo hi->xs.getD i 0<j)/\∀i,below.go xs j fuel lo hi<=i->i<xs.size->j<=xs.getD i 0
 | 0,lo,hi,h1,h2,h3,h4,h5=>by
  obtain rfl:lo=hi:=by lia
  exact#[h2,h4,h5]
 | fuel+1,lo,hi,h1,h2,h3,h4,h5=>by
  unfold below.go;split
  ·have m1:(lo+hi) / 2<hi:=by lia
   have m2:lo<=(lo+hi) / 2:=by lia
   generalize (lo+hi) / 2=mid at m1 m2;dsimp only;rw[tx gt j 0];split
   ·rename_i hm;exact GO R fuel _ hi gt h2 gt (λi Lh=>yG (R.le gt gt) hm) h5
   ·exact GO R fuel lo mid m2 gt gt h4 λi h6 h7=>yk (by omega) (R.le h6 h7)
  ·grind
theorem vW (R:U8 xs) (j:Nat):below xs j<=xs.size/\(∀i,i<below xs j->xs.getD i 0<j)/\∀i,below xs j<=i->i<xs.size->j<=xs.getD i 0 :=
 GO R _ _ _ (yP _) (yj _) (yj _) (λi h=>absurd h<|QC i) λi h1 h2=>by omega
def At (xs:Array Nat) (i j:Nat):Prop:=i<xs.size/\xs.getD i 0=j
def Uw (xs:Array Nat) (j:Nat):Prop:=∃i,At xs i j
theorem At.uniq (R:U8 xs) {k:Nat} (a:At xs i j) (b:At xs k j):i=k:=by
 rcases QM i k with h|h|h
 ·have:=R i k h b.1;rw[a.2,b.2] at this
  lia
 ·exact h
 ·have:=R k i h a.1;rw[a.2,b.2] at this
  lia
theorem VZ:(xs[i]?=some j)↔At xs i j:=by
 constructor
 ·intro h;obtain⟨h1,h2⟩:=Qp.mp h;exact#[h1,by simp [h1,h2]]
 ·rintro⟨h1,h2⟩;rw[Qp];exact#[h1,by simpa [h1] using h2]
theorem zx {t:SetTable} (R:U8 t.place) (a:At t.place i j):t.slot j=.live i:=by
 obtain⟨b1,b2,b3⟩:=vW R j;have e:below t.place j=i:=by
  rcases QM i _ with h|h|h
  ·have:=b2 i h;rw[a.2] at this
   lia
  ·exact h.symm
  ·have h1:=b3 _ (yj _) (by have:=a.1;lia);have h2:=R _ i h a.1;rw[a.2] at h2;omega
 unfold SetTable.slot;rw[e];dsimp only;rw[VZ.mpr a,if_pos on]
theorem KB {t:SetTable} (R:U8 t.place) (dm:t.dummies=(Yb [])) (n:¬Uw t.place j):t.slot j=.empty:=by
 unfold SetTable.slot;rw[if_neg (λz=>n #[_,VZ.mp (by simpa using z)]),dm]
 rfl
theorem Ue {α:Type} (xs:Array α) (hp:p<=xs.size) (x:α):(insertAt xs p x).size=xs.size+1:=by
 unfold insertAt;simp
 lia
theorem getElem?_insertAt {α:Type} (xs:Array α) (hp:p<=xs.size) (x:α) (i:Nat):(insertAt xs p x)[i]?=if i<p then xs[i]? else if i=p then some x else xs[i - 1]?:=by
 unfold insertAt;rw[Array.getElem?_append,Array.size_push,Array.size_extract];by_cases h1:i<p
 ·grind
 ·grind
theorem VY (xs:Array Nat) (i:Nat):xs.getD i 0=(xs[i]?).getD 0:=by
 rw[Array.getD_getElem?]
 rfl
theorem Nz (hp:p<=xs.size) (x i:Nat):(insertAt xs p x).getD i 0=if i<p then xs.getD i 0 else if i=p then x else xs.getD (i - 1) 0:=by
 rw[VY,getElem?_insertAt xs hp,VY,VY];split
 ·rfl
 ·split<;>rfl
theorem cX (R:U8 xs) (n:¬Uw xs j):U8 (insertAt xs (below xs j) j):=by
 obtain⟨b1,b2,b3⟩:=vW R j;intro i k Rj hk;rw[Ue xs b1] at hk;rw[Nz b1,Nz b1];have up:∀m,below xs j<=m->m<xs.size->j<xs.getD m 0:=λm h1 h2=>by
  rcases YU (b3 m h1 h2) with h|h
  ·exact h
  ·exact absurd #[m,h2,h.symm] n
 by_cases h1:i<below xs j
 ·rw[if_pos h1];by_cases h2:k<below xs j
  ·rw[if_pos h2];exact R i k Rj gt
  ·grind
 ·rw[if_neg h1,if_neg (show ¬k<below xs j by lia),if_neg (show ¬k=below xs j by lia)];by_cases h3:i=below xs j
  ·grind
  ·rw[if_neg h3];exact R _ _ gt (by omega)
theorem Z4 (hp:p<=xs.size):At (insertAt xs p x) i j↔if i<p then At xs i j else if i=p then x=j else At xs (i - 1) j/\0<i:=by
 rw[<-VZ,getElem?_insertAt xs hp];split
 ·exact VZ
 ·split
  ·simp
  ·rw[VZ];exact#[λh=>#[h,by lia],λh=>h.1]
theorem c7 (hp:p<=xs.size):Uw (insertAt xs p x) j↔Uw xs j\/j=x:=by
 constructor
 ·rintro⟨i,h⟩;rw[Z4 hp] at h
  split at h
  ·exact .inl #[i,h]
  ·split at h
   ·exact .inr h.symm
   ·exact .inl #[_,h.1]
 ·rintro (⟨i,h⟩|rfl)
  ·by_cases h1:i<p
   ·exact#[i,(Z4 hp).mpr (by rw[if_pos h1];exact h)]
   ·exact#[i+1,(Z4 hp).mpr (by grind)]
  ·exact#[p,(Z4 hp).mpr (by grind)]
structure Tbl (t:SetTable) (hs:Nat->Int) (n:Nat):Prop where
 size:t.place.size=n
 ris:U8 t.place
 le:∀j,Uw t.place j->j<=t.mask
 dm:t.dummies=(Yb [])
 pw:∃k,t.mask+1=2^k
 room:n<=t.mask
 reach:∀i j,At t.place i j->∃m,(j6 t.mask (hs i) m).j=j/\∀m',m'<m->Uw t.place (j6 t.mask (hs i) m').j
theorem aw:∀(n:Nat) (f:Nat->Nat),(∀j,j<=n->∃i,i<n/\f i=j)->False
 | 0,f,h=>by grind
 | n+1,f,h=>by
  obtain⟨i0,h0,e0⟩:=h _<|yj _;refine aw n (λi=>if i=i0 then f n else f i) λj hj=>?_;obtain⟨i,hi,e⟩:=h j gt;have ne:i≠i0:=λz=>by rw[z,e0] at e;lia
  by_cases hn:i=n
  ·refine#[i0,by lia,?_];rw[if_pos rfl,<-hn];exact e
  ·refine#[i,by lia,?_];rw[if_neg ne];exact e
theorem Tbl.free {t:SetTable} (T:Tbl t hs n):∃j,j<=t.mask/\¬Uw t.place j:=by
 refine Yq λz=>?_;refine aw t.mask (λi=>t.place.getD i 0) λj hj=>?_;have h1:=Yq λq=>z #[j,hj,q];obtain⟨i,h2,h3⟩:=h1;exact#[i,by have:=T.room;have:=T.size;lia,h3]
def wW (t:SetTable) (hs:Nat->Int) (h:Int) (m:Nat):Prop:=¬Uw t.place (j6 t.mask h m).j\/∃i,At t.place i (j6 t.mask h m).j/\hs i=h
theorem aA {t:SetTable} (T:Tbl t hs n):∀(d fuel m:Nat),d<fuel->wW t hs h (m+d)->(∀d',d'<d->¬wW t hs h (m+d')) ->
  (¬Uw t.place (j6 t.mask h<|m+d).j/\SetTable.probe.go t hs h fuel (j6 t.mask h m)=some (.empty (j6 t.mask h<|m+d).j none)) \/
  ∃i,At t.place i (j6 t.mask h<|m+d).j/\hs i=h/\SetTable.probe.go t hs h fuel (j6 t.mask h m)=some (.candidate (j6 t.mask h<|m+d).j i<|j6 t.mask h<|m+d+1)
 | 0,fuel+1,m,_,DX,_=>by
  rcases DX with DX|⟨i,ha,hh⟩
  ·refine .inl #[DX,?_];rw[SetTable.probe.go];rw[show m+0=m from rfl] at DX ⊢;rw[KB T.ris T.dm DX];rw[gI]
  ·refine .inr #[i,ha,hh,?_];rw[SetTable.probe.go];rw[show m+0=m from rfl] at ha ⊢;rw[zx T.ris ha];dsimp only;rw[if_pos (by simp_all),nM]
   rfl
 | d+1,fuel+1,m,hf,DX,Fi=>by
  have h0:=Fi 0 gt;have ht:Uw t.place (j6 t.mask h m).j:=Yq λz=>h0<|.inl z;obtain⟨i,ha⟩:=ht;have D8:=λz=>h0<|.inr #[i,ha,z];have e:m+1+d=m+(d+1):=by lia
  have ih:=aA T d fuel _ gt (by rw[e];exact DX) λd' Hi=>by
   grind
  rw[e] at ih;have go:SetTable.probe.go t hs h (fuel+1) (j6 t.mask h m)=SetTable.probe.go t hs h fuel (j6 t.mask h<|m+1):=by
   rw[SetTable.probe.go,zx T.ris ha];dsimp only;rw[if_neg (by simpa using D8),nM]
   rfl
  rw[go];exact ih
theorem A2 {p:Nat->Prop}:∀(n:Nat),p n->∃m,m<=n/\p m/\∀k,k<m->¬p k:=by
 intro n
 induction n using Nat.strongRecOn with
 | _ n ih =>
  by_cases z:∃k,k<n/\p k
  ·grind
  ·grind
theorem Tbl.probe {t:SetTable} (T:Tbl t hs n) (h:Int) {m:Nat} (ahead:∀m',m'<m->Uw t.place (j6 t.mask h m').j):∃m2,m<=m2/\m2<10*turns t.mask/\(∀m',m<=m'->m'<m2->Uw t.place (j6 t.mask h m').j/\∀i,At t.place i (j6 t.mask h m').j->hs i≠h) /\
  ((¬Uw t.place (j6 t.mask h m2).j/\t.probe hs h (j6 t.mask h m)=some (.empty (j6 t.mask h m2).j none)) \/
   ∃i,At t.place i (j6 t.mask h m2).j/\hs i=h/\t.probe hs h (j6 t.mask h m)=some (.candidate (j6 t.mask h m2).j i<|j6 t.mask h<|m2+1)):=by
 obtain⟨b,hb,nb⟩:=T.free;obtain⟨k,hk⟩:=T.pw;obtain⟨Tj,h1,e1⟩:=wc hk h hb;have hm:m<=Tj:=Yq λz=>nb (by grind);obtain⟨d,hd,XT,HF⟩:=A2 (p:=λd=>wW t hs h<|m+d) (Tj - m) (.inl (by grind));refine#[_,by lia,by lia,λm' g1 g2=>?_,aA T d _ m gt XT HF];have:=HF (m' - m) gt;rw[show m+(m' - m)=m' by lia] at this;refine#[Yq λz=>this<|.inl z,λi ha z=>this<|.inr #[i,ha,z]]
def ZI (owner:Dq) (j:Nat):Prop:=(owner.getD j<|some 0).isNone=true
theorem cu {mb:Nat} (nb:ZI owner (lp mask h mb).1):∀(fuel m n:Nat),mb<m+fuel->m<=mb->j6 mask h n=MX mask (lp mask h m)->(∀n',n'<n->¬ZI owner (j6 mask h n').j) ->
  ∃n2,layClean.free mask owner fuel (lp mask h m).1 (lp mask h m).2=some (j6 mask h n2).j/\ZI owner (j6 mask h n2).j/\∀n',n'<n2->¬ZI owner (j6 mask h n').j
 | 0,m,n,hf,hm,_,_=>absurd hf (by omega)
 | fuel+1,m,n,hf,hm,hn,ahead=>by
  have run:=mr hn;have ge:(lp mask h m).1<=runEnd mask (lp mask h m).1:=by unfold runEnd;split<;>lia
  have jd:∀d,d<=runEnd mask _ - (lp mask h m).1->(j6 mask h _).j=(lp mask h m).1+d:=λd hd=>by rw[run d hd]
  rw[layClean.free];cases e:(Yc _).find? _ with
  | some k =>
   obtain⟨h1,as,bs,h2,h3⟩:=List.find?_eq_some_iff_append.mp e;have hk:k∈Yc (runEnd mask (lp mask h m).1+1 - (lp mask h m).1):=by rw[h2];simp
   rw[yI] at hk;have hlen:=by
    have h4:(Yc<|runEnd mask (lp mask h m).1+1 - (lp mask h m).1)[as.length]?=some k:=by rw[h2];simp
    have h5:=(yc.mp h4).1;rw[yL] at h5;rw[QN h5] at h4;exact Yd h4
   refine#[n+k,?_,?_,λn' FW=>?_]
   ·rw[jd k (by omega)]
   ·rw[jd k (by omega)];exact h1
   ·by_cases hl:n'<n
    ·exact ahead n' hl
    ·obtain⟨d,rfl⟩:∃d,n'=n+d:=#[n' - n,by lia];rw[jd d gt];intro z;have hd:=by
      have h5:d<(Yc<|runEnd mask (lp mask h m).1+1 - (lp mask h m).1).length:=by rw[yL];lia
      have h6:=QN (by rw[yL] at h5;exact h5);rw[h2,yx gt] at h6;exact yh h6
     have:=h3 d hd;rw[z] at this;cases this
  | none =>
   have L5:=List.find?_eq_none.mp e;have DL:∀d,d<=runEnd mask (lp mask h m).1 - (lp mask h m).1->¬ZI owner _:=λd hd=>L5 d (yI.mpr gt);have DA:m<mb:=by
    rcases YU hm with h1|h1
    ·exact h1
    ·have:=DL 0<|yP _;rw[h1] at this;exact absurd nb this
   refine cu nb fuel (m+1) (n+(runEnd mask (lp mask h m).1 - (lp mask h m).1)+1) gt gt ?_ λn' FW=>?_
   ·show vq mask _=_;rw[run _<|yj _];unfold vq;rw[if_neg (by grind)]
    rfl
   ·by_cases hl:n'<n
    ·exact ahead n' hl
    ·obtain⟨d,rfl⟩:∃d,n'=n+d:=#[n' - n,by lia];rw[jd d gt];exact DL d gt
theorem tm {k:Nat} (hm:mask+1=2^k) (h:Int) {b:Nat} (hb:b<=mask) (nb:ZI owner b):∃n2,layClean.free mask owner (turns mask) (bits h % (mask+1)) (bits h)=some (j6 mask h n2).j/\ZI owner (j6 mask h n2).j/\∀n',n'<n2->¬ZI owner (j6 mask h n').j:=by
 obtain⟨m,m1,e⟩:=cC hm (rZ mask h 13) hb;exact cu (by rw[fb,e];exact nb) _ 0 0 (by unfold turns;lia) gt rfl λn' h=>absurd h (QC _)
structure zP (mask:Nat) (hs:Nat->Int) (owner:Dq) (r:Nat):Prop where
 size:owner.size=mask+1
 val:∀(j k:Nat),owner[j]?=some (some k)->k<r
 ex:∀k:Nat,k<r->∃j:Nat,owner[j]?=some (some k)
 uq:∀(j j' k:Nat),owner[j]?=some (some k)->owner[j']?=some (some k)->j=j'
 reach:∀(j k:Nat),owner[j]?=some (some k)->∃n,(j6 mask (hs k) n).j=j/\∀n',n'<n->∃k':Nat,owner[(j6 mask (hs k) n').j]?=some (some k')
theorem cj (hj:j<owner.size):ZI owner j↔owner[j]?=some none:=by
 unfold ZI;rw[yU hj];simp only[abk,hj,dite_true];show (owner[j]).isNone=true↔some _=some none;generalize owner[j]=x;cases x<;>simp
theorem cQ (hj:j<owner.size) (h:¬ZI owner j):∃k,owner[j]?=some (some k):=by
 rw[cj hj,yU hj] at h;rw[yU hj];cases e:owner[j] with
 | none=>rw[e] at h;exact absurd rfl h
 | some k=>exact#[k,rfl]
theorem zP.free (O:zP mask hs owner r) (hr:r<=mask):∃j,j<=mask/\ZI owner j:=by
 refine Yq λz=>?_;refine aw mask (λi=>if h:i<r then Classical.choose (O.ex i h) else 0) λj hj=>?_;have D8:=λq=>z #[j,hj,q];obtain⟨k,hk⟩:=cQ (by rw[O.size];lia) D8;have Tn:=O.val j k hk;refine#[k,by lia,?_];rw[dif_pos Tn];exact O.uq _ _ k (Classical.choose_spec<|O.ex k Tn) hk
theorem zP.step (hm:mask+1=2^p) (O:zP mask hs owner r) (hr:r<=mask):∃j,layClean.free mask owner (turns mask) (bits (hs r) % (mask+1)) (bits<|hs r)=some j/\zP mask hs (owner.setIfInBounds j<|some r) (r+1):=by
 obtain⟨b,hb,nb⟩:=O.free hr;obtain⟨n2,e1,e2,e3⟩:=tm hm _ hb nb;refine#[_,e1,?_];have hj:(j6 mask (hs r) n2).j<owner.size:=by rw[O.size];have:=fC (mask:=mask) (h:=hs r) n2;lia
 have ej:=(cj hj).mp e2;generalize XU:(j6 mask _ n2).j=j at hj ej;have get:∀i:Nat,(owner.setIfInBounds j<|some r)[i]?=if i=j then some (some r) else owner[i]?:=λi=>by
  grind
 have keep:∀(i k:Nat),owner[i]?=some (some k)->(owner.setIfInBounds j<|some r)[i]?=some (some k):=λi k h=>by
  grind
 refine#[by rw[Array.size_setIfInBounds];exact O.size,λi k h=>?_,λk hk=>?_,λi i' k h h'=>?_,λi k h=>?_]
 ·rw[get] at h
  split at h
  ·cases h;lia
  ·have:=O.val i k h;lia
 ·by_cases h:k=r
  ·grind
  ·obtain⟨i,hi⟩:=O.ex k gt;exact#[i,keep i k hi]
 ·rw[get] at h h'
  split at h
  ·cases h
   split at h'
   ·rename_i a b;rw[a,b]
   ·have:=O.val i' r h';lia
  ·split at h'
   ·cases h';have:=O.val i r h;lia
   ·exact O.uq i i' k h h'
 ·rw[get] at h
  split at h
  ·rename_i e;cases h;refine#[n2,by rw[XU,e],λn' FW=>?_];obtain⟨k',Eb⟩:=cQ (by rw[O.size];have:=fC (mask:=mask) (h:=hs r) n';lia)<|e3 n' FW;exact#[k',keep _ _ Eb]
  ·obtain⟨n,a1,a2⟩:=O.reach i k h;refine#[n,a1,λn' FW=>?_];obtain⟨k',Eb⟩:=a2 n' FW;exact#[k',keep _ _ Eb]
theorem zP.start (mask:Nat) (hs:Nat->Int):zP mask hs (abG (mask+1) none) 0:=by
 have no:∀(j k:Nat),(abG (mask+1)<|none)[j]?=some (some k)->False:=λj k h=>by
  grind
 exact#[by simp,λj k h=>(no j k h).elim,λk h=>absurd h<|QC _,λj j' k h=>(no j k h).elim,λj k h=>(no j k h).elim]
theorem NN (hm:mask+1=2^p) {f:Option (Array (Option Nat)×Nat)->Int->Option (Array (Option Nat)×Nat)}
  (hf:∀owner k h,f (some (owner,k)) h=(layClean.free mask owner (turns mask) (bits h % (mask+1))<|bits h).bind λj=>some (owner.setIfInBounds j<|some k,k+1)) :
  ∀(l:List Int) (r:Nat) (owner:Dq),(∀i h,l[i]?=some h->hs (r+i)=h)->r+l.length<=mask+1->zP mask hs owner r->∃FD,l.foldl f (some (owner,r))=some (FD,r+l.length)/\zP mask hs FD (r+l.length)
 | [],r,owner,_,_,O=>#[owner,rfl,O]
 | h::l,r,owner,hh,hr,O=>by
  have h0:=hh 0 h rfl;rw[aa9] at h0;rw[Qe] at hr;obtain⟨j,e,O'⟩:=O.step hm gt;rw[h0] at e;obtain⟨o2,e2,O2⟩:=NN hm hf l _ _ (λi x hx=>by
   have:=hh (i+1) x hx
   rwa [show r+(i+1)=r+1+i by lia] at this) (by lia) O'
  refine#[o2,?_,by grind];rw[aar,hf,e,Qe,show r+(l.length+1)=r+1+l.length by lia];exact e2
theorem bJ (hm:mask+1=2^p) (hashes:Array Int) (hn:hashes.size<=mask+1):∃owner,layClean mask hashes=some owner/\zP mask (λi=>hashes.getD i 0) owner hashes.size:=by
 unfold layClean;obtain⟨o,e,O⟩:=NN (hs:=λi=>hashes.getD i 0) hm (f:=λacc h=>do
  let (owner,k) <-acc
  let j <-layClean.free mask owner _ (bits h % (mask+1)) (bits h)
  pure (owner.setIfInBounds j<|some k,k+1)) (λowner k h=>rfl) hashes.toList 0 _ (λi h hi=>by
   simp_all) (by grind) (zP.start mask _)
 rw[Q7,yN] at e O;refine#[o,?_,O];rw[<-Array.foldl_toList,e]
 rfl
def gq (mask:Nat) (owner:Dq):List (Nat×Nat):=(Yc<|mask+1).filterMap λj=>(owner.getD j none).map (j,·)
theorem V6 (O:zP mask hs owner n) {k:Nat}:(j,k)∈gq mask owner↔owner[j]?=some (some k):=by
 unfold gq;rw[List.mem_filterMap];constructor
 ·rintro⟨a,ha,e⟩;obtain⟨x,e1,e2⟩:=yr.mp e;cases e2;rw[yI] at ha;have hs:j<owner.size:=by rw[O.size];exact ha
  rw[yU hs];simp only[abk,hs,dite_true] at e1;rw[<-e1];rfl
 ·intro h;obtain⟨h1,h2⟩:=Qp.mp h;refine#[j,yI.mpr (by rw[<-O.size];exact h1),?_];simp only[abk,h1,dite_true];show abb _ owner[j]=_;rw[h2];rfl
theorem cL (mask:Nat) (owner:Dq):(gq mask owner).Pairwise λa b=>a.1<b.1:=by
 refine List.Pairwise.filterMap _ (λa a' h b hb b' EY=>?_) List.pairwise_lt_range;obtain⟨x,_,rfl⟩:=yr.mp hb;obtain⟨x',_,rfl⟩:=yr.mp EY;exact h
theorem i6 (O:zP mask hs owner n):((gq mask owner).map (·.2)).Perm (Yc n):=by
 refine (List.perm_ext_iff_of_nodup ?_ QQ).mpr λk=>?_
 ·refine QB.mpr ((cL mask owner).imp_of_mem λ{a b} ha hb h e=>?_);have h1:=(V6 O).mp<|ha;have h2:=(V6 O).mp<|hb;rw[e] at h1;have:=O.uq _ _ _ h1 h2
  lia
 ·rw[yi,yI];constructor
  ·rintro⟨⟨j,k'⟩,h,rfl⟩;exact O.val j k' ((V6 O).mp h)
  ·intro hk;obtain⟨j,hj⟩:=O.ex k hk;exact#[_,(V6 O).mpr hj,rfl]
theorem cK (a:At (l.map (·.1)).toArray i j):∃k,l[i]?=some (j,k):=by
 have:=VZ.mpr a;rw[QY,ye] at this;obtain⟨x,h1,h2⟩:=yr.mp this;exact#[_,by rw[h1,<-h2]]
theorem sR {k:Nat} (h:l[i]?=some (j,k)):At (l.map (·.1)).toArray i j:=by
 refine VZ.mp ?_;rw[QY,ye,h];rfl
theorem qL (h:l.Pairwise λa b=>a.1<b.1):U8 (l.map (·.1)).toArray:=by
 intro i k Rj hk;rw[yw,ya] at hk;rw[VY,VY,QY,QY,ye,ye,yb gt,yb hk];exact Qj.mp h i k _ hk Rj
theorem gC {α:Type}{es:Array α}:∀{l:List Nat},(∀k∈l,k<es.size)->∀i:Nat,(l.filterMap (λk:Nat=>es[k]?))[i]?=(l[i]?).bind (λk:Nat=>es[k]?)
 | [],_,i=>by simp
 | k::l,h,i=>by
  have hk:=h k<|yu ..;have e:=yU hk;rw[Y6,e];cases i with
  | zero=>simp [e]
  | succ i =>
   exact gC (λk hk=>h k<|yl _ hk) i
structure B2 (mask n:Nat) (hashes:Array Int) (place:Array Nat) (order:Array Nat):Prop where
 size:place.size=n
 ris:U8 place
 le:∀j,Uw place j->j<=mask
 perm:order.toList.Perm (Yc n)
 reach:∀i j,At place i j->∃k,order[i]?=some k/\∃m,(j6 mask (hashes.getD k 0) m).j=j/\∀m',m'<m->Uw place (j6 mask (hashes.getD k 0) m').j
theorem tF (hm:mask+1=2^p) (hashes:Array Int) (hn:hashes.size<=mask+1) (finger moves:Nat) (led plain:Bool) :
  ∃place order,laid mask finger moves led plain hashes=some ({ mask,place,dummies:=(Yb []),finger,led,moves,plain },order)/\B2 mask hashes.size hashes place order:=by
 obtain⟨owner,e,O⟩:=bJ hm hashes hn;have lp:=i6 O;have mem:∀j k,(j,k)∈gq mask owner↔owner[j]?=some _:=λj k=>V6 O;have tk:∀j,Uw _ j↔∃k:Nat,owner[j]?=some _:=λj=>by
  constructor
  ·rintro⟨i,a⟩;obtain⟨k,hk⟩:=cK a;exact#[k,(mem j k).mp<|yh hk]
  ·rintro⟨k,hk⟩;obtain⟨i,hi,ei⟩:=yH<|(mem j k).mpr hk;exact#[i,sR (k:=k) (by grind)]
 refine#[_,_,?_,?_,qL<|cL mask owner,λj hj=>?_,lp,λi j a=>?_]
 ·unfold laid;rw[e]
  rfl
 ·have:=lp.length_eq;rw[ya,yL] at this;rw[yw,ya,this]
 ·obtain⟨k,hk⟩:=(tk j).mp hj;have:=(Qp.mp hk).1;rw[O.size] at this
  lia
 ·obtain⟨k,hk⟩:=cK a;obtain⟨m,h1,h2⟩:=O.reach j k<|(mem j k).mp<|yh hk;refine#[k,by grind,m,h1,λm' Fl=>?_];exact (tk _).mpr (h2 m' Fl)
theorem gL (n:Nat):∀(fuel q:Nat),n<2^(q+fuel)->∃k,sizeAbove.go n fuel (2^q)=2^k/\q<=k/\n<2^k/\(k=q\/2^k<=2*n)
 | 0,q,h=>#[q,rfl,yj _,h,.inl rfl]
 | fuel+1,q,h=>by
  rw[sizeAbove.go];split
  ·obtain⟨k,h1,h2,h3,h4⟩:=gL n fuel (q+1) (by grind);refine#[k,by rw[<-h1,Q8],by lia,h3,.inr ?_];rcases h4 with h4|h4
   ·rw[h4,Q8];lia
   ·exact h4
  ·grind
theorem aI (h:n<2^60):∃k,sizeAbove n=2^k/\3<=k/\n<2^k/\(k=3\/2^k<=2*n):=by
 have:=gL n 64 3 (yC h (aaw ac ac));exact this
end STb
namespace STb
open PySem PySem.Spec PyProof.Rows L2 SetTable
variable {v:Value}{hs:Nat->Int}{n:Nat}{es:Dk}
section
variable {P:Dt}{w:World}{A:Around}{E:C3}{s:Shared}
theorem items_scan {ks:List Key}{vs:Dh} (h:ItemsAre (jM P w) ks vs):∀v∈vs,v.scannable=true:=by
 induction h with
 | nil=>intro v hv;cases hv
 | cons h1 _ ih =>
  intro v hv;rcases yD.mp hv with rfl|hv
  ·rcases JB h1 with ⟨i,t,_,rfl⟩|⟨x,t,_,rfl⟩<;>rfl
  ·exact ih v hv
theorem stmt_val (n:Nat) (h:carriedByValue v=true):ofAClassStatement n v=pure false:=by
 cases v with
 | ref a=>cases h
 | _=>first|(unfold ofAClassStatement;rfl)
end
section
variable {P:Dt}{w:World}{A:Around}{E:C3}{s:Shared}
def hsOf (es:Dk) (i:Nat):Int:=(es[i]?.map (·.1)).getD 0
theorem Tbl.fits {t:SetTable} (T:Tbl t hs n):t.fits n=true:=by
 unfold SetTable.fits SetTable.fill;rw[T.dm,T.size];have:=T.room;simp;exact this
theorem Tbl.odd {t:SetTable} (T:Tbl t hs n) (h1:1<=n\/1<=t.mask):t.gaveWay=false:=by
 unfold SetTable.gaveWay;obtain⟨k,hk⟩:=T.pw;have:=T.room;cases k with
 | zero=>lia
 | succ k =>
  have:t.mask % 2=1:=by lia
  rw[this];rfl
end
section
variable {P:Dt}{w:World}{A:Around}{E:C3}{s:Shared}
theorem Tbl.put {t:SetTable} (T:Tbl t (hsOf es) es.size) {h:Int} (hr:es.size+1<=t.mask) (ne:¬Uw t.place (j6 t.mask h n).j) (ahead:∀m',m'<n->Uw t.place (j6 t.mask h m').j) :
  Tbl (t.put (j6 t.mask h n).j).1 (hsOf<|insertAt es (t.put (j6 t.mask h n).j).2 (h,v)) (insertAt es (t.put (j6 t.mask h n).j).2 (h,v)).size/\(t.put (j6 t.mask h n).j).2<=es.size/\(t.put (j6 t.mask h n).j).1.mask=t.mask:=by
 obtain⟨b1,b2,b3⟩:=vW T.ris _;have XW:=fC (mask:=t.mask) (h:=h) n;have hp:(t.put (j6 t.mask h n).j).2=below t.place _:=rfl;have DJ:(t.put _).1.place=insertAt t.place _ (j6 t.mask h n).j:=rfl;have FE:(t.put (j6 t.mask h n).j).1.mask=t.mask:=rfl;have OU:below t.place (j6 t.mask h n).j<=es.size:=by rw[<-T.size];exact b1
 have XX:(t.put (j6 t.mask h n).j).1.dummies=(Yb []):=by
  show (if has t.dummies _ then eraseAt t.dummies _ else t.dummies)=(Yb []);rw[T.dm];rfl
 have hs:∀i,hsOf (insertAt es _ (h,v)) i=if i<below t.place (j6 t.mask h n).j then hsOf es i else if i=below t.place (j6 t.mask h n).j then h else hsOf es _:=λi=>by
  unfold hsOf;rw[getElem?_insertAt es OU];split
  ·rfl
  ·split<;>rfl
 refine#[#[?_,?_,λj hj=>?_,XX,T.pw,?_,λi j a=>?_],OU,FE]
 ·rw[DJ,hp,Ue _ b1,Ue _ OU,T.size]
 ·exact cX T.ris ne
 ·rw[DJ,c7 b1] at hj;rcases hj with hj|rfl
  ·exact T.le j hj
  ·exact XW
 ·rw[hp,Ue _ OU,FE];exact hr
 ·rw[DJ,Z4 b1] at a;rw[hp,hs,DJ];have up:∀{j'},Uw t.place j'->Uw (insertAt t.place _ (j6 t.mask h n).j) j':=λq=>(c7 b1).mpr (.inl q)
  split at a
  ·rename_i DA;rw[if_pos DA];obtain⟨m,r1,r2⟩:=T.reach i j a;exact#[m,r1,λm' h'=>up<|r2 m' h']
  ·rename_i DA;rw[if_neg DA]
   split at a
   ·grind
   ·rename_i he;rw[if_neg he];obtain⟨m,r1,r2⟩:=T.reach _ j a.1;exact#[m,r1,λm' h'=>up<|r2 m' h']
theorem ow {α:Type} (es:Array α):(Yc es.size).filterMap (λk:Nat=>es[k]?)=es.toList:=by
 refine QL λi=>?_;rw[gC (λk hk=>yI.mp hk)];by_cases h:i<es.size
 ·grind
 ·grind
theorem aH {t:SetTable} (h1:1<=es.size) (h2:es.size<=1000) :
  ∃t' order,t.relaid (es.map (·.1)) (grown es.size)=some (t',order)/\(order.filterMap (λk:Nat=>es[k]?)).toList.Perm es.toList/\(order.filterMap (λk:Nat=>es[k]?)).size=es.size/\Tbl t' (hsOf (order.filterMap (λk:Nat=>es[k]?))) (order.filterMap (λk:Nat=>es[k]?)).size/\7<=t'.mask/\t'.mask<=9000/\4*es.size<=t'.mask/\t'.led=t.led/\sizeAbove (grown es.size)<=9000/\t'.plain=t.plain:=by
 have hg:grown es.size=es.size*4:=by unfold grown;rw[if_neg gt]
 obtain⟨k,e1,k3,k4,k5⟩:=aI (n:=grown es.size) (by grind);have hle:2^k<=8000:=by
  grind
 have h8:=yk (by decide:8<=2^3) (aaw ac k3);have hm:2^k - 1+1=2^k:=by lia
 obtain⟨place,order,e2,La⟩:=tF hm (es.map (·.1)) (by rw[aaP];lia) t.finger _ t.led t.plain;rw[aaP] at La;have L6:∀x∈order.toList,x<es.size:=λx hx=>yI.mp<|La.perm.mem_iff.mp hx;have tl:(order.filterMap _).toList=order.toList.filterMap (λk:Nat=>es[k]?):=Array.toList_filterMap;have pm:(order.filterMap (λk:Nat=>es[k]?)).toList.Perm es.toList:=by
  rw[tl,<-ow es];exact La.perm.filterMap _
 have sz:(order.filterMap (λk:Nat=>es[k]?)).size=es.size:=by rw[<-yN,pm.length_eq,yN]
 refine#[{ mask:=2^k - 1,place:=place,dummies:=(Yb []),finger:=t.finger,led:=t.led,moves:=t.movedTo _,plain:=t.plain },order,by unfold relaid;rw[e1];exact e2,pm,sz,#[by rw[sz];exact La.size,La.ris,La.le,rfl,#[k,hm],by grind,λi j a=>?_],by show 7<=2^k - 1;lia,by show 2^k - 1<=9000;lia,by grind,rfl,by lia,rfl];obtain⟨x,o1,m,r1,r2⟩:=La.reach i j a;have hx:=L6 x (by grind);have hh:hsOf (order.filterMap (λk:Nat=>es[k]?)) i=(es.map (·.1)).getD x 0:=by
  unfold hsOf;rw[<-Qa,tl,gC L6,Qa,o1];show (abb _ _).getD 0=_;simp [hx]
 rw[hh];exact#[m,r1,r2]
end
section
variable {P:Dt}{w:World}{A:Around}{E:C3}{s:Shared}
theorem zA {α:Type} (xs:Array α) {p:Nat} (hp:p<=xs.size) (x:α):(insertAt xs p x).toList=xs.toList.take p++x::xs.toList.drop p:=by
 refine QL λi=>?_;rw[Qa,getElem?_insertAt xs hp,List.getElem?_append,yF,yN];have e:min p xs.size=p:=by lia
 split
 ·grind
 ·grind
theorem perm_map {α β:Type}{f:α->β}{l l':List β} (p:l.Perm l'):∀xs:List α,l'=xs.map f->∃EB:List α,EB.Perm xs/\l=EB.map f:=by
 induction p with
 | nil=>intro xs h;exact#[xs,.refl _,h]
 | cons x _ ih =>
  intro xs h;cases xs with
  | nil=>cases h
  | cons y ys =>
   injection h with h1 h2
   obtain⟨zs,q,e⟩:=ih ys h2;exact#[_,q.cons y,by rw[Ql,<-h1,e]]
 | swap x y l =>
  intro xs h
  match xs,h with
  | [],h=>cases h
  | [_],h=>cases h
  | u::v::zs,h =>
   exact#[_,aaF u v zs,by grind]
 | trans _ _ ih1 ih2 =>
  intro xs h;obtain⟨ys,q,e⟩:=ih2 xs h;obtain⟨zs,q2,e2⟩:=ih1 ys e;exact#[zs,q2.trans q,e2]
theorem zy {h:Heap}{a:Addr}{o:Obj}{ep:Nat}{t:SetTable} (ho:h.get? a=some o) (hd:o.data=.set es ep t) (Ee:Dk) (t':SetTable):(h.update a<|Obj.putSet Ee t').get? a=some { o with data:=.set Ee (ep+1) t' }:=by
 have:=yY (Obj.putSet Ee t') ho (by rw[putSet_of Ee t' hd];rfl);rw[putSet_of Ee t' hd] at this;exact this
end
section
variable {P:Dt}{w:World}{A:Around}{E:C3}{s:Shared}
abbrev UP (led:Bool):Obj:={ cls:=.type "set",dict:=none,data:=.set (Yb []) 0 (.fresh 0 0 led) }
theorem zR (a:Value) {Q₁:C3}
  (h:Q₁ (.ref s.heap.objs.size) { s with heap:=s.heap.push (UP<|!w.params.followText "set-order") }) :
  codeAny (model P w) A (.call (.builtin "set.__new__") #[[.type "set",a],[]]) (wants Q₁ E) s:=by
 refine codeAny_of_tree ?_;refine Du<|wpAny_of_eq (PySem.F.newCall_set_1 a)<|Dv #[plainId_quiet PySem.F.plain_set_new _,codeAny_builtin PySem.F.entry_set_new ?_];unfold Builtin.«set.__new__» Builtin.Frozenset.newClass;have Ip:=sub_set_self
 wp_walk
 refine wpAny_askSetting<|Dv ?_;refine Du<|wpAny_alloc<|Dv ?_;exact Dv h
end
end STb
namespace L2
open PySem PySem.Spec PyProof.Rows
section
variable {P:Dt}{w:World}{K:C9}{mg:Dd}{base:Heap}{N ps:Dm}{qual:Str}{params:Arguments}{body:Expr}{scope:Scope}{cl:Dj}{XY:List V}{f c:Addr}{k:Nat}
 {A:Around} {outer:List Env} {s:Shared} {H:Hp} {us:Dh} {vs:List V} {Q:VK} {E:XK}
end
end L2
namespace STb
open PySem PySem.Spec PyProof.Rows L2 SetTable TS
variable {xs:Array Nat}
theorem zT:entryFor table "set.__iter__"=some Builtin.«frozenset.__iter__» :=
 entryFor_alias (id':="frozenset.__iter__") (by kernel_rfl) rfl (by decide +kernel) (by kernel_rfl)
theorem jQ:Slot "set_iterator" "__next__" "set_iterator.__next__" :=
 .of (owner:="set_iterator") (n:="__next__") (by kernel_rfl) (by decide +kernel) (by decide +kernel) (by decide +kernel)
  (by first|exact .inl (by decide +kernel)) (by kernel_rfl)
theorem uo:entryFor table "set_iterator.__next__"=some Builtin.«set_iterator.__next__»:=entryFor_of_tree (by kernel_rfl)
theorem uf (a:Value):argsOk "set_iterator.__next__" #[[a],[]]:=by
 kernel_rfl
theorem uE:Slot "set_iterator" "__iter__" "set_iterator.__iter__" :=
 .of (owner:="set_iterator") (n:="__iter__") (by kernel_rfl) (by decide +kernel) (by decide +kernel) (by decide +kernel)
  (by first|exact .inl (by decide +kernel)) (by kernel_rfl)
theorem U0:entryFor table "set_iterator.__iter__"=some Builtin.«dict_keyiterator.__iter__» :=
 entryFor_alias (id':="dict_keyiterator.__iter__") (by kernel_rfl) rfl (by decide +kernel) (by kernel_rfl)
theorem UL (a:Value):argsOk "set_iterator.__iter__" #[[a],[]]:=by
 kernel_rfl
theorem Zp {α:Type}:∀(l:List α) (i:Nat) (h:i<l.length),(l[i]::l.eraseIdx i).Perm l
 | a::l,0,_=>abj _
 | a::l,i+1,h=>by
  have hl:=by simpa using h
  have:=Zp l i hl;exact (aaF a _ _).trans (this.cons a)
theorem cT {α:Type} (next:Nat->Nat):∀(fuel k:Nat) (left:List α) (out:Array α),left.length=fuel->(pickOrder.go next fuel k left out).toList.Perm (out.toList++left)
 | 0,k,left,out,h=>by
  have:=List.length_eq_zero_iff.mp h;subst this;unfold pickOrder.go;rw[Qk]
 | fuel+1,k,left,out,h=>by
  have DA:next k % left.length<left.length:=Y1 _ gt;unfold pickOrder.go;rw[yb DA];refine (cT next fuel _ _ _ (by grind)).trans ?_;rw[abt,Qf];refine List.Perm.append_left _ ?_;exact Zp _ _ DA
theorem om {α:Type} (next:Nat->Nat) (xs:Array α):(pickOrder next xs).toList.Perm xs.toList:=by
 have:=cT next xs.size 0 xs.toList (Yb []) rfl;exact this
def U6 (w:World) (S ep:Nat) (es:Dk):Array (Int×Value):=if w.params.followText "set-order" then pickOrder (w.params.setOrder S ep) es else es
theorem G0 (w:World) (S ep:Nat) (es:Dk):(U6 w S ep es).toList.Perm es.toList:=by
 unfold U6;split
 ·exact om _ _
 ·exact abj _
theorem V9 (w:World) (S ep:Nat) (es:Dk):(U6 w S ep es).size=es.size:=by
 rw[<-yN,(G0 w S ep es).length_eq,yN]
theorem dz (R:U8 xs) {i:Nat} (h:i<xs.size):below xs (xs.getD i 0+1)=i+1:=by
 obtain⟨h1,h2,h3⟩:=vW R<|xs.getD i 0+1;rcases QM (below xs<|xs.getD i 0+1) (i+1) with z|z|z
 ·grind
 ·exact z
 ·have:=h2 _ z;have:=R i (i+1) gt (by omega);omega
theorem dA (R:U8 xs):below xs 0=0:=by
 obtain⟨h1,h2,h3⟩:=vW R 0;rcases abv _ with z|z
 ·exact z
 ·have:=h2 0 z
  lia
section
variable {prog:Dt}{w:World}{A:Around}{E:C3}{s:Shared}{S t it:Addr}{es:Dk}{ep i:Nat}{tb:SetTable}
theorem wp_byText {Q:C7} (q:Q (w.params.followText "set-order") s):wpAny '$' A setsByText Q E s:=by
 exact Du (wpAny_askSetting<|Dv q)
end
end STb
namespace L2
open PySem PySem.Spec PyProof.Rows TS
variable {P:Dt}{w:World}
def vz (a:Addr) (o:Obj):HO:=.ext λh=>h.get? a=some o
def pB (P:Dt) (w:World) (o:Obj) (xs:List (List Key×Addr×Value)):Prop:=∃es ep,o.ExactDict/\o.data=.dict es ep/\es.toList=xs.map (entryOfKey<|tupleKind<|jM P w)/\(xs.map (·.1)).Nodup
def f8 (a:Addr) (o:Obj) (xs:List (List Key×Addr×Value)):It:=#[λi H=>H a=some (vz a o)/\i<xs.length,λi H x H'=>H'=H/\∃y,xs[i]?=some y/\x=.ref y.2.1,λi H=>H a=some (vz a o)/\xs.length<=i]
theorem Va {H:Hp}{h:Heap}{a:Addr}{o:Obj} (ok:JU P w H h) (e:H a=some (vz a o)):h.get? a=some o:=(ok a _ e).1
theorem o8 {K:C9}{tg:Expr} (a it:Addr) (o:Obj) (xs:List (List Key×Addr×Value)) {es:Array DictEntry} {ep:Nat} (ex:o.ExactDict) (hd:o.data=.dict es ep) (he:es.toList=xs.map (entryOfKey<|tupleKind<|jM P w)) :
  VS P w K tg (f8 a o xs) [it] it (λi h=>h.IsKeyIter it a i es.size ep) true where
 mem:=by simp
 obj:=λi h st b hb=>by
  obtain rfl:b=it:=by simpa using hb
  obtain⟨o,e,c,d⟩:=st;exact#[o,e,λv z=>by rw[d] at z;cases z]
 keep:=λi h h' st k=>by
  obtain⟨o,e,r⟩:=st;exact#[o,k it on o e,r]
 item:=by
  intro X hP hw hK hc i pins s σ H E I hf st hg;subst hP hw hK;obtain⟨ea,hi⟩:=hg;have sz:=size_of_entries he;have Lh:i<es.size:=by lia
  obtain⟨f0,f1,f2,f3,f4,f5⟩:=hf it on;refine NY st #[o,Va I.hok ea,ex,hd] Lh λh' D7 sb=>?_;have I1:=I.turned (t':=s.toks) (λb o hb e=>(sb.2 b hb).trans e) f0 f1 f3 f4 f5;obtain⟨oi,e,c,d⟩:=id D7;have ey:es[i]?=some (entryOfKey (tupleKind<|jM X.prog X.w) xs[i]):=by rw[entry_at he,yb hi];rfl
  have ek:es[i].key=.ref xs[i].2.1:=by
   have:=(yc.mp (by rw[Qa];exact ey)).2;rw[Array.getElem_toList] at this;rw[this];rfl
  exact#[_,rfl,gZ e c d ac #[.ref _,H,I1,ek,#[rfl,_,yb hi,rfl],D7,λb hb=>(hf b hb).1]]
 done:=by
  intro X hP hw hK hc i pins s σ H E I hf st hg;obtain⟨ea,hi⟩:=hg;have sz:=size_of_entries he;obtain⟨f0,f1,f2,f3,f4,f5⟩:=hf it on;exact aR (I.ok.hd<|hc rfl) st #[o,Va I.hok ea,ex,hd] gt λh' eb=>#[rfl,I.turned (λb o hb e=>eb b o hb e) f0 f1 f3 f4 f5]
 self:=λ_ _ _ _ _ st h=>wpAny_pyIter_keyiter st h
section
variable {X:Cx}{tg:Expr}
def AY (P:Dt) (w:World) (te:TE):TI:=λσ H R=>te σ H λx H1=>∃a Dx,x=.ref a/\H1 a=some (.dT Dx)/\∀o xs,Dx.length<=sizeLine->(a==sysModules)=false->KT H1 Dx xs->pB P w o xs->R (f8 a o xs) (upd H1 a<|vz a o)
theorem qz {l:Expr}{tl:TE} (hc:X.calm=true) (hl:PE X l tl):PI X tg l (AY X.prog X.w tl):=by
 intro pins s σ H R I h;refine jI (hl pins s σ H _ I h) λv s1 hh=>?_;obtain⟨x,H1,I1,r1,a,Dx,e,ha,q⟩:=hh;subst e;cases r1;obtain⟨z,hm,xs,kt,o,es,ep,h1,h2,h3,h4,h5,h6⟩:=dH I1.hok ha;refine NH hm #[o,h1,h2,h3] ?_;have I2:jp X pins σ (upd H1 a<|vz a o) _:=I1.write (t':=s1.toks) (by rw[ha];exact Yp) (.inl rfl) (λb u _ e=>e) #[o,h1] #[h1,#[o,h1],λg1 g2 x k=>k _ x];have I3:jp X pins σ _ { s1 with heap:=s1.heap.push { cls:=.type "dict_keyiterator",data:=.fields (Yb [.ref a,.int 0 0,.int es.size 0,.int ep 0]) } }:=I2.kept λb o e=>yf _ e;refine#[s1.heap.objs.size,_,_,_,_,rfl,I3,#[true,o8 a _ o xs h2 h3 h4,λ_=>hc],#[_,yt _ rfl,rfl,rfl],λb hb=>?_,q o xs z hm kt #[es,ep,h2,h3,h4,h6]];obtain rfl:b=s1.heap.objs.size:=by simpa using hb
 exact I2.fpOk (yj _) (I2.hok.fresh<|yj _)
end
end L2
namespace L2
open PySem
variable {σ:St}{H:Hp}{a b:TS}{D:vS}
abbrev oR (a:Addr):Option V:=some (.ref a)
abbrev oI (n:Int):Option V:=some (.int n)
theorem vR:0<=sizeLine:=by decide
theorem oH:1<=sizeLine:=by decide
theorem JE:2<=sizeLine:=by decide
theorem cY:3<=sizeLine:=by decide
theorem CA {K:C9}{i:Nat}{j:Int}{Q:VK}{p:Addr}{xs:List V} (v:V) (e:ju K H p xs) (q:Q v H) (e0:autoParam (σ[i]?=some (oR p)) Fk) (a:vG xs j=some v:=by first|rfl|exact jX rfl):ZU (gJ K) (US i) (tC<|.int j) σ H Q:=by unfold ZU;exact US.mk e0 #[xs,v,e,a,q]
theorem mt (R:St->Hp->Prop) (h1:∀B:TS,(∀σ H,R σ H->B D σ H)->uV a B D σ H) (h2:∀σ H,R σ H->b D σ H):uV a b D σ H:=h1 b h2
theorem UK (s:St) (I:Hp->Prop) (h1:∀B:TS,(∀H,I H->B D s H)->uV a B D σ H) (h2:∀H,I H->b D s H):uV a b D σ H:=h1 b h2
theorem u7 {α:Type} (s:α->St) (I:α->Hp->Prop) (h1:∀B:TS,(∀x H,I x H->B D (s x) H)->uV a B D σ H) (h2:∀x H,I x H->b D (s x) H):uV a b D σ H:=h1 b h2
theorem z8 {α β:Type} (s:α->β->St) (I:α->β->Hp->Prop) (h1:∀B:TS,(∀x y H,I x y H->B D (s x y) H)->uV a B D σ H) (h2:∀x y H,I x y H->b D (s x y) H):uV a b D σ H:=h1 b h2
theorem ZT {α β γ:Type} (s:α->β->γ->St) (I:α->β->γ->Hp->Prop) (h1:∀B:TS,(∀x y z H,I x y z H->B D (s x y z) H)->uV a B D σ H) (h2:∀x y z H,I x y z H->b D (s x y z) H):uV a b D σ H:=h1 b h2
theorem Mh {α β γ δ:Type} (s:α->β->γ->δ->St) (I:α->β->γ->δ->Hp->Prop) (h1:∀B:TS,(∀x y z u H,I x y z u H->B D (s x y z u) H)->uV a B D σ H) (h2:∀x y z u H,I x y z u H->b D (s x y z u) H):uV a b D σ H:=h1 b h2
theorem sC {α β γ δ ε:Type} (s:α->β->γ->δ->ε->St) (I:α->β->γ->δ->ε->Hp->Prop) (h1:∀B:TS,(∀x y z u v H,I x y z u v H->B D (s x y z u v) H)->uV a B D σ H) (h2:∀x y z u v H,I x y z u v H->b D (s x y z u v) H):uV a b D σ H:=h1 b h2
theorem CK {α:Type} (s:α->α->α->α->α->α->St) (I:α->α->α->α->α->α->Hp->Prop) (h1:∀B:TS,(∀x y z u v w H,I x y z u v w H->B D (s x y z u v w) H)->uV a B D σ H) (h2:∀x y z u v w H,I x y z u v w H->b D (s x y z u v w) H):uV a b D σ H:=h1 b h2
def V0 (H:Hp):V->V|.ref p=>(match H p with|some (.tup (a::_))=>a|_=>.non)|v=>v
end L2
namespace L2
open PySem PySem.Spec PyProof.Rows TS STb
variable {A:Around}{s:Shared}{j:List Key}{Dy DG:Dh}
theorem Zo {k j:Key}{u v:Value} (hu:jG (kV k) u) (hv:jG (kV j) v):SeqAt.EqAt A s u v (decide (k=j)):=by
 cases k with
 | inl a =>
  obtain⟨t,rfl⟩:=hu;cases j with
  | inl b =>
   obtain⟨t',rfl⟩:=hv;have:=SeqAt.EqAt.int_int (A:=A) (s:=s) a t b t';rwa [show (a==b)=decide ((Yh a:Key)=Yh b) from Qr.mpr (by grind)] at this
  | inr b =>
   obtain⟨t',rfl⟩:=hv;exact SeqAt.EqAt.int_str a t b t'
 | inr a =>
  obtain⟨t,rfl⟩:=hu;cases j with
  | inl b =>
   obtain⟨t',rfl⟩:=hv;exact SeqAt.EqAt.str_int a t b t'
  | inr b =>
   obtain⟨t',rfl⟩:=hv;have:=SeqAt.EqAt.str_str (A:=A) (s:=s) a t b t';rwa [show (a==b)=decide ((Yr a:Key)=Yr b) from Qr.mpr (by grind)] at this
theorem iw {k:List Key} (r1:jH (k.map kV) Dy) (r2:jH (j.map kV) DG) (n:Nat) (h1:n<Dy.toArray.size) (h2:n<DG.toArray.size) :
  SeqAt.EqAt A s Dy.toArray[n] DG.toArray[n] (decide (k.getD n (.inl 0)=j.getD n (.inl 0))):=by
 have l1:=r1.length;have l2:=r2.length;rw[ya] at l1 l2;rw[yw] at h1 h2;have g1:n<k.length:=by lia
 have g2:n<j.length:=by lia
 obtain⟨u,hu,ru⟩:=r1.get (i:=n) (x:=kV k[n]) (by simp [g1]);obtain⟨v,hv,rv⟩:=r2.get (i:=n) (x:=kV j[n]) (by simp [g2]);rw[yb h1] at hu;rw[yb h2] at hv;cases hu;cases hv;rw[yn,yn,yb g1,yb g2];exact Zo ru rv
theorem iZ {k:List Key} (r1:jH (k.map kV) Dy) (r2:jH (j.map kV) DG):((Yc<|min Dy.toArray.size DG.toArray.size).all (λn=>decide (k.getD n (.inl 0)=j.getD n (.inl 0)))&&Dy.toArray.size==DG.toArray.size)=decide (k=j):=by
 have l1:=r1.length;have l2:=r2.length;rw[ya] at l1 l2;rw[yw,yw,<-l1,<-l2];exact GN _ k j
section
variable {X:Cx}{pins:De}{σ:St}{H:Hp}{s:Shared}
theorem iy (I:jp X pins σ H s) {a b:Addr} {k:List Key} (hu:A.units<cLine) (ha:H a=some (.tup<|k.map kV)) (hb:H b=some (.tup<|j.map kV)):SeqAt.EqAt A s (.ref a) (.ref b) (decide (k=j)):=by
 by_cases Fn:a=b
 ·subst Fn;rw[ha] at hb;have e:=(Y9 λx y h=>xx h).mp<|HO.tup.inj<|Yd hb;rw[decide_eq_true e];exact SeqAt.EqAt.same _
 ·obtain⟨Dy,r1,p1,_⟩:=I.tuple<|ju.of ha;obtain⟨DG,r2,p2,_⟩:=I.tuple<|ju.of hb;rw[<-iZ r1 r2];exact SeqAt.EqAt.of_refs Fn (SeqAt.RcAt.tuples p1 p2 hu λn h1 h2=>iw r1 r2 n h1 h2)
theorem ml (hu:X.A.units+64<cLine):uk X (compareOp .NotEq) (λx y H Q=>E6 λ(a b:Addr) (ps qs:Di) (ks js:List (List Key))=>A7 (x=.ref a) (y=.ref b) (jj X.K H a<|ps.map V.ref) (jj X.K H b<|qs.map V.ref) (KeyAt H ps ks) (KeyAt H qs js)<|Q (.bl<|!decide (ks=js)) H):=by
 intro pins s σ H x y v u Q I rx ry h;obtain⟨a,b,ps,qs,ks,js,rfl,rfl,ha,hb,T1,T2,q⟩:=h;cases rx;cases ry;obtain⟨Dy,r1,p1,_⟩:=I.list ha;obtain⟨DG,r2,p2,_⟩:=I.list hb;have OV:X.A.units<cLine:=by lia
 have L7:X.A.in1.units<cLine:=by grind
 have l1:=r1.length;have l2:=r2.length;rw[ya] at l1 l2;have t1:=T1.1;have t2:=T2.1;by_cases hz:Dy.toArray.size=DG.toArray.size
 ·have e:(Yc Dy.toArray.size).all (λn=>decide (ks.getD n []=js.getD n []))=decide (ks=js):=by
   rw[yw] at hz ⊢;rw[yw] at hz;rw[<-GN _ ks js,show min ks.length js.length=Dy.length by lia,show (ks.length==js.length)=true by rw[beq_iff_eq];lia,abP]
  rw[<-e] at q;refine EqBoolInt.of_rcne (SeqAt.RcNeAt.lists p1.isList p2.isList hz OV λn h1 h2=>?_) #[.bl _,H,I,rfl,q];have e1:=Vd r1;have e2:=Vd r2;subst e1 e2;rw[yw,ya] at h1 h2;have g1:n<ks.length:=by lia
  have g2:n<js.length:=by lia
  rw[yW,yW,yQ,yQ,yn,yn,yb g1,yb g2];exact iy I L7 (T1.2 n _ _ (yb h1)<|yb g1) (T2.2 n _ _ (yb h2)<|yb g2)
 ·have D8:ks≠js:=λe=>by
   grind
  rw[decide_eq_false D8] at q;exact EqBoolInt.of_rcne (SeqAt.RcNeAt.lists_lengths p1.isList p2.isList (bne_iff_ne.mpr hz) OV) #[.bl true,H,I,rfl,q]
end
end L2
namespace PySem.SeqAt
open PySem PySem.Spec
open MeetsSeq MeetsSeq2 MeetsSeq3 SeqRoads2
variable {l b:Addr}{items Dz:Do}{e:Nat->Bool}{r:Bool}
def LtAt (A:Around) (s:Shared) (y x:Value) (b:Bool):Prop :=
 ∀(prog:Dt) (w:World) (E:C3) (Q:C3),Q (.bool b) s->wpAny '$' A (richCompare .Lt y x) Q E s
theorem fQ (l b:Addr) (items Dz:Do) (n n2:Nat) (dd FY:Ds) (sl FZ:Dl) (e:Nat->Bool) (r:Bool) :
  Meets (Builtin.«tuple.__lt__» #[[.ref l,.ref b],[]])
   (λA R s=>s.heap.get? l=some { cls:=.type "tuple",dict:=dd,data:=.seq items n,slots:=sl }/\s.heap.get? b=some { cls:=.type "tuple",dict:=FY,data:=.seq Dz n2,slots:=FZ } /\
    (∀j (h1:j<items.size) (h2:j<Dz.size),(∀i,i<j->e i=true)->EqAt A.in1 s items[j] Dz[j] (e j)) /\
    (∀j (h1:j<items.size) (h2:j<Dz.size),(∀i,i<j->e i=true)->e j=false->LtAt A.in1 s items[j] Dz[j] r) /\
    ((∀i,i<min items.size Dz.size->e i=true)->r=decide (items.size<Dz.size)) /\
    R (.ok<|.ret<|.bool r) s) :=
 .of_wp λprog w A R s h=>by
  obtain⟨hp,g,d,tk,os⟩:=s;obtain⟨hl,hb,he,DA,hr,h⟩:=h;have f2:=AutoSeq1.sub_tuple_tuple;have hZ:(items.toList.zip Dz.toList).length=min items.size Dz.size:=by simp
  wp_walk using AutoSeq1.wpAny_loadPart' hl,AutoSeq1.wpAny_loadPart' hb,wpAny_forIn_list _ (λrest b s'=>b.1=none/\s'=#[hp,g,d,tk,os]/\∃i,rest=(items.toList.zip Dz.toList).drop i/\∀j,j<i->e j=true) _
  case turn =>
   rintro⟨y,x⟩ rest b s' ⟨EY,rfl,i,hz,hR⟩;have FG:i<(items.toList.zip Dz.toList).length:=by
    rcases y6 i (items.toList.zip Dz.toList).length with h'|h'
    ·exact h'
    ·rw[aa5 h'] at hz;cases hz
   have hm:i<min items.size Dz.size:=hZ▸FG;have h1:i<items.size:=yC hm<|Wa _ _;have h2:i<Dz.size:=yC hm<|QO _ _;rw[Qc FG] at hz;injection hz with L8 FH
   have hy:y=items[i]:=by have:=congrArg abL L8;simpa using this
   have hx:x=Dz[i]:=by have:=congrArg aaA L8;simpa using this
   subst hy hx;refine Du<|he i h1 h2 hR prog w _ _ ?_;cases hy:e i with
   | true =>
    wp_walk
    exact#[rfl,rfl,i+1,FH,λj hj=>by
     rcases YU (Q3 hj) with z|rfl
     ·exact hR j z
     ·exact hy]
   | false =>
    have q:=DA i h1 h2 hR hy prog w;generalize richCompare CmpOp.Lt items[i] Dz[i]=m at q ⊢
    wp_walk using q _ _
    wp_walk
    exact#[_,rfl,h]
  case fin =>
   rintro⟨b1,b2⟩ s' ⟨EY,rfl,i,hz,hR⟩;simp only at EY;subst EY;have L9:min items.size Dz.size<=i:=by
    rcases y6 i (items.toList.zip Dz.toList).length with h'|h'
    ·rw[Qc h'] at hz;cases hz
    ·exact hZ▸h'
   rw[hr λj hj=>hR j<|yC hj L9] at h
   wp_walk
   exact#[_,rfl,by simpa [Builtin.Tuple.tupleCompareSizes] using h]
  case h =>
   exact#[rfl,rfl,0,rfl,λj hj=>absurd hj<|QC _]
theorem bW (l b:Addr) (items Dz:Do) (n n2:Nat) (dd FY:Ds) (sl FZ:Dl) (e:Nat->Bool) (r:Bool) :
  Meets (Builtin.«tuple.__eq__» #[[.ref l,.ref b],[]])
   (λA R s=>s.heap.get? l=some { cls:=.type "tuple",dict:=dd,data:=.seq items n,slots:=sl }/\s.heap.get? b=some { cls:=.type "tuple",dict:=FY,data:=.seq Dz n2,slots:=FZ } /\
    (∀j (h1:j<items.size) (h2:j<Dz.size),(∀i,i<j->e i=true)->EqAt A.in1 s items[j] Dz[j] (e j)) /\
    (∀j (h1:j<items.size) (h2:j<Dz.size),(∀i,i<j->e i=true)->e j=false->r=false) /\
    ((∀i,i<min items.size Dz.size->e i=true)->r=(items.size==Dz.size)) /\
    R (.ok<|.ret<|.bool r) s) :=
 .of_wp λprog w A R s h=>by
  obtain⟨hp,g,d,tk,os⟩:=s;obtain⟨hl,hb,he,DA,hr,h⟩:=h;have f2:=AutoSeq1.sub_tuple_tuple;have hZ:(items.toList.zip Dz.toList).length=min items.size Dz.size:=by simp
  wp_walk using AutoSeq1.wpAny_loadPart' hl,AutoSeq1.wpAny_loadPart' hb,wpAny_forIn_list _ (λrest b s'=>b.1=none/\s'=#[hp,g,d,tk,os]/\∃i,rest=(items.toList.zip Dz.toList).drop i/\∀j,j<i->e j=true) _
  case turn =>
   rintro⟨y,x⟩ rest b s' ⟨EY,rfl,i,hz,hR⟩;have FG:i<(items.toList.zip Dz.toList).length:=by
    rcases y6 i (items.toList.zip Dz.toList).length with h'|h'
    ·exact h'
    ·rw[aa5 h'] at hz;cases hz
   have hm:i<min items.size Dz.size:=hZ▸FG;have h1:i<items.size:=yC hm<|Wa _ _;have h2:i<Dz.size:=yC hm<|QO _ _;rw[Qc FG] at hz;injection hz with L8 FH
   have hy:y=items[i]:=by have:=congrArg abL L8;simpa using this
   have hx:x=Dz[i]:=by have:=congrArg aaA L8;simpa using this
   subst hy hx;refine Du<|he i h1 h2 hR prog w _ _ ?_;cases hy:e i with
   | true =>
    wp_walk
    exact#[rfl,rfl,i+1,FH,λj hj=>by
     rcases YU (Q3 hj) with z|rfl
     ·exact hR j z
     ·exact hy]
   | false =>
    rw[DA i h1 h2 hR hy] at h
    wp_walk
    exact#[_,rfl,h]
  case fin =>
   rintro⟨b1,b2⟩ s' ⟨EY,rfl,i,hz,hR⟩;simp only at EY;subst EY;have L9:min items.size Dz.size<=i:=by
    rcases y6 i (items.toList.zip Dz.toList).length with h'|h'
    ·rw[Qc h'] at hz;cases hz
    ·exact hZ▸h'
   rw[hr λj hj=>hR j<|yC hj L9] at h
   wp_walk
   exact#[_,rfl,by simpa [Builtin.Tuple.tupleCompareSizes] using h]
  case h =>
   exact#[rfl,rfl,0,rfl,λj hj=>absurd hj<|QC _]
section
variable {A:Around}{s:Shared}
theorem LtAt.tuples (hl:s.heap.IsTuple l items) (hb:s.heap.IsTuple b Dz) (hu:A.units<cLine)
  (he:∀j (h1:j<items.size) (h2:j<Dz.size),(∀i,i<j->e i=true)->EqAt A.in1 s items[j] Dz[j] (e j))
  (DA:∀j (h1:j<items.size) (h2:j<Dz.size),(∀i,i<j->e i=true)->e j=false->LtAt A.in1 s items[j] Dz[j] r)
  (hr:(∀i,i<min items.size Dz.size->e i=true)->r=decide (items.size<Dz.size)):LtAt A s (.ref l) (.ref b) r:=λprog w E Q h=>by
 obtain⟨⟨cls,dd,data,sl⟩,ho,hc,n,hd⟩:=id hl;obtain⟨⟨LM,FY,data2,FZ⟩,Ei,LP,n2,hd2⟩:=id hb;subst hc hd LP hd2;exact richCompare_meets_room #[_,ho,rfl] #[_,Ei,rfl] F.slot_tuple_lt F.entry_tuple_lt (F.args_tuple_lt_2 _ _) (fQ l b items Dz n n2 dd FY sl FZ e r)
  #[ho,Ei,he,DA,hr,#[(λx=>nomatch x),h]] hu
theorem EqAt.tuplesP (D8:l≠b) (hl:s.heap.IsTuple l items) (hb:s.heap.IsTuple b Dz) (hu:A.units<cLine)
  (he:∀j (h1:j<items.size) (h2:j<Dz.size),(∀i,i<j->e i=true)->EqAt A.in1 s items[j] Dz[j] (e j))
  (DA:∀j (h1:j<items.size) (h2:j<Dz.size),(∀i,i<j->e i=true)->e j=false->r=false)
  (hr:(∀i,i<min items.size Dz.size->e i=true)->r=(items.size==Dz.size)):EqAt A s (.ref l) (.ref b) r:=EqAt.of_refs D8 λprog w E Q h=>by
 obtain⟨⟨cls,dd,data,sl⟩,ho,hc,n,hd⟩:=id hl;obtain⟨⟨LM,FY,data2,FZ⟩,Ei,LP,n2,hd2⟩:=id hb;subst hc hd LP hd2;exact richCompare_meets_room #[_,ho,rfl] #[_,Ei,rfl] F.slot_tuple_eq F.entry_tuple_eq (F.args_tuple_eq_2 _ _) (bW l b items Dz n n2 dd FY sl FZ e r)
  #[ho,Ei,he,DA,hr,#[(λx=>nomatch x),h]] hu
end
end PySem.SeqAt
namespace L2
open PySem PySem.Spec PyProof.Rows TS
variable {j:Nat}{vs:Dh}{d:Bool}{o:Obj}{Dx:List (List Key×V)}{xs:List (List Key×Addr×Value)}
structure Od where
 α:Type
 deq:DecidableEq α
 lt:α->α->Bool
 irr:∀a,lt a a=false
 trans:∀{a b c},lt a b=true->lt b c=true->lt a c=true
 tot:∀{a b},lt a b=false->lt b a=false->a=b
 R:Heap->Value->α->Prop
 V_:Hp->V->α->Prop
 cmp:α->α->Prop
 deep:Nat
 keep:∀{h h':Heap} {u a},(∀b o,h.get? b=some o->o.cls=.type "tuple"->h'.get? b=some o)->R h u a->R h' u a
 mono:∀{H H':Hp} {x a},(∀p xs,H p=some (.tup xs)->H' p=some (.tup xs))->V_ H x a->V_ H' x a
 raw:∀{P w H h x u a},JU P w H h->V_ H x a->jG x u->R h u a
 uniq:∀{h u a b},R h u a->R h u b->a=b
 eq:∀{A:Around} {s:Shared} {u v a b},A.units+deep<cLine->cmp a b->R s.heap u a->R s.heap v b->SeqAt.EqAt A s u v (@decide (a=b) (deq a b))
 less:∀{A:Around} {s:Shared} {u v a b},A.units+deep<cLine->cmp a b->R s.heap u a->R s.heap v b->SeqAt.LtAt A s u v (lt a b)
instance (O:Od):DecidableEq O.α:=O.deq
theorem V4 {k:Key}{u:Value}:jG (kV k) u↔Uz k u:=by cases k<;>exact Iff.rfl
abbrev Ur:Od where
 α:=Key
 deq:=inferInstance
 lt:=V3
 irr:=K3
 trans:=gg
 tot:=K4
 R:=λ_ u k=>Uz k u
 V_:=λ_ x k=>x=kV k
 cmp:=λa b=>a.isLeft=b.isLeft
 deep:=0
 keep:=λ_ h=>h
 mono:=λ_ h=>h
 raw:=λ_ h r=>by rw[h] at r;exact V4.mp r
 uniq:=λ{h u a b} h1 h2=>by
  cases a<;>cases b<;>(obtain⟨t,rfl⟩:=h1;obtain⟨t',e⟩:=h2;first|(cases e;done)|(cases e;rfl))
 eq:=λ_ _ h1 h2=>Zo (V4.mpr h1) (V4.mpr h2)
 less:=λ{A s u v a b} _ hc h1 h2 prog w E Q h=>by
  cases a with
  | inl a=>cases b with
   | inl b =>
    obtain⟨t,rfl⟩:=h1;obtain⟨t',rfl⟩:=h2;exact richCompare_gives (op:=.Lt) (typeIs_int s a t) (typeIs_int s b t') F.slot_int_lt F.entry_int_lt (F.args_int_lt_2 _ _) (gives_int_lt a b t t') (λz=>nomatch z) h
   | inr b=>cases hc
  | inr a=>cases b with
   | inl b=>cases hc
   | inr b =>
    obtain⟨t,rfl⟩:=h1;obtain⟨t',rfl⟩:=h2;exact richCompare_gives (op:=.Lt) (typeIs_str s a t) (typeIs_str s b t') F.slot_str_lt F.entry_str_lt (F.args_str_lt_2 _ _) (gives_str_lt a b t t') (λz=>nomatch z) h
section
variable (O:Od)
def ul:List O.α->List O.α->Bool
 | _,[]=>false
 | [],_::_=>true
 | a::as,b::bs=>if a=b then ul as bs else O.lt a b
def vI:List O.α->List O.α->Prop
 | [],_=>True
 | _::_,[]=>True
 | a::as,b::bs=>O.cmp a b/\(a=b->vI as bs)
variable {O}
theorem Od.ne_ {a b:O.α} (h:O.lt a b=true):a≠b:=λe=>by rw[e,O.irr] at h;cases h
theorem cN:∀a:List O.α,ul O a a=false
 | []=>rfl
 | a::as=>by unfold ul;rw[if_pos rfl];exact cN as
theorem cO:∀{a b:List O.α},ul O a b=false->ul O b a=false->a=b
 | [],[],_,_=>rfl
 | [],b::bs,h,_=>by cases h
 | a::as,[],_,h=>by cases h
 | a::as,b::bs,h1,h2=>by
  unfold ul at h1 h2;by_cases e:a=b
  ·rw[if_pos e] at h1;rw[if_pos e.symm] at h2;rw[e,cO h1 h2]
  ·rw[if_neg e] at h1;rw[if_neg<|yV e] at h2;exact absurd (O.tot h1 h2) e
theorem m7:∀{a b c:List O.α},ul O a b=true->ul O b c=true->ul O a c=true
 | a,b,[],_,h=>by unfold ul at h;cases h
 | a,[],c,h,_=>by unfold ul at h;cases h
 | [],b::bs,c::cs,_,_=>by rfl
 | a::as,b::bs,c::cs,h1,h2=>by
  unfold ul at h1 h2 ⊢;by_cases e1:a=b
  ·subst e1;rw[if_pos rfl] at h1;by_cases e2:a=c
   ·rw[if_pos e2] at h2 ⊢;exact m7 h1 h2
   ·grind
  ·rw[if_neg e1] at h1;by_cases e2:b=c
   ·grind
   ·rw[if_neg e2] at h2;have h3:=O.trans h1 h2;rw[if_neg<|Od.ne_ h3];exact h3
theorem uD {α β:Type}{F G:α->β->Prop} (f:∀x y,F x y->G x y):∀{l:List α} {m:List β},Paired F l m->Paired G l m:=λh=>Paired.mapP h f
theorem GB {α β:Type}{F:α->β->Prop} (f:∀x y z,F x y->F x z->y=z):∀{l:List α} {m n:List β},Paired F l m->Paired F l n->m=n:=by
 intro l m n h g
 induction h generalizing n with
 | nil=>cases g;rfl
 | cons r t ih =>
  cases g with
  | cons r' t'=>rw[f _ _ _ r r',ih t']
theorem Js {α β:Type}{F:α->β->Prop}:∀{l:List α} {m:List β},Paired F l m->l.length=m.length:=λh=>Paired.length h
theorem um {α β:Type}{F:α->β->Prop}:∀{l:List α} {m:List β} (p:Paired F l m) {i:Nat} (h1:i<l.length) (h2:i<m.length),F l[i] m[i]:=by
 intro l m p
 induction p with
 | nil=>exact λh=>nomatch h
 | cons r t ih =>
  intro i;cases i with
  | zero=>exact λ_ _=>r
  | succ i=>exact λ_ _=>ih _ _
theorem qJ {P:Dt}{w:World}{H:Hp}{h:Heap} (ok:JU P w H h):∀{xs:List V} {us:Dh} {l:List O.α},Paired (O.V_ H) xs l->jH xs us->Paired (O.R h) us l:=by
 intro xs us l p q
 induction p generalizing us with
 | nil=>cases q;exact .nil
 | cons r t ih =>
  cases q with
  | cons r' t'=>exact .cons (O.raw ok r r') (ih t')
theorem KO:∀{as bs:List O.α},vI O as bs->∀(j:Nat) (h1:j<as.length) (h2:j<bs.length),(∀i (g1:i<as.length) (g2:i<bs.length),i<j->as[i]=bs[i])->O.cmp as[j] bs[j]:=by
 intro as bs h j
 induction j generalizing as bs with
 | zero=>cases as with
  | nil=>exact λh1=>nomatch h1
  | cons a as=>cases bs with
   | nil=>exact λ_ h2=>nomatch h2
   | cons b bs=>exact λ_ _ _=>h.1
 | succ j ih=>cases as with
  | nil=>exact λh1=>nomatch h1
  | cons a as=>cases bs with
   | nil=>exact λ_ h2=>nomatch h2
   | cons b bs=>exact λh1 h2 e=>ih (h.2<|e 0 (Qh _) (Qh _)<|Qh _) (aa7 h1) (aa7 h2) λi g1 g2 hi=>e (i+1) (aaI g1) (aaI g2) (aaI hi)
theorem lB:∀{as bs:List O.α} (j:Nat) (h1:j<as.length) (h2:j<bs.length),(∀i (g1:i<as.length) (g2:i<bs.length),i<j->as[i]=bs[i])->as[j]≠bs[j]->ul O as bs=O.lt as[j] bs[j]
 | a::as,b::bs,0,_,_,_,n=>by unfold ul;rw[if_neg (by simpa using n)];rfl
 | a::as,b::bs,j+1,h1,h2,e,n=>by
  have e0:a=b:=e 0 (Qh _) (Qh _)<|Qh _;unfold ul;rw[if_pos e0];refine (lB j _ _ (λi g1 g2 hi=>?_) (by simpa using n)).trans on;have:=e (i+1) (by simpa using g1) (by simpa using g2) gt;simpa using this
theorem K7:∀{as bs:List O.α},(∀i (g1:i<as.length) (g2:i<bs.length),as[i]=bs[i])->ul O as bs=decide (as.length<bs.length)
 | as,[],_=>by unfold ul;exact (decide_eq_false<|QC _).symm
 | [],b::bs,_=>by exact (decide_eq_true<|Qh _).symm
 | a::as,b::bs,e=>by
  have e0:a=b:=e 0 (Qh _)<|Qh _;unfold ul;rw[if_pos e0,K7 (λi g1 g2=>by
   have:=e (i+1) (by simpa using g1) (by simpa using g2);simpa using this)]
  simp
theorem iB {as bs:List O.α}:as=bs↔as.length=bs.length/\∀i (g1:i<as.length) (g2:i<bs.length),as[i]=bs[i] :=
 #[λe=>by grind,λh=>y7 h.1 λi h1 h2=>h.2 i h1 h2]
def n0 (as bs:List O.α) (j:Nat):Bool:=decide (as[j]?=bs[j]?)
theorem UV {as bs:List O.α} (h1:j<as.length) (h2:j<bs.length):n0 as bs j=decide (as[j]=bs[j]):=by
 unfold n0;rw[yb h1,yb h2,Qr,decide_eq_true_iff,decide_eq_true_iff];exact#[λe=>Yd e,λe=>by rw[e]]
theorem gX {as bs:List O.α} (h:∀i,i<j->n0 as bs i=true):∀i (g1:i<as.length) (g2:i<bs.length),i<j->as[i]=bs[i]:=λi g1 g2 hi=>by
 have:=h i hi;rw[UV g1 g2] at this;exact of_decide_eq_true this
end
abbrev J0 (O:Od):Od where
 α:=List O.α
 deq:=inferInstance
 lt:=ul O
 irr:=cN
 trans:=m7
 tot:=cO
 R:=λh u l=>∃a vs,u=.ref a/\h.IsTuple a vs.toArray/\Paired (O.R h) vs l
 V_:=λH x l=>∃a xs,x=.ref a/\H a=some (.tup xs)/\Paired (O.V_ H) xs l
 cmp:=vI O
 deep:=O.deep+1
 keep:=λk #[a,vs,e,#[o,h1,h2,h3],p]=>#[a,vs,e,#[o,k a o h1 h2,h2,h3],uD (λ_ _ r=>O.keep k r) p]
 mono:=λk #[a,xs,e,h,p]=>#[a,xs,e,k _ _ h,uD (λ_ _ r=>O.mono k r) p]
 raw:=λ{P w H h x u l} ok ⟨a,xs,e,hh,p⟩ r=>by
  subst e;cases r;obtain⟨_,Dy,rv,it⟩:=(show JZ P w H h a (.tup xs) from ok a _ hh);exact#[a,Dy,rfl,it,qJ ok p rv]
 uniq:=λ⟨a,vs,e,⟨o,h1,_,n,h3⟩,p⟩ ⟨a',EZ,e',⟨o',To,_,n',Tp⟩,p'⟩=>by
  subst e;cases e';rw[h1] at To;cases To;rw[h3] at Tp;injection Tp with e1 _
  have e2:vs=EZ:=by simpa using e1
  subst e2;exact GB (F:=O.R _) (λ_ _ _ r r'=>O.uniq r r') p p'
 eq:=λ{A s u v as bs} hu hc h1 h2=>by
  obtain⟨a,vs,rfl,t1,p1⟩:=id h1;obtain⟨b,ws,rfl,t2,p2⟩:=id h2;have l1:=Js p1;have l2:=Js p2;by_cases Fn:a=b
  ·subst Fn;have e:as=bs:=by
    obtain⟨o,g1,_,n,g3⟩:=t1;obtain⟨o',Tq,_,n',Tr⟩:=t2;rw[g1] at Tq;cases Tq;rw[g3] at Tr;injection Tr with e1 _
    have e2:vs=ws:=by simpa using e1
    subst e2;exact GB (F:=O.R s.heap) (λ_ _ _ r r'=>O.uniq r r') p1 p2
   rw[decide_eq_true e];exact SeqAt.EqAt.same _
  ·refine SeqAt.EqAt.tuplesP (e:=n0 as bs) Fn t1 t2 gt (λj g1 g2 pre=>?_) (λj g1 g2 pre ej=>?_) λall=>?_
   ·have k1:j<as.length:=by rw[<-l1];simpa using g1
    have k2:j<bs.length:=by rw[<-l2];simpa using g2
    rw[UV k1 k2,yW,yW];exact O.eq (by show A.units+1+O.deep<cLine;lia) (KO hc j k1 k2<|gX pre) (um p1 _ k1) (um p2 _ k2)
   ·have k1:j<as.length:=by rw[<-l1];simpa using g1
    have k2:j<bs.length:=by rw[<-l2];simpa using g2
    refine decide_eq_false λe=>?_;subst e;rw[UV k1 k2] at ej;exact absurd rfl (of_decide_eq_false ej)
   ·rw[yw,yw,l1,l2] at all ⊢;rw[Qr,decide_eq_true_iff,beq_iff_eq,iB];refine#[λz=>z.1,λz=>#[z,λi g1 g2=>?_]];have:=all i (by omega);rw[UV g1 g2] at this;exact of_decide_eq_true this
 less:=λ{A s u v as bs} hu hc h1 h2=>by
  obtain⟨a,vs,rfl,t1,p1⟩:=id h1;obtain⟨b,ws,rfl,t2,p2⟩:=id h2;have l1:=Js p1;have l2:=Js p2;refine SeqAt.LtAt.tuples (e:=n0 as bs) t1 t2 gt (λj g1 g2 pre=>?_) (λj g1 g2 pre ej=>?_) λall=>?_
  ·have k1:j<as.length:=by rw[<-l1];simpa using g1
   have k2:j<bs.length:=by rw[<-l2];simpa using g2
   rw[UV k1 k2,yW,yW];exact O.eq (by show A.units+1+O.deep<cLine;lia) (KO hc j k1 k2<|gX pre) (um p1 _ k1) (um p2 _ k2)
  ·have k1:j<as.length:=by rw[<-l1];simpa using g1
   have k2:j<bs.length:=by rw[<-l2];simpa using g2
   rw[UV k1 k2] at ej;have ne:=of_decide_eq_false ej;rw[lB j k1 k2 (gX pre) ne,yW,yW];exact O.less (by show A.units+1+O.deep<cLine;lia) (KO hc j k1 k2<|gX pre) (um p1 _ k1) (um p2 _ k2)
  ·rw[yw,yw,l1,l2] at all ⊢;refine K7 λi g1 g2=>?_;have:=all i (by omega);rw[UV g1 g2] at this;exact of_decide_eq_true this
theorem kS {A:Around}{s:Shared}{u v:Value}{p q:Prop}{d:Decidable p}{d':Decidable q} (h:p↔q) (x:SeqAt.EqAt A s u v (@decide p d)):SeqAt.EqAt A s u v (@decide q d'):=(@decide_eq_decide p q d d').mpr h▸x
abbrev Jo (O:Od) (hd:∀h u l,¬(Uz l u/\∃a,O.R h u a)):Od where
 α:=Key ⊕ O.α
 deq:=inferInstance
 lt:=λa b=>match a,b with|.inl a,.inl b=>V3 a b|.inl _,.inr _=>true|.inr _,.inl _=>false|.inr a,.inr b=>O.lt a b
 irr:=λa=>by cases a<;>first|exact K3 _|exact O.irr _
 trans:=λ{a b c} h1 h2=>by
  cases a<;>cases b<;>cases c<;>first|exact gg h1 h2|exact O.trans h1 h2|rfl|exact absurd h1 yJ|exact absurd h2 yJ
 tot:=λ{a b} h1 h2=>by
  cases a<;>cases b<;>first|exact congrArg _ (K4 h1 h2)|exact congrArg _ (O.tot h1 h2)|exact absurd h1.symm yJ|exact absurd h2.symm yJ
 R:=λh u a=>match a with|.inl k=>Uz k u|.inr a=>O.R h u a
 V_:=λH x a=>match a with|.inl k=>x=kV k|.inr a=>O.V_ H x a
 cmp:=λa b=>match a,b with|.inl a,.inl b=>a.isLeft=b.isLeft|.inr a,.inr b=>O.cmp a b|_,_=>False
 deep:=O.deep
 keep:=λ{h h' u a} k r=>by cases a<;>first|exact r|exact O.keep k r
 mono:=λ{H H' x a} k r=>by cases a<;>first|exact r|exact O.mono k r
 raw:=λ{P w H h x u a} ok r q=>by
  cases a with
  | inl k=>rw[show x=kV k from r] at q;exact V4.mp q
  | inr a=>exact O.raw ok r q
 uniq:=λ{h u a b} r q=>by
  cases a with
  | inl a=>cases b with
   | inl b=>exact congrArg _ (Ur.uniq (h:=h) r q)
   | inr b=>exact absurd #[r,_,q] (hd h u a)
  | inr a=>cases b with
   | inl b=>exact absurd #[q,_,r] (hd h u b)
   | inr b=>exact congrArg _ (O.uniq r q)
 eq:=λ{A s u v a b} hu hc r q=>by
  cases a with
  | inl a=>cases b with
   | inl b =>
    exact kS #[λe=>by rw[e],λe=>Ym e] (Ur.eq (A:=A) (s:=s) (by show A.units+0<cLine;lia) hc r q)
   | inr b=>exact absurd hc id
  | inr a=>cases b with
   | inl b=>exact absurd hc id
   | inr b =>
    exact kS #[λe=>by rw[e],λe=>Yw e] (O.eq (A:=A) (s:=s) hu hc r q)
 less:=λ{A s u v a b} hu hc r q=>by
  cases a with
  | inl a=>cases b with
   | inl b=>exact Ur.less (A:=A) (s:=s) (by show A.units+0<cLine;lia) hc r q
   | inr b=>exact absurd hc id
  | inr a=>cases b with
   | inl b=>exact absurd hc id
   | inr b=>exact O.less hu hc r q
theorem Um (O:Od):∀h u l,¬(Uz l u/\∃a,(J0 O).R h u a):=λh u l #[k,a,b,_,e,_]=>by
 subst e;cases l<;>(obtain⟨t,z⟩:=k;cases z)
abbrev Mb:Od:=Jo (J0 Ur) (Um Ur)
theorem Od.neg (O:Od) {a b c:O.α} (h:O.lt a c=true):O.lt a b=true\/O.lt b c=true:=by
 cases h1:O.lt a b with
 | true=>exact .inl rfl
 | false =>
  right
  cases h2:O.lt b a with
  | true=>exact O.trans h2 h
  | false=>rw[<-O.tot h1 h2];exact h
theorem xD {O:Od}{a b:O.α}{as bs:List O.α} (e:a=b):ul O (a::as) (b::bs)=ul O as bs:=by
 show (if a=b then ul O as bs else O.lt a b)=_;rw[if_pos e]
theorem xE {O:Od}{a b:O.α}{as bs:List O.α} (e:a≠b):ul O (a::as) (b::bs)=O.lt a b:=by
 show (if a=b then ul O as bs else O.lt a b)=_;rw[if_neg e]
def eT (O:Od) (kc:Value->O.α) (d:O.α):KeyKind where
 α:=O.α
 blt:=O.lt
 irrefl:=O.irr
 trans:=λ_ _ _=>O.trans
 negTrans:=λ_ _ _=>O.neg
 total:=λ_ _=>O.tot
 keyOf:=λv=>some (kc v)
 dflt:=d
section
variable {prog:Dt}{w:World}{A:Around}{E:C3}{s:Shared}
def BO (h:Heap) (d:Bool) (v:Value):Prop:=∃a u us k,v=.ref a/\h.IsTuple a (u::us).toArray/\Uz k u/\k.isLeft=d
theorem p7 (h2:2<=vs.length) (ht:∀v∈vs,BO s.heap d v) {R:SortKind->Shared->Prop} (q:R (tuples' true) s):wpAny '$' A (keyKind' vs.toArray) R E s:=by
 have fx:∃fv:Value->Value,∀v∈vs,∃k,k.isLeft=d/\Uz k (fv v)/\∀R:Option Value->Shared->Prop,R (some<|fv v) s->wpAny '$' A (firstOfTuple' v) R E s:=by
  have one:∀v∈vs,∃x:Value,∃k,k.isLeft=d/\Uz k x/\∀R:Option Value->Shared->Prop,R (some x) s->wpAny '$' A (firstOfTuple' v) R E s:=λv hv=>by
   obtain⟨a,u,us,k,rfl,⟨ob,ho,hc,n,Oa⟩,hk,hl⟩:=ht v hv;refine#[u,k,hl,hk,λR hR=>?_];refine Du<|wpAny_typeOf #[ob,ho,hc] ?_;exact Du (listItems_at ho Oa<|Dv hR)
  refine#[λv=>if hv:v∈vs then (one v hv).choose else .none,λv hv=>?_];simp only[dif_pos hv];exact (one v hv).choose_spec
 obtain⟨fv,XZ⟩:=fx;rw[keyKind'_eq,abx,<-bind_pure_comp];refine Du (Du (K8 (r:=λv=>some<|fv v) (λv hv R hR=>by grind)<|Dv ?_));rw[if_pos on];refine Du<|wpAny_rule<|Du ?_;rw[show (vs.map _).toArray.filterMap id=(vs.map fv).toArray by simp [YT]];rw[oneTypeOnly'_eq,abx,<-bind_pure_comp];refine Du (Du (K8 (r:=λ_=>Value.type (if d then "int" else "str")) (λx hx R hR=>?_)<|Dv ?_))
 ·obtain⟨v,hv,rfl⟩:=yi.mp hx;obtain⟨k,e,hk,_⟩:=XZ v hv;rw[<-e] at hR;exact wJ hk hR
 ·match vs,h2 with
  | a::b::r,_ =>
   have e0:((abM fv (a::b::r)).map λ_=>Value.type (if d then "int" else "str")).toArray[0]?=some (Value.type (if d then "int" else "str")):=by simp
   rw[e0];have ea:(((abM fv (a::b::r)).map λ_=>Value.type (if d then "int" else "str")).toArray.all λx=>x==Value.type (if d then "int" else "str"))=true:=by
    grind
   show wpAny _ _ (pure _) _ _ _;rw[if_pos ea];refine Dv<|Dv ?_;have en:((some<|Value.type (if d then "int" else "str")).any λx=>x != Value.type "tuple")=true:=by cases d<;>rfl
   rw[en];exact q
theorem qu {u v:Value}{r:Bool}{Q:C7} (h:SeqAt.LtAt A s u v r) (q:Q r s):wpAny '$' A (oneLt' false u v) Q E s:=by
 exact Du (h prog w E _<|wpAny_truthy_bool q)
def Pe {α:Type} (cs ds:List α):Prop:=∀i (g1:i<cs.length) (g2:i<ds.length),cs[i]=ds[i]
theorem Pe.cons {α:Type}{c d:α}{cs ds:List α} (e:c=d) (h:Pe cs ds):Pe (c::cs) (d::ds):=λi g1 g2=>by
 cases i with
 | zero=>exact e
 | succ i=>exact h i _ _
theorem Pe.tail {α:Type}{c d:α}{cs ds:List α} (h:Pe (c::cs) (d::ds)):Pe cs ds:=λi g1 g2=>by
 have:=h (i+1) (by simpa using g1) (by simpa using g2);simpa using this
theorem ga {u v:Value}{p:Prop}{d:Decidable p} (h:p) (x:SeqAt.EqAt A s u v (@decide p d)):SeqAt.EqAt A s u v true:=by grind
theorem dI {u v:Value}{p:Prop}{d:Decidable p} (h:¬p) (x:SeqAt.EqAt A s u v (@decide p d)):SeqAt.EqAt A s u v false:=by grind
theorem i8 {O:Od} (f:Bool) (hu:A.units+O.deep<cLine):∀{cs ds:List O.α} {ps qs:Dh} (k:Nat),0<k->vI O cs ds->Paired (O.R s.heap) ps cs->Paired (O.R s.heap) qs ds->∀{R:Option Bool×Unit->Shared->Prop},(¬Pe cs ds->R (some<|ul O cs ds,()) s)->(Pe cs ds->R (none,()) s) ->
  wpAny '$' A (forIn ((ps.zip qs).zipIdx k) ((none,()):Option Bool×Unit) λx _ =>
   match x with
   | ((u,v),i)=>do
    let r <-eqBool u v
    if (!r)=true then do
      let r <-oneLt' (f&&i==0) u v
      pure (ForInStep.done (some r,()))
     else pure (YY (none,()))) R E s
 := by
 intro cs ds ps qs k hk hc p q
 induction p generalizing ds qs k with
 | nil=>exact λ_ h=>Dv (h λi g1=>absurd g1<|QC _)
 | @cons _ c _ cs r1 t1 ih =>
  cases q with
  | nil=>exact λ_ h=>Dv (h λi g1 g2=>absurd g2<|QC _)
  | @cons _ d _ ds r2 t2 =>
  intro R h1 h2;rw[abm,aaG,abJ];refine Du<|Du<|O.eq hu hc.1 r1 r2 prog w _ _ ?_;by_cases e:c=d
  ·rw[decide_eq_true e];refine Dv (ih _ (Qh _) (hc.2 e) t2 (λn=>?_) λz=>h2<|Pe.cons e z);have:=h1 λz=>n z.tail;unfold ul at this;rw[if_pos e] at this;exact this
  ·rw[decide_eq_false e];rw[beq_eq_false_iff_ne.mpr<|Nat.pos_iff_ne_zero.mp hk,aaT];refine Du<|qu (O.less hu hc.1 r1 r2)<|Dv<|Dv ?_;have:=h1 λz=>e<|z 0 (Qh _)<|Qh _;unfold ul at this;rw[if_neg e] at this;exact this
section
variable {O:Od}{hd:∀h u l,¬(Uz l u/\∃a,O.R h u a)}
theorem AK (f:Bool) {u v:Value} {cs ds:List (Key ⊕ O.α)} {c d:Key} {cr dr:List (Key ⊕ O.α)} (ec:cs=.inl c::cr) (ed:ds=.inl d::dr) (hu:A.units+O.deep<cLine) (hc:vI (Jo O hd) cs ds) (h1:(J0<|Jo O hd).R s.heap u cs) (h2:(J0<|Jo O hd).R s.heap v ds)
  {Q:C7} (h:Q (ul (Jo O hd) cs ds) s):wpAny '$' A (keyLt' (tuples' f) u v) Q E s:=by
 obtain⟨a,ps,rfl,⟨o,ho,_,n,Oa⟩,p1⟩:=h1;obtain⟨b,qs,rfl,⟨o2,Ei,_,n2,Rl⟩,p2⟩:=h2;refine Du<|listItems_at ho Oa<|Du<|listItems_at Ei Rl ?_;have l1:=Js p1;have l2:=Js p2;have fin:Pe cs ds->Q (decide (ps.toArray.size<qs.toArray.size)) s:=λz=>by
  rw[K7 (O:=Jo O hd) z] at h;rw[yw,yw,l1,l2];exact h
 subst ec ed;cases p1 with
 | @cons u0 _ us _ r1 t1=>cases p2 with
  | @cons v0 _ vs _ r2 t2 =>
   have Hj:=hc;rw[abm,aaG,abJ];have qe:=(Jo O hd).eq hu Hj.1 r1 r2;by_cases e:(Yh c:Key ⊕ O.α)=.inl d
   ·refine Du<|Du<|Du<|ga e qe prog w _ _<|Dv ?_;refine (i8 (O:=Jo O hd) f hu 1 Nat.one_pos (Hj.2 e) t1 t2 (λn=>Dv ?_) λz=>Dv<|fin<|Pe.cons e z);rw[xD e] at h;exact h
   ·refine Du<|Du<|Du<|dI e qe prog w _ _ ?_;refine Du<|tS _ Hj.1 r1 r2<|Dv<|Dv<|Dv ?_;rw[xE e] at h;exact h
end
end
section
variable {prog:Dt}{w:World}{A:Around}{E:C3}{s:Shared}{O:Od}{hd:∀h u l,¬(Uz l u/\∃a,O.R h u a)}
theorem tV {M:Od}{kc:Value->M.α}{d:M.α}{y:Dg} (pm:y.Perm (pairsOf vs)) (up:Up (eT M kc d) y.toList) :
  ∃out:List Value,(y.map (·.2))=out.toArray/\out.Perm vs/\out.Pairwise λu v=>M.lt (kc v) (kc u)=false:=by
 have pl:=pairsOf_toList vs▸Array.perm_iff_toList_perm.mp pm;have hm:∀p∈y.toList,p.1=p.2:=λp hp=>(mem_zip_self<|pl.mem_iff.mp hp).1;refine#[y.toList.map (·.2),by grind,?_,?_]
 ·have:=pl.map aaA;rwa [List.map_snd_zip<|yj _] at this
 ·refine QB.mpr (up.imp_of_mem λ{p q} hp hq h=>?_);rw[<-hm p hp,<-hm q hq];exact h
structure uC (hd:∀h u l,¬(Uz l u/\∃a,O.R h u a)) (h:Heap) (vs:Dh) (kc:Value->List (Key ⊕ O.α)) (d:Bool):Prop where
 at_:∀v∈vs,(J0<|Jo O hd).R h v (kc v)
 fst:∀v∈vs,∃c r,kc v=.inl c::r/\c.isLeft=d
 cm:∀u∈vs,∀v∈vs,vI (Jo O hd) (kc u) (kc v)
theorem uC.keep {h h':Heap}{kc:Value->List (Key ⊕ O.α)} (x:uC hd h vs kc d) (k:∀b o,h.get? b=some o->o.cls=.type "tuple"->h'.get? b=some o):uC hd h' vs kc d :=
 #[λv hv=>(J0 _).keep k<|x.at_ v hv,x.fst,x.cm]
theorem uC.fsts {h:Heap}{kc:Value->List (Key ⊕ O.α)} (x:uC hd h vs kc d):∀v∈vs,BO h d v:=λv hv=>by
 obtain⟨c,r,e,l⟩:=x.fst v hv;obtain⟨a,us,rfl,t,p⟩:=x.at_ v hv;rw[e] at p;cases p with
 | cons r1 t1=>exact#[a,_,_,c,rfl,t,r1,l]
theorem uC.orc {kc:Value->List (Key ⊕ O.α)} (x:uC hd s.heap vs kc d) (hu:A.units+O.deep<cLine) (f:Bool):Gm prog w A s f (eT (J0<|Jo O hd) kc []) (pairsOf vs):=λE p q Q hp hq h=>by
 have m1:=(m9 hp).2;have m2:=(m9 hq).2;obtain⟨c,r,e,_⟩:=x.fst _ m1;obtain⟨c',r',e',_⟩:=x.fst _ m2;exact AK f e e' hu (x.cm _ m1 _ m2) (x.at_ _ m1) (x.at_ _ m2) h
theorem oM {a:Addr}{n:Nat}{P:Fin->Shared->Prop}{kc:Value->List (Key ⊕ O.α)} (hu:A.units+O.deep<cLine) (ho:s.heap.get? a=some (seqObj "list" vs.toArray n)) (x:uC hd s.heap vs kc d) (hl:vs.length<64)
  (q:∀out:List Value,out.Perm vs->(out.Pairwise λu v=>ul (Jo O hd) (kc v) (kc u)=false)->P (.done<|.ret .none) { s with heap:=sortedHeap s.heap a vs out.toArray }):wpAny '$' A (Builtin.«list.sort» #[[.ref a],[]]) P E s:=by
 have hz:=sz64 hl;rw[list_sort_plain];refine Du (listItems_at ho rfl (Du (listUpdate_at ho rfl ?_ (by grind))));have g1:=get?_update_seq ho (λ_=>(Yb []));refine Du<|seqEpoch_at g1 rfl<|Du<|wpAny_newTuple<|Du<|wpAny_newList<|wpAny_holding ?_;have g2:(((s.heap.update a _).push<|seqObj "tuple" vs.toArray 0).push<|seqObj "list" (Yb []) 0).get? a=_:=yf _<|yf _ g1;have Ts:uC hd (((s.heap.update a (Obj.mapSeq λ_=>(Yb []))).push<|seqObj "tuple" vs.toArray 0).push<|seqObj "list" (Yb []) 0) vs kc d:=x.keep λb o e c=>by
  have ne:a≠b:=λz=>by
   grind
  exact yf _ (yf _<|(yK _ _ ne).trans e)
 have room:∀y:Array Keyed,y.Perm (pairsOf vs)->(y.map (·.2)).size<=sizeLine+1:=λy hy=>by
  rw[aaP,hy.size_eq,pairsOf_size];lia
 have fin:∀y:SortSt,(arrOf y).Perm _->Up (eT (J0<|Jo O hd) kc []) _->P _ { s with heap:=sortedHeap s.heap a vs ((arrOf y).map _) }:=λy pm up=>by
  obtain⟨out,e,p,w⟩:=tV pm up;rw[e];exact q out p w
 rcases y6 vs.length 2 with h2|h2
 ·rw[if_pos (by simpa using h2),if_pos (by simpa using h2)];refine Du<|Dv ?_;refine Du<|Dv<|Du<|seqEpoch_at g2 rfl<|Du<|listUpdate_at g2 rfl ?_ (hsz2:=room _<|aay _);simp only[bne_self_eq_false,if_false];refine Dv<|fin _ (aay _) ?_;show Up _ (pairsOf vs).toList;rw[pairsOf_toList];exact qF (by grind)
 ·rw[if_neg (by simpa using h2),if_neg (by simpa using h2)];refine Du<|p7 h2 Ts.fsts ?_;refine Du (wpAny_mono (wt (Q:=λ_ y=>Gd true _ y/\Up _ (arrOf y).toList) (Ts.orc hu true) #[aay _,rfl,rfl] rfl (by rw[pairsOf_size];exact h2) (by rw[pairsOf_size];exact hl) λy p1 p2=>#[p1,p2]) ?_ λ_ _ e=>e);rintro⟨⟨⟩,y⟩ s2 ⟨rfl,gd,up⟩;refine Du<|seqEpoch_at g2 rfl<|Du<|listUpdate_at g2 rfl ?_ (hsz2:=room _ gd.pm);rw[gd.fl];simp only[bne_self_eq_false,if_false];exact Dv (fin y gd.pm up)
end
def J1 (M:Od) (H:Hp) (bs:Di) (ks:List M.α):Prop:=Paired (λb k=>M.V_ H (.ref b) k) bs ks
theorem J1.mono {M:Od}{H H':Hp}{bs:Di}{ks:List M.α} (x:J1 M H bs ks) (k:∀p xs,H p=some (.tup xs)->H' p=some (.tup xs)):J1 M H' bs ks:=uD (λ_ _ r=>M.mono k r) x
theorem Uk {α β:Type}{F:α->β->Prop}:∀{a b:List α} {c d:List β},Paired F a c->Paired F b d->Paired F (a++b) (c++d):=by
 intro _ _ _ _ h s
 induction h with
 | nil=>exact s
 | cons r t ih=>exact .cons r ih
theorem J1.app {M:Od}{H:Hp}{bs DP:Di}{ks DM:List M.α} (x:J1 M H bs ks) (y:J1 M H DP DM):J1 M H (bs++DP) (ks++DM):=Uk x y
theorem fA {α β γ:Type}{F:α->β->Prop}{g:α->γ}{f:γ->β} (h:∀x y,F x y->f (g x)=y):∀{l:List α} {m:List β},Paired F l m->(l.map g).map f=m:=by
 intro _ _ p
 induction p with
 | nil=>rfl
 | cons r t ih=>rw[Ql,Ql,h _ _ r,ih]
theorem bU {α β:Type}{F:α->β->Prop}:∀{l:List α} {m:List β} {x:α},Paired F l m->x∈l->∃y∈m,F x y:=by
 intro _ _ _ p h
 induction p with
 | nil=>cases h
 | cons r t ih =>
  rcases yD.mp h with rfl|h
  ·exact#[_,yu,r]
  ·obtain⟨x,hx,hf⟩:=ih h;exact#[x,yl _ hx,hf]
open Classical in
noncomputable def NK (M:Od) (h:Heap) (d:M.α) (v:Value):M.α:=if x:∃k,M.R h v k then x.choose else d
theorem Kd {M:Od}{h:Heap}{d:M.α}{v:Value}{k:M.α} (x:M.R h v k):NK M h d v=k:=by
 have hx:∃k,M.R h v k:=#[k,x];unfold NK;rw[dif_pos hx];exact M.uniq hx.choose_spec x
theorem fG {M:Od}:∀{a b:List M.α},a.Perm b->(a.Pairwise λx y=>M.lt y x=false)->(b.Pairwise λx y=>M.lt y x=false)->a=b:=λ{a b} pm h1 h2=>by
 refine Y7 (λx y _ _ g1 g2=>M.tot g2 g1) h1 h2 pm
structure Fz (P:Dt) (w:World) (H:Hp) (a:Addr) (o:Obj) (Dx:List (List Key×V)) (xs:List (List Key×Addr×Value)):Prop where
 e:H a=some (vz a o)
 hm:(a==sysModules)=false
 kt:KT H Dx xs
 dr:pB P w o xs
 hz:Dx.length<=sizeLine
theorem Fz.len {P:Dt}{w:World}{H:Hp}{a:Addr} (F:Fz P w H a o Dx xs):xs.length=Dx.length:=(Paired.length F.kt).symm
theorem rY {H:Hp}:∀{Dx:List (List Key×V)} {xs:List (List Key×Addr×Value)} {i:Nat} {y:List Key×Addr×Value},KT H Dx xs->xs[i]?=some y->∃kv,Dx[i]?=some kv/\H y.2.1=some (.tup<|kv.1.map kV)
 | _,_,_,_,.nil,e=>by simp at e
 | _,_,0,_,.cons r _,e=>by grind
 | _,_,i+1,y,.cons _ t,e=>by
  obtain⟨kv,h1,h2⟩:=rY t (by simpa using e);exact#[kv,by simpa using h1,h2]
theorem p9 {P:Dt}{w:World}{H:Hp}{a:Addr} (ha:H a=some (.dT Dx)) (hz:Dx.length<=sizeLine) (hm:(a==sysModules)=false) (kt:KT H Dx xs) (dr:pB P w o xs) :
  Fz P w (upd H a<|vz a o) a o Dx xs/\(∀b u,b≠a->H b=some u->upd H a (vz a o) b=some u)/\(∀b,upd H a (vz a o) b=none->H b=none)/\∀H',Same (upd H a<|vz a o) H'->Same H (upd H' a<|.dT Dx):=by
 refine#[#[jc,hm,kt.keeps λb ys e=>jy (j9 e ha) e,dr,hz],λb u n e=>jy n e,λb e=>?_,λH' s b u e=>?_]
 ·by_cases h:b=a
  ·subst h;rw[jc] at e;cases e
  ·rwa [jC h] at e
 ·by_cases h:b=a
  ·subst h;rw[ha] at e;cases e;exact jc
  ·rw[jC h];exact s b u (jy h e)
theorem pY {P:Dt}{w:World}{a:Addr}{g:TG}{tb:TS}{D:vS}{σ:St}{H:Hp} (F:Fz P w H a o Dx xs) (Pv:Nat->St->Hp->Prop) (h0:Pv 0 σ H) (hl:∀i σ H',i<=Dx.length->Pv i σ H'->H' a=some (vz a o))
  (hs:∀i kv p σ H',Dx[i]?=some kv->H p=some (.tup<|kv.1.map kV)->Pv i σ H'->g (.ref p) σ H' λσ2 H2=>tb { D with nx:=Pv<|i+1,ct:=Pv<|i+1,bk:=D.nx } σ2 H2) (hd:∀σ H',Pv Dx.length σ H'->D.nx σ H') :
  ∃W:Nat->Nat->St->Hp->Prop,(∃m,W 0 m σ H)/\∀i m σ H,W i m σ H ->
   ((f8 a o xs).stop i H/\D.nx σ H)\/((f8 a o xs).go i H/\∃N:St->Hp->Prop,(∀σ' H',N σ' H'->∃m',m'<m/\W (i+1) m' σ' H')/\∀x H',(f8 a o xs).yld i H x H'->g x σ H' λσ2 H2=>tb { D with nx:=N,ct:=N,bk:=D.nx } σ2 H2):=by
 have le:=F.len;refine#[λi m σ H=>m=Dx.length - i/\i<=Dx.length/\Pv i σ H,#[Dx.length,by simp,yP _,h0],?_];rintro i m σ H1 ⟨rfl,hi,p⟩;have q:=hl i σ H1 hi p;by_cases DA:i<Dx.length
 ·refine .inr #[#[q,by lia],_,λσ' H' p'=>#[_,by omega,rfl,DA,p'],λx H' y=>?_];obtain⟨e,z,hz,rfl⟩:=y;subst e;obtain⟨kv,h1,h2⟩:=rY F.kt hz;exact hs i kv _ σ _ h1 h2 p
 ·have e:i=Dx.length:=by lia
  subst e;exact .inl #[#[q,by lia],hd σ H1 p]
section
variable {X:Cx}
def Bi (P:Dt) (w:World) (t:TS):TS:=λD σ H=>t { D with nx:=λσ' H'=>∃a o Dx xs,Fz P w H' a o Dx xs/\D.nx σ' (upd H' a<|.dT Dx) } σ H
theorem wa {st:Stmt}{t:TS} (h:PS X st t):PS X st (Bi X.prog X.w t):=by
 intro pins s σ H D I q;refine jI (h pins s σ H _ I q) λf s1 hh=>?_;cases f with
 | next =>
  obtain⟨σ',H1,I1,a,o,Dx,xs,F,q⟩:=hh;obtain⟨es,ep,h2,h3,h4,h6⟩:=F.dr;have g:=Va I1.hok F.e;have I2:jp X pins σ' (upd H1 a<|.dT Dx) _:=I1.write (t':=s1.toks) (by rw[F.e];exact Yp) (.inl rfl) (λb u _ e=>e) #[o,g] #[F.hz,F.hm,xs,Paired.mapP F.kt λx y r=>#[r.1,?_,r.2.2],o,es,ep,g,h2,h3,h4,h6]
  ·exact#[σ',_,I2,q]
  ·rw[jC<|j9 r.2.1 F.e];exact r.2.1
 | ret v=>exact hh
 | brk=>exact hh
 | cont=>exact hh
def VO (P:Dt) (w:World) (H:Hp) (a:Addr) (y:V) (r:Option V):Prop:=JX H a y r\/∃o Dx xs k b,Fz P w H a o Dx xs/\y=.ref b/\H b=some (.tup<|k.map kV)/\r=Jp Dx k
theorem VO.z {P:Dt}{w:World}{H:Hp}{a b:Addr}{k:List Key} (F:Fz P w H a o Dx xs) (eb:H b=some (.tup<|k.map kV)):VO P w H a (.ref b) (Jp Dx k):=.inr #[o,Dx,xs,k,b,F,rfl,eb,rfl]
theorem VO.t {P:Dt}{w:World}{H:Hp}{a b:Addr}{k:List Key} (e:H a=some (.dT Dx)) (eb:H b=some (.tup<|k.map kV)):VO P w H a (.ref b) (Jp Dx k):=.inl (JX.t e eb)
theorem rQ {P:Dt}{w:World}{H:Hp}{h:Heap}{a:Addr} (ok:JU P w H h) (F:Fz P w H a o Dx xs):h.DictOfH (tupleKind<|jM P w) a xs:=by
 obtain⟨es,ep,h2,h3,h4,h6⟩:=F.dr;refine#[o,es,ep,Va ok F.e,h2,h3,h4,λx hx=>?_,h6];have all:∀{l:List _} {m:List _},KT H l m->∀x∈m,(tupleKind<|jM P w).is h x.1 x.2.1:=by
  intro l m q
  induction q with
  | nil=>intro x hx;exact nomatch hx
  | @cons p q ps qs hq t ih =>
   intro x hx;rcases yD.mp hx with e|hx
   ·subst e;exact zV ok (by rw[<-hq.1];exact hq.2.1)
   ·exact ih x hx
 exact all F.kt x hx
variable {pins:De}{σ:St}{H:Hp}{s:Shared}{a:Addr}{y v:V}{u r:Value}{o:Option V}{A:Around}{E:C3}
theorem pj {Q:C3} (hu:A.units+1<cLine) (I:jp X pins σ H s) (g:VO X.prog X.w H a y (some v)) (ry:jG y u) (h:∀w' s',jp X pins σ H s'->jG v w'->Q w' s') :
  wpAny '%' A (getItem (.ref a) u) Q E s:=by
 rcases g with g|⟨o,Dx,xs,k,b,F,ey,eb,l⟩
 ·exact Z9 hu I g ry h
 ·subst ey;cases (ry);have dd:=rQ I.hok F;obtain⟨w',hw,DY⟩:=U3.some_of (by rw[l];exact F.kt.val k);obtain⟨p,hp,EC⟩:=yr.mp hw;refine wpAny_getItem_heap (tupleKind_room_in1 hu) (zV I.hok eb) dd hp ?_;rw[EC];exact h w' _ (I.tok _) DY
theorem rB (I:jp X pins σ H s) (g:VO X.prog X.w H a y o):s.TypeIs (.ref a) "dict":=by
 rcases g with g|⟨ob,Dx,xs,k,b,F,_⟩
 ·exact zE I g
 ·exact (rQ I.hok F).typeIs
end
def BI (P:Dt) (w:World) (td ty:TE):TE:=λσ H Q=>td σ H λx H1=>ty σ H1 λy H2=>∃a v,x=.ref a/\VO P w H2 a y (some v)/\Q v H2
section
variable {X:Cx}{o i e value:Expr}{pos pos' DV:Pos}{td ty tv:TE}
theorem G4 (ho:PE X o td) (hi:PE X i ty) (hu:autoParam (X.A.units+1<cLine) zzq) (hs:autoParam (du i) zzk):PE X (.Subscript o i pos) (BI X.prog X.w td ty):=by
 intro pins s σ H Q I h;refine mw PySem.F.slot_dict_getitem.lookup hs (jI (ho pins s σ H _ I h) λu s1 #[x,H1,I1,rx,q1]=>jI (hi pins s1 σ H1 _ I1 q1) λiv s2 hh=>?_);obtain⟨y,H2,I2,ry,a,v,ex,g,q2⟩:=hh;subst ex;obtain rfl:u=Value.ref a:=rx;exact#[rB I2 g,pj hu I2 g ry λw' s3 I3 DY=>#[v,H2,I3,DY,q2]]
end
end L2
namespace L2
open PySem PySem.Spec PyProof.Rows
section
variable {P:Dt}{w:World}{K:C9}{mg:Dd}{base:Heap}{N ps:Dm}{name qual:Str}{params:Arguments}{body:List Stmt}{scope:Scope}{cl:Dj}{XY:List V}{f c:Addr}{k:Nat}
 {A:Around} {outer:List Env} {s:Shared} {H:Hp} {us:Dh} {vs:List V} {Q:VK} {E:XK}
end
end L2
namespace L2
open PySem PyProof.Rows TS
section
variable {X:Cx}{k:Nat}{x:Str}{p pos:Pos}{e:Expr}{es:Dp}{ta:TE}{t:TA}{E:XK}
def wP (P:Dt) (w:World) (K:C9) (mg:Dd) (base:Heap) (k:Nat) (f:Addr) (sp:Sp):Prop:=∃fd ps,U1 P w K mg base (XC P w) k f fd ps sp/\ve K fd ps []/\keepIn K (.ref f)=true
def AC (P:Dt) (w:World) (K:C9) (mg:Dd) (base:Heap) (k:Nat) (E:XK) (ta:TE) (t:TA):TE:=λσ H Q=>ta σ H λx H1=>∃f sp,x=.ref f/\wP P w K mg base k f sp/\t σ H1 λvs H2=>sp vs H2 Q E
theorem qw {P:Dt}{w:World}{K:C9}{mg:Dd}{base:Heap} (e1:X.prog=P) (e2:X.w=w) (e3:X.K=K) (e4:X.mg=mg) (e5:X.base=base) (hf:PE X (.Name x p) ta) (hr:Zi k X.A) (hx:UC (XC X.prog X.w) X E) (ha:PA X (e::es) t)
  (he:autoParam (starEach (e::es) X.env=(false,eval e X.env)::starEach es X.env) Fk) (DJ:autoParam ((backTo pos<|starEach es X.env).any (·.1)=false) Fk) :
  PE X (.Call (.Name x p) (e::es) [] pos) (AC P w K mg base k E ta t):=by
 subst e1 e2 e3 e4 e5;intro pins s σ H Q I h;refine wpAny_Call_Name_kw (jI (hf pins s σ H _ I h) λu s1 hh=>?_);obtain⟨v,H1,I1,rv,f,sp,ev,⟨fd,ps,F,b,kp⟩,q⟩:=hh;subst ev;obtain rfl:u=Value.ref f:=rv;refine callWith_K I1.ok.mod.kin kp (jI (ha pos pins s1 σ H1 _ I1 q) λus s2 #[vs,H2,I2,r,q2]=>#[I2.kIn,?_]) he DJ;exact Ky F hr b .nil hx I2 r (by rw[Qk];exact q2)
end
end L2
namespace L2
open PySem PySem.Spec PyProof.Rows TS
theorem cH {P:Dt}{w:World}{k:Key}{u:Value} (h:(jM P w).is k u=true):jG (kV k) u:=by
 rcases JB h with ⟨i,t,rfl,rfl⟩|⟨x,t,rfl,rfl⟩
 ·exact#[t,rfl]
 ·exact#[t,rfl]
end L2
namespace L2
open PySem PySem.Spec PyProof.Rows
variable {X:Cx}
def M9 (X:Cx):List (Str×Addr)->Prop
 | []=>True
 | y::r=>(X.env.cells.lookup y.1=some y.2/\X.env.kindOf y.1=some .cell)/\M9 X r
theorem M9.of:∀{cl:Dj},M9 X cl->∀{x:Str} {c:Addr},cl.lookup x=some c->X.env.cells.lookup x=some c/\X.env.kindOf x=some .cell
 | (n,a)::r,h,x,c,e=>by
  rw[aal] at e
  split at e
  ·rename_i q;obtain rfl:x=n:=by simpa using q
   cases e;exact h.1
  ·exact M9.of h.2 e
theorem JW {N0:Dm}{scope:Scope}{cl:Dj} (hk:autoParam (scope.kind=.function) Fk) (Iq:autoParam (closureFor scope X.env=pure cl) Fk)
  (hs:M9 X cl:=by first|exact trivial|exact#[#[rfl,rfl],trivial]|exact#[#[rfl,rfl],#[rfl,rfl],trivial]|exact#[#[rfl,rfl],#[rfl,rfl],#[rfl,rfl],trivial]|exact#[#[rfl,rfl],#[rfl,rfl],#[rfl,rfl],#[rfl,rfl],trivial])
  (h1:(scope.names.all λy=>y.2 != .cell&&(y.2 != .free||(cl.lookup y.1).isSome)&&(y.2 != .local||scope.names.lookup y.1==some .local))=true:=by kernel_rfl)
  (hl:autoParam (N0.length=X.N.length) Fk) (h3:((N0.zip X.N).all λy=>(y.1==y.2&&scope.names.lookup y.1 != some .local)||scope.names.lookup y.1==none)=true:=by kernel_rfl):UT X N0 scope cl:=by
 have H:∀y∈scope.names,(y.2≠.cell/\(y.2=.free->(cl.lookup y.1).isSome=true))/\(y.2=.local->scope.names.lookup y.1=some .local):=λy hy=>by
  grind
 have F:∀x,scope.names.lookup x=some _->∃c,cl.lookup x=some c:=λx e=>Option.isSome_iff_exists.mp<|(H _<|Ke e).1.2 rfl;refine#[Iq,hk,λy hy=>(H y hy).1.1,λy hy=>(H y hy).2,λx c e=>(hs.of e).1,F,λx e=>.inl (hs.of (F x e).choose_spec).2,hl,λi x e=>?_];have hi:i<X.N.length:=by rw[<-hl];exact (yc.mp e).1
 have:=QG.mp h3 (x,X.N[i])<|yh<|Qd.mpr #[e,yb hi];simp only[Bool.or_eq_true,QP,beq_iff_eq,bne_iff_ne] at this;rcases this with ⟨q1,q2⟩|q
 ·grind
 ·exact .inr q
section
variable {X:Cx}{scope:Scope}{cl:Dj}{tg iter elt:Expr}{ifs:Dp}{own:Dm}{wi:TI}{g:TG}{tc:TT}{te:TE}{pos:Pos}
theorem jU (S:UT X X.N scope cl) (hi:PI X tg iter wi)
  (hg:∀C s H fp pins,PG (X.blk scope cl C own s H fp pins) tg g) (ht:∀C s H fp pins,PF (X.blk scope cl C own s H fp pins) ifs tc) (he:∀C s H fp pins,PE (X.blk scope cl C own s H fp pins) elt te)
  (hs:autoParam (∀x,foldedSetIterable iter X.env x=pure x) zzg):PE X (.ListComp elt [#[tg,iter,ifs,0]] scope pos) (KD wi own.length g tc te):=vx S hi hg ht he hs
end
structure Df (K:C9) (x q:Str) (st:Stmt) (f:Addr) (ps:Dm) (ds:Dh):Prop where
 ex:∃fd,GK K x q st f fd/\ve K fd ps ds
structure TF (K:C9) (mg:Dd) (x:Str) (st:Stmt) (f:Addr) (ps:Dm):Prop where
 g:mg x=some (.ref f)
 d:Df K x x st f ps []
structure TM (K:C9) (C:Addr) (m q:Str) (st:Stmt) (f:Addr) (ps:Dm) (ds:Dh):Prop where
 at_:nJ K C m f
 d:Df K m q st f ps ds
structure TN (K:C9) (C:Addr) (q:Str) (st:Stmt) (f:Addr) (ps:Dm):Prop where
 m:Mk K C f
 d:Df K "__init__" q st f ps []
section
variable {P:Dt}{w:World}{K:C9}{mg:Dd}{base:Heap}{x m q:Str}{st:Stmt}{f C:Addr}{fd:FuncData}{N ps:Dm}{ds:Dh}{k:Nat}{sp:Sp}{c:Bool}
abbrev rC (P:Dt) (w:World) (K:C9) (mg:Dd) (base:Heap) (N ps:Dm) (q:Str) (st:Stmt) (f:Addr) (k:Nat) (sp:Sp) (c:Bool):Prop :=
 ∀(vs:List V) (H:Hp) (Q:VK) (E:XK),sp vs H Q E->vs.length=ps.length/\∀(DF:Value) (A:Around) (outer:List Env) (s:Shared),JI c k (A.deeper<|envOfC q (uh st) s.heap.objs.size f DF) ->
  ∃t,Z0 (nU P w K mg base N q (uh st) f DF A outer s H E c) (vY st) t/\t { nx:=λ_ H'=>Q .non H',rt:=Q } (start N vs) H
theorem GK.okY (F:GK K x q st f fd) (h:rC P w K mg base N ps q st f k sp c) (S:autoParam (vA N ps (uh st)) zzs):U1 P w K mg base (XC P w) (k+1) f fd ps sp c :=
 F.okX S (λvs H Q E y=>(h vs H Q E y).1) λDF A outer s H vs Q E hr y=>(h vs H Q E y).2 DF A outer s hr
theorem TF.ok (T:TF K mg x st f ps) (N:Dm) (h:rC P w K mg base N ps x st f k sp c) (S:autoParam (vA N ps (uh st)) zzs):j7 P w K mg base (k+1) x ps sp c :=
 let ⟨fd,F,b⟩:=T.d.ex;#[_,fd,F.okY h S,b,F.kp,T.g]
theorem TM.ok (T:TM K C m q st f ps []) (c:zg K C) (N:Dm) (h:rC P w K mg base N ps q st f k sp true) (S:autoParam (vA N ps (uh st)) zzs):Zg P w K mg base (k+1) C m ps sp :=
 let ⟨fd,F,b⟩:=T.d.ex;#[c,_,fd,T.at_,F.okY h S,b]
theorem TN.ok (T:TN K C q st f ps) (g:mg x=some (.ref C)) (N:Dm) (h:rC P w K mg base N ps q st f k sp true) (S:autoParam (vA N ps (uh st)) zzs):MU P w K mg base (k+1) x C ps sp :=
 let ⟨fd,F,b⟩:=T.d.ex;#[_,fd,T.m,F.okY h S,b,g]
end
end L2
namespace PySem
variable {v:Value}{vs:Dh}{Q:C7}{b:Addr}
section
variable {prog:Dt}{w:World}{K K':Type} [DecidableEq K] [DecidableEq K']
structure Uy (prog:Dt) (w:World) (K:Type) [DecidableEq K] where
 kd:HeapKind prog w K
 deep:Nat
 roomOk:∀{A:Around},A.units+deep<cLine->kd.room A
 nq:Nat
 quietN:∀{A:Around} {E:C3} {s:Shared} {k:K} {a:Addr} {Q:C7} (n:Nat),nq<=n->kd.is s.heap k a->Q true s->wpAny '$' A (eqIsQuiet n<|.ref a) Q E s
 keepsO:∀{h h':Heap} {k:K} {a:Addr},kd.is h k a->(∀b o xs n,h.get? b=some o->o.cls=.type "tuple"->o.data=.seq xs n->h'.get? b=some o)->kd.is h' k a
 tok:∀{h:Heap} {k:K} {a:Addr},kd.is h k a->∃o,h.get? a=some o/\o.cls=.type "tuple"
variable (knd:KeyKind prog w K) (hk:Uy prog w K')
def U7 (h:Heap):K ⊕ K'->Value->Prop
 | .inl k,v=>knd.is k v=true
 | .inr k,v=>∃b,v=.ref b/\hk.kd.is h k b
inductive JQ (h:Heap):List (K ⊕ K')->List Value->Prop
 | nil:JQ h [] []
 | cons {k:K ⊕ K'} {v:Value} {ks:List (K ⊕ K')} {vs:Dh}:U7 knd hk h k v->JQ h ks vs->JQ h (k::ks) (v::vs)
def uw (h:Heap) (ks:List (K ⊕ K')) (a:Addr):Prop:=∃o items n,h.get? a=some o/\o.cls=.type "tuple"/\o.data=.seq items n/\JQ knd hk h ks items.toList
variable {knd hk}
theorem U7.inj {h:Heap}{x y:K ⊕ K'} (hx:U7 knd hk h x v) (hy:U7 knd hk h y v):x=y:=by
 cases x with
 | inl x=>cases y with
  | inl y=>rw[knd.inj _ _ _ hx hy]
  | inr y =>
   obtain⟨b,rfl,_⟩:=hy;have:=knd.byValue _ _ hx;simp [carriedByValue] at this
 | inr x =>
  obtain⟨b,rfl,hx⟩:=hx;cases y with
  | inl y =>
   have:=knd.byValue _ _ hy;simp [carriedByValue] at this
  | inr y =>
   obtain⟨b',e,hy⟩:=hy;injection e with e
   subst e;rw[hk.kd.inj hx hy]
theorem JQ.inj {h:Heap}{x y:List (K ⊕ K')} (hx:JQ knd hk h x vs) (hy:JQ knd hk h y vs):x=y:=by
 induction hx generalizing y with
 | nil=>cases hy;rfl
 | cons h1 _ ih=>cases hy with
  | cons h2 t2=>rw[h1.inj h2,ih t2]
theorem uw.typeIs {s:Shared}{ks:List (K ⊕ K')}{a:Addr} (x:uw knd hk s.heap ks a):s.TypeIs (.ref a) "tuple":=let ⟨o,_,_,ho,hc,_⟩:=x;#[o,ho,hc]
theorem uw.inj {h:Heap}{a:Addr}{x y:List (K ⊕ K')} (hx:uw knd hk h x a) (hy:uw knd hk h y a):x=y:=by
 obtain⟨o,items,n,ho,_,hd,hi⟩:=hx;obtain⟨o',items',n',Es,_,Hi,Ir⟩:=hy;obtain rfl:o=o':=Yd<|ho.symm.trans Es;rw[hd] at Hi;injection Hi with h1 _
 subst h1;exact hi.inj Ir
theorem JQ.keepsO {h h':Heap}{ks:List (K ⊕ K')} (x:JQ knd hk h ks vs) (k:∀b o xs n,h.get? b=some o->o.cls=.type "tuple"->o.data=.seq xs n->h'.get? b=some o):JQ knd hk h' ks vs:=by
 induction x with
 | nil=>exact .nil
 | @cons k v ks vs h1 _ ih =>
  refine .cons ?_ ih;cases k with
  | inl k=>exact h1
  | inr k=>obtain⟨b,e,h2⟩:=h1;exact#[b,e,hk.keepsO h2 ‹_›]
theorem uw.keepsO {h h':Heap}{ks:List (K ⊕ K')}{a:Addr} (x:uw knd hk h ks a) (k:∀b o xs n,h.get? b=some o->o.cls=.type "tuple"->o.data=.seq xs n->h'.get? b=some o):uw knd hk h' ks a :=
 let ⟨o,items,n,ho,hc,hd,hi⟩:=x;#[o,items,n,k _ _ _ _ ho hc hd,hc,hd,hi.keepsO k]
def VW (knd:KeyKind prog w K) (hk:Uy prog w K'):K ⊕ K'->Int
 | .inl k=>knd.hash k
 | .inr k=>hk.kd.hash k
def Z7 (hk:Uy prog w K'):K ⊕ K'->Nat
 | .inl _=>1
 | .inr k=>hk.kd.draws k
def GX (knd:KeyKind prog w K) (hk:Uy prog w K') (ks:List (K ⊕ K')):Int:=reduceHash (Builtin.Tuple.tupleHashOf<|ks.map<|VW knd hk)
def gA (hk:Uy prog w K') (ks:List (K ⊕ K')):Nat:=(ks.map<|Z7 hk).sum+1
variable {A:Around}{E:C3}{s:Shared}
theorem ii {k:K ⊕ K'}{Q:Int->Shared->Prop} (hu:A.units+hk.deep<cLine) (h:U7 knd hk s.heap k v) (q:Q (VW knd hk k) { s with toks:=s.toks+Z7 hk k }):wpAny '$' A (pyHash v) Q E s:=by
 cases k with
 | inl k=>exact knd.pyHash h q
 | inr k=>obtain⟨b,rfl,h⟩:=h;exact hk.kd.pyHash (hk.roomOk hu) h q
theorem sW {x y:K ⊕ K'}{u:Value} (hu:A.units+hk.deep<cLine) (hx:U7 knd hk s.heap x u) (hy:U7 knd hk s.heap y v) (same:x.isRight=y.isRight) (q:Q (decide (x=y)) s):wpAny '$' A (eqBool u v) Q E s:=by
 cases x with
 | inl x=>cases y with
  | inl y =>
   have e:decide ((Yh x:K ⊕ K')=Yh y)=decide (x=y):=by simp
   rw[e] at q;exact knd.eqBool hx hy q
  | inr y=>cases same
 | inr x =>
  obtain⟨a,rfl,hx⟩:=hx;cases y with
  | inl y=>cases same
  | inr y =>
   obtain⟨b,rfl,hy⟩:=hy;have e:decide ((Yr x:K ⊕ K')=Yr y)=decide (x=y):=by simp
   rw[e] at q;exact hk.kd.eqBool (hk.roomOk hu) hx hy q
theorem lI {ks:List (K ⊕ K')}{a:Addr}{Q:Int->Shared->Prop} (hu:A.units+(hk.deep+1)<cLine) (Eb:uw knd hk s.heap ks a) (h:Q (GX knd hk ks) { s with toks:=s.toks+gA hk ks }) :
  wpAny '$' A (pyHash<|.ref a) Q E s:=by
 have hT:=Eb.typeIs;obtain⟨o,items,n,ho,_,hd,hi⟩:=Eb
 first|refine Du (wpAny_cRoomFor_or (.inr gt) ?_)
 refine Du<|wpAny_specialOf hT F.slot_tuple_hash.lookup ?_;refine Du<|wpAny_specialOf hT F.slot_tuple_hash.lookup ?_;refine Du<|wpAny_callSpecialIfBoundUnlessNone?_slot hT F.slot_tuple_hash<|wpAny_call_entry F.slot_tuple_hash hT F.entry_tuple_hash ?_<|F.args_tuple_hash_1 _;show wpAny _ _ (Builtin.Tuple.tupleItemsOf _>>=_) _ _ s;refine Du<|wpAny_tupleItemsOf ho hd ?_;refine Du ?_;rw[<-QJ];refine wpAny_forIn_list _
  (λrest (b) s'=>∃done left,ks=done++left/\JQ knd hk s.heap left rest/\b.toList=done.map (VW knd hk)/\s'={ s with toks:=s.toks+(done.map<|Z7 hk).sum })
  _ ?_ ?_ _ _ #[[],ks,rfl,hi,rfl,rfl]
 ·rintro x rest b s' ⟨done,left,rfl,hl,hb,rfl⟩;cases hl with
  | @cons k _ DM _ h1 DU =>
   refine Du (ii ?_ h1 ?_)
   ·grind
   first
    | exact Dv ⟨done++[k],DM,by simp,DU,by simp [hb],by simp [aa2]⟩
 ·rintro b s' ⟨done,left,rfl,hl,hb,rfl⟩;cases hl;rw[Qk] at h;show wpAny _ _ (retInt _) _ _ _;rw[hb];refine wpAny_ret_mkInt ?_;show wpAny _ _ (if (decide _&&decide _)=true then _ else _) Q E _;unfold GX gA reduceHash at h;by_cases hr:(decide (-(2)^63<=Builtin.Tuple.tupleHashOf (done.map<|VW knd hk))&&decide (Builtin.Tuple.tupleHashOf (done.map<|VW knd hk)<2^63))=true
  ·rw[if_pos hr];rw[if_pos hr] at h;exact Dv (by simpa [aa2] using h)
  ·rw[if_neg hr];rw[if_neg hr] at h;exact Du (wpAny_rule (Dv (by simpa [aa2] using h)))
theorem NW {x y:List (K ⊕ K')}{a:Addr}{P:Fin->Shared->Prop} (hu:A.units+hk.deep<cLine) (hx:uw knd hk s.heap x a) (hy:uw knd hk s.heap y b) (X0:∀p∈x.zip y,p.1.isRight=p.2.isRight) (h:P (.done<|.ret<|.bool<|decide (x=y)) s) :
  wpAny '$' A (Builtin.«tuple.__eq__» #[[.ref a,.ref b],[]]) P E s:=by
 have X3:=hy.typeIs;obtain⟨oa,xs,na,X4,_,Oa,X5⟩:=hx;obtain⟨ob,ys,nb,X6,_,Fc,X7⟩:=hy;show wpAny _ _ (isInstance _ _>>=_) _ _ s;refine Du<|wpAny_isInstance X3 isSubtype_tuple_tuple ?_;refine Du<|wpAny_tupleItemsOf X4 Oa ?_;refine Du<|wpAny_tupleItemsOf X6 Fc ?_;refine Du ?_;refine wpAny_forIn_list _
  (λrest r s'=>r.1=none/\s'=s/\∃x' y' EB Le,rest=List.zip EB Le/\JQ knd hk s.heap x' EB/\JQ knd hk s.heap y' Le/\(∀p∈x'.zip y',p.1.isRight=p.2.isRight)/\decide (x'=y')=decide _/\(EB.length==Le.length)=(xs.size==ys.size))
  _ ?_ ?_ _ _ #[rfl,rfl,x,y,xs.toList,ys.toList,rfl,X5,X7,X0,rfl,by simp]
 ·rintro⟨u,v⟩ rest r s' ⟨hr,rfl,x',y',EB,Le,hz,Fj,Lf,Im,Hl,hlen⟩;cases Fj with
  | nil=>simp at hz
  | @cons k1 u' x'' xs'' h1 hx'' =>
   cases Lf with
   | nil=>simp at hz
   | @cons k2 v' y'' ys'' h2 hy'' =>
    obtain⟨⟨rfl,rfl⟩,rfl⟩:=hz;refine Du<|sW hu h1 h2 (Im _<|yu ..) ?_;by_cases hk:k1=k2
    ·subst hk;rw[decide_eq_true rfl];refine Dv #[rfl,rfl,x'',y'',xs'',ys'',rfl,hx'',hy'',λp hp=>Im p<|yl _ hp,?_,by simpa using hlen];rw[<-Hl];by_cases Tt:x''=y''
     ·simp [Tt]
     ·simp [Tt]
    ·rw[decide_eq_false hk];have hf:decide (x=y)=false:=by rw[<-Hl];simp [hk]
     rw[hf] at h;exact Du (Dv<|Dv<|Dv h)
 ·rintro⟨r1,r2⟩ s' ⟨hr,rfl,x',y',EB,Le,hz,Fj,Lf,Im,Hl,hlen⟩;subst hr;refine Dv ?_;have Rm:(xs.size==ys.size)=decide (x=y):=by
   rw[<-Hl,<-hlen];cases Fj with
   | nil =>
    cases Lf with
    | nil=>simp
    | cons _ _=>simp
   | cons _ _ =>
    cases Lf with
    | nil=>simp
    | cons _ _=>simp at hz
  show P (.done<|.ret<|.bool _) s';rw[Rm];exact h
theorem tL {x y:List (K ⊕ K')}{a:Addr} (hu:A.units+(hk.deep+2)<cLine) (hx:uw knd hk s.heap x a) (hy:uw knd hk s.heap y b) (hz:∀p∈x.zip y,p.1.isRight=p.2.isRight) (h:Q (decide (x=y)) s) :
  wpAny '$' A (eqBool (.ref a)<|.ref b) Q E s:=by
 unfold eqBool
 try with_reducible refine wpAny_holding ?_
 by_cases Fn:(Value.ref a==Value.ref b)=true
 ·rw[if_pos Fn];have e:a=b:=by grind
  subst e;obtain rfl:=hx.inj hy;exact Du (wpAny_rule (Dv (by simpa using h)))
 ·rw[if_neg Fn];exact Du (wpAny_richCompare_same_room hx.typeIs hy.typeIs F.slot_tuple_eq
   (wpAny_call_entry F.slot_tuple_eq hx.typeIs F.entry_tuple_eq (NW (by grind) hx hy hz #[_,rfl,(λe=>nomatch e),wpAny_truthy_bool h])<|F.args_tuple_eq_2 _ _) gt)
theorem Kl {ks:List (K ⊕ K')}{a:Addr} (n:Nat) (hn:hk.nq+1<=n) (Eb:uw knd hk s.heap ks a) (h:Q true s):wpAny '$' A (eqIsQuiet n<|.ref a) Q E s:=by
 have hT:=Eb.typeIs;obtain⟨o,items,m,ho,_,hd,hi⟩:=Eb;obtain⟨n,rfl⟩:∃n',n=n'+1:=#[n - 1,by lia];unfold eqIsQuiet;refine Du<|wpAny_specialOf hT F.slot_tuple_eq.lookup ?_;refine Du<|wpAny_isInstance hT isSubtype_tuple_tuple ?_;refine Du<|wpAny_seqItems ho hd ?_;refine Du ?_;rw[<-QJ];refine wpAny_forIn_list _ (λrest r s'=>r.1=none/\s'=s/\∃left,JQ knd hk s.heap left rest) _ ?_ ?_ _ _ #[rfl,rfl,ks,hi]
 ·rintro v rest r s' ⟨hr,rfl,left,hl⟩;cases hl with
  | @cons k _ DM _ h1 DU =>
   have fin:∀{R:C7},R true s'->wpAny _ A (eqIsQuiet n v) R E s':=λ{R} q=>by
    cases k with
    | inl k=>rw[eqIsQuiet_byValue _<|knd.byValue _ _ h1];exact Dv q
    | inr k=>obtain⟨b,rfl,h2⟩:=h1;exact hk.quietN n gt h2 q
   refine Du<|fin ?_;exact Dv #[rfl,rfl,DM,DU]
 ·rintro⟨r1,r2⟩ s' ⟨hr,rfl,_⟩;subst hr;exact Dv h
theorem dX {ks:List K}{a:Addr} (n:Nat) (hn:1<=n) (Eb:IsTupleKey knd s.heap ks a) (h:Q true s):wpAny '$' A (eqIsQuiet n<|.ref a) Q E s:=by
 have hT:=Eb.typeIs;obtain⟨o,items,m,ho,_,hd,hi⟩:=Eb;obtain⟨n,rfl⟩:∃n',n=n'+1:=#[n - 1,by lia];unfold eqIsQuiet;refine Du<|wpAny_specialOf hT F.slot_tuple_eq.lookup ?_;refine Du<|wpAny_isInstance hT isSubtype_tuple_tuple ?_;refine Du<|wpAny_seqItems ho hd ?_;refine Du ?_;rw[<-QJ];refine wpAny_forIn_list _ (λrest r s'=>r.1=none/\s'=s/\∀v∈rest,carriedByValue v=true) _ ?_ ?_ _ _ #[rfl,rfl,hi.byValue]
 ·rintro v rest r s' ⟨hr,rfl,DL⟩;rw[eqIsQuiet_byValue _<|DL v yu];exact Dv #[rfl,rfl,λu EE=>DL u<|yl _ EE]
 ·rintro⟨r1,r2⟩ s' ⟨hr,rfl,_⟩;subst hr;exact Dv h
end
section
variable {prog:Dt}{w:World}{K K':Type} [DecidableEq K] [DecidableEq K']
def pV (knd:KeyKind prog w K):Uy prog w (List K) where
 kd:=tupleKind knd
 deep:=0
 roomOk:=λh=>h
 nq:=1
 quietN:=λn hn hk h=>dX n hn hk h
 keepsO:=λ⟨o,items,n,ho,hc,hd,hi⟩ k=>#[o,items,n,k _ _ _ _ ho hc hd,hc,hd,hi]
 tok:=λ⟨o,_,_,ho,hc,_⟩=>#[o,ho,hc]
def qp (knd:KeyKind prog w K) (hk:Uy prog w K') (sh:Nat->Bool) (h8:hk.nq+1<=8):Uy prog w (List<|K ⊕ K') where
 kd :=
  {
   is:=λh ks a=>uw knd hk h ks a/\∀(i:Nat) (k:K ⊕ K'),ks[i]?=some k->k.isRight=sh i
   hash:=GX knd hk
   draws:=gA hk
   room:=λA=>A.units+(hk.deep+2)<cLine
   inj:=λhx hy=>hx.1.inj hy.1
   keeps:=λ{h h' k a d o es ep} x ho hd hs=>#[x.1.keepsO λb o' xs n e c dt=>by
    by_cases z:b=d
    ·subst z;rw[ho] at e;cases e;rw[hd] at dt;cases dt
    ·exact (hs.2 b z).trans e,x.2]
   pyHash:=λhu hk h=>lI gt hk.1 h
   eqBool:=λhu hx hy h=>tL hu hx.1 hy.1 (λp hp=>by
    obtain⟨i,hi⟩:=List.mem_iff_getElem?.mp hp;obtain⟨p1,p2⟩:=p;rw[Qd] at hi;rw[hx.2 i p1 hi.1,hy.2 i p2 hi.2]) h
   quiet:=λhk h=>Kl 8 h8 hk.1 h }
 deep:=hk.deep+2
 roomOk:=λh=>h
 nq:=hk.nq+1
 quietN:=λn hn hk h=>Kl n hn hk.1 h
 keepsO:=λx k=>#[x.1.keepsO k,x.2]
 tok:=λ⟨⟨o,_,_,ho,hc,_⟩,_⟩=>#[o,ho,hc]
end
end PySem
namespace SG
open PySem PySem.Spec PyProof.Rows L2 SetTable
variable {a:Addr}{Q:C7}
section
variable {P:Dt}{w:World}{A:Around}{E:C3}{s:Shared}
structure SK (P:Dt) (w:World) (K:Type) [DecidableEq K] where
 d:Uy P w K
 hbN:∀{A:Around} {E:C3} {s:Shared} {k:K} {a:Addr} {Q:C7} (n:Nat),d.nq<=n->d.kd.is s.heap k a->(∀b,Q b s)->wpAny (model P w) A (hashByValue n<|.ref a) Q E s
 stN:∀{A:Around} {E:C3} {s:Shared} {k:K} {a:Addr} {Q:C7} (n:Nat),d.nq<=n->d.kd.is s.heap k a->Q false s->wpAny (model P w) A (ofAClassStatement n<|.ref a) Q E s
 n8:d.nq<=8
theorem sZ {k:List Key} (n:Nat) (hn:1<=n) (hk:IsTupleKey (jM P w) s.heap k a) (h:∀b,Q b s):wpAny (model P w) A (hashByValue n<|.ref a) Q E s:=by
 have hT:=hk.typeIs;obtain⟨o,items,m,ho,_,hd,hi⟩:=hk;obtain⟨n,rfl⟩:∃n',n=n'+1:=#[n - 1,by lia];refine Du<|wpAny_specialOf hT PySem.F.slot_tuple_hash.lookup ?_;refine Du<|wpAny_seqItems ho hd ?_;refine Du ?_;show wpAny _ _ (forIn items _ _) _ _ s;rw[<-QJ];refine wpAny_forIn_list _ (λrest r s'=>r.1=none/\s'=s/\∀v∈rest,v.scannable=true) _ ?_ ?_ _ _ #[rfl,rfl,STb.items_scan hi]
 ·rintro v rest r s' ⟨hr,rfl,DL⟩;rw[hashByValue_scannable _<|DL v yu];cases plainKind v with
  | true =>
   exact Dv #[rfl,rfl,λu EE=>DL u<|yl _ EE]
  | false =>
   first|exact Dv (Dv<|h _)|exact Dv _
 ·rintro⟨r1,r2⟩ s' ⟨hr,rfl,_⟩;subst hr;exact Dv (h _)
theorem tf {k:List Key} (n:Nat) (hn:1<=n) (hk:IsTupleKey (jM P w) s.heap k a) (h:Q false s):wpAny (model P w) A (ofAClassStatement n<|.ref a) Q E s:=by
 have hT:=hk.typeIs;obtain⟨o,items,m,ho,_,hd,hi⟩:=hk;obtain⟨n,rfl⟩:∃n',n=n'+1:=#[n - 1,by lia];unfold ofAClassStatement;refine Du<|wpAny_typeOf hT ?_;refine Du<|Dv ?_;refine Du<|wpAny_seqItems ho hd ?_;refine Du ?_;rw[<-QJ];refine wpAny_forIn_list _ (λrest r s'=>r.1=none/\s'=s/\∀v∈rest,carriedByValue v=true) _ ?_ ?_ _ _ #[rfl,rfl,hi.byValue]
 ·rintro v rest r s' ⟨hr,rfl,DL⟩;rw[STb.stmt_val _<|DL v yu];exact Dv #[rfl,rfl,λu EE=>DL u<|yl _ EE]
 ·rintro⟨r1,r2⟩ s' ⟨hr,rfl,_⟩;subst hr;exact Dv h
def zk (P:Dt) (w:World):SK P w (List Key):=#[pV<|jM P w,λn hn hk h=>sZ n hn hk h,λn hn hk h=>tf n hn hk h,(by decide:1<=8)]
section
variable {K':Type} [DecidableEq K'] (hk:SK P w K')
theorem Vm {k:Key}{v:Value} (h:Ui k v=true):v.scannable=true/\carriedByValue v=true:=by
 rcases JB h with ⟨i,t,_,rfl⟩|⟨x,t,_,rfl⟩<;>exact#[rfl,rfl]
theorem mI {h:Heap}{ks:List (Key ⊕ K')}{vs:Dh} (x:JQ (jM P w) hk.d h ks vs):∀v∈vs,∃k,U7 (jM P w) hk.d h k v:=by
 induction x with
 | nil=>intro v hv;cases hv
 | cons h1 _ ih =>
  intro v hv;rcases yD.mp hv with rfl|hv
  ·exact#[_,h1]
  ·exact ih v hv
theorem tM {ks:List (Key ⊕ K')} (n:Nat) (hn:hk.d.nq+1<=n) (x:uw (jM P w) hk.d s.heap ks a) (h:∀b,Q b s):wpAny (model P w) A (hashByValue n<|.ref a) Q E s:=by
 have hT:=x.typeIs;obtain⟨o,items,m,ho,_,hd,hi⟩:=x;obtain⟨n,rfl⟩:∃n',n=n'+1:=#[n - 1,by lia];refine Du<|wpAny_specialOf hT PySem.F.slot_tuple_hash.lookup ?_;refine Du<|wpAny_seqItems ho hd ?_;refine Du ?_;rw[<-QJ];refine wpAny_forIn_list _ (λrest r s'=>r.1=none/\s'=s/\∀v∈rest,∃k,U7 _ hk.d s.heap k v) _ ?_ ?_ _ _ #[rfl,rfl,mI hk hi]
 ·rintro v rest r s' ⟨hr,rfl,DL⟩;obtain⟨k,hc⟩:=DL v yu;have key:∀{Qb:C7},(∀b,Qb b s')->wpAny _ A (hashByValue n v) Qb E s':=λ{Qb} q=>by
   cases k with
   | inl k=>rw[hashByValue_scannable _ (Vm hc).1];exact Dv (q _)
   | inr k=>obtain⟨b,rfl,hc⟩:=hc;exact hk.hbN n gt hc q
  refine Du (key λb=>?_);cases b with
  | true =>
   exact Dv #[rfl,rfl,λu EE=>DL u<|yl _ EE]
  | false =>
   first|exact Dv (Dv<|h _)|exact Dv _
 ·rintro⟨r1,r2⟩ s' ⟨hr,rfl,_⟩;subst hr;exact Dv (h _)
theorem tN {ks:List (Key ⊕ K')} (n:Nat) (hn:hk.d.nq+1<=n) (x:uw (jM P w) hk.d s.heap ks a) (h:Q false s):wpAny (model P w) A (ofAClassStatement n<|.ref a) Q E s:=by
 have hT:=x.typeIs;obtain⟨o,items,m,ho,_,hd,hi⟩:=x;obtain⟨n,rfl⟩:∃n',n=n'+1:=#[n - 1,by lia];unfold ofAClassStatement;refine Du<|wpAny_typeOf hT ?_;refine Du<|Dv ?_;refine Du<|wpAny_seqItems ho hd ?_;refine Du ?_;rw[<-QJ];refine wpAny_forIn_list _ (λrest r s'=>r.1=none/\s'=s/\∀v∈rest,∃k,U7 _ hk.d s.heap k v) _ ?_ ?_ _ _ #[rfl,rfl,mI hk hi]
 ·rintro v rest r s' ⟨hr,rfl,DL⟩;obtain⟨k,hc⟩:=DL v yu;have key:∀{Qb:C7},Qb false s'->wpAny _ A (ofAClassStatement n v) Qb E s':=λ{Qb} q=>by
   cases k with
   | inl k=>rw[STb.stmt_val _ (Vm hc).2];exact Dv q
   | inr k=>obtain⟨b,rfl,hc⟩:=hc;exact hk.stN n gt hc q
  refine Du<|key ?_;exact Dv #[rfl,rfl,λu EE=>DL u<|yl _ EE]
 ·rintro⟨r1,r2⟩ s' ⟨hr,rfl,_⟩;subst hr;exact Dv h
def Kk (sh:Nat->Bool) (h8:hk.d.nq+1<=8):SK P w (List<|Key ⊕ K'):=#[qp (jM P w) hk.d sh h8,λn hn x h=>tM hk n hn x.1 h,λn hn x h=>tN hk n hn x.1 h,h8]
end
end
end SG
namespace SG
open PySem PySem.Spec PyProof.Rows L2 SetTable STb
variable {h h':Heap}{a b S:Addr}{Q:C3}{o:Obj}{es:Dk}{ep n i:Nat}{adr:Nat->Addr}{led:Bool}{w:World}{s:Shared}
def bY (h h':Heap):Prop:=∀b o,h.get? b=some o->h'.get? b=some o
section
variable {P:Dt}{w:World}{A:Around}{E:C3}{s:Shared}{K:Type} [DecidableEq K] {kk:SK P w K} {h0:Heap}
theorem SK.ext {k:K} (x:kk.d.kd.is h k a) (e:bY h h'):kk.d.kd.is h' k a:=kk.d.keepsO x λb o _ _ q _ _=>e b o q
theorem Aj {k:K}{stored:Dh}{Q:C7} (hk:kk.d.kd.is s.heap k a) (DX:∀v∈stored,∃k' b,v=.ref b/\kk.d.kd.is s.heap k' b) (h:Q false s):wpAny (model P w) A (searchCouldBeSeen (.ref a) stored) Q E s:=by
 refine Du ?_;refine wpAny_forIn_list _ (λrest r s'=>s'=s/\r.1=none/\∀v∈rest,∃k' b,v=.ref b/\kk.d.kd.is s.heap k' b) _ ?_ ?_ _ _ #[rfl,rfl,DX]
 ·rintro x rest r s' ⟨rfl,hr,DL⟩;obtain⟨k',b,rfl,hb⟩:=DL x yu;have HH:=λv hv=>DL v<|yl _ hv;dsimp only;split
  ·exact Dv #[rfl,rfl,HH]
  ·refine Du<|kk.d.kd.quiet hk ?_;refine Du<|kk.d.kd.quiet hb ?_;refine Du<|kk.stN 8 kk.n8 hk ?_;refine Du<|kk.stN 8 kk.n8 hb ?_;exact Dv #[rfl,rfl,HH]
 ·rintro⟨r1,r2⟩ s' ⟨rfl,hr,_⟩;subst hr;exact Dv h
structure mz {P:Dt}{w:World}{K:Type} [DecidableEq K] (kk:SK P w K) (h0 h:Heap) (a:Addr) (o:Obj) (es:Dk) (ep:Nat) (t:SetTable) (xs:List (K×Addr)):Prop where
 get:h.get? a=some o
 ex:o.ExactSet
 data:o.data=.set es ep t
 ent:es.toList=xs.map λx=>(kk.d.kd.hash x.1,Value.ref x.2)
 tb:Tbl t (hsOf es) es.size
 msk:7<=t.mask/\t.mask<=9000
 load:es.size*5<t.mask*3
 is:∀x∈xs,kk.d.kd.is h0 x.1 x.2
 ext:bY h0 h
 na:h0.get? a=none
 nd:(xs.map (·.1)).Nodup
theorem mz.at {t:SetTable}{xs:List (K×Addr)} (I:mz kk h0 h a o es ep t xs) (i:Nat):es[i]?=(xs[i]?).map λx=>(kk.d.kd.hash x.1,Value.ref x.2):=by
 rw[<-Qa,I.ent,ye]
theorem mz.isH {t:SetTable}{xs:List (K×Addr)} (I:mz kk h0 h a o es ep t xs) {x:K×Addr} (hx:x∈xs):kk.d.kd.is h x.1 x.2:=SK.ext (I.is x hx) I.ext
theorem Tk{c:Prop}[Decidable c]{α:Type}{m:Sem Bool}{u r:Sem α}{Q:α->Shared->Prop}(h:∀{R:Bool->Shared->Prop},R false s->wpAny (model P w) A m R E s)(k:wpAny (model P w) A r Q E s):wpAny (model P w) A (if c then m>>=λb=>if b=true then u else r else r) Q E s:=by
 split
 ·exact Du (h k)
 ·exact k
theorem GE {t:SetTable}{xs:List (K×Addr)}{k:K}{Q:SetFound->Shared->Prop} (hu:A.units+kk.d.deep<cLine) (I:mz kk h0 s.heap a o es ep t xs) (hk:kk.d.kd.is s.heap k b)
  (q1:k∈xs.map (·.1)->Q (.there none) s) (q2:k ∉ xs.map (·.1)->∀n,¬Uw t.place (j6 t.mask (kk.d.kd.hash k) n).j->(∀m',m'<n->Uw t.place (j6 t.mask (kk.d.kd.hash k) m').j)->Q (.free (j6 t.mask (kk.d.kd.hash k) n).j false) s) :
  ∀(fuel m:Nat) (stand:Option Probe),10*turns t.mask - m<fuel->stand.getD (t.probeStart<|kk.d.kd.hash k)=j6 t.mask (kk.d.kd.hash k) m ->
   (∀m',m'<m->Uw t.place (j6 t.mask (kk.d.kd.hash k) m').j/\∀i,At t.place i (j6 t.mask (kk.d.kd.hash k) m').j->∀x,xs[i]?=some x->x.1≠k) ->
   wpAny (model P w) A (setSearchFrom a (.ref b) (kk.d.kd.hash k) true fuel stand) Q E s
 | 0,m,stand,hf,_,_=>absurd hf (by omega)
 | fuel+1,m,stand,hf,DX,ahead=>by
  have T:=I.tb;obtain⟨m2,g1,g2,g3,g4⟩:=T.probe _ λm' h=>(ahead m' h).1;refine Du<|wpAny_setState_of I.get I.data T.fits ?_;dsimp only;rw[T.odd (.inr (by have:=I.msk.1;lia))];simp only[Bool.false_eq_true,if_false];rw[DX];have Iu:es.size=xs.length:=by rw[<-yN,I.ent,ya]
  have X8:∀i x,xs[i]?=some x->hsOf es i=kk.d.kd.hash _:=λi x hx=>by unfold hsOf;rw[I.at,hx];rfl
  rcases g4 with ⟨ne,e⟩|⟨i,ha,hh,e⟩
  ·split
   ·rename_i met heq;have FJ:t.probe (hsOf es) _ _=some met:=heq;rw[e] at FJ;cases FJ;refine Dv (q2 (λEm=>?_) m2 ne λm' Fl=>?_)
    ·obtain⟨x,hx,rfl⟩:=yi.mp Em;obtain⟨i0,X9,ei0⟩:=yH hx;have ex:xs[i0]?=some x:=by grind
     have LW:At t.place i0 _:=#[by rw[T.size,Iu];exact X9,rfl];obtain⟨m0,r1,r2⟩:=T.reach i0 _ LW;rw[X8 i0 x ex] at r1 r2;rw[<-r1] at LW;have h0:m0<m2:=by
      rcases QM m0 m2 with h|h|h
      ·exact h
      ·exact absurd #[i0,h▸LW] ne
      ·exact absurd (r2 m2 h) ne
     by_cases h1:m0<m
     ·grind
     ·grind
    ·grind
   ·rename_i heq;exact absurd e (heq _)
  ·have hi:i<xs.length:=by rw[<-Iu,<-T.size];exact ha.1
   have ex:=yb hi;generalize xs[i]=x at ex;have hx:=yh ex;have OW:es[i]?=some (kk.d.kd.hash x.1,Value.ref x.2):=by rw[I.at,ex];rfl
   have DX:∀v∈abM (λx=>x.snd) (Array.filter (λx=>x.fst==kk.d.kd.hash k) es).toList,∃k' b,v=.ref b/\kk.d.kd.is s.heap k' b:=λv hv=>by
    obtain⟨y,hy,rfl⟩:=yi.mp hv;have Tu:y∈es.toList:=by
     grind
    rw[I.ent] at Tu;obtain⟨z,hz,rfl⟩:=yi.mp Tu;exact#[_,_,rfl,I.isH hz]
   split
   ·rename_i met heq;have FJ:t.probe (hsOf es) _ _=some met:=heq;rw[e] at FJ;cases FJ;dsimp only;refine Tk (Aj hk DX) ?_;rw[OW];refine Du<|wpAny_holding<|kk.d.kd.eqBool (kk.d.roomOk hu) (I.isH hx) hk ?_;refine Du<|wpAny_setState_of I.get I.data T.fits ?_;by_cases OX:x.1=k
    ·rw[decide_eq_true OX,if_pos (show (true&&true)=true from rfl)];exact Dv (q1<|yi.mpr #[x,hx,OX])
    ·rw[decide_eq_false OX,if_neg ac];have j₁:t.sameMemory t.moves t.mask=some true:=by unfold SetTable.sameMemory;rw[if_pos<|beq_self_eq_true _]
     rw[j₁];dsimp only;rw[if_pos rfl,zx T.ris ha];dsimp only;rw[OW];refine Du<|wpAny_isSame_ref_self ?_;refine Du<|Dv ?_;rw[if_pos rfl];refine GE hu I hk q1 q2 fuel _ _ gt rfl λm' Fl=>?_;by_cases h1:m'<m
     ·exact ahead m' h1
     ·by_cases h2:m'<m2
      ·grind
      ·obtain rfl:m'=m2:=by lia
       refine#[#[i,ha],λi' Ir x' Fj z=>?_];rw[Ir.uniq T.ris ha,ex] at Fj;cases Fj;exact OX z
   ·rename_i heq;exact absurd e (heq _)
theorem sQ {t:SetTable}{xs:List (K×Addr)}{k:K}{Q:C7} (hu:A.units+kk.d.deep<cLine) (I:mz kk h0 s.heap a o es ep t xs) (Tv:kk.d.kd.is h0 k b) (hn:xs.length<=990)
  (q1:k∈xs.map (·.1)->Q false s) (q2:k ∉ xs.map (·.1)->∀h' o' Ee Et t' EB,mz kk h0 h' a o' Ee Et t' EB->EB.Perm ((k,b)::xs)->Heap.SameBut a s.heap h'->t'.led=t.led->Q true { s with heap:=h' }) :
  wpAny (model P w) A (setAddHashed a (.ref b)<|kk.d.kd.hash k) Q E s:=by
 have hk:=SK.ext Tv I.ext;have Iu:es.size=xs.length:=by rw[<-yN,I.ent,ya]
 refine wpAny_holding<|Du<|wpAny_setState_of I.get I.data I.tb.fits ?_;dsimp only;rw[show byScan _ es=false from rfl];refine Du (GE hu I hk (λEm=>?_) (λF4 n ne ahead=>?_) 100000 0 none (by have:=I.msk.2;unfold turns;lia) rfl (λm' h=>absurd h<|QC _))
 ·exact Dv (q1 Em)
 ·refine Du<|wpAny_setState_of I.get I.data I.tb.fits ?_;have hload:=I.load;have Ro:=I.msk;obtain⟨T1,hp,FE⟩:=I.tb.put gt ne ahead;have DJ:(t.put (j6 t.mask (kk.d.kd.hash k) n).j).1.led=t.led:=rfl;have j₂:(t.put (j6 t.mask (kk.d.kd.hash k) n).j).1.plain=t.plain:=rfl;generalize (t.put _).1=t1 at T1 FE DJ j₂ ⊢;generalize (t.put _).2=p at T1 hp ⊢;have Hm:(insertAt es p (kk.d.kd.hash k,Value.ref b)).toList=(xs.take p++(k,b)::xs.drop p).map λx=>(kk.d.kd.hash x.1,Value.ref x.2):=by
   rw[zA es hp,I.ent,yd,Ql,aaX,aaY]
  have EM:(xs.take p++(k,b)::xs.drop p).Perm ((k,b)::xs):=by
   refine List.perm_middle.trans ?_;rw[Qm]
  have GH:(insertAt es p (kk.d.kd.hash k,Value.ref b)).size=es.size+1:=Ue es hp _;generalize insertAt es p _=DW at T1 Hm GH ⊢;generalize xs.take p++(k,b)::xs.drop p=F5 at Hm EM;have tail:∀t2:SetTable,Tbl t2 _ DW.size->t2.mask=t.mask->t2.led=t.led->wpAny (model P w) A (do
    storeSet a DW t2
    if (!false&&t2.tooFull)=true then do
      setRelay a (grown<|es.size+1)
      pure true
     else pure true) Q E s:=λt2 T2 m2 l2=>by
   refine Du (wpAny_storeSet_of I.get I.data ?_ (by exact yk (show _<=1000 by lia) ac));have g1:=zy I.get I.data DW t2;have EN:=Heap.SameBut.update s.heap a<|Obj.putSet DW t2;have Ob:∀x∈F5,kk.d.kd.is h0 x.1 x.2:=λx hx=>by
    rcases yD.mp (EM.mem_iff.mp hx) with rfl|hx
    ·exact Tv
    ·exact I.is x hx
   have Iv:bY h0 _:=λb o e=>by
    rw[EN.2 b (λz=>by rw[z,I.na] at e;cases e)];exact I.ext b o e
   have Iw:=((EM.map _).nodup_iff).mpr<|yO.mpr #[F4,I.nd];generalize s.heap.update a _=h1 at g1 EN Iv ⊢;cases hf:t2.tooFull with
   | false =>
    refine Dv (q2 F4 h1 _ DW _ t2 F5 #[g1,I.ex,rfl,Hm,T2,by rw[m2];exact Ro,?_,Ob,Iv,I.na,Iw] EM EN l2);unfold SetTable.tooFull SetTable.fill at hf;rw[T2.size,T2.dm] at hf;have:=of_decide_eq_false hf
    lia
   | true =>
    obtain⟨t3,order,e3,HI,HJ,T3,k7,k9,k4,l3,ks,p3⟩:=aH (es:=DW) gt gt;refine Du<|Du<|wpAny_setState_of g1 rfl T2.fits ?_;dsimp only;rw[GH] at e3 ks;rw[if_neg (by have:(9000)<=sizeLine:=ac;lia),e3];refine Du (wpAny_of_eq (show _=pure (order.filterMap (λk:Nat=>DW[k]?),t3) from ?_) ?_)
    ·show (if ((order.filterMap _).size != DW.size)=true then _ else pure _)=_;rw[if_neg (by rw[HJ];simp)]
    obtain⟨J',px,J₁⟩:=perm_map HI F5 Hm;refine wpAny_storeSet_of g1 rfl (Dv ?_) (by rw[HJ,GH];exact yk (show _<=1000 by lia) ac);have Tw:=Heap.SameBut.update h1 a (Obj.putSet (order.filterMap (λk:Nat=>DW[k]?)) t3);refine q2 F4 _ _ _ _ t3 J' #[zy g1 rfl _ t3,I.ex,rfl,J₁,T3,#[k7,k9],by rw[HJ];lia,λx hx=>Ob x<|px.mem_iff.mp hx,λb o e=>by rw[Tw.2 b (λz=>by rw[z,I.na] at e;cases e)];exact Iv b o e,I.na,((px.map _).nodup_iff).mpr Iw] (px.trans EM) (EN.trans Tw) (l3.trans l2)
  split
  ·refine Du (kk.hbN 8 kk.n8 hk λbv=>?_);cases bv with
   | true=>exact tail t1 T1 FE DJ
   | false=>exact tail _ #[T1.size,T1.ris,T1.le,T1.dm,T1.pw,T1.room,T1.reach] FE DJ
  ·exact tail t1 T1 FE DJ
def Mt {K:Type} [DecidableEq K] (kk:SK P w K) (h0:Heap) (S:Addr) (n:Nat) (val:Nat->K) (adr:Nat->Addr) (led:Bool) (i:Nat) (h:Heap):Prop :=
 ∃o es ep t xs,mz kk h0 h S o es ep t xs/\t.led=led/\xs.length<=i/\(∀x∈xs,∃j,j<n/\x.2=adr j)/\∀k,k∈xs.map (·.1)↔∃j,j<i/\val j=k
theorem Mt.keep {val:Nat->K} (m:Mt kk h0 S n val adr led i h) (hS:∀o,h.get? S=some o->h'.get? S=some o) (he:bY h0 h'):Mt kk h0 S n val adr led i h':=by
 obtain⟨o,es,ep,t,xs,I,l1,l2,l3,l4⟩:=m;exact#[o,es,ep,t,xs,#[hS _ I.get,I.ex,I.data,I.ent,I.tb,I.msk,I.load,I.is,he,I.na,I.nd],l1,l2,l3,l4]
variable {A:Around}{R:Result->Shared->Prop}{It:Addr}{fp wr:Di}{G:Array GenState->Array GenState->Prop}{n:Nat}{Pr:Nat->Value->Prop}{St:Nat->Shared->Prop}
theorem NP (W:WalksS P w A.in1 It fp wr G n Pr St) (hu:A.in1.units+kk.d.deep<cLine) (S:Addr) (Hn:S ∉ fp) (val:Nat->K) (adr:Nat->Addr) (led:Bool) (FK:∀i v,Pr i v->v=.ref (adr i)) (hb:n<=990) (hw:∀b∈S::wr,h0.get? b=none) (ks:∀j,j<n->kk.d.kd.is h0 (val j) (adr j)) :
  ∀(d i:Nat) (s:Shared),n - i=d->i<=n->St i s->bY h0 s.heap->Mt kk h0 S n val adr led i s.heap->(∀s',Moved (S::wr) G s s'->Mt kk h0 S n val adr led n s'.heap->R (.ok<|.ret .none) s') ->
   codeAny (model P w) A (.builtin "set.update.loop" #[[.ref S,.ref It],[]]) R s
 | 0,i,s,hd,hi,st,ex,m,hR=>by
  obtain rfl:i=n:=by lia
  refine codeAny_builtin Yt ?_;rw[Around.under_plainId Yo _];refine Du (W.done s _ _ st λs' mv=>Dv (hR s' (mv.mono λb hb=>yl _ hb) ?_));exact m.keep (λo e=>mv.heap S o (λz=>Hn<|W.sub _ z) e) λb o e=>mv.heap b o (λz=>by simp_all) (ex b o e)
 | d+1,i,s,hd,hi,st,ex,m,hR=>by
  have DA:i<n:=by lia
  refine codeAny_builtin Yt ?_;refine Du (W.item i s _ _ DA st λv s' hP D7 mv=>?_);obtain rfl:=FK i v hP;have OL:=λb o e=>mv.heap b o (λz=>by rw[hw b<|yl _ z] at e;cases e)<|ex b o e;obtain⟨o,es,ep,t,xs,I,l1,l2,l3,l4⟩:=m.keep (λo e=>mv.heap S o (λz=>Hn<|W.sub _ z) e) OL;have Rp:∀b∈wr,b∈S::wr:=λb hb=>yl _ hb;refine Du<|wpAny_holding ?_;refine wpAny_holding<|Du<|kk.d.kd.pyHash (kk.d.roomOk hu) (SK.ext (ks i DA) OL) ?_;have go:∀h':Heap,Heap.SameBut S s'.heap h'->Mt kk h0 S n val adr led _ h'->codeAny _ A _ R { s' with heap:=h',toks:=s'.toks+kk.d.kd.draws (val i) }:=λh' sb m'=>by
   refine NP W hu S Hn val adr led FK hb hw ks d _ _ gt DA (W.frame _ s' _ _ D7 (aan _ _) λb hb o e=>?_) (λb o e=>?_) m' λs2 Rq m2=>hR s2 (Moved.trans W.gtrans ((mv.mono Rp).then_heap (aan _ _) λb o hb e=>?_) Rq) m2
   ·rw[sb.2 b (λz:b=S=>Hn (by rw[<-z];exact hb))];exact e
   ·rw[sb.2 b (λz=>by rw[hw b (by rw[z];exact yu)] at e;cases e)];exact OL b o e
   ·rw[sb.2 b (λz:b=S=>hb (by rw[z];exact yu))];exact e
  refine sQ hu I (ks i DA) gt (λEm=>?_) (λF4 h' o' Ee Et t' EB I' pm sb hl=>?_)
  ·refine Dv #[plainId_quiet Yo _,go s'.heap (Heap.SameBut.refl S s'.heap) #[o,es,ep,t,xs,I,l1,by lia,l3,λk=>?_]];rw[l4 k];constructor
   ·rintro⟨j,h1,h2⟩;exact#[j,by lia,h2]
   ·grind
  ·refine Dv #[plainId_quiet Yo _,go h' sb #[o',Ee,Et,t',EB,I',hl.trans l1,?_,λx hx=>?_,λk=>?_]]
   ·rw[pm.length_eq,Qe];lia
   ·grind
   ·grind
end
section
variable {P:Dt}{w:World}{A:Around}{E:C3}{s:Shared}{K:Type} [DecidableEq K] {kk:SK P w K} {h0:Heap}
theorem xI {S:Nat}{val:Nat->K} (e:h.get? S=some (UP led)) (he:bY h0 h) (na:h0.get? S=none):Mt kk h0 S n val adr led 0 h:=by
 refine#[_,_,0,_,[],#[e,#[rfl,rfl,rfl],rfl,rfl,#[rfl,λi k _ hk=>absurd hk (by simp [SetTable.fresh]),λj hj=>?_,rfl,#[3,rfl],by show 0<=7;lia,λi j a=>?_],by show 7<=7/\7<=9000;lia,by show 0*5<7*3;lia,(λx hx=>by cases hx),he,na,yZ],rfl,yj _,(λx hx=>by cases hx),λk=>#[(λh=>by cases h),(λ⟨j,h,_⟩=>by lia)]]
 ·obtain⟨i,hi,_⟩:=hj;exact absurd hi (by simp [SetTable.fresh])
 ·exact absurd a.1 (by simp [SetTable.fresh])
theorem My {l:Addr}{items:Do}{val:Nat->K} (hh:A.handled=none) (hu:A.units+8+kk.d.deep<cLine) (hl:s.heap.IsList l items) (hit:∀(i:Nat) v,items[i]?=some v->v=.ref (adr i)) (J₂:∀j,j<items.size->kk.d.kd.is s.heap (val j) (adr j)) (hb:items.size<=990)
  (h:∀(h':Heap) (tok:Nat) (led:Bool),led=(!w.params.followText "set-order")->Mt kk s.heap s.heap.objs.size items.size val adr led items.size h'->(∀b o,b<s.heap.objs.size->s.heap.get? b=some o->h'.get? b=some o)->s.heap.objs.size<h'.objs.size->Q (.ref s.heap.objs.size) { s with heap:=h',toks:=tok }) :
  wpAny (model P w) A (call (.type "set") [.ref l]) Q E s:=by
 obtain⟨c,tl,hm⟩:=PySem.F.called_set.mro;have u₁:=PySem.F.called_set.made;have u₂:=PySem.F.called_set.sub;refine wpAny_call<|codeAny_of_tree ?_;show wpAny _ _ (callAny (.type "set") _) _ _ _;refine Dv #[Code.quiet_builtin _ (by decide +kernel),codeAny_builtin aaQ ?_];rw[Around.under_plain (weight_type_call_type "set" [.ref l] []) rfl];have g1:=PySem.F.called_set.notType;have g2:=PySem.F.called_set.canCreate;have g3:=aaU (.ref l)
 repeat (any_goals (first|assumption|wp_step))
 refine codeAny_mono (zR (.ref l) (E:=E) (Q₁:=λv s1=>∃led:Bool,led=(!w.params.followText "set-order")/\v=.ref s.heap.objs.size/\s1={ s with heap:=s.heap.push (UP led) }) #[_,rfl,rfl,rfl]) λr s1 hr=>?_;cases r with
 | error e=>exact hr
 | ok f1 =>
  cases f1 with
  | ret v =>
   obtain⟨led,EO,rfl,rfl⟩:=hr;have e1:(s.heap.push<|UP led).get? s.heap.objs.size=some (UP led):=yt _ rfl;have ty:Shared.TypeIs { s with heap:=s.heap.push (UP led) } (.ref s.heap.objs.size) "set":=#[_,e1,rfl];have g4:=PySem.F.called_set.init.lookup;have g5:=PySem.F.called_set.init.bind (.ref s.heap.objs.size)
   repeat (any_goals (first|assumption|wp_step))
   refine codeAny_mono (codeAny_call_builtin (R:=wants (λr s2=>r=.none/\∃h' tok,s2={ s with heap:=h',toks:=tok }/\Mt kk s.heap s.heap.objs.size items.size val adr led items.size h'/\(∀b o,b<s.heap.objs.size->s.heap.get? b=some o->h'.get? b=some o)) E) PySem.F.called_set.init.plain F.entry_set_init<|check_set_init_1 ty ?_) λr2 s2 Ho=>?_
   ·obtain⟨ol,Hf,Iq,nl,Hg⟩:=hl;obtain⟨o1,o2,o3,o4⟩:=ol;simp only at Iq Hg;subst Iq;subst Hg;have Iy:(s.heap.push<|UP led).get? l=some { cls:=.type "list",dict:=o2,data:=.seq items nl,slots:=o4 }:=yf _ Hf;have g6:=aa1;have g7:=aaH;have g8:(Value.type "list"==Value.type "dict")=false:=by decide
    have Hq:(s.heap.push<|UP led).IsList l items:=#[_,Iy,rfl,nl,rfl];unfold Builtin.«set.__init__» noKeywords Builtin.Frozenset.updateFrom;generalize Rr:pyIter=PI
    wp_walk
    subst Rr;refine wpAny_pyIter_list Hq<|Du<|wpAny_runValue ?_;have Oc:l<s.heap.objs.size:=yo Hf;have El:(s.heap.push<|UP led).objs.size=s.heap.objs.size+1:=Qu ..;refine NP ((Walks.list (by simp [hh]) _ l (by rw[El];exact yE<|QA Oc) items).toS) ?hu s.heap.objs.size ?hS val adr led hit hb ?hA J₂ (items.size - 0) 0 _ gt (yP _) #[#[_,yt _ rfl,rfl,rfl],(Hq.push _)] (λb o e=>yf _<|yf _ e) (xI (yf _ e1) (λb o e=>yf _<|yf _ e)<|Qi<|yj _) ?hR
    case hu=>show A.units+1+1+1+kk.d.deep<cLine;lia
    case hS=>rw[El];simp only[yD,yS,or_false,not_or];exact#[yE<|Y2 _,Qq Oc]
    case hA =>
     intro b hb;rcases yD.mp hb with rfl|hb
     ·exact Qi (yj _)
     ·rw[yp.mp hb,El];exact Qi (abh _)
    case hR =>
     intro s' mv m';obtain⟨h',g',d',Rt,Ld⟩:=s';have eg:g'=s.gens:=mv.gens;have ed:d'=s.drawn:=mv.drawn;have eo:Ld=s.os:=mv.os;subst eg;subst ed;subst eo;refine Dv (Dv #[rfl,h',Rt,rfl,m',λb o hb e=>?_]);refine mv.heap b o ?_<|yf _<|yf _ e;rw[El];simp only[yD,yS,or_false,not_or];exact#[yE hb,yE<|QA hb]
   ·cases r2 with
    | error e=>exact Ho
    | ok f2 =>
     cases f2 with
     | ret r =>
      obtain⟨rfl,h',tok,rfl,m',keep⟩:=Ho
      repeat (any_goals (first|assumption|wp_step))
      have m2:=m';obtain⟨o',_,_,_,_,I',_⟩:=m2;exact h h' tok led EO m' keep (yo I'.get)
     | _=>exact Ho.elim
  | _=>exact hr.elim
end
def Wk (w:World) (h:Heap) (S:Addr) (es:Dk) (ep:Nat) (t:SetTable):Prop :=
 ∃o,h.get? S=some o/\o.ExactSet/\o.data=.set es ep t/\t.fits es.size=true/\U8 t.place/\t.place.size=es.size/\t.led=(!w.params.followText "set-order")/\(w.params.followText "set-order"=false->(!t.plain&&decide (es.size > 1))=false)
theorem Wk.keep {t:SetTable} (x:Wk w h S es ep t) (k:∀o,h.get? S=some o->h'.get? S=some o):Wk w h' S es ep t:=by
 obtain⟨o,e,r⟩:=x;exact#[o,k _ e,r]
theorem Wk.typeIs {t:SetTable} (x:Wk w s.heap S es ep t):s.TypeIs (.ref S) "set":=by
 obtain⟨o,e,c,_⟩:=x;exact#[o,e,c.1]
def Wi (w:World) (h:Heap) (it S i n ep:Nat) (t:SetTable):Prop :=
 ∃o slot,h.get? it=some o/\o.cls=.type "set_iterator"/\o.data=.fields (Yb [.int (slot:Nat) 0,.int (i:Nat) 0,.ref S,.int (n:Nat) 0,.int (ep:Nat) 0])/\(w.params.followText "set-order"=false->below t.place slot=i)
theorem Wi.typeIs {it S:Nat}{t:SetTable} (x:Wi w s.heap it S i n ep t):s.TypeIs (.ref it) "set_iterator":=by
 obtain⟨o,slot,e,c,_⟩:=x;exact#[o,e,c]
section
variable {prog:Dt}{w:World}{A:Around}{E:C3}{s:Shared}{S t it:Addr}{es:Dk}{ep i:Nat}{tb:SetTable}
theorem wp_byText {Q:C7} (q:Q (w.params.followText "set-order") s):wpAny '$' A setsByText Q E s:=by
 exact Du (wpAny_askSetting<|Dv q)
theorem rz {Q:C7} (x:Wk w s.heap S es ep tb) (q:Q false s):wpAny '$' A (setDrawn S) Q E s:=by
 obtain⟨o,e,_,d,f,_,_,_,p⟩:=x;refine Du<|wpAny_setState_of e d f<|Du<|wp_byText<|Dv ?_;have:(!w.params.followText "set-order"&&(!tb.plain&&decide (es.size > 1)))=false:=by
  grind
 exact this.symm▸q
theorem rA {Q:Nat->Shared->Prop} (x:Wk w s.heap S es ep tb) (q:Q ep s):wpAny '$' A (setEpoch S) Q E s:=by
 obtain⟨o,e,_,d,f,_⟩:=x;exact Du (wpAny_setState_of e d f<|Dv q)
theorem ZG {Q:Array (Int×Value)->Shared->Prop} (x:Wk w s.heap S es ep tb) (q:Q es s):wpAny '$' A (setEntries S) Q E s:=by
 obtain⟨o,e,_,d,f,_⟩:=x;exact wpAny_setEntries_of e d f q
theorem qh (x:Wk w s.heap S es ep tb)
  (q:Q (.ref s.heap.objs.size) { s with heap:=s.heap.push { cls:=.type "set_iterator",data:=.fields (Yb [.int (0:Nat) 0,.int (0:Nat) 0,.ref S,.int es.size 0,.int ep 0]) } }):wpAny '$' A (pyIter<|.ref S) Q E s:=by
 have ty:=x.typeIs;refine wpAny_pyIter_slot ty YV<|wpAny_call_entry YV ty zT ?_<|aaS _;refine Du (m:=Builtin.Frozenset.sizeOf S)<|Du<|ZG x<|Dv ?_;refine Du<|rz x ?_;refine Du<|Dv<|Du<|rA x ?_;exact Du (wpAny_newObj_type<|Dv #[_,rfl,"set_iterator",_,#[_,yt _ rfl,rfl],jQ.lookup,q])
theorem NZ {Q:Option (Value×Nat)->Shared->Prop}{slot:Nat} (x:Wk w s.heap S es ep tb) (hs:w.params.followText "set-order"=false->below tb.place slot=i)
  (q1:∀hi:i<es.size,∀DT,(w.params.followText "set-order"=false->below tb.place DT=i+1)->Q (some (((U6 w S ep es)[i]'(by rw[V9];exact hi)).2,DT)) s) (q2:es.size<=i->Q none s):wpAny '$' A (setNext S slot i ep) Q E s:=by
 obtain⟨o,e,_,d,f,R,pz,l,p⟩:=x;refine Du<|wpAny_setState_of e d f<|Du<|wp_byText ?_;cases hb:w.params.followText "set-order" with
 | true =>
  rw[if_pos rfl];rw[if_neg on];refine Du ?_;refine Du<|wpAny_setState_of e d f<|Du<|wp_byText ?_;rw[hb,if_pos rfl];refine Du<|wpAny_askSetting<|Dv<|Dv ?_;have eo:U6 w S ep es=pickOrder (w.params.setOrder S ep) es:=by unfold U6;rw[if_pos hb]
  show Q (abb _ (pickOrder (w.params.setOrder S ep) es)[i]?) s;rw[<-eo];rcases y6 i es.size with hi|hi
  ·grind
  ·rw[aao (by rw[V9];exact hi)];exact q2 hi
 | false =>
  rw[if_neg ac];refine wpAny_ite_split (λz=>absurd (show (!tb.plain&&decide _)=true from z) (by rw[p hb];decide)) λ_=>?_;have eo:U6 w S ep es=es:=by unfold U6;rw[if_neg (by rw[hb];decide)]
  refine Du ?_;refine wpAny_ite_split (λz=>absurd (z) (by rw[l,hb];simp)) λ_=>Dv ?_;rw[hs hb];refine Dv ?_;rcases y6 i es.size with hi|hi
  ·have h1:=q1 hi _ λ_=>dz R (by rw[pz];exact hi);have h2:i<tb.place.size:=by rw[pz];exact hi
   rw[show (U6 w S ep es)[i]'(by rw[V9];exact hi)=es[i] by simp only[eo]] at h1;rw[yU hi,yU h2];rw[show tb.place.getD i 0=tb.place[i] by simp [h2]] at h1;exact h1
  ·grind
theorem qr {Q:C8} (k:Wi w s.heap it S i es.size ep tb) (x:Wk w s.heap S es ep tb) (hi:i<es.size)
  (q:∀h',Wi w h' it S (i+1) es.size ep tb->Heap.SameBut it s.heap h'->Q (some ((U6 w S ep es)[i]'(by rw[V9];exact hi)).2) { s with heap:=h' }):wpAny '$' A (pyNext<|.ref it) Q E s:=by
 have ty:=k.typeIs;obtain⟨oi,slot,e,c,dt,hs⟩:=id k;refine Du<|wpAny_attempt<|wpAny_callSpecial?_slot ty jQ<|wpAny_call_entry jQ ty uo ?_<|uf _;refine Du<|wpAny_of_eq rfl<|Du<|wpAny_fieldsOf e dt ?_;refine Du<|ZG x ?_;rw[if_neg on];refine Du (NZ x (by simpa using hs) (λIr DT Tx=>?_) λz=>absurd hi gt);refine Du (wpAny_setField e dt on ?_);have g1:=yY (Obj.mapFields (·.setIfInBounds 0<|rawInt<|DT)) e<|Obj.isFreed_of_fields<|Obj.data_mapFields dt _;have d1:(Obj.mapFields (·.setIfInBounds 0<|rawInt<|DT) oi).data=.fields (Yb [.int (DT) 0,.int (i) 0,.ref S,.int es.size 0,.int ep 0]):=by rw[Obj.data_mapFields dt];simp [rawInt]
 have c1:(Obj.mapFields (·.setIfInBounds 0<|rawInt<|DT) oi).cls=.type "set_iterator":=(Obj.cls_mapFields ..).trans c;have EN:=Heap.SameBut.update s.heap it<|Obj.mapFields (·.setIfInBounds 0<|rawInt<|DT);generalize s.heap.update it _=h1 at g1 EN ⊢;refine Du (wpAny_setField g1 d1 on ?_);have g2:=yY (Obj.mapFields (·.setIfInBounds 1<|rawInt<|(i)+1)) g1<|Obj.isFreed_of_fields<|Obj.data_mapFields d1 _;refine Dv #[_,rfl,Dv (q _ #[_,DT,g2,(Obj.cls_mapFields ..).trans c1,by rw[Obj.data_mapFields d1];simp [rawInt],Tx]<|EN.trans<|Heap.SameBut.update ..)]
theorem qZ {Q:C8} (hh:A.handled=none) (k:Wi w s.heap it S i es.size ep tb) (x:Wk w s.heap S es ep tb) (hi:es.size<=i)
  (q:∀h',Heap.ExtBut it s.heap h'->Q none { s with heap:=h' }):wpAny '$' A (pyNext<|.ref it) Q E s:=by
 have ty:=k.typeIs;obtain⟨oi,slot,e,c,dt,hs⟩:=id k;refine Du<|wpAny_attempt<|wpAny_callSpecial?_slot ty jQ<|wpAny_call_entry jQ ty uo ?_<|uf _;refine Du<|wpAny_of_eq rfl<|Du<|wpAny_fieldsOf e dt ?_;refine Du<|ZG x ?_;rw[if_neg on];refine Du (NZ x (by simpa using hs) (λIr DT Tx=>absurd hi gt) λz=>?_);refine Du (wpAny_setField e dt on ?_);refine Du ?_;refine Du (wpAny_newObj_type (Du (wpAny_of_eq (by rfl) (wpAny_newObj_type ?_ (by size_fits)))) (by size_fits));refine Du<|wpAny_handled ?_;rw[hh];refine Du<|Dv<|wpAny_throw ?_;exact Du (wpAny_isInstance #[_,yt _ rfl,rfl] isSubtype_stop<|Dv<|q _<|((Heap.SameBut.update ..).extBut.push _).push _)
theorem iV (k:Wi w s.heap it S i es.size ep tb) (q:Q (.ref it) s):wpAny '$' A (pyIter<|.ref it) Q E s:=by
 refine wpAny_pyIter_slot k.typeIs uE<|wpAny_call_entry uE k.typeIs U0 ?_<|UL _;exact Dv #[_,rfl,"set_iterator",_,k.typeIs,jQ.lookup,q]
theorem NC {Q:C7} (hT:s.TypeIs (.ref S) "set") (h:Q false s):wpAny '$' A (Builtin.List.listLengthHint<|.ref S) Q E s:=by
 refine Du<|wpAny_specialOf hT PySem.F.slot_set_len.lookup ?_;generalize U':("set.__len__")=id0;subst U';refine Du (wpAny_isInstance (b:=true) hT (by kernel_rfl) ?_);refine Du<|wpAny_typeOf hT ?_;exact Dv h
theorem wG:KdlSrc prog w "set" S S es.size (λi v=>∃hi:i<(U6 w S ep es).size,v=(U6 w S ep es)[i].2) (λh=>Wk w h S es ep tb) where
 type:=λ_ x=>x.typeIs
 there:=λ_ x=>by obtain⟨ob,e,_⟩:=x;exact#[yo e,yo e]
 keep:=λ_ _ x k=>x.keep λo e=>k S (.inl rfl) o e
 notList:=by decide
 notTuple:=by decide
 hint:=λ_ _ _ _ x q=>NC x.typeIs q
 iter:=λA s hh x=>by
  have DA:S<s.heap.objs.size:=by obtain⟨ob,e,_⟩:=x;exact yo e
  have hR:U8 tb.place:=by obtain⟨_,_,_,_,_,R,_⟩:=x;exact R
  refine#[_,λi h=>Wi w h s.heap.objs.size S i es.size ep tb/\Wk w h S es ep tb,λE Q q=>qh x q,?_,#[_,0,yt _ rfl,rfl,rfl,λ_=>dA hR],x.keep λo e=>yf _ e];refine#[λb hb=>by simp at hb;simp [hb],λi h h' st k=>#[?_,st.2.keep λo e=>k S on o e],λi s' Q E hi st q=>?_,λs' Q E st q=>?_,λi s' Q E st q=>iV st.1 q]
  ·obtain⟨ob,slot,e,r⟩:=st.1;exact#[ob,slot,k _ on ob e,r]
  ·refine qr st.1 st.2 hi λh' k' sb=>q _ h' s'.toks #[_,rfl] #[k',st.2.keep λo e=>sb.extBut S o (yE DA) e] λb o hb e=>sb.extBut b o (λz=>hb (by simp [z])) e
  ·refine qZ hh st.1 st.2 (yj _) λh' eb=>q h' s'.toks λb o hb e=>eb b o (λz=>hb (by simp [z])) e
theorem wp (hh:A.handled=none) (x:Wk w s.heap S es ep tb) (hn:es.size<=sizeLine)
  (q:∀h' tk acc c,(∀b o,s.heap.get? b=some o->h'.get? b=some o)->h'.get? s.heap.objs.size=some { cls:=.type "list",dict:=none,data:=.seq acc c,slots:=(Yb []) }->ItemsOf (λi v=>∃hi:i<(U6 w S ep es).size,v=(U6 w S ep es)[i].2) acc es.size->Q (.ref s.heap.objs.size) { s with heap:=h',toks:=tk }) :
  wpAny '$' A (runValue<|.builtin "proto.collect" #[[.ref S],[]]) Q E s:=by
 have DA:S<s.heap.objs.size:=by obtain⟨ob,e,_⟩:=x;exact yo e
 have ne:=Qq DA;refine wpAny_runValue<|codeAny_builtin F.entry_proto_collect ?_;refine Du<|wpAny_newObj_type<|Dv #[plainId_quiet F.plain_list_iadd _,codeAny_builtin F.entry_list_iadd ?_];rw[Around.under_plainId F.plain_list_iadd _];have x2:Wk w (s.heap.push { cls:=.type "list",data:=.seq ([]).toArray }) S es ep tb:=x.keep λo e=>yf _ e;exact kdl_extend (R:=λr s'=>match r with|.ok (.ret v)=>Q v s'|.ok _=>False|.error e=>E e s') (wG) hh x2 _ ne ne _ 0 (yt _ rfl)
  (λh' tk acc c kp e items=>q h' tk acc c (λb o hb=>kp b o (yE<|yo hb)<|yf _ hb) e items) hn
theorem collect_set {Q:List Value->Shared->Prop} (hh:A.handled=none) (x:Wk w s.heap S es ep tb) (hn:es.size<=sizeLine)
  (q:∀h' tk,(∀b o,s.heap.get? b=some o->h'.get? b=some o)->s.heap.objs.size<h'.objs.size->Q ((U6 w S ep es).toList.map (·.2)) { s with heap:=h',toks:=tk }):wpAny '$' A (collect<|.ref S) Q E s:=by
 refine Du (wp hh x hn λh' tk acc c kp e items=>?_);refine Du<|wpAny_load e<|Dv ?_;have oz:=V9 w S ep es;generalize U6 w S ep es=os at items oz q;have ea:acc.toList=os.toList.map (·.2):=by
  apply QL
  intro k;rw[ye,Qa,Qa];rcases y6 k os.size with hk|hk
  ·have h1:k<acc.size:=by rw[items.1,<-oz];exact hk
   rw[getElem?_pos os k hk,getElem?_pos acc k h1];obtain⟨_,e2⟩:=items.2 k _<|getElem?_pos acc k h1;rw[e2];rfl
  ·rw[getElem?_neg os k gt,getElem?_neg acc k (by rw[items.1];lia)];rfl
 rw[ea];exact q h' tk kp (yo e)
end
section
variable {prog:Dt}{w:World}{A:Around}{E:C3}{s:Shared}{S it tp:Addr}{es:Dk}{ep i:Nat}{tb:SetTable}{ps:List Nat}
theorem BG {src:Source}{Q:Nat->Shared->Prop} (hn:n≠0) (q:∀k d,k<n->Q k { s with drawn:=d }):wpAny '$' A (choose src n) Q E s:=λΓ p _=>by
 exact#[hn,(by exact q _ _ (Y1 _ gt))]
theorem bb {α:Type}:∀(n:Nat) (xs:List α) {s:Shared} {Q:List α->Shared->Prop},xs.length=n->(∀ys d,ys.Perm xs->Q ys { s with drawn:=d })->wpAny '$' A (drawOrder n xs) Q E s
 | 0,xs,s,Q,hn,q=>by
  obtain rfl:=Y3 hn;exact Dv (q _ s.drawn .nil)
 | n+1,[],s,Q,hn,q=>by cases hn
 | n+1,x::xs,s,Q,hn,q=>by
  refine Du (BG on λk d hk=>?_);rw[yb hk];refine Du (bb n _ (by grind) λys d' pm=>Dv ?_);exact q _ d' ((pm.cons _).trans<|Zp _ _ hk)
def Wr (w:World) (h:Heap) (S:Addr) (es:Dk) (ep:Nat) (t:SetTable):Prop :=
 ∃o,h.get? S=some o/\o.ExactSet/\o.data=.set es ep t/\t.fits es.size=true/\w.params.followText "set-order"=false/\(!t.plain&&decide (es.size > 1))=true
theorem Wr.keep (x:Wr w h S es ep tb) (k:∀o,h.get? S=some o->h'.get? S=some o):Wr w h' S es ep tb:=by
 obtain⟨o,e,r⟩:=x;exact#[o,k _ e,r]
theorem Wr.typeIs (x:Wr w s.heap S es ep tb):s.TypeIs (.ref S) "set":=by
 obtain⟨o,e,c,_⟩:=x;exact#[o,e,c.1]
def gO (ps:List Nat):Obj:={ cls:=.type "tuple",data:=.seq (ps.map λ(i:Nat)=>rawInt i).toArray }
def iU (tp S n ep:Nat):Obj:={ cls:=.type "set_iterator",data:=.fields (Yb [.ref tp,.int (0:Nat) 0,.ref S,.int (n:Nat) 0,.int (ep:Nat) 0]) }
theorem tD (x:Wr w s.heap S es ep tb) (hn:es.size<=1000000)
  (q:∀ps d,ps.Perm (Yc es.size)->Q (.ref<|s.heap.objs.size+1) { s with heap:=(s.heap.push<|gO ps).push<|iU s.heap.objs.size S es.size ep,drawn:=d }):wpAny '$' A (pyIter<|.ref S) Q E s:=by
 have ty:=x.typeIs;obtain⟨o,e,c,d,f,hb,hd⟩:=x;refine wpAny_pyIter_slot ty YV<|wpAny_call_entry YV ty zT ?_<|aaS _;refine Du (m:=Builtin.Frozenset.sizeOf S)<|Du<|wpAny_setEntries_of e d f<|Dv ?_;refine Du ?_;refine Du<|wpAny_setState_of e d f<|Du<|STb.wp_byText<|Dv ?_;have hz:(!w.params.followText "set-order"&&(!tb.plain&&decide (es.size > 1)))=true:=by rw[hb,hd];rfl
 refine wpAny_ite_split (λ_=>?_) λz=>absurd hz z;refine Du (bb es.size _ on λps dr pm=>?_);have lp:ps.length=es.size:=by rw[pm.length_eq,yL]
 refine Du (wpAny_newTuple ?_ (by rw[ya,lp];exact yk hn ac));have e2:(s.heap.push<|gO ps).get? S=some o:=yf _ e;refine Du ?_;refine Du<|wpAny_setState_of e2 d f<|Dv ?_;have sz:(s.heap.push<|gO ps).objs.size=s.heap.objs.size+1:=Qu ..;have q:=q ps dr pm;refine Du<|wpAny_newObj_type<|Dv #[_,rfl,"set_iterator",_,#[_,yt _ rfl,rfl],jQ.lookup,?_];rw[<-sz] at q;exact q
def Wj (h:Heap) (it tp S i n ep:Nat) (ps:List Nat):Prop :=
 (∃o,h.get? it=some o/\o.cls=.type "set_iterator"/\o.data=.fields (Yb [.ref tp,.int (i:Nat) 0,.ref S,.int (n:Nat) 0,.int (ep:Nat) 0]))/\h.get? tp=some (gO ps)
theorem Wj.typeIs (x:Wj s.heap it tp S i n ep ps):s.TypeIs (.ref it) "set_iterator":=by
 obtain⟨⟨o,e,c,_⟩,_⟩:=x;exact#[o,e,c]
theorem oZ (ps:List Nat) (i:Nat):((ps.map λ(i:Nat)=>rawInt i).toArray)[i]?=(ps[i]?).map λ(i:Nat)=>rawInt i:=by
 grind
theorem tO {Q:C8} (k:Wj s.heap it tp S i es.size ep ps) (x:Wr w s.heap S es ep tb) {p:Nat} (hp:ps[i]?=some p) {e:Int×Value} (he:es[p]?=some e) (D8:tp≠it)
  (q:∀h',Wj h' it tp S (i+1) es.size ep ps->Heap.SameBut it s.heap h'->Q (some e.2) { s with heap:=h' }):wpAny '$' A (pyNext<|.ref it) Q E s:=by
 have ty:=k.typeIs;obtain⟨⟨oi,ei,c,dt⟩,et⟩:=k;obtain⟨o,eo,_,d,f,hb,hd⟩:=x;refine Du<|wpAny_attempt<|wpAny_callSpecial?_slot ty jQ<|wpAny_call_entry jQ ty uo ?_<|uf _;refine Du<|wpAny_of_eq rfl<|Du<|wpAny_fieldsOf ei dt ?_;refine Du<|wpAny_setEntries_of eo d f ?_;rw[if_neg on];refine Du<|wpAny_seqItems et rfl ?_;show wpAny _ _ (match ((ps.map λ(i:Nat)=>rawInt i).toArray)[(Int.toNat _)]? with|some (.int place _)=>_|some _=>_|none=>_) _ _ s;rw[Qg,oZ,hp];refine Du ?_;refine Du<|wpAny_setState_of eo d f ?_;dsimp only;rw[if_neg on,Qg,he];refine Du<|Dv<|Dv ?_;refine Du (wpAny_setField ei dt on ?_);have g1:=yY (Obj.mapFields (·.setIfInBounds 1<|rawInt<|(i)+1)) ei<|Obj.isFreed_of_fields<|Obj.data_mapFields dt _;have EN:=Heap.SameBut.update s.heap it<|Obj.mapFields (·.setIfInBounds 1<|rawInt<|(i)+1);exact Dv #[_,rfl,Dv (q _ #[#[_,g1,(Obj.cls_mapFields ..).trans c,by rw[Obj.data_mapFields dt];simp [rawInt]],(EN.2 tp D8).trans et] EN)]
theorem wH {Q:C8} (hh:A.handled=none) (k:Wj s.heap it tp S i es.size ep ps) (x:Wr w s.heap S es ep tb) (hp:ps[i]?=none)
  (q:∀h',Heap.ExtBut it s.heap h'->Q none { s with heap:=h' }):wpAny '$' A (pyNext<|.ref it) Q E s:=by
 have ty:=k.typeIs;obtain⟨⟨oi,ei,c,dt⟩,et⟩:=k;obtain⟨o,eo,_,d,f,hb,hd⟩:=x;refine Du<|wpAny_attempt<|wpAny_callSpecial?_slot ty jQ<|wpAny_call_entry jQ ty uo ?_<|uf _;refine Du<|wpAny_of_eq rfl<|Du<|wpAny_fieldsOf ei dt ?_;refine Du<|wpAny_setEntries_of eo d f ?_;rw[if_neg on];refine Du<|wpAny_seqItems et rfl ?_;show wpAny _ _ (match ((ps.map λ(i:Nat)=>rawInt i).toArray)[(Int.toNat _)]? with|some (.int place _)=>_|some _=>_|none=>_) _ _ s;rw[Qg,oZ,hp];refine Du (wpAny_setField ei dt on ?_);have g1:=yY (Obj.mapFields (·.setIfInBounds 0<|rawInt 0)) ei<|Obj.isFreed_of_fields<|Obj.data_mapFields dt _;have d1:(Obj.mapFields (·.setIfInBounds 0<|rawInt 0) oi).data=.fields (Yb [rawInt 0,.int (i) 0,.ref S,.int es.size 0,.int ep 0]):=by rw[Obj.data_mapFields dt];simp
 have EN:=Heap.SameBut.update s.heap it<|Obj.mapFields (·.setIfInBounds 0<|rawInt 0);refine Du (wpAny_setField g1 d1 on ?_);refine Du ?_;refine Du (wpAny_newObj_type (Du (wpAny_of_eq (by rfl) (wpAny_newObj_type ?_ (by size_fits)))) (by size_fits));refine Du<|wpAny_handled ?_;rw[hh];refine Du<|Dv<|wpAny_throw ?_;exact Du (wpAny_isInstance #[_,yt _ rfl,rfl] isSubtype_stop<|Dv<|q _<|((EN.trans<|Heap.SameBut.update ..).extBut.push _).push _)
theorem NI (k:Wj s.heap it tp S i n ep ps) (q:Q (.ref it) s):wpAny '$' A (pyIter<|.ref it) Q E s:=by
 refine wpAny_pyIter_slot k.typeIs uE<|wpAny_call_entry uE k.typeIs U0 ?_<|UL _;exact Dv #[_,rfl,"set_iterator",_,k.typeIs,jQ.lookup,q]
theorem rp (hh:A.handled=none) (Oe:ps.Perm (Yc es.size)) (h1:tp≠it) (h2:S≠it) :
  Walks prog w A it [it,tp,S] [it] es.size (λi v=>∃p e,ps[i]?=some p/\es[p]?=some e/\v=e.2) (λi h=>Wj h it tp S i es.size ep ps/\Wr w h S es ep tb):=by
 have lp:ps.length=es.size:=by rw[Oe.length_eq,yL]
 refine#[λb hb=>by simp at hb;simp [hb],λi h h' st k=>#[#[?_,k tp on _ st.1.2],st.2.keep λo e=>k S on o e],λi s' Q E hi st q=>?_,λs' Q E st q=>?_,λi s' Q E st q=>NI st.1 q]
 ·obtain⟨o,e,r⟩:=st.1.1;exact#[o,k it on o e,r]
 ·have h3:=yb (by rw[lp];exact hi);have h4:ps[i]'(by rw[lp];exact hi)<es.size:=yI.mp<|Oe.mem_iff.mp<|yz _;have h5:=yU h4;refine tO st.1 st.2 h3 h5 h1 λh' k' sb=>q _ h' s'.toks #[_,_,h3,h5,rfl] #[k',st.2.keep λo e=>sb.extBut S o h2 e] λb o hb e=>sb.extBut b o (λz=>hb (by simp [z])) e
 ·exact wH hh st.1 st.2 (QZ (by rw[lp];exact yj _)) λh' eb=>q h' s'.toks λb o hb e=>eb b o (λz=>hb (by simp [z])) e
end
section
variable {prog:Dt}{w:World}{A:Around}{E:C3}{s:Shared}{S it tp:Addr}{es:Dk}{ep i:Nat}{tb:SetTable}{ps:List Nat}
abbrev lA (acc:Do) (c:Nat):Obj:={ cls:=.type "list",dict:=none,data:=.seq acc c,slots:=(Yb []) }
theorem qg {acc:Do} (Oe:ps.Perm (Yc es.size)) (x:ItemsOf (λi v=>∃p e,ps[i]?=some p/\es[p]?=some e/\v=e.2) acc es.size):acc.toList.Perm (es.toList.map (·.2)):=by
 have lp:ps.length=es.size:=by rw[Oe.length_eq,yL]
 have h1:acc.toList=ps.map λp=>(es.toList.map (·.2)).getD p .none:=by
  refine QL λk=>?_;rw[Qa,ye];rcases y6 k es.size with hk|hk
  ·have g:=getElem?_pos acc k (by rw[x.1];exact hk);obtain⟨p,e,e1,e2,e3⟩:=x.2 k _ g;rw[g,e1,e3];show some _=some ((es.toList.map _).getD p _);rw[yn,ye,Qa,e2];rfl
  ·rw[getElem?_neg acc k (by rw[x.1];lia),QZ (by rw[lp];exact hk)];rfl
 have h2:(Yc es.size).map (λp=>(es.toList.map (·.2)).getD p .none)=es.toList.map (·.2):=by
  refine y7 on λk g1 g2=>?_;rw[yQ,aab,yn,yb g2];rfl
 rw[h1];have h3:=Oe.map λp=>(es.toList.map (·.2)).getD p .none;rw[h2] at h3;exact h3
theorem oG (hh:A.handled=none) (x:Wr w s.heap S es ep tb) (hn:es.size<=1000000)
  (q:∀h' tk d acc c,(∀b o,s.heap.get? b=some o->h'.get? b=some o)->h'.get? s.heap.objs.size=some (lA acc c)->acc.toList.Perm (es.toList.map (·.2))->Q (.ref s.heap.objs.size) { s with heap:=h',toks:=tk,drawn:=d }) :
  wpAny '$' A (runValue<|.builtin "proto.collect" #[[.ref S],[]]) Q E s:=by
 have DA:S<s.heap.objs.size:=by obtain⟨ob,e,_⟩:=x;exact yo e
 have Ew:es.size<=sizeLine:=yk hn ac;refine wpAny_runValue<|codeAny_builtin F.entry_proto_collect ?_;refine Du<|wpAny_newObj_type<|Dv #[plainId_quiet F.plain_list_iadd _,codeAny_builtin F.entry_list_iadd ?_];have x2:Wr w (s.heap.push<|lA (Yb []) 0) S es ep tb:=x.keep λo e=>yf _ e;have eL:(s.heap.push<|lA (Yb []) 0).get? s.heap.objs.size=some _:=yt _ rfl;have sz:(s.heap.push<|lA (Yb []) 0).objs.size=s.heap.objs.size+1:=Qu ..;have kp:∀b o,s.heap.get? b=some o->(s.heap.push<|lA (Yb []) 0).get? b=some o:=λb o e=>yf _ e;show wpAny _ _ (Builtin.List.listExtendWith _ _ _) _ _ _;generalize s.heap.push _=h1 at x2 eL sz kp;refine Du<|wpAny_typeOf x2.typeIs ?_;rw[show (Builtin.List.listSameRef _ _||Value.type "set"==Value.type "list"||Value.type "set"==Value.type "tuple")=false by simp [Builtin.List.listSameRef,Qq DA]];refine Du (tD x2 hn λps d pm=>?_);have BZ:(h1.push<|gO ps).objs.size=h1.objs.size+1:=Qu ..;have k3:∀b o,h1.get? b=some o->((h1.push<|gO ps).push<|iU h1.objs.size S es.size ep).get? b=some o:=λb o e=>yf _<|yf _ e;have et:((h1.push _).push<|iU h1.objs.size S es.size ep).get? h1.objs.size=some (gO ps):=yf _<|yt _ rfl;have ei:((h1.push<|gO ps).push<|iU h1.objs.size S es.size ep).get? (h1.objs.size+1)=some (iU h1.objs.size S es.size ep):=by rw[<-BZ];exact yt _ rfl
 generalize (h1.push _).push _=h3 at k3 et ei;have x3:=x2.keep λo e=>k3 _ o e;have U₁:S<h1.objs.size:=by grind
 have W:=rp (prog:=prog) (A:=A.in1) (w:=w) (ep:=ep) (tb:=tb) hh pm (yE<|Y2 _)<|yE<|QA U₁;have U₂:s.heap.objs.size ∉ [h1.objs.size+1,h1.objs.size,S]:=by
  grind
 have loop:∀(h:Heap) (c:Nat),Wj h _ h1.objs.size S 0 es.size ep ps/\Wr w h S es ep tb->(∀b o,b≠s.heap.objs.size->h3.get? b=some o->h.get? b=some o)->h.get? s.heap.objs.size=some _ ->
   codeAny _ A (.builtin "list.extend.loop" #[[.ref s.heap.objs.size,.ref _,.ref s.heap.objs.size],_]) (λr s'=>match r with|.ok (.ret v)=>Q v s'|.ok _=>False|.error e=>E e s') { s with heap:=h,drawn:=d }:=λh c st kh e=>by
  refine codeAny_extend_loopS W.toS Ew s.heap.objs.size U₂ _ es.size 0 _ _ c rfl (yP _) st e (ItemsOf.nil _) λs' acc c' mv e' items=>?_;obtain⟨h',g',d',t',Ld⟩:=s';have e1:=mv.gens;have e2:=mv.drawn;have e3:=mv.os;subst e1;subst e3;refine q h' t' d' acc c' (λb o eb=>?_) e'<|qg pm items;have hb:=yo eb;refine mv.heap b o ?_<|kh b o (yE hb)<|k3 b o<|kp b o eb;simp only[yD,yS,or_false,not_or];exact#[yE hb,yE (yC hb gt)]
 refine Du<|wpAny_holding<|NC x3.typeIs ?_;refine Du<|wpAny_rule<|Du ?_;have Ll:=k3 _ _ eL;refine Du<|wpAny_updateSeq Ll rfl ?_;have g1:=yY (Obj.mapSeq (·.push Value.none)) Ll rfl;refine wpAny_updateSeq g1 rfl<|Dv #[plainId_quiet PySem.F.plain_extend_loop _,?_];have g2:=yY (Obj.mapSeq (·.pop)) g1 rfl;have ko:∀b o,b≠s.heap.objs.size->h3.get? b=some o->((h3.update s.heap.objs.size<|Obj.mapSeq (·.push Value.none)).update s.heap.objs.size<|Obj.mapSeq (·.pop)).get? b=some o:=λb o hb e=>by
  rw[yK _ _<|yV hb,yK _ _<|yV hb];exact e
 refine loop _ _ #[#[?_,ko _ _ (Qq (by omega)) et],x3.keep λo e=>ko _ o (yE DA) e] ko g2;exact#[_,ko _ _ (Qq (by omega)) ei,rfl,rfl]
end
section
variable {prog:Dt}{w:World}{A:Around}{E:C3}{s:Shared}{S:Addr}{es:Dk}{ep:Nat}{tb:SetTable}{o:Obj}
theorem bn {hs:Nat->Int}{Q:List Value->Shared->Prop} (hh:A.handled=none) (ho:s.heap.get? S=some o) (hx:o.ExactSet) (hd:o.data=.set es ep tb) (T:Tbl tb hs es.size) (hl:tb.led=(!w.params.followText "set-order")) (hn:es.size<=1000000)
  (q:∀vs h' tk d,vs.Perm (es.toList.map (·.2))->(∀b o,s.heap.get? b=some o->h'.get? b=some o)->s.heap.objs.size<h'.objs.size->Q vs { s with heap:=h',toks:=tk,drawn:=d }):wpAny '$' A (collect<|.ref S) Q E s:=by
 by_cases hz:w.params.followText "set-order"=false/\(!tb.plain&&decide (es.size > 1))=true
 ·refine Du (oG hh #[o,ho,hx,hd,T.fits,hz.1,hz.2] hn λh' tk d acc c kp e pm=>?_);exact Du (wpAny_load e<|Dv<|q _ h' tk d pm kp<|yo e)
 ·refine collect_set hh (#[o,ho,hx,hd,T.fits,T.ris,T.size,hl,λh=>?_]) (yk hn ac) λh' tk kp lt=>q _ h' tk s.drawn ((G0 w S ep es).map _) kp lt;cases hp:(!tb.plain&&decide (es.size > 1)) with
  | false=>rfl
  | true=>exact absurd #[h,hp] hz
end
end SG
namespace L2
open PySem PySem.Spec PyProof.Rows TS SG
variable {T:TK}
theorem jp.drw {X:Cx}{pins:De}{σ:St}{H:Hp}{s:Shared} (I:jp X pins σ H s) (d:Drawn):jp X pins σ H { s with drawn:=d }:=#[I.ok,I.os,I.bare,I.base,I.loc,I.cell,I.free,I.freeC,I.pin,I.hok,I.len,I.hn]
section
variable {prog:Dt}{w:World}{A:Around}{E:C3}{s:Shared}{O:Od}{hd:∀h u l,¬(Uz l u/\∃a,O.R h u a)}
theorem fH {x:Value}{LY:Dh}{kc:Value->List (Key ⊕ O.α)}{d:Bool}{Q:C3} (hu:A.units+8+O.deep<cLine)
  (hc:∀R:List Value->Shared->Prop,(∀vs h' tk dr,vs.Perm LY->(∀b o,s.heap.get? b=some o->h'.get? b=some o)->s.heap.objs.size<h'.objs.size->R vs { s with heap:=h',toks:=tk,drawn:=dr })->wpAny '$' A.in1 (collect x) R E s)
  (X:uC hd s.heap LY kc d) (hl:LY.length<64)
  (q:∀(h':Heap) (tk c:Nat) (dr:Drawn) (p:Addr) (out:Dh),(∀b o,s.heap.get? b=some o->h'.get? b=some o)->s.heap.objs.size<=p->h'.get? p=some (seqObj "list" out.toArray c)->out.Perm LY->(out.Pairwise λu v=>ul (Jo O hd) (kc v) (kc u)=false)->Q (.ref p) { s with heap:=h',toks:=tk,drawn:=dr }) :
  wpAny '$' A (call (.builtin "sorted") [x]) Q E s:=by
 refine Calls.call_function_entry kind_sorted plain_sorted entry_sorted (args_sorted1 _) ?_;refine Du<|Dv ?_;refine Du (hc _ λvs h' tk dr pv kp lt=>?_);refine Du (wpAny_newList ?_ (by rw[pv.length_eq];exact TS.sz64 hl));have X2:uC hd s.heap vs kc d:=#[λv hv=>X.at_ v<|pv.mem_iff.mp hv,λv hv=>X.fst v<|pv.mem_iff.mp hv,λu hu v hv=>X.cm u (pv.mem_iff.mp hu) v<|pv.mem_iff.mp hv];have e1:(h'.push _).get? h'.objs.size=some (seqObj "list" vs.toArray 0):=yt _ rfl;have OY:∀b o,s.heap.get? b=some o->(h'.push<|seqObj "list" vs.toArray 0).get? b=some o:=λb o e=>yf _<|kp b o e;refine Du (wpAny_holding (wpAny_call_entry slot_list_sort #[_,e1,rfl] entry_list_sort (oM (by grind) e1 (X2.keep λb o e _=>OY b o e) (by rw[pv.length_eq];exact hl) λout pm up=>#[_,rfl,Dv #[_,rfl,?_]])<|args_list_sort _));obtain⟨c,g1,g2⟩:=TS.sortedHeap_at e1;exact q _ tk c dr _ out (λb o e=>g2 b o (yE<|aaE (yo e) lt)<|OY b o e) (yX lt) g1 (pm.trans pv) up
end
structure TK where
 O:Od
 hd:∀h u l,¬(Uz l u/\∃a,O.R h u a)
 sk:∀(P:Dt) (w:World),@SK P w (List<|Key ⊕ O.α) (@instDecidableEqList _<|@instDecidableEqSum _ _ inferInstance O.deq)
 good:List (Key ⊕ O.α)->Prop
 cm:∀{a b},good a->good b->vI (Jo O hd) a b
 d:Bool
 fst:∀{k},good k->∃c r,k=.inl c::r/\c.isLeft=d
 is:∀{P w H h b k},JU P w H h->(J0<|Jo O hd).V_ H (.ref b) k->good k->(sk P w).d.kd.is h k b
 dp:∀P w,(sk P w).d.deep<=16
 od:O.deep<=8
abbrev TK.α (T:TK):Type:=List (Key ⊕ T.O.α)
abbrev TK.M (T:TK):Od:=J0 (Jo T.O T.hd)
instance (T:TK):DecidableEq T.α:=@instDecidableEqList _ (@instDecidableEqSum _ _ inferInstance T.O.deq)
def zD (T:TK) (P:Dt) (w:World) (S:Addr) (us:List (T.α×Addr)) (h:Heap):Prop :=
 ∃o es ep t,h.get? S=some o/\o.ExactSet/\o.data=.set es ep t/\es.toList=us.map (λx=>((T.sk P w).d.kd.hash x.1,Value.ref x.2))/\STb.Tbl t (STb.hsOf es) es.size/\t.led=(!w.params.followText "set-order")
theorem zD.keep {P:Dt}{w:World}{S:Addr}{us:List (T.α×Addr)}{h h':Heap} (x:zD T P w S us h) (k:∀o,h.get? S=some o->h'.get? S=some o):zD T P w S us h':=by
 obtain⟨o,es,ep,t,e,r⟩:=x;exact#[o,es,ep,t,k _ e,r]
theorem Ji {H:Hp}:∀{bs:Di} {ks:List T.α},J1 T.M H bs ks->bs.length=ks.length/\∀(j:Nat) b k,bs[j]?=some b->ks[j]?=some k->T.M.V_ H (.ref b) k
 := by
 intro _ _ p
 induction p with
 | nil=>exact#[rfl,λj b k h=>nomatch h]
 | cons r t ih =>
  obtain⟨h1,h2⟩:=ih;refine#[by grind,λj b k e1 e2=>?_];cases j with
  | zero=>cases e1;cases e2;exact r
  | succ j=>exact h2 j b k e1 e2
section
variable {X:Cx}
theorem mH (T:TK) (hc:X.calm=true) (hu:X.A.units+64<cLine):Jr X (.type "set") (λxs H Q=>∃(p:Addr) (bs:Di) (ks:List T.α),A5 (xs=[.ref p]) (H p=some (.lst<|bs.map V.ref)) (J1 T.M H bs ks/\∀k∈ks,T.good k) (ks.length<=990)
  (∀S us,H S=none->(us.map (·.1)).Nodup->(∀k,k∈us.map (·.1)↔k∈ks)->(∀x∈us,T.M.V_ H (.ref x.2) x.1)->Q (.ref S) (upd H S<|.ext<|zD T X.prog X.w S us))):=by
 intro pins s σ H xs us Q I r h;obtain⟨p,bs,ks,rfl,e,⟨ka,hg⟩,hn,q⟩:=h;obtain⟨u,rfl,ru⟩:=uj r;cases ru;obtain⟨Dy,rv,pl,hz⟩:=I.list<|jj.of e;obtain rfl:=Vd rv;obtain⟨lb,at0⟩:=Ji ka;have at_:∀j,j<bs.length->∃b k,bs[j]?=some b/\ks[j]?=some k/\bs.getD j 0=b/\ks.getD j []=k/\T.M.V_ H (.ref b) k/\T.good k:=λj hj=>by
  have h1:=yb hj;have h2:=yb (show j<ks.length by omega);exact#[_,_,h1,h2,by rw[yn,h1];rfl,by rw[yn,h2];rfl,at0 j _ _ h1 h2,hg _<|yz _]
 have sz:(bs.map Value.ref).toArray.size=bs.length:=by simp
 have v₁:=T.dp X.prog X.w;refine My (kk:=T.sk X.prog X.w) (val:=λj=>ks.getD j []) (adr:=λj=>bs.getD j 0) (I.ok.hd hc) (by omega) pl.isList (λi v hv=>?_) (λj hj=>?_) (by omega) λh' tok led EO m keep DA=>?_
 ·rw[QY,ye] at hv;obtain⟨b,h1,h2⟩:=yr.mp hv;rw[<-h2];rw[yn,h1];rfl
 ·rw[sz] at hj;obtain⟨b,k,_,_,e1,e2,e3,e4⟩:=at_ j hj;rw[e1,e2];exact T.is I.hok e3 e4
 ·rw[sz] at m;obtain⟨o,es,ep,t,us,J,l1,l2,l3,l4⟩:=m;have fresh:=I.hok.fresh<|yj s.heap.objs.size;refine#[.ref s.heap.objs.size,_,I.laid (o:=.ext _) (λb u hb=>keep b u (yo hb) hb) (yj _) #[#[o,es,ep,t,J.get,J.ex,J.data,J.ent,J.tb,l1.trans EO],#[o,J.get],λh1 h2 x k=>x.keep k],rfl,q _ us fresh J.nd (λk=>?_) λx hx=>?_]
  ·rw[l4 k];constructor
   ·rintro⟨j,hj,rfl⟩;obtain⟨b,k,_,h2,_,e2,_⟩:=at_ j hj;show ks.getD j _∈ks;rw[e2];exact yh h2
   ·intro hk;obtain⟨j,hj,ej⟩:=yH hk;exact#[j,by omega,by show ks.getD j _=k;rw[yn,yb hj,ej];rfl]
  ·obtain⟨j,hj,ej⟩:=l3 x hx;obtain⟨b,k,_,_,e1,e2,e3,e4⟩:=at_ j hj;have ej:=ej.trans e1;have i1:=J.is x hx;rw[ej] at i1;rw[ej,(T.sk X.prog X.w).d.kd.inj i1<|T.is I.hok e3 e4];exact e3
end
end L2
namespace SG
open PySem PySem.Spec PyProof.Rows L2 SetTable STb
variable {n ep:Nat}{hs:Nat->Int}{h:Heap}{es:Dk}{a:Addr}{o:Obj}{xs:List (Key×Value)}{x:Value}{ks:List Key}{led:Bool}
structure zj (t:SetTable) (n:Nat):Prop where
 size:t.place.size=n
 ris:U8 t.place
 dm:t.dummies=(Yb [])
 fits:t.fits n=true
theorem oA (n:Nat):U8 (Array.range n):=λi k h hk=>by
 rw[Array.size_range] at hk;simp [aaE h hk,hk,h]
theorem zj.stand (t:SetTable) (n:Nat):zj (t.standIn n) n:=by
 refine#[by simp [SetTable.standIn],oA n,rfl,?_];unfold SetTable.fits SetTable.fill SetTable.standIn;simp
 lia
theorem zj.or {t:SetTable} (h1:t.place.size=n->U8 t.place) (h2:t.dummies=(Yb [])):zj (t.orStandIn n) n:=by
 unfold SetTable.orStandIn;cases hf:t.fits n with
 | true =>
  have hs:=by
   unfold SetTable.fits at hf;simp at hf;exact hf.1
  exact#[hs,h1 hs,h2,hf]
 | false=>exact .stand t n
theorem zj.of {t:SetTable} (T:Tbl t hs n):zj t n:=#[T.size,T.ris,T.dm,T.fits]
theorem GC {t:SetTable} (dm:t.dummies=(Yb [])) (R:U8 t.place) {h:Int}:∀(fuel:Nat) (p:Probe) {j:Nat} {d:Option Nat},p.dummy=none->SetTable.probe.go t hs h fuel p=some (.empty j d)->¬Uw t.place j/\d=none
 | 0,p,j,d,_,e=>by cases e
 | fuel+1,p,j,d,hp,e=>by
  rw[SetTable.probe.go] at e;by_cases ht:Uw t.place p.j
  ·obtain⟨i,ha⟩:=ht;rw[zx R ha] at e;dsimp only at e
   split at e
   ·cases e
   ·refine GC dm R fuel _ ?_ e;rw[nM];unfold vq
    split<;>exact hp
  ·rw[KB R dm ht] at e;cases e;exact#[ht,hp]
theorem dZ {t:SetTable} (dm:t.dummies=(Yb [])) (R:U8 t.place) {h:Int} {j:Nat} {b:Bool} (e:t.freeSlot h=some (j,b)):¬Uw t.place j/\b=false:=by
 unfold SetTable.freeSlot at e
 split at e
 ·rename_i j' d heq;obtain⟨h1,rfl⟩:=GC dm R _ _ (by rfl) heq;cases e;exact#[h1,rfl]
 ·cases e
theorem xC {t:SetTable} (T:zj t es.size) (h:Int) (x:Value):(layNew t es h x).1.toList.Perm ((h,x)::es.toList)/\zj (layNew t es h x).2.1 (es.size+1)/\(layNew t es h x).2.1.led=t.led:=by
 unfold layNew;cases hf:t.freeSlot h with
 | none =>
  refine#[?_,.stand t _,rfl];rw[abt];exact (YX)
 | some q =>
  obtain⟨j,b⟩:=q;obtain⟨nt,rfl⟩:=dZ T.dm T.ris hf;dsimp only;have hb:=(vW T.ris j).1;have e1:(t.put j).2=below t.place j:=rfl;have e2:(t.put j).1.place=insertAt t.place _ j:=rfl;have e3:(t.put j).1.dummies=(Yb []):=by
   show (if has t.dummies _ then eraseAt t.dummies _ else t.dummies)=(Yb []);rw[T.dm];rfl
  have hp:(t.put j).2<=es.size:=by rw[<-T.size];exact hb
  have sz:(insertAt es _ (h,x)).size=es.size+1:=Ue es hp _;refine#[?_,?_,?_]
  ·rw[zA es hp];refine List.perm_middle.trans ?_;rw[Qm]
  ·rw[sz];exact .or (λ_=>by exact cX T.ris nt) e3
  ·unfold SetTable.orStandIn
   split<;>rfl
theorem ox {t:SetTable} (h1:1<=es.size) (h2:es.size<=1000):(relayAll t es<|grown es.size).1.toList.Perm es.toList/\zj (relayAll t es<|grown es.size).2.1 es.size/\(relayAll t es<|grown es.size).2.1.led=t.led:=by
 obtain⟨t3,order,e3,HI,HJ,T3,_,_,_,l3,_,_⟩:=aH h1 h2;refine#[relayAll_perm t es _,?_];unfold relayAll;rw[e3];dsimp only;split
 ·exact#[HJ▸zj.of T3,l3]
 ·exact#[.stand t _,rfl]
section
variable {P:Dt}{w:World}{A:Around}{E:C3}{s:Shared}
structure SJ (P:Dt) (w:World) (h:Heap) (a:Addr) (o:Obj) (es:Dk) (ep:Nat) (t:SetTable) (xs:List (Key×Value)):Prop where
 get:h.get? a=some o
 ex:o.ExactSet
 data:o.data=.set es ep t
 ent:es.toList.Perm (xs.map λx=>((jM P w).hash x.1,x.2))
 tb:zj t es.size
 is:∀x∈xs,Ui x.1 x.2=true
 nd:(xs.map (·.1)).Nodup
theorem SJ.len {t:SetTable} (I:SJ P w h a o es ep t xs):es.size=xs.length:=by
 rw[<-yN,I.ent.length_eq,ya]
theorem SJ.elems {t:SetTable} (I:SJ P w h a o es ep t xs):ElemsOf (jM P w) es.toList:=λe he=>by
 obtain⟨x,hx,rfl⟩:=yi.mp<|I.ent.mem_iff.mp he;exact#[#[_,I.is x hx,rfl],(Vm<|I.is x hx).1]
theorem pJ {g:Bool->Sem Unit} (hg:∀(b:Bool) (s:Shared) (Q':C6),Q' () s->wpAny (model P w) A (g b) Q' E s) {t:SetTable} {k:Key} (I:SJ P w s.heap a o es ep t xs) (hk:Ui k x=true) (hn:xs.length<=990) (F4:k ∉ xs.map (·.1))
  {DW:Dk} {t2:SetTable} (EM:DW.toList.Perm (((jM P w).hash k,x)::es.toList)) (T2:zj t2 DW.size) {wd:Bool} {R:Option Bool->Shared->Prop}
  (h:∀h' o' Ee Et t',SJ P w h' a o' Ee Et t' ((k,x)::xs)->Heap.SameBut a s.heap h'->t'.led=t2.led->R (some true) { s with heap:=h' }) :
  wpAny (model P w) A (do
    storeSet a DW t2
    if (!wd&&t2.tooFull)=true then do
      g (relayAll t2 DW<|grown DW.size).2.2
      storeSet a (relayAll t2 DW<|grown DW.size).1 (relayAll t2 DW<|grown DW.size).2.1
      pure (some true)
     else pure (some true)) R E s:=by
 have hl:=I.len;have GH:DW.size=es.size+1:=by rw[<-yN,EM.length_eq,Qe,yN]
 have en:=EM.trans<|I.ent.cons _;have Ob:∀y∈(k,x)::xs,Ui y.1 y.2=true:=λy hy=>by
  rcases yD.mp hy with rfl|hy
  ·exact hk
  ·exact I.is y hy
 have Iw:=yO.mpr #[F4,I.nd];have g1:=zy I.get I.data DW t2;have EN:=Heap.SameBut.update s.heap a<|Obj.putSet DW t2;refine Du (wpAny_storeSet_of I.get I.data ?_ (by rw[GH,hl];exact yk (Qt hn) ac));split
 ·obtain⟨HI,T3,l3⟩:=ox (es:=DW) gt gt;generalize relayAll t2 DW _=rl at HI T3 l3;obtain⟨Ru,t3,gv⟩:=rl;have HJ:Ru.size=DW.size:=by rw[<-yN,HI.length_eq,yN]
  refine Du (hg _ _ _ (Du (wpAny_storeSet_of g1 rfl (Dv ?_) (by rw[HJ,GH,hl];exact yk (Qt hn) ac))));exact h _ _ Ru _ t3 #[zy g1 rfl Ru t3,I.ex,rfl,HI.trans en,by rw[HJ];exact T3,Ob,Iw] (EN.trans<|Heap.SameBut.update ..) l3
 ·exact Dv (h _ _ DW _ t2 #[g1,I.ex,rfl,en,T2,Ob,Iw] EN rfl)
theorem pI {t:SetTable}{k:Key}{Q:C7} (I:SJ P w s.heap a o es ep t xs) (hk:Ui k x=true) (hn:xs.length<=990)
  (q1:k∈xs.map (·.1)->Q false s) (q2:k ∉ xs.map (·.1)->∀h' o' Ee Et t',SJ P w h' a o' Ee Et t' ((k,x)::xs)->Heap.SameBut a s.heap h'->t'.led=t.led->Q true { s with heap:=h' }) :
  wpAny (model P w) A (setAddHashed a x<|(jM P w).hash k) Q E s:=by
 have hl:=I.len;refine wpAny_holding<|Du<|wpAny_setState_of I.get I.data I.tb.fits ?_;dsimp only;rw[byScan_of (Vm hk).1 (by rw[hl];exact yG hn ac) I.elems,if_pos rfl];refine Du ?_;refine Du<|wpAny_rule<|Du<|wpAny_setScan_of hk I.get I.data I.tb.fits I.elems ?_;cases hf:es.toList.findIdx? _ with
 | some j =>
  refine Dv<|Dv<|q1 ?_;obtain⟨hj,e1,_⟩:=List.findIdx?_eq_some_iff_getElem.mp hf;obtain⟨y,hy,e2⟩:=yi.mp<|I.ent.mem_iff.mp<|yz hj;rw[<-e2] at e1;exact yi.mpr #[y,hy,(jM P w).inj _ _ _ (I.is y hy) e1]
 | none =>
  have F4:k ∉ xs.map (·.1):=λh=>by
   obtain⟨y,hy,rfl⟩:=yi.mp h;have:=List.findIdx?_eq_none_iff.mp hf _<|I.ent.mem_iff.mpr<|yi.mpr #[y,hy,rfl];rw[show (jM P w).is _ _=true from I.is y hy] at this;cases this
  obtain⟨EM,T1,l1⟩:=xC I.tb _ x;generalize layNew t es _ x=ly at EM T1 l1;obtain⟨DW,t1,wd,gv⟩:=ly;dsimp only at EM T1 l1 ⊢;have GH:DW.size=es.size+1:=by rw[<-yN,EM.length_eq,Qe,yN]
  have go:=λ(t2:SetTable) (T2) (l2:t2.led=t.led) (g:Bool->Sem Unit) (hg:∀(b:Bool) (s:Shared) (Q':C6),Q' _ s->wpAny _ A (g b) Q' E s) (R) (hR:∀s',Q true s'->R (some true) s')=>pJ (wd:=wd) (R:=R) hg I hk hn F4 EM T2 λh' o' Ee Et t' J sb l=>hR _<|q2 F4 h' o' Ee Et t' J sb<|l.trans l2;have HK:zj t1 DW.size:=by rw[GH];exact T1
  cases gv<;>first|refine Du (Dv ?_)|refine Du (wpAny_rule ?_)
  all_goals
   split
   ·rw[hashByValue_scannable _ (Vm hk).1];cases plainKind x with
    | true=>exact go t1 HK l1 _ (λb s Q' q=>by cases b;exact Dv q;exact wpAny_rule q) _ λs' q=>Dv q
    | false=>exact go { t1 with plain:=false } #[HK.size,HK.ris,HK.dm,HK.fits] l1 _ (λb s Q' q=>by cases b;exact Dv q;exact wpAny_rule q) _ λs' q=>Dv q
   ·exact go t1 HK l1 _ (λb s Q' q=>by cases b;exact Dv q;exact wpAny_rule q) _ λs' q=>Dv q
end
section
variable {P:Dt}{w:World}
def kC (P:Dt) (w:World) (S:Addr) (ks:List Key) (led:Bool) (i:Nat) (h:Heap):Prop :=
 ∃o es ep t xs,SJ P w h S o es ep t xs/\t.led=led/\xs.length<=i/\∀k,k∈xs.map (·.1)↔k∈ks.take i
theorem kC.keep {S:Addr}{i:Nat}{h':Heap} (m:kC P w S ks led i h) (hS:∀o,h.get? S=some o->h'.get? S=some o):kC P w S ks led i h':=by
 obtain⟨o,es,ep,t,xs,I,r⟩:=m;exact#[o,es,ep,t,xs,#[hS _ I.get,I.ex,I.data,I.ent,I.tb,I.is,I.nd],r]
variable {A:Around}{R:Result->Shared->Prop}{It:Addr}{fp wr:Di}{G:Array GenState->Array GenState->Prop}{n:Nat}{Pr:Nat->Value->Prop}{St:Nat->Shared->Prop}
theorem NO (W:WalksS P w A.in1 It fp wr G n Pr St) (S:Addr) (Hn:S ∉ fp) (ks:List Key) (led:Bool) (FK:∀i v,Pr i v->∃k,ks[i]?=some k/\Ui k v=true) (hb:n<=990) :
  ∀(d i:Nat) (s:Shared),n - i=d->i<=n->St i s->kC P w S ks led i s.heap->(∀s',Moved (S::wr) G s s'->kC P w S ks led n s'.heap->R (.ok<|.ret .none) s') ->
   codeAny (model P w) A (.builtin "set.update.loop" #[[.ref S,.ref It],[]]) R s
 | 0,i,s,hd,hi,st,m,hR=>by
  obtain rfl:i=n:=by lia
  refine codeAny_builtin Yt ?_;refine Du (W.done s _ _ st λs' mv=>Dv (hR s' (mv.mono λb hb=>yl _ hb) ?_));exact m.keep λo e=>mv.heap S o (λz=>Hn<|W.sub _ z) e
 | d+1,i,s,hd,hi,st,m,hR=>by
  have DA:i<n:=by omega
  refine codeAny_builtin Yt ?_;refine Du (W.item i s _ _ DA st λv s' hP D7 mv=>?_);obtain⟨k,ek,hk⟩:=FK i v hP;have tk:ks.take (i+1)=ks.take i++[k]:=by rw[abw,ek];rfl
  obtain⟨o,es,ep,t,xs,I,l1,l2,l4⟩:=m.keep λo e=>mv.heap S o (λz=>Hn<|W.sub _ z) e;have Rp:∀b∈wr,b∈S::wr:=λb hb=>yl _ hb;refine Du<|wpAny_holding ?_;refine wpAny_holding<|Du<|(jM P w).pyHash hk ?_;have go:∀(h':Heap) (tok:Nat),s'.toks<=tok->Heap.SameBut S s'.heap h'->kC P w S ks led _ h'->codeAny _ A _ R _:=λh' tok ht sb m'=>by
   refine NO W S Hn ks led FK hb d _ _ (by omega) DA (W.frame _ s' _ _ D7 ht λb hb o e=>?_) m' λs2 Rq m2=>hR s2 (Moved.trans W.gtrans ((mv.mono Rp).then_heap ht λb o hb e=>?_) Rq) m2
   ·rw[sb.2 b (λz:b=S=>Hn (by rw[<-z];exact hb))];exact e
   ·rw[sb.2 b (λz:b=S=>hb (by rw[z];exact yu))];exact e
  refine pI I hk gt (λEm=>?_) (λF4 h' o' Ee Et t' I' sb hl=>?_)
  ·refine Dv #[plainId_quiet Yo _,go s'.heap _ (aan _ _) (Heap.SameBut.refl S s'.heap) #[o,es,ep,t,xs,I,l1,by lia,λk'=>?_]];rw[l4 k',tk,yB,yp];exact#[.inl,λz=>z.elim id λz=>by rw[z];exact (l4 k).mp Em]
  ·refine Dv #[plainId_quiet Yo _,go h' _ (aan _ _) sb #[o',Ee,Et,t',_,I',hl.trans l1,by rw[Qe];lia,λk'=>?_]];rw[Ql,yD,l4 k',tk,yB,yp];exact or_comm
end
section
variable {P:Dt}{w:World}{A:Around}{E:C3}{s:Shared}
theorem tJ {S:Nat} (e:h.get? S=some (UP led)):kC P w S ks led 0 h :=
 #[_,_,0,_,[],#[e,#[rfl,rfl,rfl],rfl,.nil,#[rfl,λi k _ hk=>absurd hk (by simp [SetTable.fresh]),rfl,rfl],λx hx=>(by cases hx),yZ],rfl,yj _,λk=>by simp]
theorem Mx {l:Addr}{items:Do}{Q:C3} (hh:A.handled=none) (hl:s.heap.IsList l items) (hit:∀(i:Nat) v,items[i]?=some v->∃k,ks[i]?=some k/\Ui k v=true) (hb:items.size<=990)
  (h:∀(h':Heap) (tok:Nat) (led:Bool),led=(!w.params.followText "set-order")->kC P w s.heap.objs.size ks led items.size h'->(∀b o,b<s.heap.objs.size->s.heap.get? b=some o->h'.get? b=some o)->s.heap.objs.size<h'.objs.size->Q (.ref s.heap.objs.size) { s with heap:=h',toks:=tok }) :
  wpAny (model P w) A (call (.type "set") [.ref l]) Q E s:=by
 obtain⟨c,tl,hm⟩:=PySem.F.called_set.mro;have u₁:=PySem.F.called_set.made;have u₂:=PySem.F.called_set.sub;refine wpAny_call<|codeAny_of_tree ?_;show wpAny _ _ (callAny (.type "set") _) _ _ _;refine Dv #[Code.quiet_builtin _ (by decide +kernel),codeAny_builtin aaQ ?_];rw[Around.under_plain (weight_type_call_type "set" [.ref l] []) rfl];have g1:=PySem.F.called_set.notType;have g2:=PySem.F.called_set.canCreate;have g3:=aaU (.ref l)
 repeat (any_goals (first|assumption|wp_step))
 refine codeAny_mono (zR (.ref l) (E:=E) (Q₁:=λv s1=>∃led:Bool,led=(!w.params.followText "set-order")/\v=.ref s.heap.objs.size/\s1={ s with heap:=s.heap.push (UP led) }) #[_,rfl,rfl,rfl]) λr s1 hr=>?_;cases r with
 | error e=>exact hr
 | ok f1 =>
  cases f1 with
  | ret v =>
   obtain⟨led,EO,rfl,rfl⟩:=hr;have e1:(s.heap.push<|UP led).get? s.heap.objs.size=some (UP led):=yt _ rfl;have ty:Shared.TypeIs { s with heap:=s.heap.push (UP led) } (.ref s.heap.objs.size) "set":=#[_,e1,rfl];have g4:=PySem.F.called_set.init.lookup;have g5:=PySem.F.called_set.init.bind (.ref s.heap.objs.size)
   repeat (any_goals (first|assumption|wp_step))
   refine codeAny_mono (codeAny_call_builtin (R:=wants (λr s2=>r=.none/\∃h' tok,s2={ s with heap:=h',toks:=tok }/\kC P w s.heap.objs.size ks led items.size h'/\(∀b o,b<s.heap.objs.size->s.heap.get? b=some o->h'.get? b=some o)) E) PySem.F.called_set.init.plain F.entry_set_init<|check_set_init_1 ty ?_) λr2 s2 Ho=>?_
   ·obtain⟨ol,Hf,Iq,nl,Hg⟩:=hl;obtain⟨o1,o2,o3,o4⟩:=ol;simp only at Iq Hg;subst Iq;subst Hg;have Iy:(s.heap.push<|UP led).get? l=some { cls:=.type "list",dict:=o2,data:=.seq items nl,slots:=o4 }:=yf _ Hf;have g6:=aa1;have g7:=aaH;have g8:(Value.type "list"==Value.type "dict")=false:=by decide
    have Hq:(s.heap.push<|UP led).IsList l items:=#[_,Iy,rfl,nl,rfl];unfold Builtin.«set.__init__» noKeywords Builtin.Frozenset.updateFrom;generalize Rr:pyIter=PI
    wp_walk
    subst Rr;refine wpAny_pyIter_list Hq<|Du<|wpAny_runValue ?_;have Oc:l<s.heap.objs.size:=yo Hf;have El:(s.heap.push<|UP led).objs.size=s.heap.objs.size+1:=Qu ..;refine NO ((Walks.list (by simp [hh]) _ l (by rw[El];exact yE<|QA Oc) items).toS) s.heap.objs.size ?hS ks led hit hb (items.size - 0) 0 _ gt (yP _) #[#[_,yt _ rfl,rfl,rfl],(Hq.push _)] (tJ<|yf _ e1) ?hR
    case hS=>rw[El];simp only[yD,yS,or_false,not_or];exact#[yE<|Y2 _,Qq Oc]
    case hR =>
     intro s' mv m';obtain⟨h',g',d',Rt,Ld⟩:=s';have eg:g'=s.gens:=mv.gens;have ed:d'=s.drawn:=mv.drawn;have eo:Ld=s.os:=mv.os;subst eg;subst ed;subst eo;refine Dv (Dv #[rfl,h',Rt,rfl,m',λb o hb e=>?_]);refine mv.heap b o ?_<|yf _<|yf _ e;rw[El];simp only[yD,yS,or_false,not_or];exact#[yE hb,yE<|QA hb]
   ·cases r2 with
    | error e=>exact Ho
    | ok f2 =>
     cases f2 with
     | ret r =>
      obtain⟨rfl,h',tok,rfl,m',keep⟩:=Ho
      repeat (any_goals (first|assumption|wp_step))
      have m2:=m';obtain⟨o',_,_,_,_,I',_⟩:=m2;exact h h' tok led EO m' keep (yo I'.get)
     | _=>exact Ho.elim
  | _=>exact hr.elim
end
end SG
namespace L2
open PySem PySem.Spec PyProof.Rows TS SG STb
variable {S:Addr}{h':Heap}{Q:C3}{T:TK}{u:Value}
def Us (P:Dt) (w:World) (S:Addr) (us:List Key) (h:Heap):Prop:=∃o es ep t xs,SJ P w h S o es ep t xs/\xs.map (·.1)=us/\t.led=(!w.params.followText "set-order")
theorem Us.keep {P:Dt}{w:World}{us:List Key}{h:Heap} (x:Us P w S us h) (k:∀o,h.get? S=some o->h'.get? S=some o):Us P w S us h':=by
 obtain⟨o,es,ep,t,xs,I,r⟩:=x;exact#[o,es,ep,t,xs,#[k _ I.get,I.ex,I.data,I.ent,I.tb,I.is,I.nd],r]
section
variable {prog:Dt}{w:World}{A:Around}{E:C3}{s:Shared}
theorem bu {o:Obj}{es:Dk}{ep:Nat}{tb:SetTable}{Q:List Value->Shared->Prop} (hh:A.handled=none) (ho:s.heap.get? S=some o) (hx:o.ExactSet) (hd:o.data=.set es ep tb) (T:zj tb es.size) (hl:tb.led=(!w.params.followText "set-order")) (hn:es.size<=1000000)
  (q:∀vs h' tk d,vs.Perm (es.toList.map (·.2))->(∀b o,s.heap.get? b=some o->h'.get? b=some o)->s.heap.objs.size<h'.objs.size->Q vs { s with heap:=h',toks:=tk,drawn:=d }):wpAny '$' A (collect<|.ref S) Q E s:=by
 by_cases hz:w.params.followText "set-order"=false/\(!tb.plain&&decide (es.size > 1))=true
 ·refine Du (oG hh #[o,ho,hx,hd,T.fits,hz.1,hz.2] hn λh' tk d acc c kp e pm=>?_);exact Du (wpAny_load e<|Dv<|q _ h' tk d pm kp<|yo e)
 ·refine SG.collect_set hh (#[o,ho,hx,hd,T.fits,T.ris,T.size,hl,λh=>?_]) (yk hn ac) λh' tk kp lt=>q _ h' tk s.drawn ((G0 w S ep es).map _) kp lt;cases hp:(!tb.plain&&decide (es.size > 1)) with
  | false=>rfl
  | true=>exact absurd #[h,hp] hz
theorem GG {x:Value}{Rv:List Int}{Q:C3}
  (hc:∀R:List Value->Shared->Prop,(∀vs ns h' tk dr,IntsAre vs ns->ns.Perm Rv->(∀b o,s.heap.get? b=some o->h'.get? b=some o)->s.heap.objs.size<h'.objs.size->R vs { s with heap:=h',toks:=tk,drawn:=dr })->wpAny '$' A.in1 (collect x) R E s) (hl:Rv.length<64)
  (q:∀(h':Heap) (tk c:Nat) (dr:Drawn) (p:Addr) (out:Dh) (ns:List Int),(∀b o,s.heap.get? b=some o->h'.get? b=some o)->s.heap.objs.size<=p->h'.get? p=some (seqObj "list" out.toArray c)->IntsAre out ns->ns.Perm Rv->ns.Pairwise (·<=·)->Q (.ref p) { s with heap:=h',toks:=tk,drawn:=dr }) :
  wpAny '$' A (call (.builtin "sorted") [x]) Q E s:=by
 refine Calls.call_function_entry kind_sorted plain_sorted entry_sorted (args_sorted1 _) ?_;refine Du<|Dv ?_;refine Du (hc _ λvs ns h' tk dr hi pv kp lt=>?_);have ED:vs.length<64:=by rw[hi.length,pv.length_eq];exact hl
 refine Du (wpAny_newList ?_ (yk (yX ED) ac));have e1:(h'.push _).get? h'.objs.size=some (seqObj "list" vs.toArray 0):=yt _ rfl;have OY:∀b o,s.heap.get? b=some o->(h'.push<|seqObj "list" vs.toArray 0).get? b=some o:=λb o e=>yf _<|kp b o e;refine Du (wpAny_holding (wpAny_call_entry slot_list_sort #[_,e1,rfl] entry_list_sort (list_sort_tree e1 hi ED λout DK a1 a2 a3=>#[_,rfl,Dv #[_,rfl,?_]])<|args_list_sort _));obtain⟨c,g1,g2⟩:=TS.sortedHeap_at e1;exact q _ tk c dr _ out.toList DK (λb o e=>g2 b o (yE<|aaE (yo e) lt)<|OY b o e) (yX lt) (by omega) a1 (a2.trans pv) a3
end
theorem NM {k:Key}{v:Value} (r:jG (kV k) v):Ui k v=true:=by
 cases k with
 | inl i=>obtain⟨t,rfl⟩:=r;exact mZ i t
 | inr x=>obtain⟨t,rfl⟩:=r;exact m3 x t
theorem m6:∀{ks:List Key} {vs:Dh},jH (ks.map kV) vs->ks.length=vs.length/\∀(i:Nat) v,vs[i]?=some v->∃k,ks[i]?=some k/\Ui k v=true
 | [],_,.nil=>#[rfl,λi v h=>by cases h]
 | k::ks,_,.cons r t=>by
  obtain⟨h1,h2⟩:=m6 t;refine#[by simp_all,λi v e=>?_];cases i with
  | zero=>cases e;exact#[k,rfl,NM r]
  | succ i=>exact h2 i v e
section
variable {X:Cx}
theorem uQ (hc:X.calm=true):Jr X (.type "set") (λxs H Q=>∃(p:Addr) (ks:List Key),A4 (xs=[.ref p]) (H p=some (.lst<|ks.map kV)) (ks.length<=990)
  (∀S us,H S=none->us.Nodup->(∀k,k∈us↔k∈ks)->Q (.ref S) (upd H S<|.ext<|Us X.prog X.w S us))):=by
 intro pins s σ H xs us Q I r h;obtain⟨p,ks,rfl,e,hn,q⟩:=h;obtain⟨u,rfl,ru⟩:=uj r;cases ru;obtain⟨Dy,rv,pl,hz⟩:=I.list<|jj.of e;obtain⟨hl,hv⟩:=m6 rv;have sz:Dy.toArray.size=ks.length:=by rw[yw,hl]
 refine Mx (I.ok.hd hc) pl.isList (λi v h=>hv i v (by grind)) (by rw[sz];exact hn) λh' tok led EO m keep DA=>?_;rw[sz] at m;obtain⟨o,es,ep,t,xs,J,l1,l2,l4⟩:=m;rw[aai] at l4;exact#[.ref s.heap.objs.size,_,I.laid (o:=.ext _) (λb u hb=>keep b u (yo hb) hb) (yj _) #[#[o,es,ep,t,xs,J,rfl,l1.trans EO],#[o,J.get],λh1 h2 x k=>x.keep k],rfl,q _ _ (I.hok.fresh<|yj _) J.nd l4]
theorem vB:Jr X (.builtin "len") (λxs H Q=>∃(S:Addr) (us:List Key),A4 (xs=[.ref S]) (H S=some (.ext<|Us X.prog X.w S us)) (us.length<=1000000)<|Q (.int us.length) H):=by
 intro pins s σ H xs us Q I r h;obtain⟨S,vs,rfl,e,hn,q⟩:=h;obtain⟨u,rfl,ru⟩:=uj r;cases ru;obtain⟨⟨o,es,ep,t,xs,J,rfl,_⟩,_⟩:=(I.hok S _ e);have sz:es.size=(xs.map (·.1)).length:=by rw[ya];exact J.len
 refine call_len_set J.get J.ex J.data J.tb.fits gt ?_;rw[sz];exact#[.int _,H,I.tok _,#[_,rfl],q]
theorem vH (hc:X.calm=true):Jr X (.builtin "sorted") (λxs H Q=>∃(S:Addr) (ns:List Int),A4 (xs=[.ref S]) (H S=some (.ext<|Us X.prog X.w S<|ns.map Yh)) (ns.length<64)
  (∀(l:Addr) (DK:List Int),H l=none->DK.Perm ns->DK.Pairwise (·<=·)->Q (.ref l) (upd H l<|.lst<|DK.map V.int))):=by
 intro pins s σ H xs us Q I r h;obtain⟨S,ns,rfl,e,hn,q⟩:=h;obtain⟨u,rfl,ru⟩:=uj r;cases ru;obtain⟨⟨o,es,ep,t,xs,J,ek,hl⟩,_⟩:=(I.hok S _ e);have lx:=by have:=congrArg Ys ek;simpa using this
 have sz:es.size=ns.length:=by rw[J.len,lx]
 have ex:∀{ys:List (Key×Value)} {ms:List Int},(∀y∈ys,Ui y.1 y.2=true)->ys.map (·.1)=ms.map Yh->IntsAre (ys.map (·.2)) ms:=by
  intro ys
  induction ys with
  | nil=>intro ms _ h;cases ms with|nil=>exact .nil|cons=>cases h
  | cons y ys ih =>
   intro ms hi h;cases ms with
   | nil=>cases h
   | cons m ms =>
    rw[Ql] at h;injection h with h1 h2
    have:=hi y yu;rw[h1] at this;rcases JB this with ⟨i,t,e1,e2⟩|⟨z,t,e1,_⟩
    ·cases e1;rw[Ql,e2];exact .cons _ t (ih (λy hy=>hi y<|yl _ hy) h2)
    ·cases e1
 have v₂:=by
  have:=J.ent.map aaA;rwa [yq] at this
 refine GG (λR hR=>bu (I.ok.hd hc) J.get J.ex J.data J.tb hl (by grind) λvs h' tk dr pv kp lt=>?_) hn λh' tk c dr p' out DK kp hp e' a1 a2 a3=>?_
 ·obtain⟨ys,py,ey⟩:=STb.perm_map (pv.trans v₂) xs rfl;have hy:=λy h=>J.is y<|py.mem_iff.mp h;have hk:∃ms:List Int,ys.map (·.1)=ms.map Yh/\ms.Perm ns:=by
   have p2:=ek▸py.map _;obtain⟨ms,pm,em⟩:=STb.perm_map p2 ns rfl;exact#[ms,em,pm]
  obtain⟨ms,em,pm⟩:=hk;exact hR vs ms h' tk dr (ey▸ex hy em) pm kp lt
 ·refine#[.ref p',_,(I.laid (o:=.lst _) kp hp #[?_,out,c,zB a1,e']).drw dr,rfl,q p' _ (I.hok.fresh hp) a2 a3];rw[ya,a2.length_eq];exact yk (yX hn) ac
end
def rJ {α:Type} (p:α×Addr×Int) (q:α×Addr×Value):Prop:=p.1=q.1/\p.2.1=q.2.1/\∃t,q.2.2=Value.int p.2.2 t
def vk (T:TK) (P:Dt) (w:World) (a:Addr) (Dx:List (T.α×Addr×Int)) (h:Heap):Prop :=
 (a==sysModules)=false/\∃(xs:List (T.α×Addr×Value)) (o:Obj) (es:Array DictEntry) (ep:Nat),Paired rJ Dx xs/\h.get? a=some o/\o.ExactDict/\o.data=.dict es ep/\es.toList=xs.map (entryOfKey (T.sk P w).d.kd)/\(xs.map (·.1)).Nodup
theorem vk.keep {P:Dt}{w:World}{a:Addr}{Dx:List (T.α×Addr×Int)}{h:Heap} (x:vk T P w a Dx h) (k:∀o,h.get? a=some o->h'.get? a=some o):vk T P w a Dx h':=by
 obtain⟨hd,xs,o,es,ep,p,e,r⟩:=x;exact#[hd,xs,o,es,ep,p,k _ e,r]
def zL (Dx:List (T.α×Addr×Int)) (k:T.α):Option Int:=(Dx.find? λx=>decide (x.1=k)).map (·.2.2)
theorem az:∀{Dx:List (T.α×Addr×Int)} {xs:List (T.α×Addr×Value)},Paired rJ Dx xs->∀k,match zL Dx k,atKey xs k with|some n,some p=>∃t,p.2=Value.int n t|none,none=>True|_,_=>False
 := by
 intro _ _ q k
 induction q with
 | nil=>trivial
 | @cons p _ _ _ r t ih =>
  unfold zL atKey;rw[aaL,aaL,<-r.1];by_cases h:p.1=k
  ·rw[decide_eq_true h];exact r.2.2
  ·rw[decide_eq_false h];exact ih
theorem qB:∀{Dx:List (T.α×Addr×Int)} {xs:List (T.α×Addr×Value)},Paired rJ Dx xs->∀x∈xs,∃p∈Dx,p.1=x.1/\p.2.1=x.2.1:=by
 intro _ _ q x h
 induction q with
 | nil=>cases h
 | cons r t ih =>
  rcases yD.mp h with rfl|h
  ·exact#[_,yu,r.1,r.2.1]
  ·obtain⟨p,hp,e⟩:=ih h;exact#[p,yl _ hp,e]
theorem zJ {α β:Type}{F:α->β->Prop}{a:α}{b:β} (h:F a b):∀{l:List α} {m:List β},Paired F l m->Paired F (l++[a]) (m++[b]):=λp=>Uk p (.cons h .nil)
def b7 (T:TK) (H:Hp) (Dx:List (T.α×Addr×Int)):Prop:=∀x∈Dx,T.M.V_ H (.ref x.2.1) x.1/\T.good x.1
section
variable {X:Cx}{pins:De}{σ:St}{H:Hp}{s:Shared}{a b:Addr}{A:Around}{E:C3}{T:TK}{Dx:List (T.α×Addr×Int)}{k:T.α}{n:Int}
theorem KQ (I:jp X pins σ H s) (e:H a=some (.ext<|vk T X.prog X.w a Dx)) (ky:b7 T H Dx):(a==sysModules)=false/\∃xs,Paired rJ Dx xs/\s.heap.DictOfH (T.sk X.prog X.w).d.kd a xs:=by
 obtain⟨⟨hd,xs,o,es,ep,p,g,h1,h2,h3,h4⟩,_⟩:=(I.hok a _ e);refine#[hd,xs,p,o,es,ep,g,h1,h2,h3,λx hx=>?_,h4];obtain⟨q,hq,e1,e2⟩:=qB p x hx;rw[<-e1,<-e2];exact T.is I.hok (ky q hq).1 (ky q hq).2
theorem oE (T:TK) (P:Dt) (w:World) (hu:A.units+64<cLine):(T.sk P w).d.kd.room A.in1:=(T.sk P w).d.roomOk (by have:=T.dp P w;show A.units+1+_<cLine;lia)
theorem xa (hu:A.units+64<cLine) (I:jp X pins σ H s) (e:H a=some (.ext<|vk T X.prog X.w a Dx)) (ky:b7 T H Dx) (hb:T.M.V_ H (.ref b) k) (hg:T.good k) (hv:zL Dx k=some n) (q:∀w' s',jp X pins σ H s'->jG (.int n) w'->Q w' s') :
  wpAny '%' A (getItem (.ref a)<|.ref b) Q E s:=by
 obtain⟨hd,xs,p,dd⟩:=KQ I e ky;have f:=az p k;rw[hv] at f;cases ha:atKey xs k with
 | none=>rw[ha] at f;exact f.elim
 | some r =>
  rw[ha] at f;obtain⟨t,et⟩:=f;refine wpAny_getItem_heap (oE T X.prog X.w hu) (T.is I.hok hb hg) dd ha ?_;exact q _ _ (I.tok _) #[t,et]
theorem xb {Q:C6}{r:Value} (hu:A.units+64<cLine) (I:jp X pins σ H s) (e:H a=some (.ext<|vk T X.prog X.w a Dx)) (ky:b7 T H Dx) (hb:T.M.V_ H (.ref b) k) (hg:T.good k) (hv:zL Dx k=none) (hl:Dx.length<=1000) (rv:jG (.int n) r)
  (q:∀s',jp X pins σ (upd H a<|.ext<|vk T X.prog X.w a<|Dx++[(k,b,n)]) s'->Q () s'):wpAny '%' A (setItem (.ref a) (.ref b) r) Q E s:=by
 obtain⟨hd,xs,p,dd⟩:=KQ I e ky;have f:=az p k;have ha:atKey xs k=none:=by
  grind
 refine wpAny_setItem_heap (hsz:=by rw[<-Paired.length p];exact yk hl ac) (oE T X.prog X.w hu) (T.is I.hok hb hg) dd λh' F3 hs=>q _ ?_;rw[storedH_new ha] at F3;obtain⟨o,es,ep,hq,h2,h3,h4,_,h5⟩:=F3;obtain⟨t,rfl⟩:=rv;exact gV I (by rw[e];exact Yp) hs #[o,hq] #[#[hd,_,o,es,ep,zJ #[rfl,rfl,t,rfl] p,hq,h2,h3,h4,h5],#[o,hq],λh1 h2 x k=>x.keep k]
end
def AE (P:Dt) (w:World):TE:=λ_ H Q=>(∀D,H D=none->Q (.ref D) (upd H D<|.dK []))\/(∀D,H D=none->Q (.ref D) (upd H D<|.dT []))\/∃T,∀D,H D=none->Q (.ref D) (upd H D<|.ext<|vk T P w D [])
inductive dl (P:Dt) (w:World) (x y:V) (H:Hp) (Q:VK):Prop
 | d (a:Addr) (v:V) (ex:x=.ref a) (g:JX H a y (some v)) (q:Q v H)
 | g (T:TK) (a b:Addr) (Dx:List (T.α×Addr×Int)) (k:T.α) (n:Int) (ex:x=.ref a) (ey:y=.ref b) (e:H a=some (.ext<|vk T P w a Dx)) (ky:b7 T H Dx) (hb:T.M.V_ H (.ref b) k) (hg:T.good k) (hv:zL Dx k=some n) (q:Q (.int n) H)
def oS (P:Dt) (w:World) (td ty:TE):TE:=λσ H Q=>td σ H λx H1=>ty σ H1 λy H2=>dl P w x y H2 Q
inductive B5 (P:Dt) (w:World) (x y v:V) (H:Hp) (Q:Hp->Prop):Prop
 | d (a:Addr) (H':Hp) (ex:x=.ref a) (g:Vs H a y v H') (q:Q H')
 | g (T:TK) (a b:Addr) (Dx:List (T.α×Addr×Int)) (k:T.α) (n:Int) (ex:x=.ref a) (ey:y=.ref b) (ev:v=.int n) (e:H a=some (.ext<|vk T P w a Dx)) (ky:b7 T H Dx) (hb:T.M.V_ H (.ref b) k) (hg:T.good k) (hv:zL Dx k=none) (hl:Dx.length<=1000) (q:Q (upd H a<|.ext<|vk T P w a<|Dx++[(k,b,n)]))
def Ag (P:Dt) (w:World) (td ty tv:TE):TS:=λD σ H=>tv σ H λv H1=>td σ H1 λx H2=>ty σ H2 λy H3=>B5 P w x y v H3 λH4=>D.nx σ H4
section
variable {X:Cx}{P:Dt}{w:World}{o i value:Expr}{pos pos':Pos}{td ty tv:TE}
theorem ap (hP:autoParam (X.prog=P) Fk) (hw:autoParam (X.w=w) Fk):PE X (.Dict [] [] pos) (AE P w):=λpins s σ H Q I h=>by
 rcases h with h|h|⟨T,h⟩
 ·exact G5 pins s σ H Q I h
 ·exact G6 pins s σ H Q I h
 ·obtain⟨_,hd,xs,p,o,es,ep,g,h1,h2,h3,h4⟩:=nY (P:=X.prog) (w:=X.w) (H:=H) s.heap I.big;cases p;exact wpAny_Dict_empty #[.ref s.heap.objs.size,_,I.laid (o:=.ext _) (λ_ _ q=>yf _ q) (yj _) #[#[hd,_,o,es,ep,.nil,g,h1,h2,h3,yZ],#[o,g],λh1 h2 x k=>x.keep k],rfl,h _<|I.hok.fresh<|yj _]
theorem ZA (ho:PE X o td) (hi:PE X i ty) (hu:X.A.units+64<cLine:=by exact hr.units) (hs:autoParam (du i) zzk) (hP:autoParam (X.prog=P) Fk) (hw:autoParam (X.w=w) Fk):PE X (.Subscript o i pos) (oS P w td ty):=by
 subst hP hw;intro pins s σ H Q I h;refine mw PySem.F.slot_dict_getitem.lookup hs (jI (ho pins s σ H _ I h) λu s1 #[x,H1,I1,rx,q1]=>jI (hi pins s1 σ H1 _ I1 q1) λiv s2 #[y,H2,I2,ry,q2]=>?_);cases q2 with
 | d a v ex g q =>
  subst ex;obtain rfl:u=Value.ref a:=rx;exact#[zE I2 g,Z9 gt I2 g ry λw' s3 I3 DY=>#[v,H2,I3,DY,q]]
 | g T a b Dx k n ex ey e ky hb hg hv q =>
  subst ex ey;obtain rfl:u=Value.ref a:=rx;obtain rfl:iv=Value.ref b:=ry;obtain⟨_,xs,_,dd⟩:=KQ I2 e ky;exact#[dd.typeIs,xa hu I2 e ky hb hg hv λw' s3 I3 DY=>#[_,H2,I3,DY,q]]
theorem aB (ho:PE X o td) (hi:PE X i ty) (hv:PE X value tv) (hu:X.A.units+64<cLine:=by exact hr.units) (hs:autoParam (swapsWith value (some<|.Subscript o i pos') pos.line X.env=pure false) Fk) (hP:autoParam (X.prog=P) Fk) (hw:autoParam (X.w=w) Fk) :
  PS X (.Assign [.Subscript o i pos'] value pos) (Ag P w td ty tv):=by
 subst hP hw;intro pins s σ H D I h;refine wpAny_Assign_Subscript (jI (hv pins s σ H _ I h) λr s1 #[v,H1,I1,rv,q1]=>jI (ho pins s1 σ H1 _ I1 q1) λu s2 #[x,H2,I2,rx,q2]=>jI (hi pins s2 σ H2 _ I2 q2) λiv s3 #[y,H3,I3,ry,q3]=>?_) hs;cases q3 with
 | d a H4 ex g q =>
  subst ex;obtain rfl:u=Value.ref a:=rx;exact mJ gt I3 g ry rv λs4 I4=>#[σ,H4,I4,q]
 | g T a b Dx k n ex ey ev e ky hb hg hv hl q =>
  subst ex ey ev;obtain rfl:u=Value.ref a:=rx;obtain rfl:iv=Value.ref b:=ry;exact xb hu I3 e ky hb hg hv hl rv λs4 I4=>#[σ,_,I4,q]
end
theorem cI {k:Key} (h:Uz k u):Ui k u=true:=NM (V4.mpr h)
theorem dW {P:Dt}{w:World}{h:Heap}:∀{vs:Dh} {l:List Key},Paired (Ur.R h) vs l->ItemsAre (jM P w) l vs:=by
 intro _ _ p
 induction p with
 | nil=>exact .nil
 | cons r t ih=>exact .cons (cI r) ih
theorem KY {P:Dt}{w:World}{h:Heap}{l:List Key} (r:(J0 Ur).R h u l):∃b,u=.ref b/\(zk P w).d.kd.is h l b:=by
 obtain⟨a,vs,rfl,⟨o,h1,h2,n,h3⟩,p⟩:=r;exact#[a,rfl,o,_,n,h1,h2,h3,dW p]
section
variable {P:Dt}{w:World}{h:Heap}{O:Od}{hd:∀h u l,¬(Uz l u/\∃a,O.R h u a)}{hk:@SK P w O.α O.deq}
theorem fq (g:O.α->Prop) (f:∀u l,O.R h u l->g l->∃b,u=.ref b/\hk.d.kd.is h l b):∀{vs:Dh} {ks:List (Key ⊕ O.α)},Paired ((Jo O hd).R h) vs ks->(∀l,Yr l∈ks->g l)->@JQ P w Key O.α _ O.deq (jM P w) hk.d h ks vs:=by
 intro vs ks p
 induction p with
 | nil=>exact λ_=>.nil
 | @cons _ b _ _ r t ih =>
  intro q;have:=ih λl h=>q l<|yl _ h;cases b with
  | inl k=>exact .cons (cI r) this
  | inr l=>exact .cons (f _ _ r<|q l yu) this
theorem Gc (g:O.α->Prop) (f:∀u l,O.R h u l->g l->∃b,u=.ref b/\hk.d.kd.is h l b) {ks:List (Key ⊕ O.α)} (r:(J0<|Jo O hd).R h u ks) (q:∀l,Yr l∈ks->g l):∃b,u=.ref b/\@uw P w Key O.α _ O.deq (jM P w) hk.d h ks b:=by
 obtain⟨a,vs,rfl,⟨o,h1,h2,n,h3⟩,p⟩:=r;exact#[a,rfl,o,_,n,h1,h2,h3,fq g f p q]
end
def rX (m:Int) (l:List Int):List (Key ⊕ List Key):=[.inl<|.inl m,.inr<|l.map Yh]
theorem Zu:∀a b:List Int,vI Ur (a.map Yh) (b.map Yh)
 | [],_=>by unfold vI;split<;>trivial
 | _::_,[]=>trivial
 | a::as,b::bs=>by
  refine#[rfl,λ_=>Zu as bs]
def JP:TK where
 O:=J0 Ur
 hd:=Um Ur
 sk:=λP w=>Kk (zk P w) (λi=>decide (i=1)) (by show 1+1<=8;decide)
 good:=λk=>∃m l,k=rX m l
 cm:=λ{a b} ha hb=>by
  obtain⟨m,l,rfl⟩:=ha;obtain⟨m',l',rfl⟩:=hb;exact#[rfl,λ_=>#[Zu l l',λ_=>trivial]]
 d:=true
 fst:=λ{k} h=>by obtain⟨m,l,rfl⟩:=h;exact#[_,_,rfl,rfl]
 is:=λ{P w H h b k} ok hv hg=>by
  obtain⟨m,l,rfl⟩:=hg;obtain⟨b',e,x⟩:=Gc (P:=P) (w:=w) (hk:=zk P w) (λ_=>True) (λu l r _=>KY r) ((J0 Mb).raw ok hv (show jG (.ref b) (.ref b) from rfl)) (λ_ _=>trivial);cases e;refine#[x,λi k' e=>?_]
  match i with
  | 0=>cases e;rfl
  | 1=>cases e;rfl
  | i+2=>cases e
 dp:=λP w=>(by decide:0+2<=16)
 od:=(by decide:0+1<=8)
def rW (x:Str) (m h:Int):List (Key ⊕ List Key):=[.inl<|.inr x,.inl<|.inl m,.inl<|.inl h]
def JF:TK where
 O:=J0 Ur
 hd:=Um Ur
 sk:=λP w=>Kk (zk P w) (λ_=>false) (by show 1+1<=8;decide)
 good:=λk=>∃x m h,k=rW x m h
 cm:=λ{a b} ha hb=>by
  obtain⟨x,m,h,rfl⟩:=ha;obtain⟨x',m',h',rfl⟩:=hb;exact#[rfl,λ_=>#[rfl,λ_=>#[rfl,λ_=>trivial]]]
 d:=false
 fst:=λ{k} h=>by obtain⟨x,m,h,rfl⟩:=h;exact#[_,_,rfl,rfl]
 is:=λ{P w H h b k} ok hv hg=>by
  obtain⟨x,m,n,rfl⟩:=hg;obtain⟨b',e,y⟩:=Gc (P:=P) (w:=w) (hk:=zk P w) (λ_=>True) (λu l r _=>KY r) ((J0 Mb).raw ok hv (show jG (.ref b) (.ref b) from rfl)) (λ_ _=>trivial);cases e;refine#[y,λi k' e=>?_]
  match i with
  | 0=>cases e;rfl
  | 1=>cases e;rfl
  | 2=>cases e;rfl
  | i+3=>cases e
 dp:=λP w=>(by decide:0+2<=16)
 od:=(by decide:0+1<=8)
def VA (ps:Dc):List (Key ⊕ List Key):=ps.map λp=>.inr [.inl p.1,.inl p.2]
def xw (m:Int) (ps:Dc):List (Key ⊕ List (Key ⊕ List Key)):=[.inl<|.inl m,.inr<|VA ps]
theorem GQ:∀a b:List (Int×Int),vI Mb (VA a) (VA b)
 | [],_=>by unfold VA vI;split<;>trivial
 | _::_,[]=>trivial
 | a::as,b::bs=>#[Zu [a.1,a.2] [b.1,b.2],λ_=>GQ as bs]
def uv:TK where
 O:=J0 Mb
 hd:=Um Mb
 sk:=λP w=>Kk (Kk (zk P w) (λ_=>true) (by show 1+1<=8;decide)) (λi=>decide (i=1)) (by show 1+1+1<=8;decide)
 good:=λk=>∃m ps,k=xw m ps
 cm:=λ{a b} ha hb=>by
  obtain⟨m,l,rfl⟩:=ha;obtain⟨m',l',rfl⟩:=hb;exact#[rfl,λ_=>#[GQ l l',λ_=>trivial]]
 d:=true
 fst:=λ{k} h=>by obtain⟨m,l,rfl⟩:=h;exact#[_,_,rfl,rfl]
 is:=λ{P w H h b k} ok hv hg=>by
  obtain⟨m,ps,rfl⟩:=hg
  obtain⟨b',e,y⟩:=Gc (P:=P) (w:=w) (hk:=Kk (zk P w) (λ_=>true) (by show 1+1<=8;decide)) (λl=>∃ps,l=VA ps) (λu l r hg=>by
   obtain⟨qs,rfl⟩:=hg;obtain⟨b,e,z⟩:=Gc (P:=P) (w:=w) (hk:=zk P w) (λ_=>True) (λu l r _=>KY r) r (λ_ _=>trivial);refine#[b,e,z,λi k' e=>?_];rw[VA,ye] at e;obtain⟨_,_,rfl⟩:=yr.mp e
   rfl) ((J0<|Jo (J0 Mb)<|Um Mb).raw ok hv (show jG (.ref b) (.ref b) from rfl)) (λl hl=>by
   rcases yD.mp hl with e|hl
   ·cases e
   ·rcases yD.mp hl with e|hl
    ·cases e;exact#[ps,rfl]
    ·cases hl)
  cases e;refine#[y,λi k' e=>?_]
  match i with
  | 0=>cases e;rfl
  | 1=>cases e;rfl
  | i+2=>cases e
 dp:=λP w=>(by decide:0+2+2<=16)
 od:=(by decide:0+1+1<=8)
end L2
namespace L2
open PySem PySem.Spec PyProof.Rows TS
section
variable {X:Cx}
theorem Ka {P:Dt}{w:World}:∀{Dx:List (Key×Value)} {acc:Dh},acc.length=Dx.length->(∀(i:Nat) v,acc[i]?=some v->∃k x,Dx[i]?=some (k,x)/\(jM P w).is k v=true)->jH (Dx.map λx=>kV x.1) acc
 | [],[],_,_=>.nil
 | [],_::_,h,_=>by cases h
 | _::_,[],h,_=>by cases h
 | q::Dx,v::acc,h,f=>by
  obtain⟨k,x,e,hk⟩:=f 0 v rfl;cases e;exact .cons (cH hk) (Ka (by simpa using h) λi v e=>f (i+1) v e)
theorem tE {Dx:List (Key×V)}{ws:List (Key×Value)} (r:KV Dx ws):ws.map (λx=>kV x.1)=Dx.map λx=>kV x.1:=by
 induction r with
 | nil=>rfl
 | cons h _ ih=>rw[Ql,Ql,ih,h.1]
theorem kJ (Fd:X.calm=true):Jr X (.type "list") (λxs H Q=>∃(p:Addr) (Dx:List (Key×V)),A3 (xs=[.ref p]) (H p=some (.dK Dx)) (∀l,H l=none->Q (.ref l) (upd H l (.lst (Dx.map λx=>kV x.1))))):=by
 intro pins s σ H xs us Q I r h;obtain⟨p,Dx,rfl,ep,q⟩:=h;obtain⟨u,rfl,ru⟩:=uj r;cases ru;obtain⟨z,hd,ws,rel,dd⟩:=gW I.hok ep;obtain⟨e0,da⟩:=dd.dictAt;have hz:ws.length<=sizeLine:=by rw[<-rel.length];exact z
 refine W.kdl_call (W.kdl_dict hd) (I.ok.hd Fd) da hz λh' tk acc c kp e items=>?_;refine#[.ref s.heap.objs.size,_,I.laid (o:=.lst _) kp (yj _) #[by rw[ya];exact z,acc.toList,c,?_,by omega],rfl,q _<|I.hok.fresh<|yj _];rw[<-tE rel];exact Ka (by exact items.1) λi v e=>items.2 i v (by grind)
def nK (v d:Addr):HO:=.ext λh=>h.IsValuesView v d
theorem lH:wT X "dict.values" (λx vs H Q=>∃(a:Addr) (Dx:List (Key×V)),A4 (x=.ref a) (vs=[]) (H a=some (.dK Dx)) (∀p,H p=none->Q (.ref p) (upd H p<|nK p a))):=by
 intro pins s σ H x vs v us Q I rx rv h;obtain⟨a,Dx,rfl,rfl,ea,q⟩:=h;cases rx;cases rv;obtain⟨z,hd,ws,rel,dd⟩:=gW I.hok ea;have g:=yt s.heap (o:={ cls:=.type "dict_values",data:=.fields (Yb [.ref a]) }) rfl;exact call_meetsIn aaM dd.typeIs PySem.F.entry_dict_values (PySem.F.args_dict_values_1 _) (meets_dict_values _ a hd) #[#[ws,dd],.ref s.heap.objs.size,_,I.laid (o:=nK s.heap.objs.size a) (λ_ _ q=>yf _ q) (yj _) #[#[_,g,rfl,rfl],#[_,g],λh1 h2 x k=>by obtain⟨o,e,r⟩:=x;exact#[o,k _ e,r]],rfl,q _<|I.hok.fresh<|yj _]
theorem eI:∀{Dx:List (Key×V)} {ws:List (Key×Value)} {acc:Dh},KV Dx ws->acc.length=ws.length->(∀(i:Nat) v,acc[i]?=some v->∃k,ws[i]?=some (k,v))->jH (Dx.map (·.2)) acc:=by
 intro _ _ acc p h f
 induction p generalizing acc with
 | nil=>cases acc with|nil=>exact .nil|cons=>cases h
 | cons r t ih =>
  cases acc with
  | nil=>cases h
  | cons v acc =>
   obtain⟨k,e⟩:=f 0 v rfl;cases e;exact .cons r.2 (ih (Yx h) λi v e=>f (i+1) v e)
theorem dD (Fd:X.calm=true):Jr X (.type "list") (λxs H Q=>∃(p d:Addr) (Dx:List (Key×V)),A4 (xs=[.ref p]) (H p=some (nK p d)) (H d=some (.dK Dx)) (∀l,H l=none->Q (.ref l) (upd H l<|.lst<|Dx.map (·.2)))):=by
 intro pins s σ H xs us Q I r h;obtain⟨p,d,Dx,rfl,ep,ed,q⟩:=h;obtain⟨u,rfl,ru⟩:=uj r;cases ru;obtain⟨z,hd,ws,rel,dd⟩:=gW I.hok ed;obtain⟨e0,da⟩:=dd.dictAt;have hz:ws.length<=sizeLine:=by rw[<-rel.length];exact z
 have hv:=(I.hok p _ ep).1;refine W.kdl_call (W.kdl_values) (I.ok.hd Fd) #[hv,da] hz λh' tk acc c kp e items=>?_;refine#[.ref s.heap.objs.size,_,I.laid (o:=.lst _) kp (yj _) #[by rw[ya];exact z,acc.toList,c,?_,by omega],rfl,q _<|I.hok.fresh<|yj _];exact eI rel (by exact items.1) λi v e=>items.2 i v (by grind)
def xo (k:Int):Value->Bool|.int a _=>a==k|_=>false
theorem ij:∀{ns:List Int} {us:Dh},jH (ns.map V.int) us->∀k,us.countP (xo k)=ns.count k
 | [],_,.nil,k=>rfl
 | n::ns,_,.cons r t,k=>by
  obtain⟨tk,rfl⟩:=r;rw[List.countP_cons,List.count_cons,ij t k]
  rfl
theorem BV {A:Around}{s:Shared}{ns:List Int}{us:Dh} (r:jH (ns.map V.int) us) (k:Int) (t:Tok):∀y∈us,SeqAt.EqAt A s y (.int k t) (xo k y):=λy hy=>by
 obtain⟨i,hi,rfl⟩:=yH hy;have h2:=by have:=r.length;rw[ya] at this;omega
 obtain⟨u,hu,tk,e⟩:=r.get (i:=i) (x:=.int ns[i]) (by simp [h2]);rw[yb hi] at hu;rw[(Yd hu).trans e];exact SeqAt.EqAt.int_int _ tk k t
theorem uR:ZL X "list.count" (λx vs H Q=>∃(l:Addr) (ns:List Int) (k:Int),A4 (x=.ref l) (vs=[.int k]) (H l=some (.lst<|ns.map V.int))<|Q (.int (ns.count k:Nat)) H):=by
 intro pins s σ H x vs v us Q I rx rv h;obtain⟨l,ns,k,rfl,rfl,hH,q⟩:=h;cases rx;obtain⟨u,rfl,t,rfl⟩:=rv.one;obtain⟨z,Dy,n,r,hl,e⟩:=I.lstM hH;refine call_meets F.slot_list_count #[_,e,rfl] F.entry_list_count (F.args_list_count_2 _ _) (SeqAt.list_countAt l Dy.toArray n _ _ _ _) #[e,λy hy=>BV r k t y<|Array.mem_toArray.mp hy,?_];rw[ij r k];exact#[.int _,H,I.tok _,#[_,rfl],q]
theorem uS:ZL X "list.index" (λx vs H Q=>∃(l:Addr) (ns:List Int) (k:Int),A6 (x=.ref l) (vs=[.int k]) (H l=some (.lst<|ns.map V.int)) (ns.length<=1000) (k∈ns)<|Q (.int (ns.idxOf k:Nat)) H):=by
 intro pins s σ H x vs v us Q I rx rv h;obtain⟨l,ns,k,rfl,rfl,hH,hs,hk,q⟩:=h;cases rx;obtain⟨u,rfl,t,rfl⟩:=rv.one;obtain⟨z,Dy,n,r,hl,e⟩:=I.lstM hH;have lr:ns.length=Dy.length:=by grind
 have hj:=Qo hk;have at_:∀(m:Nat) (h1:m<ns.length) (h2:m<Dy.length),xo k Dy[m]=(ns[m]==k):=λm h1 h2=>by
  obtain⟨u,hu,tk,e⟩:=r.get (i:=m) (x:=.int ns[m]) (by simp [h1]);rw[yb h2] at hu;rw[(Yd hu).trans e]
  rfl
 refine call_meets F.slot_list_index #[_,e,rfl] F.entry_list_index (F.args_list_index_2 _ _) (SeqAt.list_indexAt l Dy.toArray n _ _ _ _ _ (by grind) gt ?_ λm hm DA=>?_) #[e,λy hy=>BV r k t y<|Array.mem_toArray.mp hy,#[.int _,H,I.tok _,#[_,rfl],q]]
 ·grind
 ·rw[yW,at_ m gt hm];exact ne_of_lt_idxOf DA _
end
end L2
namespace L2
open PySem PySem.Spec PyProof.Rows TS
open AutoSeq1 (wpAny_loadPart')
variable {it:Addr}{i:Nat}{items:Do}{Q:C3}{w:World}
section
variable {prog:Dt}{w:World}{A:Around}{E:C3}{s:Shared}
theorem aZ {t:Addr} (hit:s.heap.IsTupleIter it t i):∃d sl,s.heap.get? it=some { cls:=.type "tuple_iterator",dict:=d,data:=.fields<|Yb [.ref t,.int i 0],slots:=sl }:=by
 obtain⟨⟨c,d,dt,sl⟩,ho,hc,hd⟩:=hit;exact#[d,sl,by grind]
theorem rf {t:Addr}{x:Value} (hit:s.heap.IsTupleIter it t i) (ht:s.heap.IsTuple t items) (hx:items[i]?=some x)
  (hQ:∀h',h'.IsTupleIter it t (i+1)->Heap.SameBut it s.heap h'->Q x { s with heap:=h' }):wpAny '$' A (Builtin.SmallTypes.nextOf<|.ref it) Q E s:=by
 obtain⟨d,sl,ho⟩:=aZ hit;obtain⟨p,hp,pc,m,pd⟩:=id ht;refine Du<|wpAny_callSpecial?_slot hit.typeIs F.slot_tuple_iterator_next<|wpAny_call_entry F.slot_tuple_iterator_next hit.typeIs F.entry_tuple_iterator_next ?_<|F.args_tuple_iterator_next_1 _;refine Du (m:=field _ 0)<|wpAny_field ho rfl rfl ?_;refine Du<|wpAny_field ho rfl rfl ?_;refine Du<|wpAny_seqItems hp pd ?_;rw[Qg];simp only[hx];refine Du (wpAny_setField ho rfl on<|Dv #[x,rfl,Dv<|hQ _ #[_,yY _ ho<|Obj.isFreed_of_fields<|Obj.data_mapFields rfl _,rfl,rfl]<|Heap.SameBut.update ..])
theorem o7 {t:Addr} (hh:A.handled=none) (hit:s.heap.IsTupleIter it t i) (ht:s.heap.IsTuple t items) (hx:items[i]?=none)
  (hE:∀h' e,Heap.ExtBut it s.heap h'->(∃o,h'.get? e=some o/\o.cls=.type "StopIteration")->E (.ref e) { s with heap:=h' }):wpAny '$' A (Builtin.SmallTypes.nextOf<|.ref it) Q E s:=by
 obtain⟨d,sl,ho⟩:=aZ hit;obtain⟨p,hp,pc,m,pd⟩:=id ht;refine Du<|wpAny_callSpecial?_slot hit.typeIs F.slot_tuple_iterator_next<|wpAny_call_entry F.slot_tuple_iterator_next hit.typeIs F.entry_tuple_iterator_next ?_<|F.args_tuple_iterator_next_1 _;refine Du (m:=field _ 0)<|wpAny_field ho rfl rfl ?_;refine Du<|wpAny_field ho rfl rfl ?_;refine Du<|wpAny_seqItems hp pd ?_;rw[Qg];simp only[hx];refine Du (wpAny_rule (Du (wpAny_setField ho rfl on ?_)));refine Du (Du (wpAny_newObj_type (Du (wpAny_of_eq (by first|rfl) (wpAny_newObj_type ?_ (by size_fits)))) (by size_fits)));refine Du<|wpAny_handled ?_;rw[hh];exact Du (Dv<|wpAny_throw<|hE _ _ (((Heap.SameBut.update ..).extBut.push _).push _) #[_,yt _ rfl,rfl])
theorem mO (hh:A.handled=none) (it t:Addr) (D8:t≠it) (items:Do):Draws prog w A it [it,t] items.size (λi v=>items[i]?=some v) (λi h=>h.IsTupleIter it t i/\h.IsTuple t items) where
 live:=λ_ _ st=>let ⟨o,ho,_⟩:=st.1;#[o,ho]
 frame:=λ_ _ _ #[#[o,ho,r],#[p,hp,q]] hk=>#[#[o,hk it on o ho,r],#[p,hk t on p hp,q]]
 item:=λi s Q E hi st hQ=>rf st.1 st.2 (yU hi) λh' y hs=>hQ _ h' s.toks (yU hi) #[y,let ⟨p,hp,q⟩:=st.2;#[p,hs.extBut t p D8 hp,q]] hs
 done:=λs Q E st hE=>o7 hh st.1 st.2 on hE
end
theorem iq (l:Addr) (items:Do) (o:Obj) (Tz:o.cls=.type "tuple") (Ei:∃n,o.data=.seq items n) :
  Meets (Builtin.«enumerate.__new__» #[[.type "enumerate",.ref l],[]]) (λ_ R s=>s.heap.get? l=some o /\
   R (.ok<|.ret<|.ref<|s.heap.objs.size+1) { s with heap:=(s.heap.push { cls:=.type "tuple_iterator",data:=.fields (Yb [.ref l,.int 0 0]) }).push { cls:=.type "enumerate",data:=.fields (Yb [.none,.bool false,.ref s.heap.objs.size,rawInt 0,.none,.none]) } }) :=
 .of_wp λprog w A R s h=>by
  obtain⟨hp,g,d,tk,os⟩:=s;obtain⟨hl,h⟩:=h;have Ip:=sub_enumerate;have hT:Heap.IsTuple (Shared.heap #[hp,g,d,tk,os]) l items:=#[_,hl,Tz,Ei];obtain⟨c,dct,dt,sl⟩:=o;obtain⟨n,rfl⟩:=Ei;cases Tz;rw[show hp.objs.size+1=(hp.push { cls:=.type "tuple_iterator",data:=.fields (Yb [.ref l,.int 0 0]) }).objs.size from (Qu ..).symm] at h
  wp_walk using wpAny_loadPart' hl
  refine wpAny_stack_any λst=>Dv ?_;split
  ·rename_i c _ _ _ _ _;cases (c==Value.type "enumerate")<;>(wp_walk using wpAny_loadPart' hl,wpAny_pyIter_tuple hT;exact#[_,rfl,h])
  ·wp_walk using wpAny_loadPart' hl,wpAny_pyIter_tuple hT
   exact#[_,rfl,h]
theorem dB {prog:Dt}{w:World}{A:Around}{E:C3}{s:Shared}{l:Addr} (hT:s.heap.IsTuple l items)
  (h:∀h',IsEnum h' (s.heap.objs.size+1) s.heap.objs.size 0 .none->h'.IsTupleIter s.heap.objs.size l 0->(∀b o,s.heap.get? b=some o->h'.get? b=some o)->Q (.ref<|s.heap.objs.size+1) { s with heap:=h' }) :
  wpAny '$' A (call (.type "enumerate") [.ref l]) Q E s:=by
 obtain⟨o,hl,hc,hd⟩:=hT;refine callType_new F.called_enumerate ac (F.typeCall_enumerate_1 _) (F.newCall_enumerate_1 _) (λobj=>F.args_object_init_2 obj _) F.entry_enumerate_new (iq l items o hc hd) #[hl,?_];have g:=yt (s.heap.push { cls:=.type "tuple_iterator",data:=.fields (Yb [.ref l,.int 0 0]) }) (o:={ cls:=.type "enumerate",data:=.fields (Yb [.none,.bool false,.ref s.heap.objs.size,rawInt 0,.none,.none]) }) rfl;rw[Qu] at g;exact#[#[_,g,rfl],h _ g #[_,yf _<|yt _ rfl,rfl,rfl] λb o x=>yf _<|yf _ x]
def nH (K:C9) (a:Addr):It :=
 #[λi H=>∃xs x,ju K H a xs/\xs[i]?=some x,
  λi H v H'=>∃t x,H t=none/\v=.ref t/\H'=upd H t (.tup [.int i,x])/\∀xs,ju K H a xs->xs[i]?=some x,
  λi H=>∃xs,ju K H a xs/\xs.length=i]
theorem fU {P:Dt}{K:C9}{elts:Dp}{kk:Nat}{DV:Pos} (e it l:Addr) (Li:e≠it) (hle:l≠e) (Rf:l≠it) :
  VS P w K (.Tuple elts kk DV) (nH K l) [e,it] e (λi h=>(∃old,IsEnum h e it i old)/\h.IsTupleIter it l i) true where
 mem:=by simp
 obj:=λi h st b hb=>by
  obtain⟨⟨old,q1⟩,⟨o4,q4,_,d4⟩⟩:=st;simp only[yD,yS,or_false] at hb;rcases hb with rfl|rfl
  ·grind
  ·grind
 keep:=λi h h' st k=>by
  obtain⟨⟨old,q1⟩,o4,q4,r⟩:=st;exact#[#[old,k e on _ q1],o4,k it on o4 q4,r]
 item:=by
  intro X hP hw hK hc i pins s σ H E I hf st hg;subst hP hw hK;obtain⟨xs,x,hx,ex⟩:=hg;obtain⟨Dy,r1,p1,_⟩:=I.tuple hx;obtain⟨v1,Rg,Rh⟩:=r1.get ex;obtain⟨⟨old,q1⟩,q4⟩:=st;have hi:i<Dy.toArray.size:=by grind
  refine wpAny_pyNext_enum_itemD (mO (A:=X.A.in1) (I.ok.hd<|hc rfl) it l Rf Dy.toArray) q1 #[q4,p1] hi Li (by simp [Li,yV hle]) λv h1 tk pv z1 z2 z3 z4 z5=>?_;obtain rfl:v1=v:=Yd (Rg.symm.trans (by simpa using pv));refine#[_,rfl,wpAny_letOwnedTupleGo_enum z1 λh2 LU sb=>?_];have keep:∀c o,c ∉ [e,it]->s.heap.get? c=some o->h2.get? c=some o:=λc o hc y=>by
   simp only[yD,yS,or_false,not_or] at hc;exact (sb.2 c hc.1).trans (z5 c o hc.1 hc.2 y)
  have DA:∀{c o},s.heap.get? c=some o->c≠s.heap.objs.size:=λe=>yE<|yo e;obtain⟨o4,e4,_,_⟩:=id q4;have I1:=I.turnedL (t':=tk+1) hf keep;have hp:=I.fresh;have tp:=(sb.2 _<|yV<|DA q1).trans z3;have I2:jp X pins σ (upd H s.heap.objs.size<|.tup [.int i,x]) _:=I1.track hp (Qi I.sz) (Qq I.lt)
   (λn c e zz=>by obtain⟨v0,o0,h0,_⟩:=I.cell n c e;exact DA h0 zz) (λq hq zz=>DA (I.pin q hq).1 zz) #[by show 2<=sizeLine;decide,_,.cons #[_,rfl]<|.cons Rh .nil,_,tp,rfl,_,rfl]
  refine#[.ref s.heap.objs.size,_,I2,rfl,#[_,x,hp,rfl,rfl,λEB Fj=>?_],#[#[_,by simpa using LU],let ⟨o,ho,r⟩:=z2.1;#[o,(sb.2 _<|yV Li).trans ho,r]],λc hc=>?_]
  ·rw[I.tuple_inj Fj hx];exact ex
  ·have LV:=(hf c hc).1;rw[jC ?_]
   ·exact LV
   ·grind
 done:=by
  intro X hP hw hK hc i pins s σ H E I hf st hg;subst hP hw hK;obtain⟨xs,hx,rfl⟩:=hg;obtain⟨Dy,rv,p,_⟩:=I.tuple hx;obtain⟨⟨old,q1⟩,q4⟩:=st;have hl:xs.length=Dy.toArray.size:=by exact rv.length
  rw[hl] at q1 q4;refine wpAny_pyNext_enum_endD (mO (A:=X.A.in1) (I.ok.hd<|hc rfl) it l Rf Dy.toArray) q1 #[q4,p] λh1 k=>#[rfl,?_];refine I.turnedL (ch:=[it]) (λc hc=>hf c ?_) λc o hc y=>?_
  ·grind
  ·simp only[yD,yS,or_false,not_or] at hc;exact k c o hc y
 self:=λ_ _ _ _ _ st h=>let ⟨_,q⟩:=st.1;wpAny_pyIter_enum q h
section
variable {X:Cx}{elts:Dp}{kk:Nat}{DV:Pos}
def xj (K:C9) (ta:TA):TI:=λσ H R=>ta σ H λvs H1=>∃a,vs=[.ref a]/\(∃xs,ju K H1 a xs)/\R (nH K a) H1
theorem av {a:Expr}{ta:TA}{p pos:Pos} (Fd:X.calm=true) (hg:Gl X "enumerate") (hm:X.mg "enumerate"=none) (ha:PA X [a] ta) (hs:autoParam (starEach [a] X.env=(false,eval a X.env)::starEach [] X.env) Fk) (DJ:autoParam ((backTo pos<|starEach [] X.env).any (·.1)=false) Fk) :
  PI X (.Tuple elts kk DV) (.Call (.Name "enumerate" p) [a] [] pos) (xj X.K ta):=by
 intro pins s σ H R I h;refine Call_ (V5 I hg hm boot_enumerate (Yu (jI (ha pos pins s σ H _ I h) λus s1 #[vs,H1,I1,r1,q1]=>?_) hs DJ));obtain⟨l1,e,⟨xs,hx⟩,q⟩:=q1;subst e;obtain⟨u,rfl,ru⟩:=uj r1;cases ru;obtain⟨Dy,_,p1,_⟩:=I1.tuple hx;have a1:l1<s1.heap.objs.size:=by obtain⟨_,e,_⟩:=p1;exact yo e
 refine dB p1 λh' z1 z2 k=>wpAny_pyIter_enum z1 ?_;have I2:=I1.kept (t':=s1.toks) k;refine#[_,_,_,_,H1,rfl,I2,#[true,fU _ _ l1 (abH _) (yE<|QA a1)<|yE a1,λ_=>Fd],#[#[_,z1],z2],λc hc=>?_,q];have le:s1.heap.objs.size<=c:=by
  grind
 exact I1.fpOk le (I1.hok.fresh le)
theorem mQ {K:C9}{a:Addr}{xs:List V}{g:TG}{tb:TS}{D:vS}{σ:St}{H:Hp} (Pv:Nat->St->Hp->Prop) (h0:Pv 0 σ H) (hl:∀i σ H,i<=xs.length->Pv i σ H->ju K H a xs)
  (hs:∀(i:Nat) x p σ H,xs[i]?=some x->H p=none->Pv i σ H->g (.ref p) σ (upd H p<|.tup [.int i,x]) λσ2 H2=>tb { D with nx:=Pv<|i+1,ct:=Pv<|i+1,bk:=D.nx } σ2 H2) (hd:∀σ H,Pv xs.length σ H->D.nx σ H) :
  ∃W:Nat->Nat->St->Hp->Prop,(∃m,W 0 m σ H)/\∀i m σ H,W i m σ H ->
   ((nH K a).stop i H/\D.nx σ H)\/((nH K a).go i H/\∃N:St->Hp->Prop,(∀σ' H',N σ' H'->∃m',m'<m/\W (i+1) m' σ' H')/\∀x H',(nH K a).yld i H x H'->g x σ H' λσ2 H2=>tb { D with nx:=N,ct:=N,bk:=D.nx } σ2 H2):=by
 refine#[λi m σ H=>m=xs.length - i/\i<=xs.length/\Pv i σ H,#[xs.length,by simp,yP _,h0],?_];rintro i m σ H ⟨rfl,hi,p⟩;have qa:=hl i σ H hi p;by_cases DA:i<xs.length
 ·refine .inr #[#[xs,xs[i],qa,by simp [DA]],_,λσ' H' p'=>#[_,by omega,rfl,DA,p'],λv H' yy=>?_];obtain⟨t,x,ht,rfl,rfl,e⟩:=yy;exact hs i x t σ H (e xs qa) ht p
 ·obtain rfl:i=xs.length:=by lia
  exact .inl #[#[xs,qa,rfl],hd σ H p]
end
end L2
namespace L2
open PySem PySem.Spec PyProof.Rows TS
variable {P:Dt}{w:World}{Dx:List (Key×V)}
def AQ (P:Dt) (w:World) (a:Addr) (o:Obj) (ws:List (Key×Value)):Prop:=∃ep,∀h:Heap,h.get? a=some o->h.DictAt (jM P w) a ws ep
structure wQ (P:Dt) (w:World) (H:Hp) (a:Addr) (o:Obj) (Dx:List (Key×V)):Prop where
 e:H a=some (vz a o)
 hm:(a==sysModules)=false
 dr:∃ws,KV Dx ws/\AQ P w a o ws
 hz:Dx.length<=sizeLine
def wS (a:Addr) (o:Obj) (Dx:List (Key×V)):It:=#[λi H=>H a=some (vz a o)/\i<Dx.length,λi H x H'=>H'=H/\∃kv,Dx[i]?=some kv/\x=kV kv.1,λi H=>H a=some (vz a o)/\Dx.length=i]
theorem i5:∀{Dx:List (Key×V)} {ws:List (Key×Value)} {i:Nat} {k:Key} {x:Value},KV Dx ws->ws[i]?=some (k,x)->∃y,Dx[i]?=some (k,y)
 | _,_,_,_,_,.nil,e=>by simp at e
 | _,_,0,_,_,.cons r _,e=>by
  grind
 | _,_,i+1,_,_,.cons _ t,e=>by
  obtain⟨y,h⟩:=i5 t (by simpa using e);exact#[y,by simpa using h]
theorem fR {K:C9}{tg:Expr} (a it:Addr) (D8:a≠it) (o:Obj) {ws:List (Key×Value)} {ep:Nat} (kv:KV Dx ws) (dr:∀h:Heap,h.get? a=some o->h.DictAt (jM P w) a ws ep) :
  VS P w K tg (wS a o Dx) [it] it (λi h=>h.IsKeyIter it a i ws.length ep) true where
 mem:=by simp
 obj:=λi h st b hb=>by
  obtain rfl:b=it:=by simpa using hb
  obtain⟨o,e,c,d⟩:=st;exact#[o,e,λv z=>by rw[d] at z;cases z]
 keep:=λi h h' st k=>by
  obtain⟨o,e,r⟩:=st;exact#[o,k it on o e,r]
 item:=by
  intro X hP hw hK hc i pins s σ H E I hf st hg;obtain⟨ea,hi⟩:=hg;obtain⟨f0,f1,f2,f3,f4,f5⟩:=hf it on;refine (Walks.dictKeys (I.ok.hd<|hc rfl) it a D8 ws ep).item i s _ E (by rw[<-kv.length];exact hi) #[st,dr _<|Va I.hok ea] λv h' tk pv D7 kp=>?_;obtain⟨k,x,ek,hk⟩:=pv;obtain⟨y,ey⟩:=i5 kv ek;have I1:=I.turned (t':=tk) (λb o hb e=>kp b o (by simpa using hb) e) f0 f1 f3 f4 f5;obtain⟨oi,e,c,d⟩:=id D7.1;exact#[_,rfl,gZ e c d ac #[_,H,I1,cH hk,#[rfl,_,ey,rfl],D7.1,λb hb=>(hf b hb).1]]
 done:=by
  intro X hP hw hK hc i pins s σ H E I hf st hg;obtain⟨ea,hi⟩:=hg;obtain⟨f0,f1,f2,f3,f4,f5⟩:=hf it on;rw[kv.length] at hi;exact (Walks.dictKeys (I.ok.hd<|hc rfl) it a D8 ws ep).done s _ E #[hi▸st,dr _<|Va I.hok ea] λh' tk kp=>#[rfl,I.turned (λb o hb e=>kp b o (by simpa using hb) e) f0 f1 f3 f4 f5]
 self:=λ_ _ _ _ _ st h=>wpAny_pyIter_keyiter st h
section
variable {X:Cx}{tg:Expr}
def iN (P:Dt) (w:World) (te:TE):TI:=λσ H R=>te σ H λx H1=>∃a Dx,x=.ref a/\H1 a=some (.dK Dx)/\∀o,wQ P w (upd H1 a<|vz a o) a o Dx->R (wS a o Dx) (upd H1 a<|vz a o)
theorem au {l:Expr}{tl:TE} (hc:X.calm=true) (hl:PE X l tl):PI X tg l (iN X.prog X.w tl):=by
 intro pins s σ H R I h;refine jI (hl pins s σ H _ I h) λv s1 hh=>?_;obtain⟨x,H1,I1,r1,a,Dx,e,ha,q⟩:=hh;subst e;cases r1;obtain⟨z,hm,ws,rel,o,es,ep,h1,h2⟩:=gW I1.hok ha;have dr:∀h:Heap,h.get? a=some o->h.DictAt _ a ws ep:=λh g=>#[o,es,g,h2];refine wpAny_pyIter_dict hm (dr _ h1) ?_;have I2:jp X pins σ (upd H1 a<|vz a o) _:=I1.write (t':=s1.toks) (by rw[ha];exact Yp) (.inl rfl) (λb u _ e=>e) #[o,h1] #[h1,#[o,h1],λg1 g2 x k=>k _ x];have I3:=I2.kept (h':=s1.heap.push { cls:=.type "dict_keyiterator",data:=.fields (Yb [.ref a,.int 0 0,.int ws.length 0,.int ep 0]) }) (t':=s1.toks) λb o e=>yf _ e;refine#[s1.heap.objs.size,_,_,_,_,rfl,I3,#[true,fR a _ (yE<|yo h1) o rel dr,λ_=>hc],#[_,yt _ rfl,rfl,rfl],λb hb=>?_,q o #[jc,hm,#[ws,rel,ep,dr],z]];obtain rfl:b=s1.heap.objs.size:=by simpa using hb
 exact I2.fpOk (yj _) (I2.hok.fresh<|yj _)
def oX (P:Dt) (w:World) (t:TE):TE:=λσ H Q=>t σ H λv H'=>∃a o Dx,wQ P w H' a o Dx/\Q v (upd H' a<|.dK Dx)
theorem ar {e:Expr}{t:TE} (h:PE X e t):PE X e (oX X.prog X.w t):=by
 intro pins s σ H Q I q;refine jI (h pins s σ H _ I q) λv s1 hh=>?_;obtain⟨x,H1,I1,r1,a,o,Dx,⟨ha,hm,⟨ws,rel,ep,dr⟩,hz⟩,q⟩:=hh;have g:=Va I1.hok ha;obtain⟨o',es,r⟩:=dr _ g;exact#[x,_,I1.write (o:=.dK Dx) (by rw[ha];exact Yp) (.inl rfl) (λb u _ e=>e) #[o,g] #[hz,hm,ws,rel,o',es,ep,r],r1,q]
theorem pQ {a:Addr}{o:Obj}{g:TG}{tc:TT}{te:TE}{k:Nat}{σ:St}{H:Hp}{Q:VK} (F:wQ P w H a o Dx) (Pv:Addr->Nat->List V->Hp->Prop)
  (h0:∀D,H D=none->Pv D 0 [] (upd H D<|.lst [])) (hD:∀D i ys H',Pv D i ys H'->H' D=some (.lst ys)/\ys.length<=i/\H' a=some (vz a o))
  (step:∀D i kv ys H' (Qy:VK) (Qn:Hp->Prop),Dx[i]?=some kv->Pv D i ys H'->(∀y H4,H4 D=some (.lst ys)->Pv D (i+1) (ys++[y]) (upd H4 D<|.lst<|ys++[y])->Qy y H4)->(∀H4,Pv D (i+1) ys H4->Qn H4) ->
   g (kV kv.1) (σ++Ye k none) H' λσ2 H2=>(∃zs,σ2=σ++zs/\zs.length=k)/\tc σ2 H2 λb H3=>if b=true then te σ2 H3 Qy else Qn H3)
  (q:∀D ys H',H D=none->Pv D Dx.length ys H'->Q (.ref D) H'):vJ k g tc te σ Q (wS a o Dx) H:=by
 have hz:=F.hz;intro D EW;refine#[λi m ys H'=>m=Dx.length - i/\i<=Dx.length/\Pv D i ys H',#[Dx.length,by simp,yP _,h0 D EW],?_];rintro i m ys H' ⟨rfl,hi,p⟩;obtain⟨e,hl,q1⟩:=hD D i ys H' p;refine#[e,?_];by_cases DA:i<Dx.length
 ·refine .inr #[#[q1,DA],by lia,λx H2 y=>?_];obtain⟨rfl,kv,h1,rfl⟩:=y;exact step D i kv ys _ _ _ h1 p (λy H4 e4 p4=>#[e4,_,by omega,rfl,DA,p4]) λH4 p4=>#[_,by omega,rfl,DA,p4]
 ·obtain rfl:i=Dx.length:=by lia
  exact .inl #[#[q1,rfl],q D ys H' EW p]
end
section
variable {X:Cx}
theorem tU (hu:X.A.units<cLine):uk X (compareOp .NotEq) (λx y H Q=>∃(b:Addr) (ms:List Int),A3 (y=.ref b) (jj X.K H b<|ms.map V.int) ((x=.non/\Q (.bl true) H)\/∃(a:Addr) (ns:List Int),A3 (x=.ref a) (jj X.K H a<|ns.map V.int)<|Q (.bl<|!decide (ns=ms)) H)):=by
 intro pins s σ H x y v u Q I rx ry h;obtain⟨b,ms,rfl,hb,h⟩:=h;rcases h with ⟨rfl,q⟩|⟨a,ns,rfl,ha,q⟩
 ·cases rx;cases ry;obtain⟨Dy,r1,p1,_⟩:=I.list hb;exact EqBoolInt.of_rcne (SeqAt.RcNeAt.none_list p1.isList hu) #[.bl true,H,I,rfl,q]
 ·exact VE hu pins s σ H _ _ v u Q I rx ry #[a,b,ns,ms,rfl,rfl,ha,hb,q]
theorem mT:∀{ns:List Int} {us:Dh},jH (ns.map V.int) us->IntsAre us ns
 | [],_,.nil=>.nil
 | n::ns,_,.cons r t=>by
  obtain⟨tk,rfl⟩:=r;exact .cons n tk (mT t)
theorem UD:Jr X (.builtin "sorted") (λxs H Q=>∃(p:Addr) (ns:List Int),A4 (xs=[.ref p]) (jj X.K H p<|ns.map V.int) (ns.length<64)
  (∀(l:Addr) (DK:List Int),H l=none->DK.Perm ns->DK.Pairwise (·<=·)->Q (.ref l) (upd H l<|.lst<|DK.map V.int))):=by
 intro pins s σ H xs us Q I r h;obtain⟨p,ns,rfl,e,hn,q⟩:=h;obtain⟨u,rfl,ru⟩:=uj r;cases ru;obtain⟨Dy,rv,pl,hz⟩:=I.list e;have hi:=mT rv;refine GG (λR hR=>collect_list pl.isList (hR _ ns _ s.toks s.drawn hi (.refl _) (λb o e=>?_) ?_) ?_) hn λh' tk c dr p' out DK kp hp e' a1 a2 a3=>?_
 ·exact (yK _ _<|Qq<|yo e).trans (yf _ e)
 ·simp_all
 ·rw[hi.length];exact yk (yX hn) ac
 ·refine#[.ref p',_,(I.laid (o:=.lst _) kp hp #[?_,out,c,zB a1,e']).drw dr,rfl,q p' _ (I.hok.fresh hp) a2 a3];rw[ya,a2.length_eq];exact yk (yX hn) ac
def b9 (r:Addr) (n:Nat):HO:=.ext λh=>∃t u v,IsRange h r 0 n 1 t u v
theorem Go:Jr X (.type "range") (λxs H Q=>∃(n:Nat),xs=[.int n]/\∀r,H r=none->Q (.ref r) (upd H r<|b9 r n)):=by
 intro pins s σ H xs us Q I r h;obtain⟨n,rfl,q⟩:=h;obtain⟨u,rfl,t,rfl⟩:=uj r;have g:=yt s.heap (o:={ cls:=.type "range",data:=.fields (Yb [.int 0 s.toks,.int n t,.int 1<|s.toks+1]) }) rfl;exact call_range_1 #[.ref s.heap.objs.size,_,I.laid (o:=b9 s.heap.objs.size n) (λ_ _ q=>yf _ q) (yj _) #[#[_,_,_,g],#[_,g],λh1 h2 x k=>by grind],rfl,q _<|I.hok.fresh<|yj _]
theorem mW:∀{n:Nat} {acc:Dh} {k:Nat},acc.length=n->(∀(i:Nat) v,acc[i]?=some v->∃t,v=.int ((k+i:Nat):Int) t)->jH ((List.range' k n).map λi=>V.int (i:Nat)) acc
 | 0,[],_,_,_=>.nil
 | 0,_::_,_,h,_=>by cases h
 | n+1,[],_,h,_=>by cases h
 | n+1,v::acc,k,h,f=>by
  refine .cons (f 0 v rfl) (mW (by simpa using h) λi v e=>?_);obtain⟨t,rfl⟩:=f (i+1) v (by simpa using e);exact#[t,by grind]
theorem kK (Fd:X.calm=true):Jr X (.type "list") (λxs H Q=>∃(r:Addr) (n:Nat),A4 (xs=[.ref r]) (H r=some (b9 r n)) (n<=1000) (∀l,H l=none->Q (.ref l) (upd H l (.lst ((Yc n).map λi=>V.int (i:Nat)))))):=by
 intro pins s σ H xs us Q I r h;obtain⟨r0,n,rfl,e,hn,q⟩:=h;obtain⟨u,rfl,ru⟩:=uj r;cases ru;obtain⟨⟨t,u,v,hr⟩,_⟩:=(I.hok r0 _ e);refine call_list_range (n:=n) (I.ok.hd Fd) hr (small_one gt gt gt gt) ?_ gt λh' tk acc c kp e' items=>?_
 ·rw[rangeSize_one];split<;>lia
 ·refine#[.ref s.heap.objs.size,_,I.laid (o:=.lst _) kp (yj _) #[?_,acc.toList,c,?_,by omega],rfl,q _<|I.hok.fresh<|yj _]
  ·rw[ya,yL];exact yk hn ac
  ·rw[List.range_eq_range'];exact mW (by exact items.1) λi v e=>by
    obtain⟨t,rfl⟩:=items.2 i v (by grind);exact#[t,by simp]
end
section
variable {X:Cx}{f:Value}
theorem VJ {ι:Sort _}{r:ι->List V->Hp->VK->Prop} (h:∀i,Jr X f<|r i):Jr X f (λxs H Q=>∃i,r i xs H Q) :=
 λpins s σ H xs us Q I rv #[i,q]=>h i pins s σ H xs us Q I rv q
theorem VL {r1 r2:List V->Hp->VK->Prop} (h1:Jr X f r1) (h2:Jr X f r2):Jr X f (λxs H Q=>r1 xs H Q\/r2 xs H Q) :=
 λpins s σ H xs us Q I rv q=>q.elim (h1 pins s σ H xs us Q I rv) (h2 pins s σ H xs us Q I rv)
end
end L2
namespace L2
open PySem PySem.Spec PyProof.Rows TS SG STb
variable {x:Value}{Q:VK}{H:Hp}{ks:List (List Key)}{f:Value->Value->Sem Value}
section
variable {X:Cx}{pins:De}{σ:St}{H:Hp}{s:Shared}{O:Od}{hd:∀h u l,¬(Uz l u/\∃a,O.R h u a)}
theorem ZD (I:jp X pins σ H s) (hu:X.A.units+64<cLine) (v₁:O.deep<=8) {bs:Di} {ks:List (List<|Key ⊕ O.α)} {d:Bool} {Q:VK}
  (hc:∀R:List Value->Shared->Prop,(∀vs h' tk dr,vs.Perm (bs.map Value.ref)->(∀b o,s.heap.get? b=some o->h'.get? b=some o)->s.heap.objs.size<h'.objs.size->R vs { s with heap:=h',toks:=tk,drawn:=dr })->wpAny '%' X.A.in1 (collect x) R X.xe s)
  (ka:J1 (J0<|Jo O hd) H bs ks) (hf:∀k∈ks,∃c r,k=.inl c::r/\c.isLeft=d) (Fd:∀a∈ks,∀b∈ks,vI (Jo O hd) a b) (ED:ks.length<64)
  (q:∀l DP DM,H l=none->J1 (J0<|Jo O hd) H DP DM->DM.Perm ks->(DM.Pairwise λa b=>ul (Jo O hd) b a=false)->Q (.ref l) (upd H l<|.lst<|DP.map V.ref)) :
  wpAny '%' X.A (call (.builtin "sorted") [x]) (EP X pins σ Q) X.xe s:=by
 let M:=J0 (Jo O hd)
 have hr:∀b k,M.V_ H (.ref b) k->M.R s.heap _ k:=λb k h=>M.raw I.hok h rfl;have hb:∀v∈bs.map Value.ref,∃b∈bs,∃k∈ks,v=.ref b/\M.V_ H (.ref b) k:=λv hv=>by
  obtain⟨b,hb,rfl⟩:=yi.mp hv;obtain⟨k,hk,x⟩:=bU ka hb;exact#[b,hb,k,hk,rfl,x]
 have Lm:∀b k,M.V_ H _ k->NK M s.heap [] _=k:=λb k h=>Kd<|hr b k h;have hk:=fA (λb k h=>Lm b k h) ka;have hlen:=by rw[<-hk,ya] at ED;exact ED
 have X1:uC hd s.heap _ (NK M s.heap _) d:=#[λv hv=>by
   obtain⟨b,_,k,_,rfl,x⟩:=hb v hv;rw[Lm b k x];exact hr b k x,λv hv=>by
   obtain⟨b,_,k,hk,rfl,x⟩:=hb v hv;rw[Lm b k x];exact hf k hk,λu hu v hv=>by
   obtain⟨b,_,k,hk,rfl,x⟩:=hb u hu;obtain⟨b',_,k',Eb,rfl,x'⟩:=hb v hv;rw[Lm b k x,Lm b' k' x'];exact Fd k hk k' Eb]
 refine fH (by omega) hc X1 hlen λh' tk c dr p' out kp hp e' pm up=>?_;have ho:∀v∈out,∃b,v=.ref b/\M.V_ H (.ref b) (NK M s.heap _ v):=λv h=>by
  obtain⟨b,_,k,_,rfl,x⟩:=hb v<|pm.mem_iff.mp h;exact#[b,rfl,by rw[Lm b k x];exact x]
 have TB:jH ((out.map w4).map V.ref) out/\J1 M H (out.map w4) (out.map<|NK M s.heap []):=by
  clear pm up e'
  induction out with
  | nil=>exact#[.nil,.nil]
  | cons v l ih =>
   obtain⟨b,rfl,x⟩:=ho v yu;obtain⟨i1,i2⟩:=ih λv hv=>ho v<|yl _ hv;exact#[.cons rfl i1,.cons x i2]
 refine#[.ref p',_,(I.laid (o:=.lst _) kp hp #[?_,out,c,TB.1,e']).drw dr,rfl,q p' _ _ (I.hok.fresh hp) TB.2 (hk▸pm.map _)<|QB.mpr up];rw[ya,ya,pm.length_eq];exact TS.sz64 hlen
end
abbrev fO:Od:=Jo (J0 Ur) (Um Ur)
def ZV (k:List Key):List (Key ⊕ List Key):=k.map Yh
theorem KW:∀k:List Key,Paired (fO.V_ H) (k.map kV) (ZV k)
 | []=>.nil
 | _::k=>.cons rfl (KW k)
theorem pW:∀{xs:List V} {k:List Key},Paired (fO.V_ H) xs (ZV k)->xs=k.map kV:=by
 intro xs k h
 induction k generalizing xs with
 | nil=>cases h;rfl
 | cons a k ih=>cases h with|cons r t=>rw[show _=kV _ from r,ih t];rfl
theorem GS {bs:Di}:J1 (J0 fO) H bs (ks.map ZV)↔KeyAt H bs ks:=by
 constructor
 ·intro h
  induction bs generalizing ks with
  | nil =>
   cases ks with
   | nil=>exact#[rfl,λi b k h=>nomatch h]
   | cons _ _=>cases h
  | cons b bs ih =>
   cases ks with
   | nil=>cases h
   | cons k ks =>
    cases h with
    | cons r t =>
     obtain⟨l,e⟩:=ih t;refine#[by rw[Qe,Qe,l],λi b' k' h1 h2=>?_]
     match i,h1,h2 with
     | 0,h1,h2 =>
      cases h1;cases h2;obtain⟨a,xs,ea,hx,p⟩:=r;cases ea;rw[hx,pW p]
     | i+1,h1,h2=>exact e i b' k' (by simpa using h1) (by simpa using h2)
 ·intro h
  induction bs generalizing ks with
  | nil=>cases ks with|nil=>exact .nil|cons _ _=>exact nomatch h.1
  | cons b bs ih =>
   cases ks with
   | nil=>exact nomatch h.1
   | cons k ks=>exact .cons #[b,_,rfl,h.2 0 b k rfl rfl,KW k] (ih #[Yx h.1,λi b' k' h1 h2=>h.2 (i+1) b' k' (by simpa using h1) (by simpa using h2)])
theorem Nr:∀{a b:List Key},sd a=sd b->vI fO (ZV a) (ZV b)
 | [],_,_=>by unfold ZV vI;split<;>trivial
 | _::_,[],h=>by cases h
 | x::a,y::b,h=>by
  injection (show (x.isLeft::sd a)=y.isLeft::sd b from h) with h1 h2
  exact#[h1,λ_=>Nr h2]
theorem cp:∀a b:List Key,ul fO (ZV a) (ZV b)=lx a b
 | [],[]=>rfl
 | [],_::_=>rfl
 | _::_,[]=>rfl
 | x::a,y::b=>by
  show (if (Yh x:Key ⊕ List Key)=Yh y then ul fO (ZV a) (ZV b) else V3 x y)=if x=y then lx a b else V3 x y
  by_cases h:x=y
  ·rw[if_pos<|congrArg Yh h,if_pos h,cp a b]
  ·rw[if_neg (λe=>h<|Ym e),if_neg h]
section
variable {X:Cx}{pins:De}{σ:St}{H:Hp}{s:Shared}
theorem GF (I:jp X pins σ H s) (hu:X.A.units+64<cLine) {bs:Di} {ks:List (List Key)} {d:List Bool} {Q:VK}
  (hc:∀R:List Value->Shared->Prop,(∀vs h' tk dr,vs.Perm (bs.map Value.ref)->(∀b o,s.heap.get? b=some o->h'.get? b=some o)->s.heap.objs.size<h'.objs.size->R vs { s with heap:=h',toks:=tk,drawn:=dr })->wpAny '%' X.A.in1 (collect x) R X.xe s)
  (ka:KeyAt H bs ks) (hs:∀k∈ks,sd k=d) (hd:d≠[]) (ED:ks.length<64)
  (q:∀l DP DM,H l=none->KeyAt H DP DM->DM.Perm ks->(DM.Pairwise λa b=>lx b a=false)->Q (.ref l) (upd H l<|.lst<|DP.map V.ref)) :
  wpAny '%' X.A (call (.builtin "sorted") [x]) (EP X pins σ Q) X.xe s:=by
 refine ZD (O:=J0 Ur) (hd:=Um Ur) (ks:=ks.map ZV) (d:=d.head hd) I hu ac hc (GS.mpr ka) (λk hk=>?_) (λa ha b hb=>?_) (by rw[ya];exact ED) λl DP DM hl na pm so=>?_
 ·obtain⟨k,Eb,rfl⟩:=yi.mp hk;have:=hs k Eb;cases k with
  | nil=>exact absurd this.symm hd
  | cons c r=>exact#[c,ZV r,rfl,by simp only[<-this];rfl]
 ·obtain⟨a,TC,rfl⟩:=yi.mp ha;obtain⟨b,EY,rfl⟩:=yi.mp hb;exact Nr ((hs a TC).trans (hs b EY).symm)
 ·obtain⟨ms,Of,rfl⟩:=STb.perm_map pm _ rfl;exact q l DP ms hl (GS.mp na) Of ((QB.mp so).imp λh=>(cp _ _).symm.trans h)
theorem UE (hu:X.A.units+64<cLine):Jr X (.builtin "sorted") (λxs H Q=>∃p bs ks d,xs=[.ref p]/\H p=some (.lst<|bs.map V.ref)/\KeyAt H bs ks/\(∀k∈ks,sd k=d)/\d≠[]/\ks.length<64 /\
  ∀l DP DM,H l=none->KeyAt H DP DM->DM.Perm ks->(DM.Pairwise λa b=>lx b a=false)->Q (.ref l) (upd H l<|.lst<|DP.map V.ref)):=by
 intro pins s σ H xs us Q I r h;obtain⟨p,bs,ks,d,rfl,e,ka,hs,hd,ED,q⟩:=h;obtain⟨u,rfl,ru⟩:=uj r;cases ru;obtain⟨Dy,rv,pl,hz⟩:=I.list<|jj.of e;obtain rfl:=Vd rv;refine GF I hu (λR hR=>collect_list (A:=X.A.in1) pl.isList (hR _ _ s.toks s.drawn (.refl _) (λb o e=>(yK _ _<|Qq<|yo e).trans<|yf _ e) ?_) (by simpa using hz)) ka hs hd ED q;show s.heap.objs.size<((s.heap.push _).update _ _).objs.size;simp [Heap.update,Heap.push]
theorem ZO (hc:X.calm=true) (hu:X.A.units+64<cLine):Jr X (.builtin "sorted") (λxs H Q=>∃p Dx d,xs=[.ref p]/\H p=some (.dT Dx)/\(∀kv∈Dx,sd kv.1=d)/\d≠[]/\Dx.length<64 /\
  ∀l bs ks,H l=none->KeyAt H bs ks->ks.Perm (Dx.map (·.1))->(ks.Pairwise λa b=>lx b a=false)->Q (.ref l) (upd H l<|.lst<|bs.map V.ref)):=by
 intro pins s σ H xs us Q I r h;obtain⟨p,Dx,d,rfl,e,hs,hd,ED,q⟩:=h;obtain⟨u,rfl,ru⟩:=uj r;cases ru;obtain⟨hl,hm,ys,kt,ob,es,ep,h1,h2,h3,h4,h5,h6⟩:=dH I.hok e;have OW:es.size<=sizeLine:=by
  have:=congrArg Ys h4;rw[yN,ya] at this;rw[this,<-Paired.length kt];exact hl
 have ek:es.toList.map (·.key)=(ys.map (·.2.1)).map Value.ref:=by rw[h4,yq,yq];rfl
 have ka:KeyAt H (ys.map (·.2.1)) (Dx.map (·.1)):=by
  refine GS.mp ?_;clear hl h4 h5 h6 hs q e ED ek
  induction kt with
  | nil=>exact .nil
  | cons r _ ih=>exact .cons #[_,_,rfl,r.2.1,KW _] ih
 exact GF I hu (λR hR=>bq (A:=X.A.in1) (I.ok.hd hc) hm #[ob,h1,h2,h3] OW λh' tk kp lt=>hR _ h' tk s.drawn (.of_eq ek) kp lt) ka (λk hk=>by obtain⟨kv,h7,rfl⟩:=yi.mp hk;exact hs kv h7) hd (by rw[ya];exact ED) q
theorem ZP (T:TK) (hc:X.calm=true) (hu:X.A.units+64<cLine):Jr X (.builtin "sorted") (λxs H Q=>∃(S:Addr) (us:List (T.α×Addr)),A5 (xs=[.ref S]) (H S=some (.ext<|zD T X.prog X.w S us)) (∀x∈us,T.M.V_ H (.ref x.2) x.1/\T.good x.1) (us.length<64)
  (∀l DP DM,H l=none->J1 T.M H DP DM->DM.Perm (us.map (·.1))->(DM.Pairwise λa b=>ul (Jo T.O T.hd) b a=false)->Q (.ref l) (upd H l<|.lst<|DP.map V.ref))):=by
 intro pins s σ H xs us Q I r h;obtain⟨S,vs,rfl,e,hv,hn,q⟩:=h;obtain⟨u,rfl,ru⟩:=uj r;cases ru;obtain⟨o,es,ep,t,h1,h2,h3,h4,h5,h6⟩:=(show JZ X.prog X.w H s.heap S (.ext<|zD T X.prog X.w S vs) from I.hok S _ e).1;have sz:es.size=vs.length:=by rw[<-yN,h4,ya]
 have e0:es.toList.map (·.2)=(vs.map (·.2)).map Value.ref:=by rw[h4,yq,yq];rfl
 have ka:J1 T.M H (vs.map (·.2)) (vs.map (·.1)):=by
  clear h4 sz e0 e q hn
  induction vs with
  | nil=>exact .nil
  | cons x l ih=>exact .cons (hv x yu).1 (ih λy hy=>hv y<|yl _ hy)
 have gd:∀k∈vs.map (·.1),T.good k:=λk hk=>by obtain⟨x,hx,rfl⟩:=yi.mp hk;exact (hv x hx).2
 exact ZD (hd:=T.hd) (d:=T.d) I hu T.od (λR hR=>bn (A:=X.A.in1) (I.ok.hd hc) h1 h2 h3 h5 h6 (by rw[sz];omega) λEZ h' tk dr pv kp lt=>hR EZ h' tk dr (e0▸pv) kp lt) ka (λk hk=>T.fst<|gd k hk) (λa ha b hb=>T.cm (gd a ha)<|gd b hb) (by rw[ya];exact hn) q
end
section
variable {X:Cx}
theorem lQ {r1 r2:R2} (h1:uk X f r1) (h2:uk X f r2):uk X f (λx y H Q=>r1 x y H Q\/r2 x y H Q) :=
 λpins s σ H x y v u Q I rx ry q=>q.elim (h1 pins s σ H x y v u Q I rx ry) (h2 pins s σ H x y v u Q I rx ry)
theorem lS {ι:Sort _}{r:ι->R2} (h:∀i,uk X f<|r i):uk X f (λx y H Q=>∃i,r i x y H Q) :=
 λpins s σ H x y v u Q I rx ry #[i,q]=>h i pins s σ H x y v u Q I rx ry q
theorem Kg {n:String}{r1 r2:V->List V->Hp->VK->Prop} (h1:ZL X n r1) (h2:ZL X n r2):ZL X n (λx vs H Q=>r1 x vs H Q\/r2 x vs H Q) :=
 λpins s σ H x vs v us Q I rx rv q=>q.elim (h1 pins s σ H x vs v us Q I rx rv) (h2 pins s σ H x vs v us Q I rx rv)
theorem Kh {n:String}{ι:Sort _}{r:ι->V->List V->Hp->VK->Prop} (h:∀i,ZL X n<|r i):ZL X n (λx vs H Q=>∃i,r i x vs H Q) :=
 λpins s σ H x vs v us Q I rx rv #[i,q]=>h i pins s σ H x vs v us Q I rx rv q
theorem ZQ (T:TK) (hu:X.A.units+64<cLine):Jr X (.builtin "sorted") (λxs H Q=>∃(p:Addr) (bs:Di) (ks:List T.α),A5 (xs=[.ref p]) (H p=some (.lst<|bs.map V.ref)) (J1 T.M H bs ks) ((∀k∈ks,T.good k)/\ks.length<64)
  (∀l DP DM,H l=none->J1 T.M H DP DM->DM.Perm ks->(DM.Pairwise λa b=>ul (Jo T.O T.hd) b a=false)->Q (.ref l) (upd H l<|.lst<|DP.map V.ref))):=by
 intro pins s σ H xs us Q I r h;obtain⟨p,bs,ks,rfl,e,ka,⟨gd,ED⟩,q⟩:=h;obtain⟨u,rfl,ru⟩:=uj r;cases ru;obtain⟨Dy,rv,pl,hz⟩:=I.list<|jj.of e;obtain rfl:=Vd rv;refine ZD I hu T.od (λR hR=>collect_list pl.isList (hR _ _ s.toks s.drawn (.refl _) (λb o e=>(yK _ _<|Qq<|yo e).trans<|yf _ e) ?_) (by simpa using hz)) ka (λk hk=>T.fst<|gd k hk) (λa ha b hb=>T.cm (gd a ha)<|gd b hb) ED q;simp [Heap.push]
def kn (T:TK) (k j:T.α):Prop:=∀(i:Nat) x y,k[i]?=some x->j[i]?=some y->(Jo T.O T.hd).cmp x y
theorem lU (T:TK) (hu:X.A.units+64<cLine):uk X (compareOp .NotEq) (λx y H Q=>E4 λ(a b:Addr) (k j:T.α)=>A6 (x=.ref a) (y=.ref b) (T.M.V_ H (.ref a) k) (T.M.V_ H (.ref b) j) (kn T k j)<|Q (.bl<|!decide (k=j)) H):=by
 intro pins s σ H x y v u Q I rx ry h;obtain⟨a,b,k,j,rfl,rfl,ha,hb,fc,q⟩:=h;cases rx;cases ry;obtain⟨_,vs,e1,t1,p1⟩:=T.M.raw I.hok ha rfl;obtain⟨_,ws,e2,t2,p2⟩:=T.M.raw I.hok hb rfl;cases e1;cases e2;have l1:=Js p1;have l2:=Js p2;have od:=T.od;refine EqBoolInt.of_rcne (SeqAt.RcNeAt.tuples (e:=n0 (O:=Jo T.O T.hd) k j) t1 t2 gt λi h1 h2=>?_) #[.bl _,H,I,rfl,?_]
 ·have g1:i<k.length:=by rw[<-l1];simpa using h1
  have g2:i<j.length:=by rw[<-l2];simpa using h2
  rw[UV g1 g2,yW];exact (Jo T.O T.hd).eq (by grind) (fc i _ _ (yb g1)<|yb g2) (um p1 _ g1) (um p2 _ g2)
 ·have:((Yc<|min vs.toArray.size ws.toArray.size).all (n0 (O:=Jo T.O T.hd) k j)&&vs.toArray.size==ws.toArray.size)=decide (k=j):=by
   rw[yw,yw,l1,l2,Qr,decide_eq_true_iff,QP,QG,beq_iff_eq];refine#[λ⟨z,e⟩=>y7 e λi g1 g2=>?_,λe=>?_]
   ·have:=z i (yI.mpr (by omega));rw[UV g1 g2] at this;exact of_decide_eq_true this
   ·subst e;exact#[λi _=>decide_eq_true rfl,rfl]
  rw[this];exact q
theorem zq (T:TK) (hu:X.A.units+64<cLine):ZL X "list.index" (λx vs H Q=>∃(l b:Addr) (bs:Di) (ks:List T.α) (k:T.α) (j:Nat),A8 (x=.ref l) (vs=[.ref b]) (H l=some (.lst<|bs.map V.ref)) (J1 T.M H bs ks) (T.M.V_ H (.ref b) k) (ks.Nodup/\ks[j]?=some k/\ks.length<=1000) (∀i∈ks,T.M.cmp i k)<|Q (.int (j:Nat)) H):=by
 classical
 intro pins s σ H x vs v us Q I rx rv h;obtain⟨l,b,bs,ks,k,j,rfl,rfl,hH,na,hb,⟨nd,hk,hs⟩,hc,q⟩:=h;cases rx;obtain⟨u,rfl,t⟩:=rv.one;cases t;obtain⟨z,Dy,n,r,hl,e⟩:=I.lstM hH;obtain rfl:=Vd r;have lr:=Js na;have od:=T.od;obtain⟨hj,ek⟩:=yc.mp hk;have rb:=T.M.raw I.hok hb rfl;have ra:∀(m:Nat) (h1:m<bs.length) (h2:m<ks.length),T.M.R s.heap _ _:=λm h1 h2=>T.M.raw I.hok (um na h1 h2) rfl;refine call_meets F.slot_list_index #[_,e,rfl] F.entry_list_index (F.args_list_index_2 _ _) (SeqAt.list_indexAt l _ n _ _ _ (λy=>@decide (NK T.M s.heap k y=k) _) j (by simp_all) (by omega) ?_ λm hm DA=>?_) #[e,λy hy=>?_,#[.int _,H,I.tok _,#[_,rfl],q]]
 ·rw[yW,yQ,Kd<|ra j _ hj];exact decide_eq_true ek
 ·rw[yw,ya] at hm;rw[yW,yQ,Kd (ra m hm (by omega))];exact decide_eq_false λz=>Qj.mp nd m j _ hj DA (z.trans ek.symm)
 ·obtain⟨b',EY,rfl⟩:=yi.mp<|Array.mem_toArray.mp hy;obtain⟨m,h1,rfl⟩:=yH EY;have h2:m<ks.length:=by omega
  rw[Kd<|ra m h1 h2];exact T.M.eq (by show X.A.units+1+(T.O.deep+1)<cLine;omega) (hc _<|yz h2) (ra m h1 h2) rb
end
def Vt (H:Hp):Nat->V->V->Prop
 | 0,x,y=>∃k:Key,x=kV k/\y=kV k
 | n+1,x,y=>(∃k:Key,x=kV k/\y=kV k)\/E4 λ(a b:Addr) (xs ys:List V)=>A4 (x=.ref a) (y=.ref b) ((H a=some (.tup xs)/\H b=some (.tup ys))\/(H a=some (.lst xs)/\H b=some (.lst ys))) (Paired (Vt H n) xs ys)
section
variable {X:Cx}{pins:De}{σ:St}{H:Hp}{s:Shared}
theorem kF (n:Nat):(Yc n).all (λ_=>true)=true:=by simp
theorem Zn {A:Around}{f:V->V->Prop} (hf:∀{x y:V} {u v:Value},f x y->jG x u->jG y v->SeqAt.EqAt A s u v true) {xs ys:List V} (p:Paired f xs ys) ⦃Dy DG:List Value⦄ (r1:jH xs Dy) (r2:jH ys DG) (j:Nat) (h1:j<Dy.toArray.size) (h2:j<DG.toArray.size):SeqAt.EqAt A s Dy.toArray[j] DG.toArray[j] true:=by
 have l1:=r1.length;have l2:=r2.length;rw[yw] at h1 h2;obtain⟨u,eu,ru⟩:=r1.get (x:=xs[j]' gt)<|yb _;obtain⟨v,ev,rv⟩:=r2.get (x:=ys[j]' gt)<|yb _;rw[yb h1] at eu;rw[yb h2] at ev;rw[yW,yW,Yd eu,Yd ev];exact hf (um p _ _) ru rv
theorem nV (I:jp X pins σ H s):∀{n:Nat} {A:Around} {x y:V} {u v:Value},A.units+n<cLine->Vt H n x y->jG x u->jG y v->SeqAt.EqAt A s u v true:=λ{n}=>by
 induction n with
 | zero =>
  rintro A x y u v _ ⟨k,rfl,rfl⟩ r1 r2;exact ga rfl (Zo r1 r2)
 | succ n ih =>
  rintro A x y u v hu (⟨k,rfl,rfl⟩|⟨a,b,xs,ys,rfl,rfl,h,p⟩) r1 r2
  ·exact ga rfl (Zo r1 r2)
  cases r1;cases r2;by_cases Fn:a=b
  ·subst Fn;exact SeqAt.EqAt.same _
  have lp:=Js p;have key:=Zn (A:=A.in1) (ih (by grind)) p;rcases h with ⟨ha,hb⟩|⟨ha,hb⟩
  ·obtain⟨Dy,r1,p1,_⟩:=I.tuple<|ju.of ha;obtain⟨DG,r2,p2,_⟩:=I.tuple<|ju.of hb;have l1:=r1.length;have l2:=r2.length;have:=SeqAt.EqAt.of_refs Fn (SeqAt.RcAt.tuples p1 p2 gt<|key r1 r2);rwa [kF,show (Dy.toArray.size==DG.toArray.size)=true by rw[yw,yw,beq_iff_eq];lia] at this
  ·obtain⟨Dy,r1,p1,_⟩:=I.list<|jj.of ha;obtain⟨DG,r2,p2,_⟩:=I.list<|jj.of hb;have l1:=r1.length;have l2:=r2.length;have:=SeqAt.EqAt.of_refs Fn (SeqAt.RcAt.lists p1.isList p2.isList (by grind) gt<|key r1 r2);rwa [kF] at this
def Zd (H:Hp) (n:Nat) (x y:V):Prop:=E4 λ(a b:Addr) (xs ys:List V)=>A4 (x=.ref a) (y=.ref b) ((H a=some (.tup xs)/\H b=some (.tup ys))\/(H a=some (.lst xs)/\H b=some (.lst ys))) (Paired (Vt H n) xs ys)
theorem lT (hu:X.A.units+64<cLine):uk X (compareOp .NotEq) (λx y H Q=>∃n,A3 (n<=60) (Zd H n x y)<|Q (.bl false) H):=by
 intro pins s σ H x y v u Q I rx ry h;obtain⟨n,hn,⟨a,b,xs,ys,rfl,rfl,h,p⟩,q⟩:=h;cases rx;cases ry;have lp:=Js p;have key:=Zn (nV I (A:=X.A.in1) (by grind)) p;rcases h with ⟨ha,hb⟩|⟨ha,hb⟩
 ·obtain⟨Dy,r1,p1,_⟩:=I.tuple<|ju.of ha;obtain⟨DG,r2,p2,_⟩:=I.tuple<|ju.of hb;have l1:=r1.length;have l2:=r2.length;refine EqBoolInt.of_rcne (SeqAt.RcNeAt.tuples p1 p2 gt<|key r1 r2) #[.bl _,H,I,rfl,?_];rwa [kF,show (Dy.toArray.size==DG.toArray.size)=true by rw[yw,yw,beq_iff_eq];lia]
 ·obtain⟨Dy,r1,p1,_⟩:=I.list<|jj.of ha;obtain⟨DG,r2,p2,_⟩:=I.list<|jj.of hb;have l1:=r1.length;have l2:=r2.length;refine EqBoolInt.of_rcne (SeqAt.RcNeAt.lists p1.isList p2.isList (by grind) gt<|key r1 r2) #[.bl _,H,I,rfl,?_];rwa [kF]
theorem am (hu:X.A.units+64<cLine):uk X (compareOp .Eq) (λx y H Q=>E4 λ(a b:Addr) (xs ys:List V)=>A6 (x=.ref a) (y=.ref b) (H a=some (.tup xs)) (H b=some (.tup ys)) (Paired (Vt H 0) xs ys\/ys=[])<|Q (.bl<|decide (ys.length=xs.length)) H):=by
 intro pins s σ H x y v u Q I rx ry h;obtain⟨a,b,xs,ys,rfl,rfl,ha,hb,p,q⟩:=h;cases rx;cases ry;obtain⟨Dy,r1,p1,_⟩:=I.tuple<|ju.of ha;obtain⟨DG,r2,p2,_⟩:=I.tuple<|ju.of hb;have l1:=r1.length;have l2:=r2.length;refine EqBoolInt.of_rc (SeqAt.RcAt.tuples (e:=λ_=>true) p1 p2 gt λj h1 h2=>?_) #[.bl _,H,I,rfl,?_]
 ·rcases p with p|rfl
  ·exact Zn (nV I (by grind)) p r1 r2 j h1 h2
  ·grind
 ·grind
theorem lV (hu:X.A.units+64<cLine):uk X (compareOp .NotEq) (λx y H Q=>E3 λ(a b:Addr) (xs:List V)=>A5 (x=.ref a) (y=.ref b) (H a=some (.tup xs)) (H b=some (.tup []))<|Q (.bl<|!xs.isEmpty) H):=by
 intro pins s σ H x y v u Q I rx ry h;obtain⟨a,b,xs,rfl,rfl,ha,hb,q⟩:=h;cases rx;cases ry;obtain⟨Dy,r1,p1,_⟩:=I.tuple<|ju.of ha;obtain⟨DG,r2,p2,_⟩:=I.tuple<|ju.of hb;have l1:=r1.length;have l2:=r2.length;refine EqBoolInt.of_rcne (SeqAt.RcNeAt.tuples (e:=λ_=>true) p1 p2 gt λj h1 h2=>?_) #[.bl _,H,I,rfl,?_]
 ·grind
 ·rw[yw,yw,<-l1,<-l2];cases xs<;>exact q
end
end L2
set_option genInjectivity false
namespace K52
open PySem L2 Wd TS
abbrev Pi:=List (List<|Nat×Nat)
abbrev Ps:=List (Nat×Nat)
abbrev EQ:Str:="part"
abbrev FB:Str:="net"
abbrev FM:Str:="_law_other"
abbrev FS:Str:="_law_k"
abbrev IN:Str:="parts"
abbrev IO:Str:="marks"
abbrev IR:Str:="_law_parts"
abbrev LE:Str:="self"
abbrev LT:Str:="_law_one"
abbrev PP:Str:="nets"
abbrev P3:Str:="_law_cell"
abbrev SB:Str:="_law_rows_here"
abbrev SC:Str:="both"
abbrev SL:Str:="held"
abbrev ST:Str:="sketch"
abbrev SZ:Str:="pin"
abbrev TD:Str:="_law_script"
abbrev TW:Str:="_law_nets"
abbrev T0:Str:="_law_part"
abbrev WF:Str:="_law_held"
abbrev WP:Str:="_law_found"
abbrev W1:Str:="cap"
abbrev XL:Str:="value"
abbrev XV:Str:="_law_many"
abbrev YA:Str:="same"
abbrev YB:Str:="part_marks"
abbrev YC:Str:="net_marks"
abbrev YD:Str:="rounds"
abbrev YE:Str:="number"
abbrev YF:Str:="_law_draws_here"
abbrev YG:Str:="_law_net"
abbrev YH:Str:="_law_lines"
abbrev YI:Str:="_law_head"
abbrev YJ:Str:="_law_pin"
abbrev YK:Str:="._law_k"
abbrev YL:Str:="_law_order"
abbrev YM:Str:="_law_thing"
abbrev YN:Str:="drawing"
abbrev YO:Str:="_law_spot"
abbrev YQ:Str:="_law_several"
abbrev YR:Str:="_law_drawing_here"
abbrev YS:Str:="_law_paper_here"
variable {i n j:Nat}{us ps:Di}{xs:List JM}{p:List Value->Prop}{b:Bool}{A B c:Prop}{u v:V}{σ:St}{H H':Hp}{Q:St->Hp->Prop}{D:vS}
variable {P:Dt}{w:World}{K:C9}{mg:Dd}{base:Heap}{t:Adr}
theorem Cv {α β:Type}{f:α->β}{l:List α}{y:β} (h:(l.map f)[i]?=some y):∃x,l[i]?=some x/\f x=y:=by rwa [ye,yr] at h
theorem GH (h:n<100):n<sizeLine:=yC h ac
theorem BZ (h:n<=100):n<=sizeLine:=yk h ac
def JH (i:Nat):Stmt:=PySem.Challenge.pw_copperbook_k52_whole_alike_or_parted.main.body.getD i (.Pass #[0,0,0,0])
structure Adr where
 (jS Jj MA sY Nh Ni MB Nj Np Nn MH MC pU dS dL bx dU dM No MD bF bE zF Zq pT iD KS KU GR Gi gc ME bz dQ dR Nm Nl MF bC bA dP bB Nk MG bD dO iE dN VI:Addr)
 (MT MS aY aX fL fM:Tok)
structure Txt (K:C9) (mg:Dd) (t:Adr):Prop where
 iI:mg "Drawing"=some (.ref t.jS)
 qc:mg "Sketch"=some (.ref t.Jj)
 Jh:zg K t.jS
 V7:Uf K t.jS IN
 zr:Uf K t.jS PP
 vw:Uf K t.jS "kinds"
 J2:Uf K t.jS "joins"
 Uh:zg K t.Jj
 zu:Uf K t.Jj "heads"
 vN:Uf K t.Jj "wires"
 UY:Uf K t.Jj "ends"
 Ml:TN K t.Jj "Sketch.__init__" (VM (JH 2) 0) t.MA [LE,YN]
 sO:TF K mg "alike" (JH 3) t.sY ["one","other"]
 ZZ:TF K mg "alike_with" (JH 4) t.Nh [SC,SL]
 nh:TF K mg "all_rounds" (JH 5) t.Ni [SC,SL]
 Mm:TF K mg "first_round" (JH 6) t.MB [SC,SL]
 nj:TF K mg "held_parts" (JH 7) t.Nj [ST,SL]
 nF:TF K mg "pin_counts" (JH 8) t.Np [ST]
 nB:TF K mg "next_round" (JH 9) t.Nn [SC,IO]
 Mv:TF K mg "wired_parts" (JH 10) t.MH [ST,YB,YC]
 Mn:TF K mg "joined_nets" (JH 11) t.MC [ST,YB,YC]
 pD:TF K mg "ranked" (JH 12) t.pU ["found"]
 dj:TF K mg "numbered" (JH 13) t.dS ["things"]
 db:TF K mg "how_many" (JH 14) t.dL [IO]
 bc:TF K mg "first_odd" (JH 15) t.bx [YD]
 dk:TF K mg "renaming" (JH 16) t.dU [IO]
 de:TF K mg "is_whole" (JH 23) t.dM [XL]
 nE:TF K mg "part_kinds" (JH 31) t.No [IN]
 Mo:TF K mg "joined_pins" (JH 32) t.MD [IN,PP]
 bm:TF K mg "part_pins" (JH 33) t.bF [IN]
 bj:TF K mg "need_rows" (JH 34) t.bE ["rows","most","need_row"]
 zC:TF K mg "need_part" (JH 35) t.zF [EQ]
 Zf:TF K mg "need_net" (JH 36) t.Zq [FB]
 pC:TF K mg "is_pin" (JH 37) t.pT [XL]
 fZ:TF K mg "is_name" (JH 38) t.iD [XL]
 KI:TN K t.jS "Drawing.__init__" (VM (JH 30) 0) t.KS [LE,IN,PP]
 KJ:TM K t.jS "pins" "Drawing.pins" (VM (JH 30) 1) t.KU [LE] []
 GJ:TM K t.jS "net_of" "Drawing.net_of" (VM (JH 30) 2) t.GR [LE,SZ] []
 Gh:TM K t.jS "has_pin" "Drawing.has_pin" (VM (JH 30) 3) t.Gi [LE,SZ] []
 ZY:TM K t.jS "net_pins" "Drawing.net_pins" (VM (JH 30) 4) t.gc [LE] []
 Mq:TF K mg "_law_cell_at" (JH 40) t.ME [TD,FS]
 bd:TF K mg "_law_draws" (JH 41) t.bz [P3,XV]
 dh:TF K mg "_law_ring" (JH 42) t.dQ [P3]
 di:TF K mg "_law_rows" (JH 43) t.dR [P3,FM]
 nA:TF K mg "_law_turned" (JH 44) t.Nm [SB,P3]
 ny:TF K mg "_law_spoilt" (JH 45) t.Nl [SB,P3]
 Mr:TF K mg "_law_drawing" (JH 46) t.MF [SB,YI]
 bh:TF K mg "_law_marks" (JH 47) t.bC [LT,FM]
 be:TF K mg "_law_first" (JH 48) t.bA [SB,WF]
 dg:TF K mg "_law_next" (JH 49) t.dP [SB,IR,TW]
 bf:TF K mg "_law_least" (JH 50) t.bB [LT,FM]
 nr:TF K mg "_law_rounds" (JH 51) t.Nk [LT,FM,WF]
 Mu:TF K mg "_law_renamed" (JH 52) t.MG [WP,LT,FM]
 Gk:TF K mg "_law_paper" (JH 53) t.bD [WP,LT,FM,WF]
 df:TF K mg "_law_deep" (JH 54) t.dO [YR]
 f7:TF K mg "_law_two" (JH 55) t.iE [TD]
 AW:mg "law"=some (.ref t.dN)
 AR:∃fd,GK K "law" "law" (JH 56) t.dN fd/\∀(s:Shared) (u:Value),BindsTo s fd #[[u],[]] [(TD,u)]
 Jn:mg "isinstance"=none
 fk:mg "int"=none
 xK:mg "bool"=none
 Ki:mg "str"=none
 Uj:mg "list"=none
 UX:mg "tuple"=none
 JD:mg "len"=none
 uz:mg "range"=none
 JS:mg "sorted"=none
 Vj:mg "set"=none
 se:mg "all"=none
 Bc:mg "min"=none
 Ja:mg "enumerate"=none
 sf:mg "zip"=none
 Bd:mg "reversed"=none
 Nx:mg "MOST_SIGNS"=some (.int 8 t.MT)
 Nw:mg "MOST_PARTS"=some (.int 8 t.MS)
 bI:mg "MOST_PINS"=some (.int 8 t.aY)
 bH:mg "MOST_NETS"=some (.int 24 t.aX)
 iJ:mg "FIGURES"=some (.str "0123456789" t.fL)
 mR:mg "LETTERS"=some (.str "abcdefghijklmnopqrstuvwxyz" t.fM)
 cy:mg "WORDS"=some (.ref t.VI)
 Gg:∀H,ju K H t.VI [.str EQ,.str FB]
section
variable {K:C9}{x q a:Str}{st:Stmt}{f D C:Addr}{oc kV dc pm cd ct u tt:Value}{od an dd:Ds}{sl ds:Dl}{ps:Dm}{n:Nat}
theorem NT (h:findIn K (.ref C) a=some none):Uf K C a:=h
theorem CU {us:Dh}{xs:List V} (l:K.lookup f=some #[.type "tuple",od,.seq us.toArray n,sl]) (r:jH xs us) (z:xs.length<=sizeLine:=by exact YZ rfl) (H:Hp):ju K H f xs:=.inr #[_,_,_,l,rfl,rfl,by rw[yw,<-r.length];exact z,r]
theorem BS {p:List Value->Prop} (h:∀a,p [a]):∀us:List Value,us.length=1->p us:=λus e=>by obtain⟨a,rfl⟩:=List.length_eq_one_iff.mp e;exact h a
theorem BT {p:List Value->Prop} (h:∀a b,p [a,b]):∀us:List Value,us.length=2->p us:=λus e=>by cases us with|nil=>cases e|cons a us=>exact BS (p:=λl=>p (a::l)) (h a) us (Yx e)
theorem BU {p:List Value->Prop} (h:∀a b c,p [a,b,c]):∀us:List Value,us.length=3->p us:=λus e=>by cases us with|nil=>cases e|cons a us=>exact BT (p:=λl=>p (a::l)) (h a) us (Yx e)
theorem Cu (h:∀a b c d,p [a,b,c,d]):∀us:List Value,us.length=4->p us:=λus e=>by cases us with|nil=>cases e|cons a us=>exact BU (p:=λl=>p (a::l)) (h a) us (Yx e)
theorem JN (l:K.lookup f=some ⟨oc,od,.func<|fnOf x q (zS st) (vY st) (uh st) .none kV dc pm an cd ct,sl⟩) (e:codeIn K cd q=true) (k:keepIn K (.ref f)=true)
  (h:∀us:List Value,us.length=ps.length->bindArgs (fnOf x q (zS st) (vY st) (uh st) .none kV dc pm an cd ct) ⟨us,[]⟩=pure (ps.zip us):=by first|exact BS λ_=>rfl|exact BT λ_ _=>rfl|exact BU λ_ _ _=>rfl|exact Cu λ_ _ _ _=>rfl):Df K x q st f ps [] :=
 ⟨_,cw l e k,.all h⟩
end
theorem vv (h:B) (e:autoParam (b=false) Fk):if b=true then A else B:=by rw[e];exact h
theorem Jm (h:A) (e:autoParam (b=true) Fk):if b=true then A else B:=by rw[e];exact h
theorem vL (h:Q ((σ.set i<|some u).set j<|some v) H):Vz (UW i) (Vz (UW j) KZ) [u,v] σ H Q:=h
theorem Cw {k:Nat}{w:V} (h:Q (((σ.set i<|some u).set j<|some v).set k<|some w) H):Vz (UW i) (Vz (UW j)<|Vz (UW k) KZ) [u,v,w] σ H Q:=h
theorem vM (h1:b=true->A) (h2:b=false->B):if b=true then A else B:=by
 grind
theorem eG (h1:b=false->A) (h2:b=true->B):if (!b)=true then A else B:=by
 grind
theorem V2 [Decidable c] (h1:c->A) (h2:¬c->B):if decide c=true then A else B:=by
 grind
theorem zo (h:b=true) (k:B):if (!b)=true then A else B:=by rw[h];exact k
theorem Gb [Decidable c] (h:c) (k:A):if decide c=true then A else B:=by rw[decide_eq_true h];exact k
theorem Zv [Decidable c] (h:¬c) (k:B):if decide c=true then A else B:=by grind
theorem jh {p:Addr}{o:HO} (x:Same H H') (hp:H' p=none):Same H (L2.upd H' p o):=λb u e=>by
 have:=x b u e;rw[jC<|jJ this hp];exact this
def cB (c:Nat) (z:Str):Bool:=!(Builtin.Str.occurrences z #[(Yb [c])] 0 z.length 1).isEmpty
def LO:Str:="abcdefghijklmnopqrstuvwxyz"
def LF:Str:="abcdefghijklmnopqrstuvwxyz0123456789"
def pZ (x:Str):Bool:=match x.cps.toList with|c::_=>cB c LO|[]=>false
def UO (x:Str):Bool:=(decide ((1:Int)<=x.length)&&decide ((x.length:Int)<=8))&&(pZ x&&(x.cps.toList.map λc=>cB c LF).all id)
theorem tq {x:Str} (h:(1:Int)<=x.length):∃c,vG x.cps.toList 0=some c/\pZ x=cB c LO:=by
 have hn:=Wd.len_list x;unfold pZ;cases e:x.cps.toList with
 | nil=>rw[e] at hn;rw[hn] at h;exact absurd h ac
 | cons c r=>exact#[c,jX rfl,rfl]
def Cy (v:V):Bool:=match v with|.int _=>true|.bl _=>true|_=>false
def Cz (v:V):Bool:=match v with|.int _=>true|_=>false
def oO:Sp:=λvs H Q _=>∃v,vs=[v]/\Cy v=true/\Q (.bl<|Cz v) H
theorem Gx (T:Txt K mg t):j7 P w K mg base 1 "is_whole" [XL] oO:=by
 refine T.de.ok [XL] ?_;rintro _ H Q E ⟨v,rfl,hv,k⟩;refine#[rfl,λDF A outer s hr=>#[_,(jk (jE (za (jw ug (by rfl) T.Jn Jl (ja (pv 0) (ja (uH (v:=.ty "int") (by rfl) T.fk dy rfl) jb))) (gH (xS (jw ug (by rfl) T.Jn Jl (ja (pv 0) (ja (uH (v:=.ty "bool") (by rfl) T.xK w5 rfl) jb)))))))),?_]];cases v with
 | int i=>exact#[_,_,_,_,true,rfl,.int i,.ty _,by kernel_rfl,true,rfl,Jm #[_,_,_,_,false,rfl,.int i,.ty _,by kernel_rfl,false,rfl,k]]
 | bl x=>exact#[_,_,_,_,true,rfl,.bl x,.ty _,by kernel_rfl,true,rfl,Jm #[_,_,_,_,true,rfl,.bl x,.ty _,by kernel_rfl,true,rfl,k]]
 | _=>cases hv
def As:Sp:=λvs H Q _=>∃x:Str,vs=[.str x]/\x.length<=1000/\∀H',Same H H'->Q (.bl<|UO x) H'
theorem Ko (T:Txt K mg t):j7 P w K mg base 1 "is_name" [XL] As:=by
 refine T.fZ.ok [XL] ?_;rintro _ H Q E ⟨x,rfl,hl,k⟩;refine#[rfl,λDF A outer s hr=>#[_,(jf (j8 (uI (uc (ux (jw ug (by rfl) T.Jn Jl (ja (pv 0) (ja (uH (v:=.ty "str") (by rfl) T.Ki kG rfl) jb))))) (uN (uc (aC M4 M4 jg (jw nP (by rfl) T.JD JC<|ja (pv 0) jb) (Uu (v:=.int 8) (by rfl) T.Nx #[_,rfl]))))).pt (jk<|jE vj) jP) (jk (jE (za (vD Mf (jo xr (pv 0) jg) (Uu (v:=.str "abcdefghijklmnopqrstuvwxyz") (by rfl) T.mR #[_,rfl])) (gH (jw (zQ rfl) (by rfl) T.se rL (ja (jU (own:=["sign"]) (JW (cl:=[])) (xV<|pv 0) (λ_ _ _ _ _=>jl 1) (λ_ _ _ _ _=>j4) (λ_ _ _ _ _=>(vD Mf (pv 1) (jB vQ (Uu (v:=.str "abcdefghijklmnopqrstuvwxyz") (by rfl) T.mR #[_,rfl]) (Uu (v:=.str "0123456789") (by rfl) T.iJ #[_,rfl]))))) jb))))))),?_]];have hz:x.length<=sizeLine:=yk hl ac;unfold UO at k;refine#[_,_,_,_,true,rfl,.str x,.ty _,by kernel_rfl,vv #[x,rfl,hz,_,rfl,V2 (λh1=>eG (λh2=>?_) λh2=>?_) λh1=>?_]]
 ·rw[h2,aaT,aav] at k;exact k _ (Same.refl H)
 ·rw[h2,decide_eq_true h1,aaZ,aaZ] at k;obtain⟨c,e1,e2⟩:=tq h1;rw[e2] at k;refine#[x,0,c,rfl,rfl,hz,e1,_,_,rfl,rfl,_,rfl,vM (λh3=>?_) λh3=>?_]
  ·have h3:cB c LO=true:=h3;rw[h3,aaZ] at k;refine#[_,rfl,pR _ (λc=>.bl<|cB c LF) hz (λc hc H' Qy Qn s' kY kN=>#[#[_,rfl,rfl],Jm #[_,_,rfl,rfl,by decide,_,_,rfl,rfl,kY rfl _<|Same.refl _]]) λD H1 hD s1 eD=>?_];rw[Qw.mpr (λ_ _=>rfl)] at eD;refine#[D,_,rfl,jj.of (by rw[eD,yq];rfl),k _ s1]
  ·have h3:cB c LO=false:=h3;rw[h3,aav] at k;exact k _ (Same.refl H)
 ·rw[decide_eq_false h1,aav,aav] at k;exact k _ (Same.refl H)
def Bv:Sp:=λvs H Q _=>∃(p:Addr) (x:Str) (n:Int),vs=[.ref p]/\H p=some (.tup [.str x,.int n])/\Q (.bl true) H
theorem Mc (T:Txt K mg t):j7 P w K mg base 2 "is_pin" [XL] Bv:=by
 refine T.pC.ok [XL] ?_;rintro _ H Q E ⟨p,x,n,rfl,hp,k⟩;refine#[rfl,λDF A outer s hr=>#[_,(jk (jE (za (jw ug (by rfl) T.Jn Jl (ja (pv 0) (ja (uH (v:=.ty "tuple") (by rfl) T.UX UU rfl) jb))) (za (vD uZ (jw jW (by rfl) T.JD JC<|ja (pv 0) jb) jg) (za (jw ug (by rfl) T.Jn Jl (ja (jo jz (pv 0) jg) (ja (uH (v:=.ty "str") (by rfl) T.Ki kG rfl) jb)))<|gH<|jq (Gx T)<|ja (jo jz (pv 0) jg) jb))))),?_]];refine#[_,_,_,_,true,rfl,.tup hp,.ty _,by kernel_rfl,true,rfl,Jm #[p,_,rfl,.inr<|ju.of hp,rfl,true,rfl,Jm #[_,_,ju.of hp,rfl,_,_,_,_,true,rfl,.str x,.ty _,by kernel_rfl,true,rfl,Jm #[_,_,ju.of hp,rfl,_,rfl,rfl,k]]]]
structure Jx where
 name:Str
 kind:Str
 many:Nat
structure Jx.good (x:Jx):Prop where
 n:UO x.name=true
 k:UO x.kind=true
 ln:x.name.length<=1000
 lk:x.kind.length<=1000
 m1:1<=x.many
 m8:x.many<=8
def wA:Sp:=λvs H Q _=>∃(p:Addr) (x:Jx),A4 (vs=[.ref p]) (H p=some (.tup [.str x.name,.str x.kind,.int x.many])) x.good (∀H',Same H H'->Q .non H')
theorem ai (T:Txt K mg t):j7 P w K mg base 3 "need_part" [EQ] wA:=by
 refine T.zC.ok [EQ] ?_;rintro _ H Q E ⟨p,x,rfl,hp,g,kQ⟩;refine#[rfl,λDF A outer s hr=>#[_,(jf (j8 (uI (uc (ux (jw ug (by rfl) T.Jn Jl (ja (pv 0) (ja (uH (v:=.ty "tuple") (by rfl) T.UX UU rfl) jb))))) (uN (jF vh (jw jW (by rfl) T.JD JC<|ja (pv 0) jb) jg))).pt (jk uK) jP) (jf (j8 (uI (uc<|ux<|jq (Ko T)<|ja (jo jz (pv 0) jg) jb)<|uN<|uc<|ux<|jq (Ko T)<|ja (jo jz (pv 0) jg) jb).pt (jk uK) jP) (jk (j8 (uI (uc<|ux<|jq (Gx T)<|ja (jo jz (pv 0) jg) jb) (uN (uc (aC M4 M4 jg (jo jz (pv 0) jg) (Uu (v:=.int 8) (by rfl) T.bI #[_,rfl]))))).pt (jk uK) jP)))),?_]];refine#[_,_,_,_,true,rfl,.tup hp,.ty _,by kernel_rfl,vv #[p,_,rfl,.inr<|ju.of hp,rfl,Uq rfl ?_]];refine#[_,_,ju.of hp,rfl,x.name,rfl,g.ln,λH1 s1=>zo g.n ?_];refine#[_,_,ju.of<|s1 _ _ hp,rfl,x.kind,rfl,g.lk,λH2 s2=>zo g.k ?_];have DN:=Same.trans s1 s2;have EC:=ju.of (K:=K)<|DN _ _ hp;exact#[_,_,EC,rfl,_,rfl,rfl,zo rfl #[_,_,EC,rfl,_,rfl,Gb (by have:=g.m1;lia) (zo (decide_eq_true (by have:=g.m8;lia))<|kQ _ DN)]]
def kP (x:Str×Int):List Key:=[.inr x.1,.inl x.2]
abbrev JM:=Str×Int
def ud (H:Hp) (ps:Di) (xs:List JM):Prop:=KeyAt H ps (xs.map kP)
theorem ud.len (C:ud H ps xs):ps.length=xs.length:=by have:=C.1;rwa [ya] at this
theorem ud.at_ (C:ud H ps xs) {p:Addr} {x:JM} (h1:ps[i]?=some p) (h2:xs[i]?=some x):H p=some (.tup [.str x.1,.int x.2]) :=
 C.2 i p (kP x) h1 (by grind)
theorem ud.mem (C:ud H ps xs) {p:Addr} (h:p∈ps):∃x∈xs,H p=some (.tup [.str x.1,.int x.2]):=by
 obtain⟨i,hi,rfl⟩:=yH h;have h2:i<xs.length:=by rw[<-C.len];exact hi
 exact#[_,yz h2,C.at_ (yb hi)<|yb h2]
theorem ud.mono (C:ud H ps xs) (k:∀q ys,H q=some (.tup ys)->H' q=some (.tup ys)):ud H' ps xs:=#[C.1,λi p c h1 h2=>k _ _<|C.2 i p c h1 h2]
theorem ud.same (C:ud H ps xs) (s:Same H H'):ud H' ps xs:=C.mono λ_ _ e=>s _ _ e
def wz:Sp:=λvs H Q _=>E5 λ(p a:Addr) (x:Str) (ps:Di) (xs:List JM)=>A8 (vs=[.ref p]) (H p=some (.tup [.str x,.ref a])) (H a=some (.lst<|ps.map V.ref)) (ud H ps xs) (UO x=true/\x.length<=1000) (xs.length<=1000) (xs≠[]) (∀H',Same H H'->Q .non H')
theorem bR (T:Txt K mg t):j7 P w K mg base 3 "need_net" [FB] wz:=by
 refine T.Zf.ok [FB] ?_;rintro _ H Q E ⟨p,a,x,ps,xs,rfl,hp,ha,C,h1,h2,nx,kQ⟩;refine#[rfl,λDF A outer s hr=>#[_,(jf (j8 (uI (uc (ux (jw ug (by rfl) T.Jn Jl (ja (pv 0) (ja (uH (v:=.ty "tuple") (by rfl) T.UX UU rfl) jb))))) (uN (jF vh (jw jW (by rfl) T.JD JC<|ja (pv 0) jb) jg))).pt (jk uK) jP) (jf (j8 (uc<|ux<|jq (Ko T)<|ja (jo jz (pv 0) jg) jb) (jk uK) jP) (jf (j8 (uI (uc (ux (jw ug (by rfl) T.Jn Jl (ja (jo jz (pv 0) jg) (ja (uH (v:=.ty "list") (by rfl) T.Uj Ug rfl) jb))))) (uN (uc (aD (jo jz (pv 0) jg) (λ_=>rfl))))).pt (jk uK) jP) (jk (j8 (uc (ux (jw (zQ rfl) (by rfl) T.se rL (ja (jU (own:=[SZ]) (JW (cl:=[])) (jN<|jo jz (pv 0) jg) (λ_ _ _ _ _=>jl 1) (λ_ _ _ _ _=>j4) (λ_ _ _ _ _=>(jq (Mc T)<|ja (pv 1) jb))) jb)))) (jk uK) jP))))),?_]];refine#[_,_,_,_,true,rfl,.tup hp,.ty _,by kernel_rfl,vv #[p,_,rfl,.inr<|ju.of hp,rfl,Uq rfl ?_]];refine#[_,_,ju.of hp,rfl,x,rfl,h1.2,λH1 s1=>zo h1.1 ?_];have Og:=s1 _ _ hp;have EF:=s1 _ _ ha;have ne:ps≠[]:=λz=>nx (List.length_eq_zero_iff.mp (by rw[<-C.len,z];rfl));refine#[_,_,ju.of Og,rfl,_,_,_,_,true,rfl,.lst EF,.ty _,by kernel_rfl,vv #[_,_,ju.of Og,rfl,_,.inl #[_,jj.of EF,rfl],zo (by cases ps with|nil=>exact absurd rfl ne|cons _ _=>rfl) ?_]];have C1:=C.same s1;refine#[_,_,ju.of Og,rfl,a,rfl,#[_,jj.of EF],Ux (λ_=>true) (λ_=>.bl true) (jj.of EF) (by rw[ya,C.len];exact yk h2 ac) (λv hv H' Qy Qn s' hy _=>?_) λD hD=>?_]
 ·obtain⟨q,hq,rfl⟩:=yi.mp hv;obtain⟨y,Rw,e⟩:=C1.mem hq;exact#[#[_,rfl,rfl],Jm #[q,_,_,rfl,s' _ _ e,hy rfl]]
 ·refine#[D,_,rfl,jj.of (by rw[jc,Qw.mpr (λ_ _=>rfl),yq,yq];rfl),zo (QG.mpr λz hz=>by obtain⟨_,_,rfl⟩:=yi.mp hz;rfl)<|kQ _<|jh s1 hD]
theorem gm {α β:Type}{f:α->β}{l:List α}{y:β} (h:(l.map f)[i]?=some y):∃x,l[i]?=some x/\f x=y:=by
 rw[ye] at h;exact yr.mp h
theorem Ut {α:Type}{l:List α}{f:α->List Key} (h:KeyAt H us (l.map f)):us.length=l.length:=by
 rw[h.1,ya]
theorem cE {α:Type}{l:List α}{f:α->List Key}{u:Addr} (h:KeyAt H us (l.map f)) (e:us[i]?=some u):∃x,l[i]?=some x/\H u=some (.tup<|(f x).map kV):=by
 have hi:i<l.length:=by rw[<-Ut h];exact (yc.mp e).1
 exact#[_,yb hi,h.2 i u _ e (by rw[ye,yb hi];rfl)]
theorem JO {b:TS} (h:b D σ H):vS.nx { D with nx:=b D } σ H:=h
theorem ze {b:TS} (h:∀(p:Addr) (H':Hp),Same H H'->H p=none->H' p=some (.lst [])->b D (σ.set n<|some<|.ref p) H'):uV (aT (re aV)<|UW n) b D σ H:=#[vR,λp hp=>h p _ (jh (Same.refl H) hp) hp jc]
end K52
namespace K52
open PySem L2 Wd TS STb
variable {p r:Nat->Nat}{ps qs ls pa ds:Di}{xs:List Jx}{ys:List JG}{Dx:List (Key×V)}{ks:List (List Key)}{f C D R d pl nl L d0 Z:Addr}{T:TK}{Q:VK}{S S1 S2:uB}{l' held:Dc}{zs:List V}{pm nm:List Int}{es DH:Pi}{X:Cx}{os:List Nat}{M' Mp Oh:jZ}{Ms ER:List jZ}{m':Int}{H0 H1:Hp}{E:XK}{rs DB:List uG}{hd:Str}{te:TE}{σ:St}
variable {P:Dt}{w:World}{K:C9}{mg:Dd}{base:Heap}{t:Adr}
@[elab_as_elim]theorem Ev{H0:Hp}{p:Addr}{o:HO}{C:Hp->Prop}(hp:H0 p=none)(k:∀H,Same H0 H->H p=some o->C H):C (upd H0 p o):=k _ (jh (Same.refl H0) hp) jc
@[elab_as_elim]theorem Fa{H0:Hp}{p:Addr}{o q:HO}{C:Hp->Prop}(h:o=q)(hp:H0 p=none)(k:∀H,Same H0 H->H p=some q->C H):C (upd H0 p o):=by subst h;exact Ev hp k
theorem Vg:bootBuiltins "set"=some (.type "set"):=by kernel_rfl
theorem iL {H:Hp}{p:Addr}{a:V}{r:List V} (h:H p=some (.tup (a::r))):V0 H (.ref p)=a:=by show (match H p with|some (.tup (a::_))=>a|_=>V.non)=a;rw[h]
theorem AX {H:Hp}{xs:Dm} (hl:ps.length=xs.length) (hx:∀(i:Nat) p x,ps[i]?=some p->xs[i]?=some x->(∃r,H p=some (.tup (.str x::r)))):(ps.map V.ref).map (V0 H)=xs.map V.str:=by
 refine y7 (by simp [hl]) λi h1 h2=>?_;have g1:=by simpa using h1
 have g2:=by simpa using h2
 obtain⟨r,e⟩:=hx i _ _ (yb g1)<|yb g2;rw[yQ,yQ,yQ,iL e]
theorem JY {α:Type}:∀{l m:List α},l.Nodup->(∀a∈l,a∈m)->l.length<=m.length
 | [],_,_,_=>yP _
 | a::l,m,nd,h=>by
  classical
  obtain⟨h1,h2⟩:=yO.mp nd;have ha:=h a<|yu ..;have:=JY (l:=l) (m:=m.erase a) h2 λb hb=>(abc (show b≠a from λe=>h1 (by rw[<-e];exact hb))).mpr<|h b<|yl _ hb;rw[List.length_erase_of_mem ha] at this;have:=List.length_pos_of_mem ha;rw[Qe]
  lia
def Az (P:Dt) (w:World) (K:C9) (mg:Dd) (base:Heap):Sp:=λvs H Q _=>E6 λ(a f:Addr) (ps:Di) (xs:Dm) (most:Int) (sp:Sp)=>A9 (vs=[.ref a,.int most,.ref f]) (H a=some (.lst<|ps.map V.ref)) (ps.length=xs.length) (xs.length<=900/\xs.length<=most) (wP P w K mg base 3 f sp)
 (∀(i:Nat) p x,ps[i]?=some p->xs[i]?=some x->(∃r,H p=some (.tup (.str x::r))))
 (∀(i:Nat) p,ps[i]?=some p->∀H1,Same H H1->∀Q1 E1,(∀H2,Same H1 H2->Q1 .non H2)->sp [.ref p] H1 Q1 E1)
 xs.Nodup (∀H',Same H H'->Q .non H')
theorem aj (T:Txt K mg t):j7 P w K mg base 4 "need_rows" ["rows","most","need_row"] (Az P w K mg base):=by
 refine T.bj.ok ["rows","most","need_row","row","names"] ?_;rintro _ H Q E ⟨a,f,ps,xs,most,sp,rfl,ha,hl,F1,hF,hx,hg,nd,kQ⟩;refine#[rfl,λDF A outer s hr=>#[_,(jf (j8 (uI (uc (ux (jw ug (by rfl) T.Jn Jl (ja (pv 0) (ja (uH (v:=.ty "list") (by rfl) T.Uj Ug rfl) jb))))) (uN (jF Ge (jw jW (by rfl) T.JD JC<|ja (pv 0) jb)<|pv 1))).pt (jk uK) jP) (jf (j0 jR (jN<|pv 0) (jl 3)<|jk<|Jd<|qw (k:=3) (P:=P) (w:=w) (K:=K) (mg:=mg) (base:=base) rfl rfl rfl rfl rfl (pv 2) hr.m Vq<|ja (pv 3) jb) (jf (vd 4 (N0:=["rows","most","need_row",".row","names"]) (own:=["row"]) (JW (cl:=[])) (jN<|pv 0) (λ_ _ _ _ _=>jl 5) (λ_ _ _ _ _=>j4) (λ_ _ _ _ _=>(jo jz (pv 5) jg))) (jk (j8 (jF vh (jw vB (by rfl) T.JD JC (ja (jT (uQ rfl) (by rfl) T.Vj Vg<|ja (pv 4) jb) jb)) (jw jW (by rfl) T.JD JC<|ja (pv 4) jb)) (jk uK) jP))))),?_]];refine#[_,_,_,_,true,rfl,.lst ha,.ty _,by kernel_rfl,vv #[a,_,rfl,.inl<|jj.of ha,Zv (by rw[ya,hl];lia)<|JO ?_]];have lz:(ps.map V.ref).length<=sizeLine:=by rw[ya,hl];exact yk F1.1 ac
 refine#[a,rfl,#[_,jj.of ha],uJ (λi σ H'=>∃v3:Option V,σ=[oR a,some _,oR f,v3,none]/\Same H H') #[_,rfl,Same.refl H] (λi σ H' _ h=>by obtain⟨_,_,e⟩:=h;exact jj.of<|e _ _ ha) ?_ ?_]
 ·rintro i v σ H2 hv ⟨v3,rfl,s2⟩;obtain⟨p,e1,rfl⟩:=gm hv;exact#[f,sp,rfl,hF,hg i p e1 H2 s2 _ _ λH3 s3=>#[_,rfl,Same.trans s2 s3]]
 rintro σ H1 ⟨v3,rfl,s1⟩;have EF:=s1 _ _ ha;refine#[a,rfl,#[_,jj.of EF],Ux (λ_=>true) (V0 H) (jj.of EF) lz (λx EX H' Qy Qn s' hy _=>?_) λD hD=>?_]
 ·obtain⟨p,hp,rfl⟩:=yi.mp EX;obtain⟨i,hi,rfl⟩:=yH hp;have h2:i<xs.length:=by rw[<-hl];exact hi
  obtain⟨r,e⟩:=hx i _ _ (yb hi)<|yb h2;refine#[#[_,rfl,rfl],Jm<|CA _ (ju.of<|s' _ _<|s1 _ _ e) ?_];have:=hy rfl;rwa [iL e] at this
 have s3:=jh (o:=.lst (((ps.map V.ref).filter λ_=>true).map<|V0 H)) (Same.refl H1) hD;have e3:upd H1 D (.lst (((ps.map V.ref).filter λ_=>true).map<|V0 H)) D=some (.lst<|xs.map V.str):=by rw[jc,Qw.mpr (λ_ _=>rfl),AX hl hx]
 generalize upd H1 D (.lst (((ps.map V.ref).filter λ_=>true).map<|V0 H))=H2 at s3 e3;refine#[D,xs.map Yr,rfl,by rw[e3,yq];rfl,by rw[ya];lia,λS us hS V' mem=>?_];have s4:=jh (o:=.ext<|Us P w S us) (Same.refl H2) hS;have lu:us.length=xs.length:=by
  have h1:=JY V' λk hk=>(mem k).mp hk;have h2:=JY (QB.mpr (nd.imp λh e=>h<|Yw e)) λk hk=>(mem k).mpr hk;rw[ya] at h1 h2
  lia
 refine#[S,us,rfl,jc,by lia,D,_,rfl,.inl<|jj.of<|s4 _ _ e3,rfl,?_];exact Uq (by rw[lu,ya V.str]) (kQ _<|Same.trans s1<|Same.trans s3 s4)
def Ul (H:Hp) (ps:Di) (xs:List Jx):Prop:=ps.length=xs.length/\∀(i:Nat) p x,ps[i]?=some p->xs[i]?=some x->H p=some (.tup [.str x.name,.str x.kind,.int x.many])
def VG (z:Str) (n:Nat):List JM:=(Yc n).map λ(k:Nat)=>(z,(k:Int))
def Jx.pins (x:Jx):List JM:=VG x.name x.many
def UQ (xs:List Jx):List JM:=xs.flatMap Jx.pins
theorem jA {α:Type}{l:List α}{i:Nat}{x:α} (h:l[i]?=some x):l.take (i+1)=l.take i++[x]:=by rw[List.take_succ,h];rfl
theorem jO {α:Type}{l:List α}{n:Nat} (h:l.length=n):l.take n=l:=YW (aa8 h)
theorem ke {H:Hp}:ud H [] []:=#[rfl,λi p c h=>nomatch h]
theorem ud.app {H:Hp}{xs ys:List JM} (a:ud H ps xs) (b:ud H qs ys):ud H (ps++qs) (xs++ys):=by
 refine#[by rw[yg,ya,yg,a.len,b.len],λi p c h1 h2=>?_];rw[yd] at h2;have la:=a.1;by_cases hi:i<ps.length
 ·rw[yx hi] at h1;rw[yx gt] at h2;exact a.2 i p c h1 h2
 ·rw[yR gt] at h1;rw[yR gt,<-la] at h2;exact b.2 _ p c h1 h2
theorem ud.one {H:Hp}{p:Addr}{x:JM} (h:H p=some (.tup [.str x.1,.int x.2])):ud H [p] [x]:=by
 refine#[rfl,λi q c h1 h2=>?_];cases i with
 | zero=>cases h1;cases h2;exact h
 | succ i=>cases h1
theorem ud.wr {H:Hp}{xs:List JM} (C:ud H ps xs) {a:Addr} {o:HO} {u:HO} (e:H a=some u) (h:∀ys,u≠.tup ys):ud (upd H a o) ps xs:=C.mono λq ys g=>by
 rw[jC (j9 g e (λz=>h _ z.symm))];exact g
def Aw:Sp:=λvs H Q _=>∃(a:Addr) (ps:Di) (xs:List Jx),vs=[.ref a]/\H a=some (.lst<|ps.map V.ref)/\Ul H ps xs/\(∀x∈xs,x.good)/\xs.length<=8/\∀D qs H',Same H H'->H D=none->H' D=some (.lst<|qs.map V.ref)->ud H' qs (UQ xs)->Q (.ref D) H'
theorem ak (T:Txt K mg t):j7 P w K mg base 1 "part_pins" [IN] Aw:=by
 refine T.bm.ok [IN,"pins","name","kind","many"] ?_;rintro _ H Q E ⟨a,ps,xs,rfl,ha,C,hm,hl,q⟩;refine#[rfl,λDF A outer s hr=>#[_,(jf (jt 1<|jY jb) (jf (j0 jR (jN<|pv 0) (j5<|jr (jl 2)<|jr (jl 3)<|jr (jl 4) jV) (jk (Jd (j3 Ya PySem.F.slot_list_extend PySem.F.type_list_extend lG (pv 1) (ja (jU (own:=[YE]) (JW) (ub rfl T.uz<|ja (pv 4) jb) (λ_ _ _ _ _=>jl 5) (λ_ _ _ _ _=>j4) (λ_ _ _ _ _=>(jL<|ja (pv 2)<|ja (pv 5) jb))) jb)))))<|jk<|jE<|pv 1)),?_]];refine u7 (λ(D)=>[oR a,oR D,none,none,none]) (λD H'=>Same H H'/\H D=none/\H' D=some _) (λB hB=>#[vR,λD hD=>hB D _ #[jh (Same.refl H) hD,hD,jc]]) ?_;rintro D H1 ⟨s1,hD,eD⟩;have EF:=s1 _ _ ha;refine#[a,rfl,#[_,jj.of EF],uJ (λi σ H'=>∃(v2 v3 v4:Option V) (qs:Di),σ=[oR a,oR D,v2,v3,v4]/\Same H H'/\H' D=some (.lst<|qs.map V.ref)/\ud H' qs (UQ<|xs.take i)/\qs.length<=8*i) #[_,_,_,[],rfl,s1,eD,ke,yj _] (λi σ H' _ h=>by obtain⟨_,_,_,_,_,e,_⟩:=h;exact jj.of<|e _ _ ha) ?_ ?_]
 ·rintro i v σ H2 hv ⟨v2,v3,v4,qs,rfl,s2,e2,C2,l2⟩;obtain⟨p,e1,rfl⟩:=gm hv;have hi:i<xs.length:=by rw[<-C.1];exact (yc.mp e1).1
  have ex:=yb hi;have ep:=s2 _ _<|C.2 i p _ e1 ex;have n8:=(hm _<|yz hi).m8;generalize en:xs[i].many=n at ep n8;refine#[_,ju.of ep,rfl,.inl #[rfl,_,jj.of e2],n,rfl,by lia,by lia,vK (n:=n) (λD' k ys H'=>H2 D'=none/\Same H2 H'/\H' D'=some (.lst ys)/\ys.length=k/\∃rs:List Addr,ys=rs.map V.ref/\ud H' rs (VG xs[i].name k)) (yk n8 ac) (λD' OZ=>#[OZ,jh (Same.refl _) OZ,jc,rfl,_,rfl,ke]) (λD' k ys H' #[_,_,e,l,_]=>#[e,l]) ?_ ?_]
  ·rintro D' k ys H4 Qy Qn hk ⟨d1,d2,d3,d4,rs,rfl,C4⟩ hy;have e3:(0)+(k:Int)=(k):=by lia
   rw[e3];refine#[#[_,rfl,rfl],Jm #[JE,λp4 Oi=>?_]];have s5:=jh (o:=.tup [.str xs[i].name,.int (k:Int)]) (Same.refl H4) Oi;have TH:=s5 _ _ d3;have e5:upd H4 p4 (.tup [.str xs[i].name,.int (k:Int)]) p4=some (.tup [.str xs[i].name,.int (k:Int)]):=jc;refine hy _ _ TH #[d1,λx u e=>jy (jJ e d1)<|s5 _ _<|d2 _ _ e,jc,by rw[yg,d4];rfl,rs++[p4],by rw[yd];rfl,?_];unfold VG;rw[QD,yd];exact ((C4.same s5).app<|ud.one e5).wr TH (by intro ys z;cases z)
  ·rintro D' ys H4 OZ ⟨d1,d2,d3,d4,rs,rfl,C4⟩;have lr:=by rw[ya] at d4;exact d4
   have e4:=d2 _ _ e2;refine#[D,D',_,_,rfl,rfl,e4,d3,?_,_,_,_,_,rfl,λb u e=>jy (jJ e hD)<|d2 _ _<|s2 _ _ e,by rw[jc,yd],?_,by rw[yg];lia]
   ·rw[ya,ya];exact yk (show _<=1000 by lia) ac
   ·have:UQ (xs.take<|i+1)=UQ (xs.take i)++VG xs[i].name n:=by
     unfold UQ;rw[jA ex,Q9];simp only[Q4,List.flatMap_nil,Qk];unfold Jx.pins;rw[en]
    rw[this];exact ((C2.same d2).app C4).wr e4 (by intro ys z;cases z)
 rintro σ H2 ⟨v2,v3,v4,qs,rfl,s2,e2,C2,_⟩;rw[ya,C.1,jO rfl] at C2;exact q D qs H2 s2 hD e2 C2
def uT (H:Hp) (Dx:List (Key×V)) (xs:List Jx):Prop:=Dx.map (·.1)=xs.map (λx=>Yr x.name)/\∀(i:Nat) (kv:Key×V) (x:Jx),Dx[i]?=some kv->xs[i]?=some x->∃u,kv.2=.ref u/\H u=some (.tup [.str x.kind,.int x.many])
theorem uT.same {H H':Hp} (C:uT H Dx xs) (s:Same H H'):uT H' Dx xs:=#[C.1,λi kv x a b=>let ⟨u,e,h⟩:=C.2 i kv x a b;#[u,e,s _ _ h]]
theorem uT.wr {H H':Hp} (C:uT H Dx xs) (s:∀q ys,H q=some (.tup ys)->H' q=some (.tup ys)):uT H' Dx xs:=#[C.1,λi kv x a b=>let ⟨u,e,h⟩:=C.2 i kv x a b;#[u,e,s _ _ h]]
theorem uT.snoc {H:Hp}{Dx:List (Key×V)}{xs:List Jx} (C:uT H Dx xs) {u:Addr} {x:Jx} (h:H u=some (.tup [.str x.kind,.int x.many])):uT H (Dx++[(.inr x.name,.ref u)]) (xs++[x]):=by
 have l:=by have:=congrArg Ys C.1;simpa using this
 refine#[by rw[yd,yd,C.1];rfl,λi kv y h1 h2=>?_];by_cases hi:i<Dx.length
 ·rw[yx hi] at h1;rw[yx gt] at h2;exact C.2 i kv y h1 h2
 ·rw[yR gt] at h1;rw[yR gt,<-l] at h2;have z:=by
   have:=(yc.mp h1).1;simp at this;omega
  rw[z] at h1 h2;cases h1;cases h2;exact#[u,rfl,h]
def wx:Sp:=λvs H Q _=>E3 λ(a:Addr) (ps:Di) (xs:List Jx)=>A6 (vs=[.ref a]) (H a=some (.lst<|ps.map V.ref)) (Ul H ps xs) (xs.length<=8) ((xs.map (·.name)).Nodup) (∀D Dx H',Same H H'->H D=none->H' D=some (.dK Dx)->uT H' Dx xs->Q (.ref D) H')
theorem MP (T:Txt K mg t):j7 P w K mg base 1 "part_kinds" [IN] wx:=by
 refine T.nE.ok [IN,"kinds","name","kind","many"] ?_;rintro _ H Q E ⟨a,ps,xs,rfl,ha,C,hl,nd,q⟩;refine#[rfl,λDF A outer s hr=>#[_,(jf (jt 1 G5)<|jf (j0 jR (jN<|pv 0) (j5<|jr (jl 2)<|jr (jl 3)<|jr (jl 4) jV)<|jk<|Gf (pv 1) (pv 2)<|jL<|ja (pv 3)<|ja (pv 4) jb)<|jk<|jE<|pv 1),?_]];refine u7 (λ(D)=>[oR a,oR D,none,none,none]) (λD H'=>Same H H'/\H D=none/\H' D=some _) (λB hB=>λD hD=>hB D _ #[jh (Same.refl H) hD,hD,jc]) ?_;rintro D H1 ⟨s1,hD,eD⟩;have EF:=s1 _ _ ha;refine#[a,rfl,#[_,jj.of EF],uJ (λi σ H'=>∃(v2 v3 v4:Option V) (Dx:List _),σ=[oR a,oR D,v2,v3,v4]/\Same H H'/\H' D=some (.dK Dx)/\uT H' Dx (xs.take i)) #[_,_,_,_,rfl,s1,eD,rfl,λi kv x h=>nomatch h] (λi σ H' _ h=>by obtain⟨_,_,_,_,_,e,_⟩:=h;exact jj.of<|e _ _ ha) ?_ ?_]
 ·rintro i v σ H2 hv ⟨v2,v3,v4,Dx,rfl,s2,e2,C2⟩;obtain⟨p,e1,rfl⟩:=gm hv;have hi:i<xs.length:=by rw[<-C.1];exact (yc.mp e1).1
  have ex:=yb hi;have ep:=s2 _ _<|C.2 i p _ e1 ex;refine#[_,ju.of ep,rfl,Cw ?_];refine#[JE,λu hu=>?_]
  refine Ev hu λH3 s3 e3=>?_
  have lk:Dx.length=i:=by
   have:=congrArg Ys C2.1;rw[ya,ya,yF] at this
   lia
  have Ea:=s3 _ _ e2;refine#[D,_,rfl,Vs.k (k:=.inr _) Ea (yG (show _<=8 by lia) ac),_,_,_,_,rfl,λb u e=>jy (jJ e hD)<|s3 _ _<|s2 _ _ e,jc,?_];have Fi:Jp Dx (.inr xs[i].name)=none:=by
   cases e:Jp Dx _ with
   | none=>rfl
   | some v =>
    have h1:=Zc e;rw[C2.1] at h1;obtain⟨y,hy,ey⟩:=yi.mp h1;have h2:xs.map (·.name)=(xs.take i).map (·.name)++(xs.drop i).map (·.name):=by rw[<-yd,Qm]
    rw[h2] at nd;exact absurd (Yw ey) ((y8.mp nd).2.2 _ (yi.mpr #[y,hy,rfl]) _ (yi.mpr #[_,by rw[Qc hi];exact yu ..,rfl]))
  rw[ZC _ Fi,jA ex];exact ((C2.same s3).snoc e3).wr λq ys e=>by rw[jC<|j9 e Ea];exact e
 rintro σ H2 ⟨v2,v3,v4,Dx,rfl,s2,e2,C2⟩;rw[ya,C.1,jO rfl] at C2;exact q D Dx H2 s2 hD e2 C2
abbrev JG:=Str×List JM
def gT (H:Hp) (p l:Addr) (x:JG):Prop:=H p=some (.tup [.str x.1,.ref l])/\∃ps,H l=some (.lst<|ps.map V.ref)/\ud H ps x.2
def Ua (H:Hp) (ns ls:Di) (xs:List JG):Prop:=ns.length=xs.length/\ls.length=xs.length/\∀(i:Nat) p l x,ns[i]?=some p->ls[i]?=some l->xs[i]?=some x->gT H p l x
theorem Ua.at_ {H:Hp}{ns:Di}{xs:List JG} (C:Ua H ns ls xs) {i:Nat} {p:Addr} (h:ns[i]?=some p):∃l x,ls[i]?=some l/\xs[i]?=some x/\gT H p l x:=by
 have hi:=(yc.mp h).1;have h2:i<ls.length:=by rw[C.2.1,<-C.1];exact hi
 have h3:i<xs.length:=by rw[<-C.1];exact hi
 exact#[_,_,yb h2,yb h3,C.2.2 i _ _ _ h (yb h2)<|yb h3]
theorem gT.same {H H':Hp}{p l:Addr}{x:JG} (C:gT H p l x) (s:Same H H'):gT H' p l x:=#[s _ _ C.1,let ⟨ps,a,b⟩:=C.2;#[ps,s _ _ a,b.same s]]
theorem Ua.same {H H':Hp}{ns:Di}{xs:List JG} (C:Ua H ns ls xs) (s:Same H H'):Ua H' ns ls xs:=#[C.1,C.2.1,λi p l x a b c=>(C.2.2 i p l x a b c).same s]
theorem Ul.same {H H':Hp} (C:Ul H ps xs) (s:Same H H'):Ul H' ps xs:=#[C.1,λi p x a b=>s _ _<|C.2 i p x a b]
def ui (xs:List JG):List JM:=xs.flatMap (·.2)
def row (z:Str) (ps:List JM):List (List Key×V):=ps.map λp=>(kP p,V.str z)
def JK (xs:List JG):List (List Key×V):=xs.flatMap λx=>row x.1 x.2
theorem uP (xs:List JG):(JK xs).map (·.1)=(ui xs).map kP:=by
 unfold JK ui row;rw[aak,aak];congr 1;funext x;rw[yq]
 rfl
theorem mX (xs:List JG):(JK xs).length=(ui xs).length:=by have:=congrArg Ys<|uP xs;rwa [ya,ya] at this
theorem Kb {a b:JM} (h:kP a=kP b):a=b:=by
 injection h with h1 h
 injection h with h2 _
 exact Y8 (Yw h1) (Ym h2)
def AM:List Key->JM|[.inr z,.inl n]=>(z,n)|_=>("",0)
theorem pi (l:List JM):(l.map kP).map AM=l:=by
 rw[yq];exact (yT (λp _=>rfl)).trans (aag l)
theorem t0 {l m:List JM} (h:(l.map kP).Perm (m.map kP)):l.Perm m:=by
 have:=h.map AM;rwa [pi,pi] at this
theorem vE:∀{a b:List (List Key)},a.Perm b->(a.Pairwise λx y=>lx y x=false)->(b.Pairwise λx y=>lx y x=false)->a=b
 | [],b,p,_,_=>(List.nil_perm.mp p).symm
 | x::a,b,p,ha,hb=>by
  cases b with
  | nil=>exact absurd (List.perm_nil.mp p) on
  | cons y b =>
   obtain⟨h1,V₁⟩:=QT.mp ha;obtain⟨h2,V₂⟩:=QT.mp hb;have e:x=y:=by
    rcases yD.mp (p.mem_iff.mp<|yu ..) with e|hx
    ·exact e
    ·rcases yD.mp (p.mem_iff.mpr<|yu ..) with e|hy
     ·exact e.symm
     ·exact NR (h2 x hx) (h1 y hy)
   subst e;rw[vE (List.perm_cons x |>.mp p) V₁ V₂]
theorem KG {i:Nat}{x:JG} (h:ys[i]?=some x):ui ys=ui (ys.take i)++(x.2++ui (ys.drop<|i+1)):=by
 obtain⟨hi,e⟩:=yc.mp h;have:ys=ys.take i++(x::ys.drop (i+1)):=by rw[<-e,<-Qc hi,Qm]
 conv=>lhs;rw[this]
 unfold ui;rw[Q9,Q4]
theorem oY {i:Nat}{x:JG} (h:ys[i]?=some x):ui (ys.take<|i+1)=ui (ys.take i)++x.2:=by
 unfold ui;rw[jA h,Q9];simp
theorem eJ {i:Nat}{x:JG} (h:ys[i]?=some x):JK (ys.take<|i+1)=JK (ys.take i)++row x.1 x.2:=by
 unfold JK;rw[jA h,Q9];simp
theorem qP (z:Str) (ps:List JM):(row z ps).map (·.1)=ps.map kP:=by
 unfold row;rw[yq]
 rfl
theorem KeyAt.mono' {H H':Hp}{bs:Di} (C:KeyAt H bs ks) (s:Same H H'):KeyAt H' bs ks:=#[C.1,λi b k h1 h2=>s _ _<|C.2 i b k h1 h2]
theorem JR:bootBuiltins "sorted"=some (.builtin "sorted"):=by kernel_rfl
def Ap:Sp:=λvs H Q _=>E7 λ(a b:Addr) (ps:Di) (xs:List Jx) (ns ls:Di) (ys:List JG)=>BJ (vs=[.ref a,.ref b]) (H a=some (.lst<|ps.map V.ref)) (Ul H ps xs) (∀x∈xs,x.good) (xs.length<=8) (H b=some (.lst<|ns.map V.ref)) (Ua H ns ls ys) ((ui ys).length<64)
 ((ui ys).Nodup/\(ui ys).Perm (UQ xs)) (∀D H',Same H H'->H D=none->H' D=some (.dT<|JK ys)->Q (.ref D) H')
theorem mf (T:Txt K mg t):j7 P w K mg base 2 "joined_pins" [IN,PP] Ap:=by
 refine T.Mo.ok [IN,PP,"joins","name","pins",SZ] ?_;rintro _ H Q E ⟨a,b,ps,xs,ns,ls,ys,rfl,ha,C,hm,hl,hb,N,hn,G,kQ⟩;refine#[rfl,λDF A outer s hr=>#[_,(jf (jt 2 G6) (jf (j0 jR (jN<|pv 1) (j5<|jr (jl 3)<|jr (jl 4) jV)<|jk<|j0 jR (jN<|pv 4) (jl 5)<|jf (j8 (Kx<|lZ (pv 5)<|pv 2) (jk uK) jP)<|jk<|Gf (pv 2) (pv 5)<|pv 3) (jf (j8 (jF (ml hr.units) (jw (ZO rfl hr.units) (by rfl) T.JS JR<|ja (pv 2) jb) (jw (UE hr.units) (by rfl) T.JS JR<|ja (jq (ak T)<|ja (pv 0) jb) jb)) (jk uK) jP)<|jk<|jE<|pv 2))),?_]];refine u7 (λ(D)=>[oR a,oR b,oR D,none,none,none]) (λD H'=>Same H H'/\H D=none/\H' D=some _) (λB hB=>λD hD=>hB D _ #[jh (Same.refl H) hD,hD,jc]) ?_;rintro D H1 ⟨s1,hD,eD⟩;refine#[b,rfl,#[_,jj.of<|s1 _ _ hb],uJ (λi σ H'=>∃(v3 v4 v5:Option V),σ=[oR a,oR b,oR D,v3,v4,v5]/\Same H H'/\H' D=some (.dT<|JK<|ys.take i)/\(ui<|ys.take i).Nodup) #[_,_,_,rfl,s1,eD,yZ] (λi σ H' _ h=>by obtain⟨_,_,_,_,e,_⟩:=h;exact jj.of<|e _ _ hb) ?_ ?_]
 ·rintro i v σ H2 hv ⟨v3,v4,v5,rfl,s2,e2,n2⟩;obtain⟨p,e1,rfl⟩:=gm hv;obtain⟨l,x,el,ex,ep,qs,eq,Cx⟩:=N.at_ e1;have sp:=KG ex;refine#[_,ju.of<|s2 _ _ ep,rfl,vL ?_];refine#[l,rfl,#[_,jj.of<|s2 _ _ eq],uJ (λj σ H'=>∃(v5:Option V),σ=[oR a,oR b,oR D,some _,oR l,v5]/\Same H H'/\H' D=some (.dT<|JK _++row x.1 (x.2.take j))/\(ui (ys.take i)++x.2.take j).Nodup) #[_,rfl,s2,by rw[e2];exact congrArg (λz=>some _) (Qk _).symm,(Qk _).symm▸n2] (λi σ H' _ h=>by obtain⟨_,_,e,_⟩:=h;exact jj.of<|e _ _ eq) ?_ ?_]
  ·rintro j v σ H3 hv ⟨z₁,rfl,s3,e3,n3⟩;obtain⟨p5,g1,rfl⟩:=gm hv;have hj:j<x.2.length:=by rw[<-Cx.len];exact (yc.mp g1).1
   have gx:=yb hj;have gp:=s3 _ _<|Cx.at_ g1 gx;have keys:(JK (ys.take i)++row x.1 (x.2.take j)).map (·.1)=(ui (ys.take i)++x.2.take j).map kP:=by rw[yd,yd,uP,qP]
   have FL:ui ys=(ui (ys.take i)++x.2.take j)++(x.2[j]::(x.2.drop (j+1)++ui (ys.drop<|i+1))):=by
    rw[sp,Qf]
    conv=>lhs;rw[<-Qm j x.2,Qc hj]
    rw[Qf];rfl
   have len:(JK (ys.take i)++row x.1 (x.2.take j)).length<=1000:=by
    have:=congrArg Ys keys;rw[ya,ya] at this;have:=congrArg Ys FL;rw[yg] at this
    lia
   refine#[D,_,rfl,JX.t (k:=kP _) e3 gp,vM (λz=>?_) λz=>?_]
   ·obtain⟨v,hv⟩:=Option.isSome_iff_exists.mp z;have h1:=Zc hv;rw[keys] at h1;obtain⟨c,hc,ec⟩:=yi.mp h1;rw[Kb ec] at hc;have:=G.1;rw[FL] at this;exact absurd rfl ((y8.mp this).2.2 _ hc _<|yu ..)
   ·have Fi:Jp (JK (ys.take i)++row x.1 (x.2.take j)) (kP x.2[j])=none:=by
     cases e:Jp _ (kP _) with
     | none=>rfl
     | some v=>rw[e] at z;cases z
    refine#[D,_,rfl,Vs.t (k:=kP _) e3 gp (yG len ac),_,rfl,λb u e=>jy (jJ e hD)<|s3 _ _ e,?_,?_]
    ·rw[jc,ZC _ Fi,jA gx];unfold row;rw[yd,<-Qf]
     rfl
    ·rw[jA gx,<-Qf];refine y8.mpr #[n3,by simp,λc hc d hd e=>?_];rw[yp.mp hd] at e;have:=ki Fi;rw[keys] at this;exact this (e▸yi.mpr #[c,hc,rfl])
  ·rintro σ H3 ⟨z₁,rfl,s3,e3,n3⟩;rw[ya,Cx.len,jO rfl] at e3 n3;exact#[_,_,_,rfl,s3,by rw[eJ ex];exact e3,by rw[oY ex];exact n3]
 rintro σ H2 ⟨v3,v4,v5,rfl,s2,e2,nd⟩;rw[ya,N.1,jO rfl] at e2 nd;refine JO ?_;refine UK [oR a,oR b,oR D,v3,v4,v5] (λH'=>Same H H'/\H' D=some (.dT<|JK ys)/\True) (λB hB=>?_) ?_
 ·refine#[D,_,sd<|kP ("",0),rfl,e2,λkv Hr=>?_,(λz=>nomatch z),by rw[mX];exact hn,λl bs ks hl KA pm so=>?_]
  ·have:kv.1∈(JK ys).map (·.1):=yi.mpr #[kv,Hr,rfl];rw[uP] at this;obtain⟨p,_,e⟩:=yi.mp this;rw[<-e];rfl
  ·rw[uP] at pm
   refine Ev hl λH3 s3 e3=>?_
   have DC:=Same.trans s2 s3;refine#[a,ps,xs,rfl,DC _ _ ha,C.same DC,hm,by assumption,λD2 qs H4 s4 Rx O0 PN=>#[D2,qs,_,sd<|kP ("",0),rfl,O0,PN,λk hk=>?_,(λz=>nomatch z),by rw[ya,<-G.2.length_eq];exact hn,λl2 Oj Ff F1 z₂ Ry Rz=>?_]]
   ·obtain⟨p,_,e⟩:=yi.mp hk;rw[<-e];rfl
   ·have s5:=jh (o:=.lst<|Oj.map V.ref) (Same.refl H4) F1;have Ef:=Same.trans DC<|Same.trans s4 s5;have RB:=Same.trans s4 s5;refine#[l,l2,bs,Oj,ks,Ff,rfl,rfl,jj.of<|RB _ _ e3,jj.of jc,KeyAt.mono' KA<|Same.trans s3 RB,KeyAt.mono' z₂ s5,?_];exact Uq (vE (pm.trans<|(G.2.map kP).trans Ry.symm) so Rz) (hB _ #[Ef,RB _ _<|s3 _ _ e2,trivial])
 rintro H3 ⟨s3,e3,pm⟩;exact kQ D H3 s3 hD e3
theorem _root_.L2.Same.nn {H H':Hp} (x:Same H H') {p:Addr} (hp:H' p=none):H p=none:=by
 cases e:H p with
 | none=>rfl
 | some u=>rw[x _ _ e] at hp;cases hp
structure uY (xs:List Jx) (ys:List JG):Prop where
 few:xs.length<=8
 parts:∀x∈xs,x.good
 names:(xs.map (·.name)).Nodup
 few2:ys.length<=24
 nets:∀y∈ys,(UO y.1=true/\y.1.length<=1000)/\y.2≠[]
 names2:(ys.map (·.1)).Nodup
 nd:(ui ys).Nodup
 pm:(ui ys).Perm (UQ xs)
 tl:(ui ys).length<64
def fD (p n k j:Addr):List (Str×V):=[(IN,.ref p),(PP,.ref n),("kinds",.ref k),("joins",.ref j)]
theorem xf (p n k j:Addr):Jz "joins" (.ref j) (Jz "kinds" (.ref k)<|Jz PP (.ref n)<|Jz IN (.ref p) [])=fD p n k j:=by kernel_rfl
def Uo (o:Addr) (H H':Hp):Prop:=∀b u,b≠o->H b=some u->H' b=some u
theorem Ua.snoc {H:Hp}{ns ls:Di}{ys:List JG} (C:Ua H ns ls ys) {p l:Addr} {y:JG} (h:gT H p l y):Ua H (ns++[p]) (ls++[l]) (ys++[y]):=by
 obtain⟨c1,c2,c3⟩:=C;refine#[by simp [c1],by simp [c2],λi q m x h1 h2 h3=>?_];by_cases hi:i<ns.length
 ·grind
 ·grind
theorem GY {H:Hp}:Ua H [] [] []:=#[rfl,rfl,λi p l x h=>nomatch h]
theorem Ua.wr {H:Hp}{ns:Di} (C:Ua H ns ls ys) {H':Hp} (k:∀q zs,H q=some (.tup zs)->H' q=some (.tup zs)) (kl:∀l∈ls,∀zs,H l=some (.lst zs)->H' l=some (.lst zs)):Ua H' ns ls ys :=
 #[C.1,C.2.1,λi p l x a b c=>let ⟨e,ps,e2,pn⟩:=C.2.2 i p l x a b c;#[k _ _ e,ps,kl l (yh b) _ e2,pn.mono k]]
theorem BW {k:Nat}{x:Str}{ps:Dm}{sp:Sp} (G:j7 P w K mg base k x ps sp) (h:mg x=some (.ref f)):wP P w K mg base k f sp:=by
 obtain⟨f',fd,F,b,kp,m⟩:=G.ex;rw[h] at m;cases m;exact#[fd,ps,F,b,kp]
structure In (H:Hp) (a b:Addr) (ps:Di) (xs:List Jx) (ns ls:Di) (ys:List JG):Prop where
 ha:H a=some (.lst<|ps.map V.ref)
 C:Ul H ps xs
 hb:H b=some (.lst<|ns.map V.ref)
 N:Ua H ns ls ys
structure Dr (H:Hp) (C o:Addr) (ps ns ls:Di) (xs:List Jx) (ys:List JG):Prop where
 ex:∃(dx pl nl kd jn:Addr) (Dx:List (Key×V)),A6 (H o=some (.ins C dx<|fD pl nl kd jn)) (H pl=some (.lst<|ps.map V.ref)) (H nl=some (.lst<|ns.map V.ref)) (H jn=some (.dT<|JK ys)) (H kd=some (.dK Dx)) (uT H Dx xs)
 C:Ul H ps xs
 N:Ua H ns ls ys
theorem Dr.same {H H':Hp}{o:Addr}{ns:Di} (d:Dr H C o ps ns ls xs ys) (s:Same H H'):Dr H' C o ps ns ls xs ys :=
by
 obtain⟨dx,pl,nl,kd,jn,Dx,a1,a2,a3,a4,a5,a6⟩:=d.ex;exact#[#[dx,pl,nl,kd,jn,Dx,s _ _ a1,s _ _ a2,s _ _ a3,s _ _ a4,s _ _ a5,a6.same s],d.C.same s,d.N.same s]
def Ci (C:Addr):Sp:=λvs H Q _=>E9 λ(o dx a b:Addr) (ps:Di) (xs:List Jx) (ns ls:Di) (ys:List JG)=>A5 (vs=[.ref o,.ref a,.ref b]) (H o=some (.ins C dx [])) (In H a b ps xs ns ls ys) (uY xs ys)
 (∀DK Ec H',Uo o H H'->Dr H' C o ps DK Ec xs ys->Q .non H')
theorem Kn (T:Txt K mg t):MU P w K mg base 5 "Drawing" t.jS [LE,IN,PP] (Ci t.jS):=by
 refine T.KI.ok T.iI [LE,IN,PP] ?_;rintro _ H Q E ⟨o,dx,a,b,ps,xs,ns,ls,ys,rfl,ho,I,G,kQ⟩;refine#[rfl,λDF A outer s hr=>#[_,(jf (Jd (jq (aj T) (ja (pv 1) (ja (Uu (v:=.int 8) (by rfl) T.Nw #[_,rfl]) (ja (Uu (v:=.ref t.zF) (by rfl) T.zC.g rfl) jb))))) (jf (Jd (jq (aj T) (ja (pv 2) (ja (Uu (v:=.int 24) (by rfl) T.bH #[_,rfl]) (ja (Uu (v:=.ref t.Zq) (by rfl) T.Zf.g rfl) jb))))) (jf (zd (pv 0) (jT VT (by rfl) T.Uj Ug<|ja (pv 1) jb) rfl) (jf (zd (pv 0) (jU (own:=[FB]) (JW) (jN<|pv 2) (λ_ _ _ _ _=>jl 3) (λ_ _ _ _ _=>j4) (λ_ _ _ _ _=>(jL (ja (jo jz (pv 3) jg) (ja (jT (ZN rfl) (by rfl) T.Uj Ug<|ja (jo jz (pv 3) jg) jb) jb))))) rfl)<|jf (zd (pv 0) (jq (MP T)<|ja (pv 1) jb) rfl)<|jk<|zd (pv 0) (jq (mf T)<|ja (pv 1)<|ja (pv 2) jb) rfl)))),?_]];have ni:∀{q:Addr} {u:HO},H q=some u->(∀C dx fs,u≠.ins C dx fs)->q≠o:=λe n=>j9 e ho<|n _ _ _;refine UK [oR o,oR a,oR b] _ (λB hB=>#[a,t.zF,ps,_,8,_,rfl,I.ha,by rw[ya];exact I.C.1,by have:=G.few;rw[ya];lia,BW (ai T) T.zC.g,λi p x h1 h2=>?_,λi p h1 H1 s1 Q1 E1 k1=>?_,G.names,λH' s'=>hB _ s']) ?_
 ·obtain⟨y,e,rfl⟩:=gm h2;exact#[_,I.C.2 i p y h1 e]
 ·have hi:i<xs.length:=by rw[<-I.C.1];exact (yc.mp h1).1
  have ex:=yb hi;exact#[p,_,rfl,s1 _ _<|I.C.2 i p _ h1 ex,G.parts _<|yz hi,k1]
 rintro H1 s1;have N1:=I.N.same s1;refine UK _ _ (λB hB=>#[b,t.Zq,ns,_,24,_,rfl,s1 _ _ I.hb,by rw[ya];exact I.N.1,by have:=G.few2;rw[ya];lia,BW (bR T) T.Zf.g,λi p x h1 h2=>?_,λi p h1 H2 s2 Q1 E1 k1=>?_,G.names2,λH' s'=>hB _<|Same.trans s1 s']) ?_
 ·obtain⟨y,e,rfl⟩:=gm h2;obtain⟨l,x,_,ex,na⟩:=N1.at_ h1;rw[e] at ex;cases ex;exact#[_,na.1]
 ·obtain⟨l,x,_,ex,na⟩:=N1.at_ h1;obtain⟨e1,rs,e2,pn⟩:=na.same s2;have hx:=yh ex;have tl:x.2.length<=1000:=by
   have:=congrArg Ys<|KG ex;rw[yg,yg] at this;have:=G.tl
   lia
  exact#[p,l,_,rs,_,rfl,e1,e2,pn,(G.nets _ hx).1,tl,(G.nets _ hx).2,k1]
 rintro H2 s2;refine mt (λσ H'=>∃pl,σ=[oR o,oR a,oR b]/\Uo o H H'/\H' o=some (.ins t.jS dx<|Jz IN (.ref pl) [])/\H pl=none/\H' pl=some (.lst<|ps.map V.ref)) (λB hB=>#[a,_,rfl,.inl<|jj.of<|s2 _ _ I.ha,λpl DJ=>?_]) ?_
 ·have RC:pl≠o:=λz=>by rw[z,s2 _ _ ho] at DJ;cases DJ
  have s3:=jh (o:=.lst<|ps.map V.ref) s2 DJ;exact#[o,_,dx,_,rfl,s3 _ _ ho,T.Jh,T.V7,by decide,hB _ _ #[pl,rfl,λb u n e=>jy n<|s3 _ _ e,jc,Same.nn s2 DJ,jy RC jc]]
 rintro _ H3 ⟨pl,rfl,b3,o3,DJ,RD⟩;have Ln:∀{q:Addr} {u:HO},H q=some u->(∀C dx fs,u≠.ins C dx fs)->H3 q=some u:=λe n=>b3 _ _ (ni e n) e;have TJ:=Ln I.hb (by intro _ _ _ z;cases z);have N3:Ua H3 ns ls ys:=I.N.wr (λ_ _ e=>Ln e (by intro _ _ _ z;cases z)) (λ_ _ _ e=>Ln e (by intro _ _ _ z;cases z));refine mt (λσ H'=>∃nl DK Ec,σ=[oR o,oR a,oR b]/\Uo o H3 H'/\H' o=some (.ins t.jS dx<|Jz PP (.ref nl)<|Jz IN (.ref pl) [])/\H3 nl=none/\H' nl=some (.lst<|DK.map V.ref)/\Ua H' DK Ec ys/\(∀l∈Ec,H3 l=none)) (λB hB=>#[b,rfl,#[_,jj.of TJ],JV (λD i zs H'=>Same H3 H'/\H3 D=none/\H' D=some (.lst zs)/\zs.length<=i/\∃DK Ec,zs=DK.map V.ref/\Ua H' DK Ec (ys.take i)/\∀l∈Ec,H3 l=none/\l≠D) (by rw[ya,I.N.1];exact yk G.few2 ac) (λD hD=>#[jh (Same.refl H3) hD,hD,jc,yj _,_,_,rfl,GY,λl h=>nomatch h]) (λD i zs H' hv=>#[hv.2.2.1,hv.2.2.2.1,jj.of<|hv.1 _ _ TJ]) ?_ ?_]) ?_
 ·rintro D i v zs H4 Qy Qn hv ⟨s4,hD,eD,lz,DK,Ec,rfl,N4,fr⟩ hy hn;obtain⟨p,e1,rfl⟩:=gm hv;obtain⟨l,x,_,ex,na⟩:=N3.at_ e1;obtain⟨ep,rs,el,pn⟩:=na.same s4;refine#[#[_,rfl,rfl],Jm #[_,_,ju.of ep,rfl,_,_,ju.of ep,rfl,l,_,rfl,.inl<|jj.of el,λl5 Fo=>?_]]
  refine Ev Fo λH5 s5 e5=>?_
  refine#[JE,λu hu=>?_]
  refine Ev hu λH6 s6 e6=>?_
  have Fp:=Same.trans s5 s6;have Ed:=Fp _ _ eD;have nD:l5≠D:=λz=>by rw[z,eD] at Fo;cases Fo
  refine hy _ _ Ed #[λq u e=>jy (jJ e hD)<|Fp _ _<|s4 _ _ e,hD,jc,by rw[yg];exact Qt lz,DK++[u],Ec++[l5],by rw[yd];rfl,?_,λl hl=>?_]
  ·rw[jA ex];refine ((N4.same Fp).snoc #[e6,rs,s6 _ _ e5,pn.same Fp]).wr (λq zs e=>jy (j9 e Ed) e) λl hl zs e=>?_;rw[jC]
   ·exact e
   ·rcases yB.mp hl with z|z
    ·exact (fr l z).2
    ·rw[yp.mp z];exact nD
  ·rcases yB.mp hl with z|z
   ·exact fr l z
   ·rw[yp.mp z];exact#[Same.nn s4 Fo,nD]
 ·rintro D zs H4 hD0 ⟨s4,hD,eD,lz,DK,Ec,rfl,N4,fr⟩;rw[ya,I.N.1,jO rfl] at N4;have Z':D≠o:=λz=>by rw[z,o3] at hD;cases hD
  refine#[o,_,dx,_,rfl,s4 _ _ o3,T.Jh,T.zr,YZ (by kernel_rfl),hB _ _ #[D,DK,Ec,rfl,λb u n e=>jy n<|s4 _ _ e,jc,hD,jy Z' eD,?_,λl hl=>(fr l hl).1]];exact N4.wr (λq zs e=>jy (j9 e<|s4 _ _ o3) e) λl hl zs e=>by rw[jC<|j9 e<|s4 _ _ o3];exact e
 rintro _ H4 ⟨nl,DK,Ec,rfl,b4,o4,DZ,Z₁,N4,fr⟩;have nsome:∀{q:Addr},H3 q=none->H q=none:=λ{q} e=>by
  cases z:H q with
  | none=>rfl
  | some u =>
   by_cases y:q=o
   ·rw[y,o3] at e;cases e
   ·rw[b3 _ _ y z] at e;cases e
 have TL:Uo o H H4:=λq u n e=>b4 _ _ n<|b3 _ _ n e;have RC:pl≠o:=λz=>by rw[z,ho] at DJ;cases DJ
 have O1:∀{q:Addr} {u:HO},H q=some u->(∀C dx fs,u≠.ins C dx fs)->H4 q=some u:=λe n=>TL _ _ (ni e n) e;have Z₂:=O1 I.ha (by intro _ _ _ z;cases z);have C4:Ul H4 ps xs:=#[I.C.1,λi p x h1 h2=>O1 (I.C.2 i p x h1 h2) (by intro _ _ _ z;cases z)];refine mt (λσ H'=>∃kd Dx,σ=[oR o,oR a,oR b]/\Uo o H4 H'/\H' o=some (.ins t.jS dx<|Jz "kinds" (.ref kd)<|Jz PP (.ref nl)<|Jz IN (.ref pl) [])/\kd≠o/\H' kd=some (.dK Dx)/\uT H' Dx xs) (λB hB=>#[a,ps,xs,rfl,Z₂,C4,G.few,G.names,λkd Dx H' s' O3 RF KA=>?_]) ?_
 ·have nk:kd≠o:=λz=>by rw[z,o4] at O3;cases O3
  exact#[o,_,dx,_,rfl,s' _ _ o4,T.Jh,T.vw,YZ (by kernel_rfl),hB _ _ #[kd,Dx,rfl,λb u n e=>jy n<|s' _ _ e,jc,nk,jy nk RF,KA.wr λq ys e=>jy (j9 e<|s' _ _ o4) e]]
 rintro _ H5 ⟨kd,Dx,rfl,b5,o5,nk,RF,KA⟩;have TQ:Uo o H H5:=λq u n e=>b5 _ _ n<|TL _ _ n e;have Hs:∀{q:Addr} {u:HO},H q=some u->(∀C dx fs,u≠.ins C dx fs)->H5 q=some u:=λe n=>TQ _ _ (ni e n) e;have N5:Ua H5 ns ls ys:=I.N.wr (λ_ _ e=>Hs e (by intro _ _ _ z;cases z)) (λ_ _ _ e=>Hs e (by intro _ _ _ z;cases z));have C5:Ul H5 ps xs:=#[I.C.1,λi p x h1 h2=>Hs (I.C.2 i p x h1 h2) (by intro _ _ _ z;cases z)];refine#[a,b,ps,xs,ns,ls,ys,rfl,Hs I.ha (by intro _ _ _ z;cases z),C5,G.parts,G.few,Hs I.hb (by intro _ _ _ z;cases z),N5,G.tl,#[G.nd,G.pm],λjn H6 s6 TU g₁=>?_];have njo:jn≠o:=λz=>by rw[z,o5] at TU;cases TU
 have nno:nl≠o:=λz=>by rw[z,o3] at DZ;cases DZ
 have o6:=s6 _ _ o5;have Ol:∀{q:Addr} {u:HO},H6 q=some u->(∀C dx fs,u≠.ins C dx fs)->upd H6 o (.ins t.jS dx<|Jz "joins" (.ref jn)<|Jz "kinds" (.ref kd)<|Jz PP (.ref nl)<|Jz IN (.ref pl) []) q=some u:=λ{q u} e n=>by rw[jC<|j9 e o6<|n _ _ _];exact e
 have tk:∀{q:Addr} {u:HO},H4 q=some u->(∀C dx fs,u≠.ins C dx fs)->upd H6 o _ q=some u:=λ{q u} e n=>Ol (s6 _ _<|b5 _ _ (j9 e o4<|n _ _ _) e) n;refine#[o,_,dx,_,rfl,o6,T.Jh,T.J2,YZ (by kernel_rfl),kQ DK Ec _ (λq u n e=>jy n<|s6 _ _<|TQ _ _ n e) #[#[dx,pl,nl,kd,jn,Dx,by rw[jc,xf],?_,?_,Ol g₁ (by intro _ _ _ z;cases z),Ol (s6 _ _ RF) (by intro _ _ _ z;cases z),(KA.same s6).wr λq ys e=>Ol e (by intro _ _ _ z;cases z)],?_,?_]]
 ·exact tk (b4 _ _ RC RD) (by intro _ _ _ z;cases z)
 ·exact tk Z₁ (by intro _ _ _ z;cases z)
 ·exact#[C5.1,λi p x h1 h2=>Ol (s6 _ _<|C5.2 i p x h1 h2) (by intro _ _ _ z;cases z)]
 ·exact N4.wr (λ_ _ e=>tk e (by intro _ _ _ z;cases z)) (λ_ _ _ e=>tk e (by intro _ _ _ z;cases z))
open Classical in
noncomputable def GM (l:List Key) (k:Key):List Key:=if k∈l then l else l++[k]
theorem oq (Dx:List (Key×V)) (k:Key) (v:V):(uA Dx k v).map (·.1)=GM (Dx.map (·.1)) k:=by
 unfold GM;cases e:Jp Dx k with
 | none=>rw[ZC v e,yd,if_neg<|ki e];rfl
 | some u =>
  rw[if_pos<|Zc e];unfold uA;rw[if_pos ?_,yq]
  ·refine yT λkv _=>?_;by_cases h:kv.1=k
   ·simp [h]
   ·simp [h]
  ·obtain⟨kv,hk,e1⟩:=yi.mp<|Zc e;exact List.any_eq_true.mpr #[kv,hk,decide_eq_true e1]
theorem Nv {k:Key}:∀(n:Nat) {l:List Key},k∈l->(Ye n k).foldl GM l=l
 | 0,_,_=>rfl
 | n+1,l,h=>by rw[aax,aar,show GM l k=l from if_pos h];exact Nv n h
def xL:V->Key|.str z=>.inr z|_=>.inl 0
theorem eQ (ys:List JG):(JK ys).map (λkv=>xL kv.2)=ys.flatMap λy=>Ye y.2.length (.inr y.1):=by
 unfold JK row;rw[aak];congr 1;funext y;exact y7 on λi h1 h2=>by simp [xL]
theorem kW:∀(ys:List JG) (l:List Key),(∀y∈ys,Yr y.1 ∉ l)->(ys.map (·.1)).Nodup->(∀y∈ys,y.2≠[])->(ys.flatMap λy=>Ye y.2.length<|Yr y.1).foldl GM l=l++ys.map λy=>Yr y.1
 | [],l,_,_,_=>by simp
 | y::ys,l,h,nd,ne=>by
  rw[Q4,abz];obtain⟨n,hn⟩:∃n,y.2.length=n+1:=#[y.2.length - 1,by have:=List.length_pos_iff.mpr<|ne y<|yu ..;lia];rw[hn,aax,aar,show GM l _=l++[.inr _] from if_neg (h y<|yu ..),Nv n on,kW ys _ (λz hz hh=>?_) (yO.mp nd).2 λz hz=>ne z<|yl _ hz,Qf]
  ·rfl
  ·grind
theorem iW {i:Nat}{kv:List Key×V} (h:(JK ys)[i]?=some kv):∃z,kv.2=.str z:=by
 have:=yh h;obtain⟨y,_,h2⟩:=QH.mp this;obtain⟨p,_,rfl⟩:=yi.mp h2;exact#[_,rfl]
theorem c9 {Dx:List (List Key×V)} (nd:(Dx.map (·.1)).Nodup):∀{i:Nat} {kv:List Key×V},Dx[i]?=some kv->Jp Dx kv.1=some kv.2:=by
 induction Dx with
 | nil=>intro i kv h;cases h
 | cons a Dx ih =>
  intro i kv h;unfold Jp;rw[aaL];cases i with
  | zero=>cases h;simp
  | succ i =>
   have hm:kv.1∈Dx.map _:=yi.mpr #[kv,yh h,rfl];have:a.1≠kv.1:=λe=>(yO.mp nd).1 (show a.1∈_ by rw[e];exact hm);rw[decide_eq_false this];exact ih (yO.mp nd).2 h
theorem gQ {κ:Type} [DecidableEq κ]:∀{Dx:List (κ×V)} {k:κ},k∈Dx.map (·.1)->∃v,Jp Dx k=some v/\(k,v)∈Dx:=by
 intro Dx k h;cases e:Jp Dx k with
 | none=>exact absurd h (ki e)
 | some v =>
  refine#[v,rfl,?_];obtain⟨kv,h1,h2⟩:=yr.mp e;have:kv.1=k:=by grind
  rw[<-this,<-h2];exact aaf h1
theorem NJ (h:(ui ys).Nodup):((JK ys).map (·.1)).Nodup:=by
 rw[uP];exact aat _ (λa b n e=>n<|Kb e) h
def Bm (C:Addr):Sp:=λvs H Q _=>E9 λ(o dx pl nl kd jn p:Addr) (x:JM) (Dx:List (List Key×V))=>A5 (vs=[.ref o,.ref p]) (H o=some (.ins C dx<|fD pl nl kd jn)) (H jn=some (.dT Dx)) (H p=some (.tup [.str x.1,.int x.2])) (Q (.bl (Jp Dx<|kP x).isSome) H)
theorem gB (T:Txt K mg t):Zg P w K mg base 3 t.jS "has_pin" [LE,SZ] (Bm t.jS):=by
 refine T.Gh.ok T.Jh [LE,SZ] ?_;rintro _ H Q E ⟨o,dx,pl,nl,kd,jn,p,x,Dx,rfl,ho,hj,hp,q⟩;refine#[rfl,λDF A outer s hr=>#[_,(jk<|jE<|za (jq (Mc T)<|ja (pv 1) jb)<|gH<|xR<|lZ (pv 1)<|uM<|pv 0),?_]];refine#[p,_,_,rfl,hp,true,rfl,Jm #[o,_,dx,_,_,rfl,ho,T.Jh,T.J2,rfl,jn,_,rfl,JX.t (k:=kP x) hj hp,q]]
def Bq (C:Addr):Sp:=λvs H Q _=>BL λ(o dx pl nl kd jn p:Addr) (x:JM) (Dx:List (List Key×V)) (v:V)=>A6 (vs=[.ref o,.ref p]) (H o=some (.ins C dx<|fD pl nl kd jn)) (H jn=some (.dT Dx)) (H p=some (.tup [.str x.1,.int x.2])) (Jp Dx (kP x)=some v) (Q v H)
theorem Gj (T:Txt K mg t):Zg P w K mg base 4 t.jS "net_of" [LE,SZ] (Bq t.jS):=by
 refine T.GJ.ok T.Jh [LE,SZ] ?_;rintro _ H Q E ⟨o,dx,pl,nl,kd,jn,p,x,Dx,v,rfl,ho,hj,hp,z,q⟩;refine#[rfl,λDF A outer s hr=>#[_,(jf (j8 (uc<|ux<|aq (pv 0) (gB T)<|ja (pv 1) jb) (jk uK) jP)<|jk<|jE<|Ud (uM<|pv 0)<|pv 1),?_]];exact#[o,dx,_,rfl,ho,rfl,o,dx,pl,nl,kd,jn,p,x,Dx,rfl,ho,hj,hp,zo (by rw[z];rfl) #[o,_,dx,_,_,rfl,ho,T.Jh,T.J2,rfl,jn,v,rfl,z▸JX.t hj hp,q]]
def Bk (C:Addr):Sp:=λvs H Q _=>E7 λ(o dx pl nl kd jn:Addr) (ys:List JG)=>A5 (vs=[.ref o]) (H o=some (.ins C dx<|fD pl nl kd jn)) (H jn=some (.dT<|JK ys)) ((ui ys).length<64) (∀l bs ks H',Same H H'->H l=none->H' l=some (.lst<|bs.map V.ref)->KeyAt H' bs ks->ks.Perm ((ui ys).map kP)->(ks.Pairwise λa b=>lx b a=false)->Q (.ref l) H')
theorem zv (T:Txt K mg t):Zg P w K mg base 1 t.jS "pins" [LE] (Bk t.jS):=by
 refine T.KJ.ok T.Jh [LE] ?_;rintro _ H Q E ⟨o,dx,pl,nl,kd,jn,ys,rfl,ho,hj,tl,q⟩;refine#[rfl,λDF A outer s hr=>#[_,(jk (jE (jw (ZO rfl hr.units) (by rfl) T.JS JR<|ja (uM<|pv 0) jb))),?_]];refine#[o,_,dx,_,_,rfl,ho,T.Jh,T.J2,rfl,jn,_,sd<|kP ("",0),rfl,hj,λkv Hr=>?_,(λz=>nomatch z),by rw[mX];exact tl,λl bs ks hl KA pm so=>?_]
 ·have:kv.1∈(JK ys).map _:=yi.mpr #[kv,Hr,rfl];rw[uP] at this;obtain⟨p,_,e⟩:=yi.mp this;rw[<-e];rfl
 ·rw[uP] at pm;have s3:=jh (o:=.lst<|bs.map V.ref) (Same.refl H) hl;exact q l bs ks _ s3 hl jc (KeyAt.mono' KA s3) pm so
def pF (H H':Hp) (n:Nat) (Dx:List (Key×V)):Prop:=∀kv∈Dx,∃(l:Addr) (zs:List V),A4 (kv.2=.ref l) (H' l=some (.lst zs)) (H l=none) (zs.length<=n)
theorem qE {k:Key}{v:V}{kv:Key×V} (h:kv∈uA Dx k v):kv∈Dx\/kv.2=v:=by
 unfold uA at h
 split at h
 ·grind
 ·grind
def Cj (C:Addr):Sp:=λvs H Q _=>E6 λ(o:Addr) (ps ns ls:Di) (xs:List Jx) (ys:List JG)=>A4 (vs=[.ref o]) (Dr H C o ps ns ls xs ys) (uY xs ys) (∀D Dx H',Same H H'->H D=none->H' D=some (.dK Dx)->Dx.map (·.1)=ys.map (λy=>Yr y.1)->Q (.ref D) H')
theorem ZW (T:Txt K mg t):Zg P w K mg base 2 t.jS "net_pins" [LE] (Cj t.jS):=by
 refine T.ZY.ok T.Jh [LE,PP,SZ] ?_;rintro _ H Q E ⟨o,ps,ns,ls,xs,ys,rfl,d,G,q⟩;refine#[rfl,λDF A outer s hr=>#[_,(jf (jt 1 G5)<|jf (wa<|j0 jR (qz rfl<|uM<|pv 0) (jl 2)<|jk<|Gf (pv 1) (G4 (uM<|pv 0)<|pv 2)<|jY jb)<|jf (j0 jR (jN<|gF (fe<|zv T)<|pv 0) (jl 2)<|jk<|Jd<|j3 Ya Yg Yf Jb (G4 (pv 1)<|G4 (uM<|pv 0)<|pv 2)<|ja (pv 2) jb)<|jk<|jE<|pv 1),?_]];refine u7 (λ(D)=>[oR o,oR D,none]) (λD H'=>A3 _ _<|H' D=some _) (λB hB=>λD hD=>hB D _ #[jh (Same.refl H) hD,hD,jc]) ?_;rintro D H1 ⟨s1,hD,eD⟩;have nd:=NJ G.nd;have lj:(JK ys).length<=1000:=by have:=congrArg Ys<|uP ys;rw[ya,ya] at this;have:=G.tl;lia
 obtain⟨dx,pl,nl,kd,jn,kk,ho,_,_,hj,_⟩:=(d.same s1).ex;refine z8 (λ(v2) (Dx)=>[oR o,oR D,v2]) (λ_ Dx H'=>A4 (Same H H') (H' D=some (.dK Dx)) (Dx.map (·.1)=ys.map (λy=>Yr y.1))<|pF H H' 0 Dx) (λB' hB=>?_) ?_
 ·refine#[o,_,dx,_,_,rfl,ho,T.Jh,T.J2,rfl,jn,_,rfl,hj,λob es hz hm kt dr=>?_];obtain⟨Z,zs,zn,zt⟩:=p9 hj hz hm kt dr;have jD:=j9 hj eD;have oj:=j9 ho hj;have oD:=j9 ho eD;have Fq:=zs _ _ oj ho;have Ea:=zs _ _ (yV jD) eD;generalize upd H1 jn (vz jn ob)=H3 at Z zs zn zt Fq Ea;refine pY Z (λi σ H'=>E2 λ(v2) (Dx)=>A5 (σ=[oR o,oR D,v2]) (Uo D H3 H') (H' D=some (.dK Dx)) (Dx.map (·.1)=(((JK ys).take i).map λkv=>xL kv.2).foldl GM _)<|pF H H' 0 Dx/\Dx.length<=i) #[_,_,rfl,λ_ _ _ e=>e,Ea,rfl,(λkv h=>nomatch h),yj _] (λi σ H' _ h=>by obtain⟨_,_,_,k,_⟩:=h;exact k _ _ jD Z.e) ?_ ?_
  ·rintro i kv p σ H4 Hr hp ⟨v2,Dx,rfl,bt,e4,ek,L4,lk⟩;obtain⟨z,ez⟩:=iW Hr;have Oi:=bt _ _ (j9 hp Ea) hp;have fr:∀l,H4 l=none->H l=none:=λl hl=>by
    cases e:H l with
    | none=>rfl
    | some u =>
     have h1:=s1 _ _ e;by_cases y:l=jn
     ·rw[y,bt _ _ jD Z.e] at hl;cases hl
     ·rw[bt _ _ (λq=>by rw[q,e4] at hl;cases hl)<|zs _ _ y h1] at hl;cases hl
   refine#[vR,λl hl=>?_]
   refine Ev hl λH5 s5 e5=>?_
   have Z5:Fz _ _ H5 jn ob _ es:=#[s5 _ _<|bt _ _ jD Z.e,Z.hm,Z.kt.keeps λb ys e=>s5 _ _<|bt _ _ (j9 e Ea) e,Z.dr,Z.hz];have Iz:=s5 _ _ e4;refine#[o,_,dx,_,_,rfl,s5 _ _<|bt _ _ oD Fq,T.Jh,T.J2,rfl,jn,.str z,rfl,by rw[<-ez,<-c9 nd Hr];exact VO.z Z5<|s5 _ _ Oi,D,_,rfl,Vs.k (k:=.inr z) Iz (yG (show _<=1000 by have:=(yc.mp Hr).1;lia) ac),_,_,rfl,λb u n e=>jy n<|s5 _ _<|bt _ _ n e,jc,?_,?_,?_]
   ·rw[oq,ek,jA Hr,yd,abz,Ql,ez];rfl
   ·intro g₂ RG;rcases qE RG with h|h
    ·obtain⟨l',F6,a1,a2,a3,a4⟩:=L4 g₂ h;exact#[l',F6,a1,jy (j9 a2 e4)<|s5 _ _ a2,a3,a4]
    ·exact#[l,_,h,jy (j9 e5 Iz) e5,fr l hl,yj _]
   ·exact yk (Vi _ _ _) gt
  ·rintro σ H4 ⟨v2,Dx,rfl,bt,e4,ek,L4,lk⟩;rw[jO rfl,eQ,kW ys [] (λy _ h=>nomatch h) G.names2 (λy hy=>(G.nets y hy).2),abI] at ek;refine#[jn,ob,_,es,#[bt _ _ jD Z.e,Z.hm,Z.kt.keeps λb ys e=>bt _ _ (j9 e Ea) e,Z.dr,Z.hz],hB v2 Dx _ #[λb u e=>?_,jy (yV jD) e4,ek,λkv h=>?_]]
   ·have h1:=s1 _ _ e;by_cases y:b=jn
    ·subst y;rw[hj] at h1;cases h1;exact jc
    ·rw[jC y];exact bt _ _ (jJ e hD) (zs _ _ y h1)
   ·obtain⟨l',F6,a1,a2,a3,a4⟩:=L4 kv h;exact#[l',F6,a1,by rw[jC (λy=>by rw[y,bt _ _ jD Z.e] at a2;cases a2)];exact a2,a3,a4]
 rintro v2 Dx H2 ⟨s2,e2,ek,O4⟩;obtain⟨dx,pl,nl,kd,jn,kk,ho,_,_,hj,_⟩:=(d.same s2).ex;refine u7 (λ(v2)=>[oR o,oR D,v2]) (λ_ H'=>A3 (Same H H') (H' D=some (.dK Dx)) True) (λB' hB=>?_) ?_
 ·refine#[o,dx,_,rfl,ho,rfl,o,dx,pl,nl,kd,jn,ys,rfl,ho,hj,G.tl,λl bs ks H3 s3 hl el KA pm so=>?_];have D3:=s3 _ _ e2;have Fq:=s3 _ _ ho;have TV:=s3 _ _ hj;have lb:bs.length<=1000:=by
   have:=pm.length_eq;rw[ya] at this;have:=G.tl;have:=KA.1
   lia
  have G':∀kv∈Dx,kv.2≠.ref l:=λkv h z=>by
   obtain⟨l',F6,a1,a2,_⟩:=O4 kv h;rw[a1] at z;cases z;rw[hl] at a2;cases a2
  have no:∀{b:Addr} {u:HO},H3 b=some u->(∀zs,u≠.lst zs)->∀kv∈Dx,kv.2≠.ref b:=λ{b u} e n kv h z=>by
   obtain⟨l',F6,a1,a2,_⟩:=O4 kv h;rw[a1] at z;cases z;rw[s3 _ _ a2] at e;cases e;exact n _ rfl
  refine#[l,rfl,#[_,jj.of el],uJ (λi σ H'=>∃(v2:Option V),A3 (σ=[oR o,oR D,v2]) (∀b u,(∀kv∈Dx,kv.2≠.ref b)->H3 b=some u->H' b=some u)<|pF H H' i Dx) #[_,rfl,λ_ _ _ e=>e,λkv h=>let ⟨l',F6,a1,a2,a3,a4⟩:=O4 kv h;#[l',F6,a1,s3 _ _ a2,a3,a4]] (λi σ H' _ h=>by obtain⟨_,_,k,_⟩:=h;exact jj.of<|k _ _ G' el) ?_ ?_]
  ·rintro i v σ H4 hv ⟨v2,rfl,k4,L4⟩;obtain⟨p,e1,rfl⟩:=gm hv;have hi:=(yc.mp e1).1;have Lh:i<ks.length:=by rw[<-KA.1];exact hi
   have ep:=KA.2 i p _ e1<|yb Lh;have TX:=k4 _ _ (no ep (λ_ z=>nomatch z)) ep;obtain⟨x,hx,ex⟩:=yi.mp<|pm.mem_iff.mp<|yz Lh;rw[<-ex] at TX;have hk:kP x∈(JK ys).map (·.1):=by rw[uP];exact yi.mpr #[x,hx,rfl]
   obtain⟨u,hu,mu⟩:=gQ hk;have:∃z,u=.str z/\Yr z∈Dx.map (·.1):=by
    obtain⟨y,hy,h2⟩:=QH.mp mu;obtain⟨p,_,e⟩:=yi.mp h2;exact#[_,(congrArg aaA e).symm,by rw[ek];exact yi.mpr #[y,hy,rfl]]
   obtain⟨z,rfl,hz⟩:=this;obtain⟨u2,L7,TY⟩:=gQ hz;obtain⟨l',F6,a1,a2,a3,a4⟩:=L4 _ TY;cases a1;have nD:=no D3 (λ_ z=>nomatch z);have gj:VO P w H4 jn (.ref p) (some<|.str z):=by rw[<-hu];exact VO.t (k4 _ _ (no TV (λ_ z=>nomatch z)) TV) TX
   have gD:VO P w H4 D (.str z) (some<|.ref l'):=by rw[<-L7];exact .inl (JX.k (k:=.inr z)<|k4 _ _ nD D3)
   refine#[o,_,dx,_,_,rfl,k4 _ _ (no Fq (λ_ z=>nomatch z)) Fq,T.Jh,T.J2,rfl,jn,_,rfl,gj,D,_,rfl,gD,.inl #[rfl,_,jj.of a2],l',F6,_,rfl,rfl,a2,yG (show _<=1000 by lia) ac,_,rfl,λb u n e=>?_,λkv h=>?_]
   ·rw[jC (λy=>n _ TY (by rw[y]))];exact k4 _ _ n e
   ·obtain⟨m,G₁,b1,b2,b3,b4⟩:=L4 kv h;by_cases y:m=l'
    ·subst y;exact#[m,_,b1,jc,b3,by rw[yg];exact Qt a4]
    ·exact#[m,G₁,b1,jy y b2,b3,by lia]
  ·rintro σ H4 ⟨v2,rfl,k4,L4⟩;refine hB _ _ #[λb u e=>k4 _ _ (λkv h z=>?_)<|s3 _ _<|s2 _ _ e,k4 _ _ (no D3 (λ_ z=>nomatch z)) D3,trivial];obtain⟨l',F6,a1,a2,a3,_⟩:=O4 kv h;rw[a1] at z;cases z;rw[a3] at e;cases e
 rintro v2' H3 ⟨s3,e3,_⟩;exact q D Dx H3 s3 hD e3 ek
theorem Kj {α:Type}{l:List α} (nd:l.Nodup) {i j:Nat} (hi:i<l.length) (hj:j<l.length) (e:l[i]=l[j]):i=j:=by
 rcases QM i j with h|h|h
 ·exact absurd e (Qj.mp nd i j hi hj h)
 ·exact h
 ·exact absurd e.symm (Qj.mp nd j i hj hi h)
def vO (ks:List Key):List (Key×V):=ks.zipIdx.map λx=>(x.1,V.int x.2)
theorem Vo (ks:List Key):(vO ks).map (·.1)=ks:=by
 unfold vO;exact y7 on λi h1 h2=>by simp
theorem lM (ks:List Key) (k:Key):vO (ks++[k])=vO ks++[(k,V.int ks.length)]:=by
 unfold vO;rw[Yz,yd];simp
theorem GZ {ks:List Key} (nd:ks.Nodup) {i:Nat} {k:Key} (h:ks[i]?=some k):Jp (vO ks) k=some (.int i):=by
 have hi:k∈(vO ks).map (·.1):=by rw[Vo];exact yh h
 obtain⟨v,hv,hm⟩:=gQ hi;obtain⟨x,hx,e⟩:=yi.mp hm;obtain⟨j,hj,ej⟩:=yH hx;rw[List.getElem_zipIdx] at ej;have RH:=by simpa using hj
 subst ej;have e1:=congrArg abL e;have e2:v=.int j:=(congrArg aaA e).symm.trans on;obtain⟨Ir,ei⟩:=yc.mp h;have:=Kj nd RH Ir<|e1.trans ei.symm;rw[hv,e2,this]
structure vT (T:TK) (H:Hp) (Dx:List (T.α×Addr×Int)) (ks:List T.α):Prop where
 keys:Dx.map (·.1)=ks
 idx:∀(j:Nat) x,Dx[j]?=some x->x.2.2=(j:Int)
 ky:b7 T H Dx
theorem vT.mono {H H':Hp}{Dx:List (T.α×Addr×Int)}{ks:List T.α} (N:vT T H Dx ks) (k:∀p xs,H p=some (.tup xs)->H' p=some (.tup xs)):vT T H' Dx ks:=#[N.keys,N.idx,λx hx=>#[T.M.mono k (N.ky x hx).1,(N.ky x hx).2]]
theorem vT.val {H:Hp}{Dx:List (T.α×Addr×Int)}{ks:List T.α} (N:vT T H Dx ks) (nd:ks.Nodup) {i:Nat} {k:T.α} (h:ks[i]?=some k):zL Dx k=some (i:Int):=by
 obtain⟨hi,ei⟩:=yc.mp h;unfold zL;cases e:Dx.find? _ with
 | none =>
  have:=List.find?_eq_none.mp e;have hm:k∈Dx.map (·.1):=by rw[N.keys];exact yh h
  obtain⟨x,hx,ex⟩:=yi.mp hm;exact absurd (decide_eq_true ex) (this x hx)
 | some x =>
  have e1:x.1=k:=by grind
  obtain⟨j,hj,ej⟩:=yH<|aaf e;have RH:j<ks.length:=by rw[<-N.keys,ya];exact hj
  have e2:ks[j]=k:=by
   have:(Dx.map (·.1))[j]'(by rw[ya];exact hj)=ks[j]:=by simp only[N.keys]
   rw[<-this,yQ,ej,e1]
  have:=Kj nd RH hi<|e2.trans ei.symm;rw[QX,N.idx j x (by grind),this]
theorem vT.none {H:Hp}{Dx:List (T.α×Addr×Int)}{ks:List T.α} (N:vT T H Dx ks) {k:T.α} (h:k ∉ ks):zL Dx k=none:=by
 unfold zL;cases e:Dx.find? _ with
 | none=>rfl
 | some x =>
  have e1:x.1=k:=by grind
  exact absurd (by rw[<-N.keys];exact yi.mpr #[x,aaf e,e1]) h
theorem vT.snoc {T:TK}{H:Hp}{Dx:List (T.α×Addr×Int)}{ks:List T.α} (N:vT T H Dx ks) {k:T.α} {b:Addr} (hb:T.M.V_ H (.ref b) k) (hg:T.good k):vT T H (Dx++[(k,b,(ks.length:Int))]) (ks++[k]):=by
 have l:Dx.length=ks.length:=by rw[<-N.keys,ya]
 refine#[by rw[yd,N.keys];rfl,λj x h=>?_,λx hx=>?_]
 ·by_cases hj:j<Dx.length
  ·rw[yx hj] at h;exact N.idx j x h
  ·grind
 ·rcases yB.mp hx with h|h
  ·exact N.ky x h
  ·grind
inductive Av (P:Dt) (w:World) (vs:List V) (H:Hp) (Q:VK):Prop
 | k (a:Addr) (ks:List Key) (h0:vs=[.ref a]) (h1:H a=some (.lst<|ks.map kV)) (h2:ks.Nodup) (h3:ks.length<=1000) (q:∀D H',Same H H'->H D=none->H' D=some (.dK<|vO ks)->Q (.ref D) H')
 | g (T:TK) (a:Addr) (bs:Di) (ks:List T.α) (h0:vs=[.ref a]) (h1:H a=some (.lst<|bs.map V.ref)) (h2:J1 T.M H bs ks) (h3:∀k∈ks,T.good k) (h4:ks.Nodup) (h5:ks.length<=1000) (q:∀D Dx H',Same H H'->H D=none->H' D=some (.ext<|vk T P w D Dx)->vT T H' Dx ks->Q (.ref D) H')
def Br (P:Dt) (w:World):Sp:=λvs H Q _=>Av P w vs H Q
theorem Gy (T:Txt K mg t):j7 P w K mg base 1 "numbered" ["things"] (Br P w):=by
 refine T.dj.ok ["things","numbers",YE,"thing"] ?_;rintro _ H Q E (⟨a,ks,rfl,ha,nd,hl,q⟩|⟨T',a,bs,ks,rfl,ha,NA,hg,nd,hl,q⟩)
 ·refine#[rfl,λDF A outer s hr=>#[_,(jf (jt 1 ap)<|jf (j0 jR (JT rfl rfl T.Ja<|ja (pv 0) jb) (j5<|jr (jl 2)<|jr (jl 3) jV)<|jk<|aB (pv 1) (pv 3)<|pv 2)<|jk<|jE<|pv 1),?_]];refine u7 (λ(D)=>[oR a,oR D,none,none]) (λD H'=>A3 _ _<|H' D=some _) (λB hB=>.inl λD hD=>hB D _ #[jh (Same.refl H) hD,hD,jc]) ?_;rintro D H1 ⟨s1,hD,eD⟩;refine#[a,rfl,#[_,jj.of<|s1 _ _ ha],ua (λi σ H'=>E2 λ(v2 v3)=>A3 (σ=[oR a,oR D,v2,v3]) (Same H H')<|H' D=some (.dK<|vO<|ks.take i)) #[_,_,rfl,s1,eD] (λi σ H' _ h=>by obtain⟨_,_,_,e,_⟩:=h;exact jj.of<|e _ _ ha) ?_ ?_]
  ·rintro i v p σ H2 hv hp ⟨v2,v3,rfl,s2,e2⟩;obtain⟨k,ek,rfl⟩:=gm hv;have hi:=(yc.mp ek).1
   refine Ev hp λH3 s3 e3=>?_
   have Ea:=s3 _ _ e2;have Fi:Jp (vO<|ks.take i) k=none:=by
    cases e:Jp _ k with
    | none=>rfl
    | some v =>
     have h1:=Zc e;rw[Vo] at h1;have h2:(ks.take i++ks.drop i).Nodup:=by rw[Qm];exact nd
     exact absurd rfl ((y8.mp h2).2.2 _ h1 k (by rw[Qc hi,(yc.mp ek).2];exact yu ..))
   refine#[_,ju.of e3,rfl,?_];refine .d D _ rfl (Vs.k Ea ?_) #[_,_,rfl,λb u e=>jy (jJ e hD)<|s3 _ _<|s2 _ _ e,?_]
   ·have:(vO<|ks.take i).length<=1000:=by
     have:=congrArg Ys<|Vo<|ks.take i;rw[ya,yF] at this
     lia
    exact yG this ac
   ·rw[jc,ZC _ Fi,jA ek,lM,yF,Qs<|yX hi]
  rintro σ H2 ⟨v2,v3,rfl,s2,e2⟩;rw[ya,jO rfl] at e2;exact q D H2 s2 hD e2
 ·refine#[rfl,λDF A outer s hr=>#[_,(jf (jt 1 ap)<|jf (j0 jR (JT rfl rfl T.Ja<|ja (pv 0) jb) (j5<|jr (jl 2)<|jr (jl 3) jV)<|jk<|aB (pv 1) (pv 3)<|pv 2)<|jk<|jE<|pv 1),?_]];refine u7 (λ(D)=>[oR a,oR D,none,none]) (λD H'=>A3 _ _<|H' D=some (.ext<|vk T' P w D _)) (λB hB=>.inr (.inr #[T',λD hD=>hB D _ #[jh (Same.refl H) hD,hD,jc]])) ?_;rintro D H1 ⟨s1,hD,eD⟩;obtain⟨lb,hb⟩:=Ji NA;refine#[a,rfl,#[_,jj.of<|s1 _ _ ha],ua (λi σ H'=>E3 λ(v2 v3) (Dx)=>A4 (σ=[oR a,oR D,v2,v3]) (Same H H') (H' D=some (.ext<|vk T' P w D Dx))<|vT T' H' Dx<|ks.take i) #[_,_,_,rfl,s1,eD,rfl,(λj x h=>nomatch h),λx h=>nomatch h] (λi σ H' _ h=>by obtain⟨_,_,_,_,e,_⟩:=h;exact jj.of<|e _ _ ha) ?_ ?_]
  ·rintro i v p σ H2 hv hp ⟨v2,v3,Dx,rfl,s2,e2,N2⟩;obtain⟨b,TZ,rfl⟩:=gm hv;have hi:i<ks.length:=by rw[<-lb];exact (yc.mp TZ).1
   have ek:=yb hi
   refine Ev hp λH3 s3 e3=>?_
   have Ea:=s3 _ _ e2;have N3:=N2.mono λ_ _ e=>s3 _ _ e;have Fi:ks[i] ∉ ks.take i:=λh1=>by
    have h2:(ks.take i++ks.drop i).Nodup:=by rw[Qm];exact nd
    exact (y8.mp h2).2.2 _ h1 _ (by rw[Qc hi];exact yu ..) rfl
   have vb:=T'.M.mono (λ_ _ e=>s3 _ _<|s2 _ _ e)<|hb i b _ TZ ek;have gk:=hg _<|yz hi;have lk:Dx.length=i:=by rw[<-ya,N2.keys,yF,Qs<|yX hi]
   refine#[_,ju.of e3,rfl,?_];refine .g T' D b Dx _ i rfl rfl rfl Ea N3.ky vb gk (N3.none Fi) (by omega) #[_,_,_,rfl,λb u e=>jy (jJ e hD)<|s3 _ _<|s2 _ _ e,jc,?_];rw[jA ek];have:=N3.snoc vb gk;rw[yF,Qs<|yX hi] at this;exact this.mono λq ys e=>by rw[jC<|j9 e Ea];exact e
  rintro σ H2 ⟨v2,v3,Dx,rfl,s2,e2,N2⟩;rw[ya,lb,jO rfl] at N2;exact q D Dx H2 s2 hD e2 N2
theorem jK {H H':Hp}{o:HO} (s:Same H H') (hD:H D=none):Same H (upd H' D o):=λb u e=>by rw[jC<|jJ e hD];exact s _ _ e
theorem Vy {a:Addr}{vs:List V}{ms:List Int}{H:Hp} (ha:H a=some (.lst vs)) (hl:vs.length=ms.length) (hz:vs.length<=1000) (hg:∀(i:Nat) v m,vs[i]?=some v->ms[i]?=some m->∀H' (Q':VK),Same H H'->Q' (.int m) H'->dl P w (.ref R) v H' Q')
  (q:∀D H',Same H H'->H D=none->H' D=some (.lst<|ms.map V.int)->Q (.ref D) H'):vJ 1 (UW 2) (λ_ H Q=>Q true H) (oS P w (US 1)<|US 2) [oR f,oR R] Q (kA K a) H:=by
 refine JV (λD i ys H'=>A4 (Same H H') _ (H' D=some (.lst ys))<|ys=(ms.take i).map V.int) (yk hz ac) (λD hD=>#[jh (Same.refl H) hD,hD,jc,rfl]) (λD i ys H' #[s1,h1,h2,h3]=>#[h2,by grind,jj.of<|s1 _ _ ha]) ?_ ?_
 ·rintro D i v ys H1 Qy Qn hv ⟨s1,hD,eD,rfl⟩ hy hn;have hi:i<ms.length:=by grind
  have em:=yb hi;refine#[#[_,rfl,rfl],Jm<|hg i v _ hv em H1 _ s1<|hy _ _ eD #[jK s1 hD,hD,jc,?_]];rw[jA em,yd]
  rfl
 ·rintro D ys H1 hD ⟨s1,_,eD,rfl⟩;rw[hl,jO rfl] at eD;exact q D H1 s1 hD eD
noncomputable def Ub {α:Type} (l:List α) (k:α):Nat:=by classical exact if h:∃i:Nat,l[i]?=some k then h.choose else 0
structure U2 {α:Type} (lt:α->α->Bool) (ks js us:List α):Prop where
 nd:us.Nodup
 mem:∀k,k∈us↔k∈ks++js
 so:us.Pairwise λa b=>lt b a=false
inductive wB (P:Dt) (w:World) (K:C9) (vs:List V) (H:Hp) (Q:VK):Prop
 | g (T:TK) (f l0 l1:Addr) (bs cs:Di) (ks js:List T.α) (h0:vs=[.ref f]) (h1:H f=some (.lst [.ref l0,.ref l1])) (h2:H l0=some (.lst<|bs.map V.ref)) (h3:H l1=some (.lst<|cs.map V.ref)) (h4:J1 T.M H bs ks) (h5:J1 T.M H cs js) (h6:∀k∈ks++js,T.good k) (h7:ks.length+js.length<=60)
   (q:∀(us:List T.α) R r0 r1 H',U2 (ul<|Jo T.O T.hd) ks js us->Same H H'->H R=none->H r0=none->H r1=none->H' R=some (.lst [.ref r0,.ref r1])->H' r0=some (.lst ((ks.map λk=>(Ub us k:Int)).map V.int))->H' r1=some (.lst ((js.map λk=>(Ub us k:Int)).map V.int))->r0≠r1->Q (.ref R) H')
 | k (f l0 l1:Addr) (ks js:List Int) (h0:vs=[.ref f]) (h1:H f=some (.lst [.ref l0,.ref l1])) (h2:H l0=some (.lst<|ks.map V.int)) (h3:H l1=some (.lst<|js.map V.int)) (h7:ks.length+js.length<=60)
   (q:∀(us:List Int) R r0 r1 H',U2 (λa b:Int=>decide (a<b)) ks js us->Same H H'->H R=none->H r0=none->H r1=none->H' R=some (.lst [.ref r0,.ref r1])->H' r0=some (.lst ((ks.map λk=>(Ub us k:Int)).map V.int))->H' r1=some (.lst ((js.map λk=>(Ub us k:Int)).map V.int))->r0≠r1->Q (.ref R) H')
def Ax (P:Dt) (w:World) (K:C9):Sp:=λvs H Q _=>wB P w K vs H Q
theorem Ve {α:Type}{l:List α}{k:α} (h:k∈l):l[Ub l k]?=some k:=by
 have h':∃i:Nat,l[i]?=some k:=by obtain⟨i,hi,rfl⟩:=yH h;exact#[i,yb hi]
 unfold Ub;rw[dif_pos h'];exact h'.choose_spec
theorem qO {α:Type}{l:List α}{a b:α} (ha:a∈l) (hb:b∈l) (e:Ub l a=Ub l b):a=b:=by
 have h1:=Ve ha;rw[e,Ve hb] at h1;exact (Yd h1).symm
theorem Md (T:Txt K mg t):j7 P w K mg base 2 "ranked" ["found"] (Ax P w K):=by
 refine T.pD.ok ["found","ranks"] ?_;rintro _ H Q E (⟨T',f,l0,l1,bs,cs,ks,js,rfl,hf,h0,h1,N0,N1,hg,hl,q⟩|⟨f,l0,l1,ks,js,rfl,hf,h0,h1,hl,q⟩)
 ·refine#[rfl,λDF A outer s hr=>#[_,(jf (jt 1 (jq (Gy T) (ja (jw (VL (VJ λT=>ZP T rfl hr.units)<|vH rfl) (by rfl) T.JS JR (ja (jT (VL (VJ λT=>mH T rfl hr.units)<|uQ rfl) (by rfl) T.Vj Vg<|ja (jB uL (jo jx (pv 0) jg)<|jo jx (pv 0) jg) jb) jb)) jb))) (jk (jE (jY (ja (jU (own:=["thing"]) (JW) (jN<|jo jx (pv 0) jg) (λ_ _ _ _ _=>jl 2) (λ_ _ _ _ _=>j4) (λ_ _ _ _ _=>(ZA (pv 1)<|pv 2))) (ja (jU (own:=["thing"]) (JW) (jN<|jo jx (pv 0) jg) (λ_ _ _ _ _=>jl 2) (λ_ _ _ _ _=>j4) (λ_ _ _ _ _=>(ZA (pv 1)<|pv 2))) jb)))))),?_]];refine ZT (λ(D) (us) (Dx)=>[oR f,oR D]) (λD us Dx H'=>A6 (Same H H') (H D=none) (H' D=some (.ext<|vk T' P w D Dx)) (vT T' H' Dx us) (U2 (ul<|Jo T'.O T'.hd) ks js us) True) (λB hB=>#[_,_,jj.of hf,rfl,_,_,jj.of hf,rfl,l0,l1,_,_,rfl,rfl,h0,h1,?_,λp hp=>?_]) ?_
  ·rw[ya,ya,(Ji N0).1,(Ji N1).1];exact yk hl ac
  ·have s1:=jh (o:=.lst<|bs.map V.ref++cs.map V.ref) (Same.refl H) hp;have e1:upd H p (.lst<|bs.map V.ref++cs.map V.ref) p=some (.lst<|(bs++cs).map V.ref):=by rw[jc,yd]
   generalize upd H p (.lst<|bs.map V.ref++cs.map V.ref)=H1 at s1 e1;refine .inl #[T',p,_,ks++js,rfl,e1,#[(N0.app N1).mono λ_ _ e=>s1 _ _ e,hg],by rw[yg];omega,λS us hS nd mem hv=>?_];have lu:us.length<=60:=by
    have:=JY nd λa ha=>(mem a).mp ha;rw[ya,yg] at this;omega
   have s2:=jh (o:=.ext<|zD T' P w S us) (Same.refl H1) hS;have e2:upd H1 S (.ext<|zD T' P w S us) S=some (.ext<|zD T' P w S us):=jc;refine .inl #[T',S,us,rfl,e2,λx hx=>#[T'.M.mono (λ_ _ e=>s2 _ _ e)<|hv x hx,hg _<|(mem _).mp<|yi.mpr #[x,hx,rfl]],by omega,λl DP DM DU NA pm so=>?_];have s3:=jh (o:=.lst<|DP.map V.ref) (Same.refl<|upd H1 S<|.ext<|zD T' P w S us) DU;have DC:=Same.trans s1<|Same.trans s2 s3;have Ej:=pm.nodup_iff.mpr nd;have DS:∀k,k∈DM↔k∈ks++js:=λk=>(pm.mem_iff).trans<|mem k;exact .g T' l DP DM rfl jc (NA.mono λ_ _ e=>s3 _ _ e) (λk hk=>hg k<|(DS k).mp hk) Ej (by rw[pm.length_eq,ya];omega) λD Dx H' s' hD eD N=>hB D DM Dx H' #[Same.trans DC s',Same.nn DC hD,eD,N,#[Ej,DS,so],trivial]
  rintro D us Dx H1 ⟨s1,hD,eD,N,ir,_⟩;have nd:=ir.nd;have mem:=ir.mem;have get:∀{H':Hp} {Q':VK} {b:Addr} {k:T'.α},Same H1 H'->T'.M.V_ H _ k->k∈ks++js->Q' _ H'->dl P w _ _ H' Q':=λ{H' Q' b k} s' hb hk q' =>
   .g T' D b Dx k _ rfl rfl (s' _ _ eD) (N.mono λ_ _ e=>s' _ _ e).ky (T'.M.mono (λ_ _ e=>s' _ _<|s1 _ _ e) hb) (hg k hk) (N.val nd<|Ve<|(mem k).mpr hk) q'
  refine#[_,_,jj.of<|s1 _ _ hf,rfl,l0,rfl,#[_,jj.of<|s1 _ _ h0],Vy (ms:=ks.map λk=>((Ub us k))) (s1 _ _ h0) (by rw[ya,ya,(Ji N0).1]) (by rw[ya,(Ji N0).1];omega) (λi v m hv hm H' Q' s' q'=>?_) λr0 H2 s2 IA e0=>?_]
  ·rw[ye] at hv hm;obtain⟨b,eb,rfl⟩:=yr.mp hv;obtain⟨k,ek,rfl⟩:=yr.mp hm;exact get s' ((Ji N0).2 i b k eb ek) (y9 _<|yh ek) q'
  have DN:=Same.trans s1 s2;refine#[_,_,jj.of<|DN _ _ hf,rfl,l1,rfl,#[_,jj.of<|DN _ _ h1],Vy (ms:=js.map λk=>((Ub us k))) (DN _ _ h1) (by rw[ya,ya,(Ji N1).1]) (by rw[ya,(Ji N1).1];omega) (λi v m hv hm H' Q' s' q'=>?_) λr1 H3 s3 Ht e1=>?_]
  ·rw[ye] at hv hm;obtain⟨b,eb,rfl⟩:=yr.mp hv;obtain⟨k,ek,rfl⟩:=yr.mp hm;exact get (Same.trans s2 s') ((Ji N1).2 i b k eb ek) (yA _<|yh ek) q'
  have DC:=Same.trans DN s3;refine#[JE,λR hR=>?_];have s4:=jh (o:=.lst [.ref r0,.ref r1]) (Same.refl H3) hR;have lu:us.length<=60:=by
   have:=JY nd λa ha=>(mem a).mp ha;rw[yg] at this;omega
  exact q us R r0 r1 _ ir (Same.trans DC s4) (Same.nn DC hR) (Same.nn s1 IA) (Same.nn DN Ht) jc (s4 _ _<|s3 _ _ e0) (s4 _ _ e1) (jJ e0 Ht)
 ·refine#[rfl,λDF A outer s hr=>#[_,(jf (jt 1 (jq (Gy T) (ja (jw (VL (VJ λT=>ZP T rfl hr.units)<|vH rfl) (by rfl) T.JS JR (ja (jT (VL (VJ λT=>mH T rfl hr.units)<|uQ rfl) (by rfl) T.Vj Vg<|ja (jB uL (jo jx (pv 0) jg)<|jo jx (pv 0) jg) jb) jb)) jb))) (jk (jE (jY (ja (jU (own:=["thing"]) (JW) (jN<|jo jx (pv 0) jg) (λ_ _ _ _ _=>jl 2) (λ_ _ _ _ _=>j4) (λ_ _ _ _ _=>(ZA (pv 1)<|pv 2))) (ja (jU (own:=["thing"]) (JW) (jN<|jo jx (pv 0) jg) (λ_ _ _ _ _=>jl 2) (λ_ _ _ _ _=>j4) (λ_ _ _ _ _=>(ZA (pv 1)<|pv 2))) jb)))))),?_]];refine z8 (λ(D) (us)=>[oR f,oR D]) (λD us H'=>A5 (Same H H') (H D=none) (H' D=some (.dK<|vO<|us.map Yh)) (U2 (λa b:Int=>decide (a<b)) ks js us) True) (λB hB=>#[_,_,jj.of hf,rfl,_,_,jj.of hf,rfl,l0,l1,_,_,rfl,rfl,h0,h1,?_,λp hp=>?_]) ?_
  ·rw[ya,ya];exact yk hl ac
  ·have s1:=jh (o:=.lst<|ks.map V.int++js.map V.int) (Same.refl H) hp;have e1:upd H p (.lst<|ks.map V.int++js.map V.int) p=some (.lst<|((ks++js).map Yh).map kV):=by rw[jc,yd,yd,yq,yq];rfl
   generalize upd H p (.lst<|ks.map V.int++js.map V.int)=H1 at s1 e1;refine .inr #[p,(ks++js).map Yh,rfl,e1,by rw[ya,yg];lia,λS us hS nd mem=>?_];have Em:∃ns:List Int,us=ns.map Yh:=by
    refine#[us.map λk=>match k with|.inl i=>i|.inr _=>0,?_];rw[yq];refine (yT λk hk=>?_).trans (aag us) |>.symm
    obtain⟨x,_,rfl⟩:=yi.mp ((mem k).mp hk)
    rfl
   obtain⟨ns,rfl⟩:=Em;have nd:ns.Nodup:=(aaJ _ (λa b h e=>h (by rw[e])) nd);have mem:∀k,k∈ns↔k∈ks++js:=λk=>by
    have:=mem<|.inl k;rw[yi,yi] at this;exact#[λh=>by obtain⟨x,hx,e⟩:=this.mp #[k,h,rfl];cases e;exact hx,λh=>by obtain⟨x,hx,e⟩:=this.mpr #[k,h,rfl];cases e;exact hx]
   have lu:ns.length<=60:=by
    have:=JY nd λa ha=>(mem a).mp ha;rw[yg] at this
    lia
   have s2:=jh (o:=.ext<|Us P w S<|ns.map Yh) (Same.refl H1) hS;refine .inr #[S,ns,rfl,jc,by lia,λl DK DU pm so=>?_];have s3:=jh (o:=.lst<|DK.map V.int) (Same.refl<|upd H1 S<|.ext<|Us P w S<|ns.map Yh) DU;have DC:=Same.trans s1<|Same.trans s2 s3;have Ej:=pm.nodup_iff.mpr nd;exact .k l _ rfl (by rw[jc,yq];rfl) (aat _ (λa b h e=>h<|Ym e) Ej) (by rw[ya,pm.length_eq];lia) λD H' s' hD eD=>hB D DK H' #[Same.trans DC s',Same.nn DC hD,eD,#[Ej,λk=>pm.mem_iff.trans<|mem k,so.imp λh=>decide_eq_false gt],trivial]
  rintro D us H1 ⟨s1,hD,eD,ir,_⟩;have nd:=ir.nd;have mem:=ir.mem;have get:∀{H':Hp} {Q':VK} {k:Int},Same H1 H'->k∈ks++js->Q' _ H'->dl P w _ (.int k) H' Q':=λ{H' Q' k} s' hk q'=>by
   have:=GZ (aat _ (λa b h e=>h<|Ym e) nd) (by rw[ye,Ve<|(mem k).mpr hk];rfl);exact .d D _ rfl (by rw[<-this];exact JX.k (k:=.inl k)<|s' _ _ eD) q'
  refine#[_,_,jj.of<|s1 _ _ hf,rfl,l0,rfl,#[_,jj.of<|s1 _ _ h0],Vy (ms:=ks.map λk=>((Ub us k))) (s1 _ _ h0) (by rw[ya,ya]) (by rw[ya];lia) (λi v m hv hm H' Q' s' q'=>?_) λr0 H2 s2 IA e0=>?_]
  ·rw[ye] at hv hm;obtain⟨b,eb,rfl⟩:=yr.mp hv;rw[eb] at hm;cases hm;exact get s' (y9 _<|yh eb) q'
  have DN:=Same.trans s1 s2;refine#[_,_,jj.of<|DN _ _ hf,rfl,l1,rfl,#[_,jj.of<|DN _ _ h1],Vy (ms:=js.map λk=>((Ub us k))) (DN _ _ h1) (by rw[ya,ya]) (by rw[ya];lia) (λi v m hv hm H' Q' s' q'=>?_) λr1 H3 s3 Ht e1=>?_]
  ·rw[ye] at hv hm;obtain⟨b,eb,rfl⟩:=yr.mp hv;rw[eb] at hm;cases hm;exact get (Same.trans s2 s') (yA _<|yh eb) q'
  have DC:=Same.trans DN s3;refine#[JE,λR hR=>?_];have s4:=jh (o:=.lst [.ref r0,.ref r1]) (Same.refl H3) hR;have lu:us.length<=60:=by
   have:=JY nd λa ha=>(mem a).mp ha;rw[yg] at this
   lia
  exact q us R r0 r1 _ ir (Same.trans DC s4) (Same.nn DC hR) (Same.nn s1 IA) (Same.nn DN Ht) jc (s4 _ _<|s3 _ _ e0) (s4 _ _ e1) (jJ e0 Ht)
structure uB where
 hs:List (Str×Nat)
 ws:List (List Nat)
 es:Pi
def kH (x:Str×Nat):List Key:=[.inr x.1,.inl x.2]
def kE (x:Nat×Nat):List Key:=[.inl x.1,.inl x.2]
def Uc (H:Hp) (vs:Di) (ws:List (List Nat)):Prop:=vs.length=ws.length/\∀(i:Nat) v l,vs[i]?=some v->ws[i]?=some l->H v=some (.lst (l.map λn=>V.int (n:Nat)))
def Ju (H:Hp) (ls:Di) (es:Pi):Prop:=ls.length=es.length/\∀(i:Nat) v l,ls[i]?=some v->es[i]?=some l->∃us:List Addr,H v=some (.lst<|us.map V.ref)/\KeyAt H us (l.map kE)
def fS (h w e:Addr):List (Str×V):=[("heads",.ref h),("wires",.ref w),("ends",.ref e)]
structure UA (H:Hp) (C o:Addr) (S:uB):Prop where
 ex:∃(dx hl wl el:Addr) (us vs ls:Di),A7 (H o=some (.ins C dx<|fS hl wl el)) (H hl=some (.lst<|us.map V.ref)) (KeyAt H us<|S.hs.map kH) (H wl=some (.lst<|vs.map V.ref)) (Uc H vs S.ws) (H el=some (.lst<|ls.map V.ref)) (Ju H ls S.es)
theorem UA.same {H H':Hp}{o:Addr} (x:UA H C o S) (s:Same H H'):UA H' C o S:=by
 obtain⟨dx,hl,wl,el,us,vs,ls,a1,a2,a3,a4,a5,a6,a7⟩:=x.ex;exact#[dx,hl,wl,el,us,vs,ls,s _ _ a1,s _ _ a2,KeyAt.mono' a3 s,s _ _ a4,#[a5.1,λi v l h1 h2=>s _ _<|a5.2 i v l h1 h2],s _ _ a6,a7.1,λi v l h1 h2=>let ⟨us,e1,e2⟩:=a7.2 i v l h1 h2;#[us,s _ _ e1,KeyAt.mono' e2 s]]
structure uB.ok (S:uB):Prop where
 h:S.hs.length<=8
 w:S.ws.length=S.hs.length
 e:S.es.length<=24
 wl:∀l∈S.ws,l.length<=100/\∀n∈l,n<S.es.length
 el:∀l∈S.es,l.length<64/\∀p∈l,p.1<S.hs.length
def qW (C:Addr):Sp:=λvs H Q _=>∃(o:Addr) (S:uB),A4 (vs=[.ref o]) (UA H C o S) S.ok (∀D H',Same H H'->H D=none->H' D=some (.lst ((S.es.map λl=>(l.length:Int)).map V.int))->Q (.ref D) H')
theorem MQ (T:Txt K mg t):j7 P w K mg base 1 "pin_counts" [ST] (qW t.Jj):=by
 refine T.nF.ok [ST] ?_;rintro _ H Q E ⟨o,S,rfl,sk,ok,q⟩;refine#[rfl,λDF A outer s hr=>#[_,(jk (jE (jU (own:=["ends"]) (JW) (jN<|uM<|pv 0) (λ_ _ _ _ _=>jl 1) (λ_ _ _ _ _=>j4) (λ_ _ _ _ _=>(jw (ZM rfl) (by rfl) T.JD JC<|ja (pv 1) jb))))),?_]];obtain⟨dx,hl,wl,el,us,vs,ls,ho,_,_,_,_,he,E5⟩:=sk.ex;refine#[o,_,dx,_,_,rfl,ho,T.Uh,T.UY,rfl,el,rfl,#[_,jj.of he],JV (λD i ys H'=>A4 (Same H H') _ (H' D=some (.lst ys)) (ys=((S.es.take i).map λl=>(l.length)).map V.int)) (by rw[ya,E5.1];exact yk ok.e ac) (λD hD=>#[jh (Same.refl H) hD,hD,jc,rfl]) (λD i ys H' #[s1,h1,h2,h3]=>#[h2,by grind,jj.of<|s1 _ _ he]) ?_ ?_]
 ·rintro D i v ys H1 Qy Qn hv ⟨s1,hD,eD,rfl⟩ hy hn;obtain⟨b,eb,rfl⟩:=gm hv;have hi:i<S.es.length:=by rw[<-E5.1];exact (yc.mp eb).1
  have em:=yb hi;obtain⟨qs,e1,e2⟩:=E5.2 i b _ eb em;refine#[#[_,rfl,rfl],Jm #[b,_,rfl,.inl<|jj.of<|s1 _ _ e1,hy _ _ eD #[jK s1 hD,hD,jc,?_]]];have lq:=by have:=e2.1;rwa [ya] at this
  rw[jA em,yd,yd,ya,lq]
  rfl
 ·rintro D ys H1 hD ⟨s1,_,eD,rfl⟩;rw[ya,E5.1,jO rfl] at eD;exact q D H1 s1 hD eD
theorem V1 (k:Int):∀l:List Int,mS (.int k) (l.map V.int)=decide (k∈l)
 | []=>rfl
 | a::l=>by
  show (Gq _ _||mS _ _)=_;rw[V1 k l,show Gq _ _=decide _ from rfl];by_cases h:a=k
  ·simp [h]
  ·simp [h,yV h]
def u4 (held:List Int) (n:Nat):Int:=if (n:Int)∈held then (held.idxOf (n:Int):Int)+1 else 0
def NB (x:Str) (m h:Int):JF.α:=rW x m h
def Jf (hs:List (Str×Nat)) (held:List Int):List JF.α:=hs.zipIdx.map λx=>NB x.1.1 x.1.2 (u4 held x.2)
theorem JJ (hs:List (Str×Nat)) (held:List Int):(Jf hs held).length=hs.length:=by unfold Jf;rw[ya,aaa]
theorem Gr (hs:List (Str×Nat)) (x:Str×Nat) (held:List Int):Jf (hs++[x]) held=Jf hs held++[NB x.1 x.2<|u4 held hs.length]:=by
 unfold Jf;rw[Yz,yd];simp
def Ao (C:Addr):Sp:=λvs H Q _=>E4 λ(o hl:Addr) (S:uB) (held:List Int)=>A6 (vs=[.ref o,.ref hl]) (UA H C o S) S.ok (H hl=some (.lst<|held.map V.int)) (held.length<=100) (∀D bs H',Same H H'->H D=none->H' D=some (.lst<|bs.map V.ref)->J1 JF.M H' bs (Jf S.hs held)->Q (.ref D) H')
theorem MK (T:Txt K mg t):j7 P w K mg base 1 "held_parts" [ST,SL] (Ao t.Jj):=by
 refine T.nj.ok [ST,SL,"found",YE,"head","pair"] ?_;rintro _ H Q E ⟨o,hl,S,held,rfl,sk,ok,hh,lh,q⟩;refine#[rfl,λDF A outer s hr=>#[_,(jf (jt 2<|jY jb)<|jf (j0 jR (JT rfl rfl T.Ja<|ja (uM<|pv 0) jb) (j5<|jr (jl 3)<|jr (jl 4) jV)<|jf (jt 5<|qx (jF Me (pv 3)<|pv 1) (jB uF (j3 Ya Yk Yi uS (pv 1)<|ja (pv 3) jb) jg) jg)<|jk<|Jd<|j3 Ya Yg Yf Jb (pv 2)<|ja (jB cR (pv 4)<|jL<|ja (pv 5) jb) jb)<|jk<|jE<|pv 2),?_]];obtain⟨dx,RI,wl,el,us,vs,ls,ho,e1,KA,_⟩:=sk.ex;refine ze λD H1 s1 hD eD=>?_;have lu:=Ut KA;refine Mh (λ(v3 v4 v5) (bs)=>[oR o,oR hl,oR D,v3,v4,v5]) (λ_ _ _ bs H'=>A3 (Same H H') (H' D=some (.lst<|bs.map V.ref))<|J1 JF.M H' bs<|Jf S.hs held) (λB hB=>?_) ?_
 ·refine#[o,_,dx,_,_,rfl,s1 _ _ ho,T.Uh,T.zu,rfl,RI,rfl,#[_,jj.of<|s1 _ _ e1],ua (λi σ H'=>E4 λ(v3 v4 v5) (bs)=>A4 (σ=[oR o,oR hl,oR D,v3,v4,v5]) (Same H H') (H' D=some (.lst<|bs.map V.ref))<|J1 JF.M H' bs<|Jf (S.hs.take i) held) #[_,_,_,_,rfl,s1,eD,.nil] (λi σ H' _ h=>by obtain⟨_,_,_,_,_,e,_⟩:=h;exact jj.of<|e _ _ e1) ?_ ?_]
  ·rintro i v p σ H2 hv hp ⟨v3,v4,v5,bs,rfl,s2,e2,N2⟩;obtain⟨u,eu,rfl⟩:=gm hv;have hi:i<S.hs.length:=by rw[<-lu];exact (yc.mp eu).1
   have em:=yb hi;have eh:=KA.2 i u _ eu (by rw[ye,em];rfl)
   refine Ev hp λH3 s3 e3=>?_
   have DC:=Same.trans s2 s3;refine#[_,ju.of e3,rfl,vL ?_];refine UK [oR o,oR hl,oR D,some<|.int i,oR u,some<|.int<|u4 held i] (λH'=>H'=H3) (λB hB=>#[hl,_,rfl,.inl<|jj.of<|DC _ _ hh,rfl,QG.mpr λv hv=>by obtain⟨n,_,rfl⟩:=yi.mp hv;rfl,vM (λz=>?_) λz=>?_]) ?_
   ·have z:mS _ _=true:=z;rw[V1,decide_eq_true_eq] at z;refine#[.inl #[rfl,_,jj.of<|DC _ _ hh],hl,held,i,rfl,rfl,DC _ _ hh,by omega,z,?_];have:=hB H3 rfl;rwa [show u4 held i=(held.idxOf _)+1 from if_pos z] at this
   ·have z:mS _ _=false:=z;rw[V1,decide_eq_false_iff_not] at z;have:=hB H3 rfl;rwa [show u4 held i=0 from if_neg z] at this
   rintro H3 rfl;refine#[.inl #[rfl,_,jj.of<|s3 _ _ e2],oH,λu5 Om=>?_]
   refine Ev Om λH5 s5 e5=>?_
   refine#[u,u5,_,_,rfl,rfl,ju.of<|s5 _ _<|DC _ _ eh,ju.of e5,(λz=>nomatch z),(by show 3<=sizeLine;decide),(λz=>nomatch z),λ_ u6 IB=>?_]
   refine Ev IB λH6 s6 e6=>?_
   have FN:=Same.trans s3<|Same.trans s5 s6;have Ed:=FN _ _ e2;have lb:bs.length=i:=by
    rw[(Ji N2).1,JJ,yF,Qs<|yX hi]
   have:=ok.h;refine#[D,_,_,rfl,rfl,Ed,by rw[ya,lb];exact yG (show _<=8 by omega) ac,_,_,_,bs++[u6],rfl,jK (Same.trans s2 FN) hD,by rw[jc,yd];rfl,?_];rw[jA em,Gr,yF,Qs<|yX hi];have v6:JF.M.V_ H6 _ (NB _ _ _):=#[u6,_,rfl,e6,.cons rfl<|.cons rfl<|.cons rfl .nil];exact ((N2.mono λ_ _ e=>FN _ _ e).app<|.cons v6 .nil).mono λq ys e=>by rw[jC<|j9 e Ed];exact e
  ·rintro σ H2 ⟨v3,v4,v5,bs,rfl,s2,e2,N2⟩;rw[ya,lu,jO rfl] at N2;exact hB _ _ _ bs _ #[s2,e2,N2]
 rintro v3 v4 v5 bs H2 ⟨s2,e2,N2⟩;exact q D bs H2 s2 hD e2 N2
def Kw (m:Int) (l:List Int):JP.α:=rX m l
def Jc (pm:List Int) (ws:List (List Nat)) (nm:List Int):List JP.α:=(pm.zip ws).map λx=>Kw x.1 (x.2.map λn=>nm.getD n 0)
theorem pk {α β:Type}{xs:List α}{ys:List β}{i:Nat}{x:α}{y:β} (h:(xs.zip ys)[i]?=some (x,y)):xs[i]?=some x/\ys[i]?=some y:=Qd.mp h
theorem Gz (l:List Int):Paired (λ(x:V) (k:Key)=>x=kV k) (l.map V.int) (l.map Yh):=by
 induction l with
 | nil=>exact .nil
 | cons a l ih=>exact .cons rfl ih
def wE (C:Addr):Sp:=λvs H Q _=>E6 λ(o pa na:Addr) (S:uB) (pm nm:List Int)=>A7 (vs=[.ref o,.ref pa,.ref na]) (UA H C o S) S.ok (H pa=some (.lst<|pm.map V.int)) (H na=some (.lst<|nm.map V.int)) (pm.length=S.hs.length/\nm.length=S.es.length) (∀D bs H',Same H H'->H D=none->H' D=some (.lst<|bs.map V.ref)->J1 JP.M H' bs (Jc pm S.ws nm)->Q (.ref D) H')
theorem mj (T:Txt K mg t):j7 P w K mg base 1 "wired_parts" [ST,YB,YC] (wE t.Jj):=by
 refine T.Mv.ok [ST,YB,YC,"found","mark","wires"] ?_;rintro _ H Q E ⟨o,pa,na,S,pm,nm,rfl,sk,ok,hp,hn,⟨lp,ln⟩,q⟩;refine#[rfl,λDF A outer s hr=>#[_,(jf (jt 3<|jY jb) (jf (j0 jR (oh rfl rfl T.sf<|ja (pv 1)<|ja (uM<|pv 0) jb) (j5<|jr (jl 4)<|jr (jl 5) jV) (jk (Jd (j3 Ya Yg Yf Jb (pv 3) (ja (jL (ja (pv 4) (ja (jT vg (by rfl) T.UX UU (ja (jU (own:=[FB]) (JW) (jN<|pv 5) (λ_ _ _ _ _=>jl 6) (λ_ _ _ _ _=>j4) (λ_ _ _ _ _=>(jo jx (pv 2)<|pv 6))) jb)) jb))) jb)))))<|jk<|jE<|pv 3)),?_]];obtain⟨dx,RI,wl,el,us,vs,ls,ho,_,_,hw,WA,_⟩:=sk.ex;refine ze λD H1 s1 hD eD=>?_;have lz:((pm.map V.int).zip<|vs.map V.ref).length=(pm.zip S.ws).length:=by rw[yM,yM,ya,ya,WA.1]
 refine#[o,_,dx,_,_,rfl,s1 _ _ ho,T.Uh,T.vN,rfl,pa,wl,rfl,#[_,jj.of<|s1 _ _ hp],#[_,jj.of<|s1 _ _ hw],cq (λi σ H'=>E3 λ(v4 v5) (bs)=>A4 (σ=[oR o,oR pa,oR na,oR D,v4,v5]) (Same H H') (H' D=some (.lst<|bs.map V.ref)) (J1 JP.M H' bs (((pm.zip S.ws).take i).map λx=>Kw x.1 (x.2.map λn=>nm.getD n 0)))) #[_,_,_,rfl,s1,eD,.nil] (λi σ H' _ h=>by obtain⟨_,_,_,_,e,_⟩:=h;exact#[jj.of<|e _ _ hp,jj.of<|e _ _ hw]) ?_ ?_]
 ·rintro i x y p σ H2 hz EC ⟨v4,v5,bs,rfl,s2,e2,N2⟩;obtain⟨hx,hy⟩:=pk hz;rw[ye] at hx hy;obtain⟨m,em,rfl⟩:=yr.mp hx;obtain⟨v,ev,rfl⟩:=yr.mp hy;have hi:i<S.ws.length:=by rw[<-WA.1];exact (yc.mp ev).1
  have ew:=yb hi;have hv:=WA.2 i v _ ev ew;have wk:=ok.wl _<|yz hi;have ez:(pm.zip S.ws)[i]?=some (m,S.ws[i]):=Qd.mpr #[em,ew];generalize S.ws[i]=l at hv wk ez
  refine Ev EC λH3 s3 e3=>?_
  have DC:=Same.trans s2 s3;have Oo:=DC _ _ hv;have G₂:=DC _ _ hn;refine#[_,ju.of e3,rfl,vL ?_];refine#[.inl #[rfl,_,jj.of<|s3 _ _ e2],v,rfl,#[_,jj.of Oo],Ux (λ_=>true) (λx=>match x with|.int n=>.int (nm.getD n.toNat 0)|_=>.non) (jj.of Oo) (by rw[ya];exact yk wk.1 ac) (λx hx H' Qy Qn s' hy _=>?_) λD4 HL=>?_]
  ·obtain⟨n,FW,rfl⟩:=yi.mp hx;have DA:n<nm.length:=by have:=wk.2 n FW;omega
   refine#[#[_,rfl,rfl],Jm #[_,.int<|nm.getD n 0,jj.of<|s' _ _ G₂,jX (by rw[ye,yn,yb DA];rfl),hy rfl]]
  have e4:upd H3 D4 (.lst (((l.map λn=>V.int (n:Nat)).filter λ_=>true).map λx=>match x with|.int n=>.int (nm.getD n.toNat 0)|_=>.non)) D4=some (.lst ((l.map λn=>nm.getD n 0).map V.int)):=by
   rw[jc,Qw.mpr (λ_ _=>rfl),yq,yq];rfl
  have s4:=jh (o:=.lst (((l.map λn=>V.int (n:Nat)).filter λ_=>true).map λx=>match x with|.int n=>.int (nm.getD n.toNat 0)|_=>.non)) (Same.refl H3) HL;generalize upd H3 D4 (.lst (((l.map λn=>V.int (n:Nat)).filter λ_=>true).map λx=>match x with|.int n=>.int (nm.getD n.toNat 0)|_=>.non))=H4 at s4 e4;refine#[D4,_,rfl,.inl #[jj.of e4,λt5 IC=>?_]]
  refine Ev IC λH5 s5 e5=>?_
  refine#[JE,λt6 ID=>?_]
  refine Ev ID λH6 s6 e6=>?_
  have FN:=Same.trans s3<|Same.trans s4<|Same.trans s5 s6;have Ed:=FN _ _ e2;have lb:bs.length<=8:=by
   rw[(Ji N2).1,ya,yF,yM];have:=ok.h;omega
  refine#[D,_,_,rfl,rfl,Ed,by rw[ya];exact yG lb ac,_,_,bs++[t6],rfl,jK (Same.trans s2 FN) hD,by rw[jc,yd];rfl,?_];rw[jA ez,yd];have v6:JP.M.V_ H6 _ (Kw m _):=#[t6,_,rfl,e6,.cons rfl<|.cons #[t5,_,rfl,s6 _ _ e5,Gz _] .nil];exact ((N2.mono λ_ _ e=>FN _ _ e).app<|.cons v6 .nil).mono λq ys e=>by rw[jC<|j9 e Ed];exact e
 rintro σ H2 ⟨v4,v5,bs,rfl,s2,e2,N2⟩;rw[lz,jO rfl] at N2;exact q D bs H2 s2 hD e2 N2
def kI (p:Int×Int):List Key:=[.inl p.1,.inl p.2]
theorem xu {a b:Int×Int} (h:kI a=kI b):a=b:=by
 injection h with h1 h
 injection h with h2 _
 exact Y8 (Ym h1) (Ym h2)
def VH (m:Dc):Prop:=(m.map kI).Pairwise λa b=>lx b a=false
noncomputable def zK (l:Dc):List (Int×Int):=by classical exact if h:∃m:List (Int×Int),m.Perm l/\VH m then h.choose else l
theorem z9 {m l:Dc} (p:m.Perm l) (s:VH m):m=zK l:=by
 have h:∃m:List _,m.Perm l/\VH m:=#[m,p,s];unfold zK;rw[dif_pos h];have c:=h.choose_spec;exact (Y9 λ_ _ e=>xu e).mp (vE ((p.trans c.1.symm).map kI) s c.2)
theorem iR (a:Int×Int):∀m:List (Int×Int),VH m->∃m',m'.Perm (a::m)/\VH m'
 | [],_=>#[_,.refl _,aaj ..]
 | b::m,h=>by
  obtain⟨h1,h2⟩:=QT.mp<|h;cases e:lx _ _ with
  | false =>
   refine#[_,.refl _,QT.mpr #[λc hc=>?_,h]];rcases yD.mp (hc) with rfl|hc
   ·exact e
   ·cases e2:lx c _ with
    | false=>rfl
    | true =>
     rcases xF e2 with z|z
     ·rw[h1 c hc] at z;cases z
     ·rw[e] at z;cases z
  | true =>
   obtain⟨m',p',s'⟩:=iR a m h2;refine#[_,(p'.cons b).trans<|.swap a b m,QT.mpr #[λc hc=>?_,s']];rcases yD.mp ((p'.map kI).mem_iff.mp hc) with rfl|hc
   ·cases e2:lx _ _ with
    | false=>rfl
    | true=>have:=GW e2 e;rw[lC] at this;cases this
   ·exact h1 c hc
theorem aP:∀l:List (Int×Int),∃m:List (Int×Int),m.Perm l/\VH m
 | []=>#[_,.refl _,aas]
 | a::l=>by
  obtain⟨m,p,h⟩:=aP l;obtain⟨m',p',h'⟩:=iR a m h;exact#[m',p'.trans<|p.cons a,h']
theorem cZ (l:Dc):(zK l).Perm l:=by
 obtain⟨m,p,h⟩:=aP l;rw[<-z9 p h];exact p
theorem gM {l:Dc}:zK l=zK l'↔l.Perm l':=by
 refine#[λe=>(cZ l).symm.trans<|e▸cZ l',λp=>?_];obtain⟨m,h1,h2⟩:=aP l;rw[<-z9 h1 h2,<-z9 (h1.trans p) h2]
theorem JL {H:Hp} (C:KeyAt H ps ks) {p:Addr} {k:List Key} (h:H p=some (.tup<|k.map kV)):KeyAt H (ps++[p]) (ks++[k]):=by
 refine#[by rw[yg,yg,C.1];rfl,λi q c h1 h2=>?_];have la:=C.1;by_cases hi:i<ps.length
 ·rw[yx hi] at h1;rw[yx gt] at h2;exact C.2 i q c h1 h2
 ·grind
theorem _root_.L2.KeyAt.wr {H:Hp} (C:KeyAt H ps ks) {o:HO} (e:H D=some (.lst zs)):KeyAt (upd H D o) ps ks:=#[C.1,λi b k h1 h2=>jy (j9 (C.2 i b k h1 h2) e)<|C.2 i b k h1 h2]
def Km (m:Int) (l:Dc):uv.α:=xw m l
noncomputable def JA (nm:List Int) (es:Pi) (pm:List Int):List uv.α:=(nm.zip es).map λx=>Km x.1 (zK (x.2.map λp=>(pm.getD p.1 0,(p.2:Int))))
theorem zH {H:Hp}:∀{us:Di} {m:Dc},KeyAt H us (m.map kI)->Paired (Mb.V_ H) (us.map V.ref) (VA m)
 | [],[],_=>.nil
 | [],_::_,h=>by cases h.1
 | _::_,[],h=>by cases h.1
 | u::us,p::m,h=>.cons #[u,_,rfl,h.2 0 u _ rfl rfl,.cons rfl<|.cons rfl .nil] (zH #[Yx h.1,λi b k h1 h2=>h.2 (i+1) b k h1 h2])
def Bn (C:Addr):Sp:=λvs H Q _=>E6 λ(o pa na:Addr) (S:uB) (pm nm:List Int)=>A7 (vs=[.ref o,.ref pa,.ref na]) (UA H C o S) S.ok (H pa=some (.lst<|pm.map V.int)) (H na=some (.lst<|nm.map V.int)) (pm.length=S.hs.length/\nm.length=S.es.length) (∀D bs H',Same H H'->H D=none->H' D=some (.lst<|bs.map V.ref)->J1 uv.M H' bs (JA nm S.es pm)->Q (.ref D) H')
theorem me (T:Txt K mg t):j7 P w K mg base 1 "joined_nets" [ST,YB,YC] (Bn t.Jj):=by
 refine T.Mn.ok [ST,YB,YC,"found","mark","ends"] ?_;rintro _ H Q E ⟨o,pa,na,S,pm,nm,rfl,sk,ok,hp,hn,⟨lp,ln⟩,q⟩;refine#[rfl,λDF A outer s hr=>#[_,(jf (jt 3<|jY jb) (jf (j0 jR (oh rfl rfl T.sf<|ja (pv 2)<|ja (uM<|pv 0) jb) (j5<|jr (jl 4)<|jr (jl 5) jV) (jk (Jd (j3 Ya Yg Yf Jb (pv 3) (ja (jL (ja (pv 4) (ja (jT vg (by rfl) T.UX UU (ja (jw (UE hr.units) (by rfl) T.JS JR (ja (jU (own:=[EQ,SZ]) (JW) (jN<|pv 5) (λ_ _ _ _ _=>j5 (n:=2)<|jr (jl 6)<|jr (jl 7) jV) (λ_ _ _ _ _=>j4) (λ_ _ _ _ _=>(jL<|ja (jo jx (pv 1)<|pv 6)<|ja (pv 7) jb))) jb)) jb)) jb))) jb)))))<|jk<|jE<|pv 3)),?_]];obtain⟨dx,RI,wl,el,us,vs,ls,ho,_,_,_,_,he,EA⟩:=sk.ex;refine ze λD H1 s1 hD eD=>?_;have lz:((nm.map V.int).zip<|ls.map V.ref).length=(nm.zip S.es).length:=by rw[yM,yM,ya,ya,EA.1]
 refine#[o,_,dx,_,_,rfl,s1 _ _ ho,T.Uh,T.UY,rfl,na,el,rfl,#[_,jj.of<|s1 _ _ hn],#[_,jj.of<|s1 _ _ he],cq (λi σ H'=>E3 λ(v4 v5) (bs)=>A4 (σ=[oR o,oR pa,oR na,oR D,v4,v5]) (Same H H') (H' D=some (.lst<|bs.map V.ref)) (J1 uv.M H' bs (((nm.zip S.es).take i).map λx=>Km x.1 (zK (x.2.map λp=>(pm.getD p.1 0,(p.2))))))) #[_,_,_,rfl,s1,eD,.nil] (λi σ H' _ h=>by obtain⟨_,_,_,_,e,_⟩:=h;exact#[jj.of<|e _ _ hn,jj.of<|e _ _ he]) ?_ ?_]
 ·rintro i x y p σ H2 hz EC ⟨v4,v5,bs,rfl,s2,e2,N2⟩;obtain⟨hx,hy⟩:=pk hz;rw[ye] at hx hy;obtain⟨m,em,rfl⟩:=yr.mp hx;obtain⟨v,ev,rfl⟩:=yr.mp hy;have hi:i<S.es.length:=by rw[<-EA.1];exact (yc.mp ev).1
  have ew:=yb hi;obtain⟨ts,hv,KA⟩:=EA.2 i v _ ev ew;have wk:=ok.el _<|yz hi;have ez:(nm.zip S.es)[i]?=some (m,S.es[i]):=Qd.mpr #[em,ew];generalize S.es[i]=l at hv wk ez KA;have lt:=Ut KA
  refine Ev EC λH3 s3 e3=>?_
  have DC:=Same.trans s2 s3;have Oo:=DC _ _ hv;have K₁:=DC _ _ hp;refine#[_,ju.of e3,rfl,vL ?_];refine#[.inl #[rfl,_,jj.of<|s3 _ _ e2],v,rfl,#[_,jj.of Oo],JV (λD4 j ys H'=>A4 (Same H3 H') _ (H' D4=some (.lst ys)) (∃rs:List Addr,ys=rs.map V.ref/\KeyAt H' rs (((l.take j).map λp=>(pm.getD p.1 0,(p.2))).map kI))) (by rw[ya,lt];exact yk (yX wk.1) ac) (λD4 HL=>#[jh (Same.refl H3) HL,HL,jc,[],rfl,rfl,λi b k h=>nomatch h]) (λD4 j ys H' #[s1,h1,h2,rs,h3,h4]=>#[h2,by rw[h3,ya,h4.1,ya,ya,yF];exact Wa _ _,jj.of<|s1 _ _ Oo]) ?_ ?_]
  ·rintro D4 j x ys H4 Qy Qn hx ⟨s4,HL,IE,rs,rfl,KR⟩ hy hn;obtain⟨tb,HM,rfl⟩:=gm hx;have hj:j<l.length:=by rw[<-lt];exact (yc.mp HM).1
   have el:=yb hj;have tt:=s4 _ _ (DC _ _ (KA.2 j tb _ HM (by rw[ye,el];rfl)));have DA:l[j].1<pm.length:=by have:=wk.2 _<|yz hj;omega
   refine#[_,ju.of tt,rfl,#[_,rfl,rfl],Jm #[_,.int<|pm.getD _ 0,jj.of<|s4 _ _ K₁,jX (by rw[ye,yn,yb DA];rfl),JE,λt5 IC=>?_]];have s5:=jh (o:=.tup [.int<|pm.getD l[j].1 0,.int l[j].2]) (Same.refl H4) IC;have e5:upd H4 t5 (.tup [.int<|pm.getD l[j].1 0,.int l[j].2]) t5=some (.tup<|(kI (pm.getD l[j].1 0,(l[j].2:Int))).map kV):=jc;refine hy _ _ (s5 _ _ IE) #[jK (Same.trans s4 s5) HL,HL,jc,rs++[t5],by rw[yd];rfl,?_];rw[jA el,yd,yd];exact (JL (KeyAt.mono' KR s5) e5).wr (s5 _ _ IE)
  ·rintro D4 ys H4 HL ⟨s4,_,IE,rs,rfl,KR⟩;rw[ya,lt,jO rfl] at KR;refine#[D4,rs,_,sd<|kI (0,0),rfl,IE,KR,λk hk=>by obtain⟨p,_,rfl⟩:=yi.mp hk;rfl,(λz=>nomatch z),by rw[ya,ya];exact wk.1,λl5 DP DM Fo O5 F7 RJ=>?_];obtain⟨ms,Of,rfl⟩:=STb.perm_map F7 _ rfl;obtain rfl:=z9 Of RJ
   refine Ev Fo λH5 s5 e5=>?_
   refine#[l5,_,rfl,.inl #[jj.of e5,λt6 ID=>?_]]
   refine Ev ID λH6 s6 e6=>?_
   refine#[JE,λt7 RK=>?_]
   refine Ev RK λH7 s7 e7=>?_
   have F8:=Same.trans s5<|Same.trans s6 s7;have IF:=Same.trans s3<|Same.trans s4 F8;have T5:=IF _ _ e2;have lb:bs.length<=24:=by
    rw[(Ji N2).1,ya,yF,yM];have:=ok.e;omega
   refine#[D,_,_,rfl,rfl,T5,by rw[ya];exact yG lb ac,_,_,bs++[t7],rfl,jK (Same.trans s2 IF) hD,by rw[jc,yd];rfl,?_];rw[jA ez,yd];have v7:uv.M.V_ H7 _ (Km m _):=#[t7,_,rfl,e7,.cons rfl<|.cons #[t6,_,rfl,s7 _ _ e6,zH<|KeyAt.mono' O5 F8] .nil];exact ((N2.mono λ_ _ e=>IF _ _ e).app<|.cons v7 .nil).mono λq ys e=>by rw[jC<|j9 e T5];exact e
 rintro σ H2 ⟨v4,v5,bs,rfl,s2,e2,N2⟩;rw[lz,jO rfl] at N2;exact q D bs H2 s2 hD e2 N2
structure jZ where
 pp:List Int
 pq:List Int
 np:List Int
 nq:List Int
def Z3 (H:Hp) (R:Addr) (ms ns:List Int):Prop:=∃a b:Addr,A3 (H R=some (.lst [.ref a,.ref b])) (H a=some (.lst<|ms.map V.int)) (H b=some (.lst<|ns.map V.int))
theorem Z3.same {H H':Hp}{ms ns:List Int} (x:Z3 H R ms ns) (s:Same H H'):Z3 H' R ms ns:=let ⟨a,b,e1,e2,e3⟩:=x;#[a,b,s _ _ e1,s _ _ e2,s _ _ e3]
def Vu (H:Hp) (d:Addr) (M:jZ):Prop:=∃R1 R2:Addr,A3 (H d=some (.dK [(.inr EQ,.ref R1),(.inr FB,.ref R2)])) (Z3 H R1 M.pp M.pq) (Z3 H R2 M.np M.nq)
theorem Vu.same {H H':Hp}{M:jZ} (x:Vu H d M) (s:Same H H'):Vu H' d M:=let ⟨a,b,e1,e2,e3⟩:=x;#[a,b,s _ _ e1,e2.same s,e3.same s]
def Rk {α:Type} (lt:α->α->Bool) (ks js:List α) (ms ns:List Int):Prop:=∃us:List α,A3 (U2 lt ks js us) (ms=ks.map λk=>(Ub us k:Int)) (ns=js.map λk=>(Ub us k:Int))
theorem Rk.old {α:Type}{lt:α->α->Bool}{ks js:List α}{ms ns:List Int} (h:Rk lt ks js ms ns):∃rk:α->Nat,A4 (∀a∈ks++js,∀b∈ks++js,rk a=rk b->a=b) True (ms=ks.map λk=>(rk k:Int)) (ns=js.map λk=>(rk k:Int)):=by
 obtain⟨us,r,e1,e2⟩:=h;exact#[_,λa ha b hb e=>qO ((r.mem a).mpr ha) ((r.mem b).mpr hb) e,trivial,e1,e2]
def U4 (S:uB):List Int:=S.es.map λl=>(l.length:Int)
abbrev Gw:Int->Int->Bool:=λa b=>decide (a<b)
abbrev Kf (T:TK):T.α->T.α->Bool:=ul (Jo T.O T.hd)
def vf (S1 S2:uB) (held:Dc) (M:jZ):Prop:=Rk (Kf JF) (Jf S1.hs<|held.map (·.1)) (Jf S2.hs<|held.map (·.2)) M.pp M.pq/\Rk Gw (U4 S1) (U4 S2) M.np M.nq
def uO (S1 S2:uB) (M M':jZ):Prop:=Rk (Kf JP) (Jc M.pp S1.ws M.np) (Jc M.pq S2.ws M.nq) M'.pp M'.pq/\Rk (Kf uv) (JA M.np S1.es M.pp) (JA M.nq S2.es M.pq) M'.np M'.nq
def Bw:Sp:=λvs H Q _=>E3 λ(R:Addr) (ms ns:List Int)=>A5 (vs=[.ref R]) (Z3 H R ms ns) (∀m∈ms,m∈ns) (ms.length<=100/\ns.length<=100) (∀D H',Same H H'->H D=none->H' D=some (.lst ((ms.map λm=>(ns.idxOf m:Int)).map V.int))->Q (.ref D) H')
theorem bS (T:Txt K mg t):j7 P w K mg base 1 "renaming" [IO] Bw:=by
 refine T.dk.ok [IO] ?_;rintro _ H Q E ⟨R,ms,ns,rfl,⟨a,b,e1,e2,e3⟩,hm,⟨l1,l2⟩,q⟩;refine#[rfl,λDF A outer s hr=>#[_,(jk (jE (jU (own:=["mark"]) (JW) (jN<|jo jx (pv 0) jg) (λ_ _ _ _ _=>jl 1) (λ_ _ _ _ _=>j4) (λ_ _ _ _ _=>(j3 Ya Yk Yi uS (jo jx (pv 0) jg)<|ja (pv 1) jb))))),?_]];refine#[_,_,jj.of e1,rfl,a,rfl,#[_,jj.of e2],Ux (λ_=>true) (λx=>match x with|.int m=>.int (ns.idxOf m)|_=>.non) (jj.of e2) (by rw[ya];exact yk l1 ac) (λx hx H' Qy Qn s' hy _=>?_) λD hD=>?_]
 ·obtain⟨m,Fl,rfl⟩:=yi.mp hx;exact#[#[_,rfl,rfl],Jm #[_,_,jj.of<|s' _ _ e1,rfl,.inl #[rfl,_,jj.of<|s' _ _ e3],b,ns,m,rfl,rfl,s' _ _ e3,by lia,hm m Fl,hy rfl]]
 ·exact q D _ (jh (Same.refl H) hD) hD (by rw[jc,Qw.mpr (λ_ _=>rfl),yq,yq];rfl)
def ZK (T:TK) (pl nl:Addr) (H:Hp) (pa:Di) (ks:List (List T.α)):Prop:=Paired (λa x=>a≠pl/\a≠nl/\∃bs:List Addr,H a=some (.lst<|bs.map V.ref)/\J1 T.M H bs x) pa ks
def b8 (pl nl:Addr) (H:Hp) (pa:Di) (ks:List (List Int)):Prop:=Paired (λa x=>a≠pl/\a≠nl/\H a=some (.lst<|x.map V.int)) pa ks
theorem ZK.mono {H H':Hp}{ks:List (List T.α)} (x:ZK T pl nl H pa ks) (k:∀b u,b≠pl->b≠nl->H b=some u->H' b=some u) (hp:∀ys,H pl≠some (.tup ys)) (hn:∀ys,H nl≠some (.tup ys)):ZK T pl nl H' pa ks :=
 uD (λa x h=>let ⟨h1,h2,bs,e,n⟩:=h;#[h1,h2,bs,k _ _ h1 h2 e,n.mono λp xs e=>k _ _ (λz=>hp _<|z▸e) (λz=>hn _<|z▸e) e]) x
theorem b8.mono {H H':Hp}{ks:List (List Int)} (x:b8 pl nl H pa ks) (k:∀b u,b≠pl->b≠nl->H b=some u->H' b=some u):b8 pl nl H' pa ks :=
 uD (λa x h=>let ⟨h1,h2,e⟩:=h;#[h1,h2,k _ _ h1 h2 e]) x
theorem VF {α β:Type}{F:α->β->Prop}{l:List α}{x y:β} (h:Paired F l [x,y]):∃a b,l=[a,b]/\F a x/\F b y:=by
 cases h with
 | cons h1 t=>cases t with
  | cons h2 t=>cases t;exact#[_,_,rfl,h1,h2]
theorem Vh {hs:List (Str×Nat)}{held:List Int}{k:JF.α} (h:k∈Jf hs held):JF.good k:=by
 obtain⟨x,_,rfl⟩:=yi.mp h;exact#[_,_,_,rfl]
theorem Js {α β:Type}{F:α->β->Prop}{l:List α}{m:List β} (h:Paired F l m):l.length=m.length:=Paired.length h
def ww (C:Addr):Sp:=λvs H Q _=>E8 λ(bo o1 o2 hl:Addr) (S1 S2:uB) (us:Di) (held:Dc)=>A8 (vs=[.ref bo,.ref hl]) (H bo=some (.tup [.ref o1,.ref o2])) (UA H C o1 S1) (UA H C o2 S2) (S1.ok/\S2.ok) (H hl=some (.lst<|us.map V.ref)) (KeyAt H us (held.map kI)/\held.length<=8) (∀d M H',Same H H'->H d=none->Vu H' d M->vf S1 S2 held M->Q (.ref d) H')
theorem md (T:Txt K mg t):j7 P w K mg base 3 "first_round" [SC,SL] (ww t.Jj):=by
 refine T.Mm.ok [SC,SL,IN,PP,"side",ST] ?_;rintro _ H Q E ⟨bo,o1,o2,hl,S1,S2,us,held,rfl,hb,k1,k2,⟨DE,DI⟩,hh,⟨KA,lh⟩,q⟩;refine#[rfl,λDF A outer s hr=>#[_,(jf (jt 2<|jY jb) (jf (jt 3<|jY jb) (jf (j0 jR (av rfl rfl T.Ja<|ja (pv 0) jb) (j5<|jr (jl 4)<|jr (jl 5) jV) (jf (Jd (j3 Ya Yg Yf Jb (pv 2) (ja (jq (MK T) (ja (pv 5) (ja (jU (own:=["pair"]) (JW (cl:=[("side",_)])) (jN<|pv 1) (λ_ _ _ _ _=>jl 6) (λ_ _ _ _ _=>j4) (λ_ _ _ _ _=>(jo jz (pv 6)<|pv 4))) jb))) jb)))<|jk<|Jd<|j3 Ya Yg Yf Jb (pv 3)<|ja (jq (MQ T)<|ja (pv 5) jb) jb)) (jk (jE (cS (ZB Jt (jq (Md T)<|ja (pv 2) jb)<|ZB Jt (jq (Md T)<|ja (pv 3) jb) cV) rfl rfl ac ac)))))),?_]];refine ze λpl H1 s1 DJ e1=>?_;refine u7 (λ(nl)=>[oR bo,oR hl,oR pl,oR nl,none,none]) (λnl H'=>A4 _ (H nl=none/\pl≠nl) (H' nl=some _)<|H' pl=some _) (λB hB=>#[vR,λD hD=>hB D _ #[jh s1 hD,#[Same.nn s1 hD,jJ e1 hD],jc,jh (Same.refl H1) hD _ _ e1]]) ?_;rintro nl H2 ⟨s2,⟨DZ,Oq⟩,e2,RL⟩;have lu:=Ut KA;refine Mh (λ(v4 v5) (pa na)=>[oR bo,oR hl,oR pl,oR nl,v4,v5]) (λ_ _ pa na H'=>A5 (Same H H') (H' pl=some (.lst<|pa.map V.ref)) (H' nl=some (.lst<|na.map V.ref)) (ZK JF pl nl H' pa [Jf S1.hs<|held.map (·.1),Jf S2.hs<|held.map (·.2)])<|b8 pl nl H' na [U4 S1,U4 S2]) (λB hB=>?_) ?_
 ·refine#[bo,rfl,#[_,ju.of<|s2 _ _ hb],mQ (λi σ H'=>E4 λ(v4 v5) (pa na)=>A6 (σ=[oR bo,oR hl,oR pl,oR nl,v4,v5]) (Same H H') (H' pl=some (.lst<|pa.map V.ref)) (H' nl=some (.lst<|na.map V.ref)) (ZK JF pl nl H' pa<|[Jf S1.hs<|held.map (·.1),Jf S2.hs<|held.map (·.2)].take i)<|b8 pl nl H' na<|[U4 S1,U4 S2].take i) #[_,_,_,_,rfl,s2,RL,e2,.nil,.nil] (λi σ H' _ h=>by obtain⟨_,_,_,_,_,e,_⟩:=h;exact ju.of<|e _ _ hb) ?_ ?_]
  ·rintro i x p σ H3 hx hp ⟨v4,v5,pa,na,rfl,s3,ep,en,LG,LI⟩;have:∃(o:Addr) (S:uB) (pr:Int×Int->Int),A7 (x=.ref o) (UA H t.Jj o S) S.ok ([Jf S1.hs<|held.map (·.1),Jf S2.hs<|held.map (·.2)][i]?=some (Jf S.hs<|held.map pr)) ([U4 S1,U4 S2][i]?=some (U4 S)) (∀p:Int×Int,vG [V.int p.1,V.int p.2] (i)=some (.int<|pr p)) (i<2):=by
    match i,hx with
    | 0,hx=>cases hx;exact#[o1,S1,_,rfl,k1,DE,rfl,rfl,λp=>jX rfl,by decide]
    | 1,hx=>cases hx;exact#[o2,S2,_,rfl,k2,DI,rfl,rfl,λp=>jX rfl,by decide]
   obtain⟨o,S,pr,rfl,sk,ok,g1,g2,at_,i2⟩:=this
   refine Ev hp λH4 s4 e4=>?_
   have DO:=Same.trans s3 s4;have RM:pa.length<=2:=by rw[Js LG,yF];exact QO _ _
   have RN:na.length<=2:=by rw[Js LI,yF];exact QO _ _
   refine#[_,ju.of e4,rfl,vL ?_];refine u7 (λ(l)=>[oR bo,oR hl,oR pl,oR nl,some<|.int i,oR o]) (λl H'=>A5 (Same H H') (H' pl=some (.lst<|(pa++[l]).map V.ref)) (H' nl=some (.lst<|na.map V.ref)) (ZK JF pl nl H' (pa++[l])<|[Jf S1.hs<|held.map (·.1),Jf S2.hs<|held.map (·.2)].take<|i+1)<|b8 pl nl H' na<|[U4 S1,U4 S2].take i) (λB hB=>?_) ?_
   ·refine#[.inl #[rfl,_,jj.of<|s4 _ _ ep],hl,rfl,#[_,jj.of<|DO _ _ hh],JV (λD5 j ys H'=>A4 (Same H4 H') _ (H' D5=some (.lst ys))<|ys=((held.take j).map pr).map V.int) (by rw[ya,lu];exact yk lh ac) (λD5 Lo=>#[jh (Same.refl H4) Lo,Lo,jc,rfl]) (λD5 j ys H' #[z1,z2,z3,z4]=>#[z3,by rw[z4,ya,ya,yF];exact Wa _ _,jj.of<|z1 _ _<|DO _ _ hh]) ?_ ?_]
    ·rintro D5 j x ys H5 Qy Qn K₂ ⟨s5,Lo,Iz,rfl⟩ hy _;obtain⟨tb,HM,rfl⟩:=gm K₂;have hj:j<held.length:=by rw[<-lu];exact (yc.mp HM).1
     have ej:=yb hj;have tt:=s5 _ _ (DO _ _ (KA.2 j tb _ HM (by rw[ye,ej];rfl)));refine#[#[_,rfl,rfl],Jm #[_,_,ju.of tt,at_ _,hy _ _ Iz #[jK s5 Lo,Lo,jc,by rw[jA ej,yd,yd];rfl]]]
    ·rintro D5 ys H5 Lo ⟨s5,_,Iz,rfl⟩;rw[ya,lu,jO rfl] at Iz;have Ef:=Same.trans DO s5;have ES:=Same.trans s4 s5;refine#[o,D5,S,_,rfl,sk.same Ef,ok,Iz,by rw[ya];lia,λD6 bs H6 s6 FO Ed NA=>?_];have D0:=Same.trans ES s6;have Hu:=D0 _ _ ep;have HN:=D0 _ _ en;refine#[pl,_,_,rfl,rfl,Hu,by rw[ya];exact yG RM ac,hB D6 _ #[jK (Same.trans s3 D0) DJ,by rw[jc,yd];rfl,jy (yV Oq) HN,?_,LI.mono λb u n1 n2 e=>jy n1<|D0 _ _ e]];rw[jA g1];have nD:D6≠pl/\D6≠nl:=#[yV<|jJ (ES _ _ ep) FO,yV<|jJ (ES _ _ en) FO];refine Uk (LG.mono (λb u n1 n2 e=>jy n1<|D0 _ _ e) (λys z=>by rw[ep] at z;cases z) (λys z=>by rw[en] at z;cases z)) (.cons #[nD.1,nD.2,bs,jy nD.1 Ed,NA.mono λq ys e=>jy (j9 e Hu) e] .nil)
   rintro l H5 ⟨s5,FP,F9,RO,RP⟩;refine#[.inl #[rfl,_,jj.of F9],o,S,rfl,sk.same s5,ok,λD6 H6 s6 FO Ed=>?_];have Hu:=s6 _ _ FP;have HN:=s6 _ _ F9;have nD:D6≠pl/\D6≠nl:=#[yV<|jJ FP FO,yV<|jJ F9 FO];refine#[nl,_,_,rfl,rfl,HN,by rw[ya];exact yG RN ac,_,_,_,na++[D6],rfl,jK (Same.trans s5 s6) DZ,jy Oq Hu,by rw[jc,yd];rfl,RO.mono (λb u n1 n2 e=>jy n2<|s6 _ _ e) (λys z=>by rw[FP] at z;cases z) (λys z=>by rw[F9] at z;cases z),?_];rw[jA g2];exact Uk (RP.mono λb u n1 n2 e=>jy n2<|s6 _ _ e) (.cons #[nD.1,nD.2,jy nD.2 Ed] .nil)
  ·rintro σ H3 ⟨v4,v5,pa,na,rfl,s3,ep,en,LG,LI⟩;exact hB _ _ pa na _ #[s3,ep,en,LG,LI]
 rintro v4 v5 pa na H3 ⟨s3,ep,en,LG,LI⟩;obtain⟨a0,a1,rfl,⟨_,_,b0,f0,N0⟩,_,_,b1,f1,N1⟩:=VF LG;obtain⟨c0,c1,rfl,⟨_,_,g0⟩,_,_,g1⟩:=VF LI;have l1:=JJ S1.hs<|held.map (·.1);have l2:=JJ S2.hs<|held.map (·.2);have:=DE.h;have:=DI.h;have:=DE.e;have:=DI.e;refine λd hd=>?_
 refine Ev hd λH4 s4 e4=>?_
 refine .g JF pl a0 a1 b0 b1 _ _ rfl (s4 _ _ ep) (s4 _ _ f0) (s4 _ _ f1) (N0.mono λ_ _ e=>s4 _ _ e) (N1.mono λ_ _ e=>s4 _ _ e) (λk hk=>?_) (by omega) λrk R r0 r1 H5 inj s5 hR IA Ht eR e0 e1 ne=>?_
 ·rcases yB.mp hk with h|h
  ·exact Vh h
  ·exact Vh h
 have ES:=Same.trans s4 s5;refine .k nl c0 c1 _ _ rfl (ES _ _ en) (ES _ _ g0) (ES _ _ g1) (by unfold U4;rw[ya,ya];omega) λRQ R2 r2 r3 H6 IG s6 M₁ Ho M₂ RS e2 e3 ne2=>?_;have e6:=s6 _ _<|s5 _ _ e4;have D0:=Same.trans ES s6;have V0:=Same.nn s3 hd;have up:∀{b:Addr} {u:HO},H6 b=some u->(∀k,u≠.dK k)->∀{o:HO},upd H6 d o b=some u:=λ{b u} e n {o}=>by rw[jC<|j9 e e6<|n _];exact e
 refine#[e6,[(.inr EQ,.ref R),(.inr FB,.ref R2)],rfl,(by show 2<=15;decide),q d #[_,_,_,_] _ (jK (Same.trans s3 D0) V0) V0 #[R,R2,jc,#[r0,r1,up (s6 _ _ eR) (λ_ z=>nomatch z),up (s6 _ _ e0) (λ_ z=>nomatch z),up (s6 _ _ e1) (λ_ z=>nomatch z)],r2,r3,up RS (λ_ z=>nomatch z),up e2 (λ_ z=>nomatch z),up e3 (λ_ z=>nomatch z)] #[#[rk,inj,rfl,rfl],RQ,IG,rfl,rfl]]
theorem Vk {ws:List (List Nat)}{k:JP.α} (h:k∈Jc pm ws nm):JP.good k:=by
 obtain⟨x,_,rfl⟩:=yi.mp h;exact#[_,_,rfl]
theorem VD {k:uv.α} (h:k∈JA nm es pm):uv.good k:=by
 obtain⟨x,_,rfl⟩:=yi.mp h;exact#[_,_,rfl]
structure vp (S1 S2:uB) (M:jZ):Prop where
 pp:M.pp.length=S1.hs.length
 pq:M.pq.length=S2.hs.length
 np:M.np.length=S1.es.length
 nq:M.nq.length=S2.es.length
def Au (C:Addr):Sp:=λvs H Q _=>E7 λ(bo o1 o2 d0:Addr) (S1 S2:uB) (M0:jZ)=>A8 (vs=[.ref bo,.ref d0]) (H bo=some (.tup [.ref o1,.ref o2])) (UA H C o1 S1) (UA H C o2 S2) (S1.ok/\S2.ok) (Vu H d0 M0) (vp S1 S2 M0) (∀d M H',Same H H'->H d=none->Vu H' d M->uO S1 S2 M0 M->Q (.ref d) H')
theorem MO (T:Txt K mg t):j7 P w K mg base 3 "next_round" [SC,IO] (Au t.Jj):=by
 refine T.nB.ok [SC,IO,IN,PP,"side",ST,YB,YC] ?_;rintro _ H Q E ⟨bo,o1,o2,d0,S1,S2,M0,rfl,hb,k1,k2,⟨DE,DI⟩,mk,ft,q⟩;refine#[rfl,λDF A outer s hr=>#[_,(jf (jt 2<|jY jb) (jf (jt 3<|jY jb) (jf (j0 jR (av rfl rfl T.Ja<|ja (pv 0) jb) (j5<|jr (jl 4)<|jr (jl 5) jV)<|jf (jt 6<|jo jx (Ud (pv 1) Jt)<|pv 4)<|jf (jt 7<|jo jx (Ud (pv 1) Jt)<|pv 4)<|jf (Jd<|j3 Ya Yg Yf Jb (pv 2)<|ja (jq (mj T)<|ja (pv 5)<|ja (pv 6)<|ja (pv 7) jb) jb)<|jk<|Jd<|j3 Ya Yg Yf Jb (pv 3)<|ja (jq (me T)<|ja (pv 5)<|ja (pv 6)<|ja (pv 7) jb) jb) (jk (jE (cS (ZB Jt (jq (Md T)<|ja (pv 2) jb)<|ZB Jt (jq (Md T)<|ja (pv 3) jb) cV) rfl rfl ac ac)))))),?_]];obtain⟨R1,R2,em,⟨x0,x1,fx,n₂,N'⟩,y0,y1,fy,N₁,N₂⟩:=mk;refine ze λpl H1 s1 DJ e1=>?_;refine u7 (λ(nl)=>[oR bo,oR d0,oR pl,oR nl,none,none,none,none]) (λnl H'=>A4 _ (H nl=none/\pl≠nl) (H' nl=some _)<|H' pl=some _) (λB hB=>#[vR,λD hD=>hB D _ #[jh s1 hD,#[Same.nn s1 hD,jJ e1 hD],jc,jh (Same.refl H1) hD _ _ e1]]) ?_;rintro nl H2 ⟨s2,⟨DZ,Oq⟩,e2,RL⟩;refine Mh (λ(v4 v5 v6 v7)=>[oR bo,oR d0,oR pl,oR nl,v4,v5,v6,v7]) (λ_ _ _ _ H'=>E2 λ(pa na)=>A5 (Same H H') (H' pl=some (.lst<|pa.map V.ref)) (H' nl=some (.lst<|na.map V.ref)) (ZK JP pl nl H' pa [Jc M0.pp S1.ws M0.np,Jc M0.pq S2.ws M0.nq])<|ZK uv pl nl H' na [JA M0.np S1.es M0.pp,JA M0.nq S2.es M0.pq]) (λB hB=>?_) ?_
 ·refine#[bo,rfl,#[_,ju.of<|s2 _ _ hb],mQ (λi σ H'=>E6 λ(v4 v5 v6 v7) (pa na)=>A6 (σ=[oR bo,oR d0,oR pl,oR nl,v4,v5,v6,v7]) (Same H H') (H' pl=some (.lst<|pa.map V.ref)) (H' nl=some (.lst<|na.map V.ref)) (ZK JP pl nl H' pa<|[Jc M0.pp S1.ws M0.np,Jc M0.pq S2.ws M0.nq].take i)<|ZK uv pl nl H' na<|[JA M0.np S1.es M0.pp,JA M0.nq S2.es M0.pq].take i) #[_,_,_,_,_,_,rfl,s2,RL,e2,.nil,.nil] (λi σ H' _ h=>by obtain⟨_,_,_,_,_,_,_,e,_⟩:=h;exact ju.of<|e _ _ hb) ?_ ?_]
  ·rintro i x p σ H3 hx hp ⟨v4,v5,v6,v7,pa,na,rfl,s3,ep,en,LG,LI⟩;have:∃(o ax ay:Addr) (S:uB) (pm nm:List Int),BJ (x=.ref o) (UA H t.Jj o S) S.ok ([Jc M0.pp S1.ws M0.np,Jc M0.pq S2.ws M0.nq][i]?=some (Jc pm S.ws nm)) ([JA M0.np S1.es M0.pp,JA M0.nq S2.es M0.pq][i]?=some (JA nm S.es pm)) (H ax=some (.lst<|pm.map V.int)) (H ay=some (.lst<|nm.map V.int)) (vG [V.ref x0,V.ref x1] (i)=some (.ref ax)) (vG [V.ref y0,V.ref y1] (i)=some (.ref ay)) (pm.length=S.hs.length/\nm.length=S.es.length):=by
    match i,hx with
    | 0,hx=>cases hx;exact#[o1,x0,y0,S1,M0.pp,M0.np,rfl,k1,DE,rfl,rfl,n₂,N₁,jX rfl,jX rfl,ft.pp,ft.np]
    | 1,hx=>cases hx;exact#[o2,x1,y1,S2,M0.pq,M0.nq,rfl,k2,DI,rfl,rfl,N',N₂,jX rfl,jX rfl,ft.pq,ft.nq]
   obtain⟨o,ax,ay,S,pm,nm,rfl,sk,ok,g1,g2,T6,T7,a₁,a₂,lm⟩:=this
   refine Ev hp λH4 s4 e4=>?_
   have DO:=Same.trans s3 s4;have RM:pa.length<=2:=by rw[Js LG,yF];exact QO _ _
   have RN:na.length<=2:=by rw[Js LI,yF];exact QO _ _
   have gp:JX H4 d0 (.str EQ) (some<|.ref R1):=by exact JX.k (k:=.inr EQ) (DO _ _ em)
   have gn:JX H4 d0 (.str FB) (some<|.ref R2):=by exact JX.k (k:=.inr FB) (DO _ _ em)
   refine#[_,ju.of e4,rfl,vL ?_];refine#[d0,_,rfl,gp,_,_,jj.of<|DO _ _ fx,a₁,JO ?_];refine#[d0,_,rfl,gn,_,_,jj.of<|DO _ _ fy,a₂,JO ?_];refine u7 (λ(l)=>[oR bo,oR d0,oR pl,oR nl,some<|.int i,oR o,oR ax,oR ay]) (λl H'=>A5 (Same H H') (H' pl=some (.lst<|(pa++[l]).map V.ref)) (H' nl=some (.lst<|na.map V.ref)) (ZK JP pl nl H' (pa++[l])<|[Jc M0.pp S1.ws M0.np,Jc M0.pq S2.ws M0.nq].take<|i+1)<|ZK uv pl nl H' na<|[JA M0.np S1.es M0.pp,JA M0.nq S2.es M0.pq].take i) (λB hB=>?_) ?_
   ·refine#[.inl #[rfl,_,jj.of<|s4 _ _ ep],o,ax,ay,S,pm,nm,rfl,sk.same DO,ok,DO _ _ T6,DO _ _ T7,lm,λD6 bs H6 s6 FO Ed NA=>?_];have D0:=Same.trans s4 s6;have Hu:=D0 _ _ ep;have HN:=D0 _ _ en;refine#[pl,_,_,rfl,rfl,Hu,by rw[ya];exact yG RM ac,hB D6 _ #[jK (Same.trans s3 D0) DJ,by rw[jc,yd];rfl,jy (yV Oq) HN,?_,LI.mono (λb u n1 n2 e=>jy n1<|D0 _ _ e) (λys z=>by rw[ep] at z;cases z) (λys z=>by rw[en] at z;cases z)]];rw[jA g1];have nD:D6≠pl/\D6≠nl:=#[yV<|jJ (s4 _ _ ep) FO,yV<|jJ (s4 _ _ en) FO];exact Uk (LG.mono (λb u n1 n2 e=>jy n1<|D0 _ _ e) (λys z=>by rw[ep] at z;cases z) (λys z=>by rw[en] at z;cases z)) (.cons #[nD.1,nD.2,bs,jy nD.1 Ed,NA.mono λq ys e=>jy (j9 e Hu) e] .nil)
   rintro l H5 ⟨s5,FP,F9,RO,RP⟩;refine#[.inl #[rfl,_,jj.of F9],o,ax,ay,S,pm,nm,rfl,sk.same s5,ok,s5 _ _ T6,s5 _ _ T7,lm,λD6 bs H6 s6 FO Ed NA=>?_];have Hu:=s6 _ _ FP;have HN:=s6 _ _ F9;have nD:D6≠pl/\D6≠nl:=#[yV<|jJ FP FO,yV<|jJ F9 FO];refine#[nl,_,_,rfl,rfl,HN,by rw[ya];exact yG RN ac,_,_,_,_,_,na++[D6],rfl,jK (Same.trans s5 s6) DZ,jy Oq Hu,by rw[jc,yd];rfl,RO.mono (λb u n1 n2 e=>jy n2<|s6 _ _ e) (λys z=>by rw[FP] at z;cases z) (λys z=>by rw[F9] at z;cases z),?_];rw[jA g2];exact Uk (RP.mono (λb u n1 n2 e=>jy n2<|s6 _ _ e) (λys z=>by rw[FP] at z;cases z) (λys z=>by rw[F9] at z;cases z)) (.cons #[nD.1,nD.2,bs,jy nD.2 Ed,NA.mono λq ys e=>jy (j9 e HN) e] .nil)
  ·rintro σ H3 ⟨v4,v5,v6,v7,pa,na,rfl,s3,ep,en,LG,LI⟩;exact hB _ _ _ _ _ #[pa,na,s3,ep,en,LG,LI]
 rintro v4 v5 v6 v7 H3 ⟨pa,na,s3,ep,en,LG,LI⟩;obtain⟨a0,a1,rfl,⟨_,_,b0,f0,N0⟩,_,_,b1,f1,N1⟩:=VF LG;obtain⟨c0,c1,rfl,⟨_,_,w0,g0,N2⟩,_,_,w1,g1,N3⟩:=VF LI;have l1:(Jc M0.pp S1.ws M0.np).length<=8:=by unfold Jc;rw[ya,yM];have:=DE.h;have:=ft.pp;omega
 have l2:(Jc M0.pq S2.ws M0.nq).length<=8:=by unfold Jc;rw[ya,yM];have:=DI.h;have:=ft.pq;omega
 have l3:(JA M0.np S1.es M0.pp).length<=24:=by unfold JA;rw[ya,yM];have:=DE.e;omega
 have l4:(JA M0.nq S2.es M0.pq).length<=24:=by unfold JA;rw[ya,yM];have:=DI.e;omega
 refine λd hd=>?_
 refine Ev hd λH4 s4 e4=>?_
 refine .g JP pl a0 a1 b0 b1 _ _ rfl (s4 _ _ ep) (s4 _ _ f0) (s4 _ _ f1) (N0.mono λ_ _ e=>s4 _ _ e) (N1.mono λ_ _ e=>s4 _ _ e) (λk hk=>(yB.mp hk).elim Vk Vk) (by omega) λrk R r0 r1 H5 inj s5 hR IA Ht eR e0 e1 ne=>?_;have ES:=Same.trans s4 s5;refine .g uv nl c0 c1 w0 w1 _ _ rfl (ES _ _ en) (ES _ _ g0) (ES _ _ g1) (N2.mono λ_ _ e=>ES _ _ e) (N3.mono λ_ _ e=>ES _ _ e) (λk hk=>(yB.mp hk).elim VD VD) (by omega) λRQ R2 r2 r3 H6 IG s6 M₁ Ho M₂ RS e2 e3 ne2=>?_;have e6:=s6 _ _<|s5 _ _ e4;have D0:=Same.trans ES s6;have V0:=Same.nn s3 hd;have up:∀{b:Addr} {u:HO},H6 b=some u->(∀k,u≠.dK k)->∀{o:HO},upd H6 d o b=some u:=λ{b u} e n {o}=>by rw[jC<|j9 e e6<|n _];exact e
 refine#[e6,[(.inr EQ,.ref R),(.inr FB,.ref R2)],rfl,(by show 2<=15;decide),q d #[_,_,_,_] _ (jK (Same.trans s3 D0) V0) V0 #[R,R2,jc,#[r0,r1,up (s6 _ _ eR) (λ_ z=>nomatch z),up (s6 _ _ e0) (λ_ z=>nomatch z),up (s6 _ _ e1) (λ_ z=>nomatch z)],r2,r3,up RS (λ_ z=>nomatch z),up e2 (λ_ z=>nomatch z),up e3 (λ_ z=>nomatch z)] #[#[rk,inj,rfl,rfl],RQ,IG,rfl,rfl]]
def zh {α:Type} (l:List α) (n:Nat):Prop:=∃us:List α,us.Nodup/\(∀k,k∈us↔k∈l)/\us.length=n
theorem zh.uniq {α:Type}{l:List α}{n m:Nat} (h:zh l n) (h':zh l m):n=m:=by
 obtain⟨us,a1,a2,rfl⟩:=h;obtain⟨vs,b1,b2,rfl⟩:=h';exact Y4 (JY a1 λa ha=>(b2 a).mpr<|(a2 a).mp ha) (JY b1 λa ha=>(a2 a).mpr<|(b2 a).mp ha)
noncomputable def Jq {α:Type} (l:List α):Nat:=by classical exact if h:∃n,zh l n then h.choose else 0
theorem KP {α:Type}{l:List α}{n:Nat} (h:zh l n):Jq l=n:=by
 have h':∃n,zh l n:=#[n,h];unfold Jq;rw[dif_pos h'];exact h'.choose_spec.uniq h
theorem zp {us:List Key}{l:List Int} (nd:us.Nodup) (mem:∀k,k∈us↔k∈l.map Yh):∃ns:List Int,us=ns.map Yh/\ns.Nodup/\∀k,k∈ns↔k∈l:=by
 have Em:∃ns:List Int,us=ns.map Yh:=by
  refine#[us.map λk=>match k with|.inl i=>i|.inr _=>0,?_];rw[yq];refine (yT λk hk=>?_).trans (aag us) |>.symm
  obtain⟨x,_,rfl⟩:=yi.mp ((mem k).mp hk)
  rfl
 obtain⟨ns,rfl⟩:=Em;refine#[ns,rfl,aaJ _ (λa b h e=>h (by rw[e])) nd,λk=>?_];have:=mem<|.inl k;exact#[λh=>by grind,λh=>by grind]
noncomputable def M6 (M:jZ):V->Nat|.str z=>if z=EQ then Jq (M.pp++M.pq) else Jq (M.np++M.nq)|_=>0
theorem dE (hc:X.calm=true) (hP:X.prog=P) (hw:X.w=w):Jr X (.type "set") (λxs H Q=>∃(p:Addr) (ks:List Key),A4 (xs=[.ref p]) (H p=some (.lst<|ks.map kV)) (ks.length<=990) (∀S us,H S=none->us.Nodup->(∀k,k∈us↔k∈ks)->Q (.ref S) (upd H S<|.ext<|Us P w S us))):=by
 subst hP hw;exact uQ hc
theorem dC (hP:X.prog=P) (hw:X.w=w):Jr X (.builtin "len") (λxs H Q=>∃(S:Addr) (us:List Key),A4 (xs=[.ref S]) (H S=some (.ext<|Us P w S us)) (us.length<=1000000)<|Q (.int us.length) H):=by
 subst hP hw;exact vB
def Aq:Sp:=λvs H Q _=>∃(d:Addr) (M:jZ),A4 (vs=[.ref d]) (Vu H d M) (M.pp.length+M.pq.length<=60/\M.np.length+M.nq.length<=60) (∀D H',Same H H'->H D=none->H' D=some (.lst<|[(Jq (M.pp++M.pq):Int),(Jq (M.np++M.nq):Int)].map V.int)->Q (.ref D) H')
theorem bM (T:Txt K mg t):j7 P w K mg base 1 "how_many" [IO] Aq:=by
 refine T.db.ok [IO] ?_;rintro _ H Q E ⟨d,M,rfl,mk,⟨l1,l2⟩,q⟩;refine#[rfl,λDF A outer s hr=>#[_,(jk (jE (jU (own:=["word"]) (JW) (og (Uu (v:=.ref t.VI) (by rfl) T.cy rfl)) (λ_ _ _ _ _=>jl 1) (λ_ _ _ _ _=>j4) (λ_ _ _ _ _=>(jw (dC rfl rfl) (by rfl) T.JD JC (ja (jT (dE rfl rfl rfl) (by rfl) T.Vj Vg<|ja (jB uL (jo jx (Ud (pv 0)<|pv 1) jg)<|jo jx (Ud (pv 0)<|pv 1) jg) jb) jb)))))),?_]];refine#[t.VI,rfl,#[_,T.Gg H],dF (λ_=>true) (λx=>.int<|M6 M x) (T.Gg H) ac (λx hx H' Qy Qn s' hy _=>?_) λD H1 hD s1 eD=>?_]
 ·obtain⟨R1,R2,em,t1,t2⟩:=mk.same s';have:∃(R:Addr) (ms ns:List Int),A4 (Z3 H' R ms ns) (JX H' d x<|some<|.ref R) (M6 M x=Jq (ms++ns)) (ms.length+ns.length<=60):=by
   rcases yD.mp hx with rfl|hx
   ·exact#[R1,M.pp,M.pq,t1,by exact JX.k (k:=.inr EQ) em,by unfold M6;exact if_pos rfl,l1]
   ·rw[yp.mp hx];exact#[R2,M.np,M.nq,t2,by exact JX.k (k:=.inr FB) em,by unfold M6;exact if_neg (by decide +kernel),l2]
  obtain⟨R,ms,ns,⟨a,b,e1,e2,e3⟩,gd,ew,ll⟩:=this;refine#[#[_,rfl,rfl],Jm #[d,_,rfl,gd,_,_,jj.of e1,rfl,d,_,rfl,gd,_,_,jj.of e1,rfl,a,b,_,_,rfl,rfl,e2,e3,by rw[ya,ya];exact yk ll ac,λp hp=>?_]];have s4:=jh (o:=.lst<|ms.map V.int++ns.map V.int) (Same.refl H') hp;have e4:upd H' p (.lst<|ms.map V.int++ns.map V.int) p=some (.lst<|((ms++ns).map Yh).map kV):=by rw[jc,yd,yd,yq,yq];rfl
  generalize upd H' p _=H4 at s4 e4;refine#[p,_,rfl,e4,by grind,λS us hS nd mem=>?_];obtain⟨vs,rfl,Ej,DS⟩:=zp nd mem;have lv:=by
   have:=JY Ej λa ha=>(DS a).mp ha;rw[yg] at this;omega
  have:=hy rfl _<|Same.trans s4<|jh (o:=.ext<|Us P w S<|vs.map Yh) (Same.refl H4) hS;rw[ew,KP #[vs,Ej,DS,rfl]] at this;exact#[S,_,rfl,jc,by rw[ya];lia,by grind]
 ·exact q D H1 s1 hD (by rw[eD];rfl)
theorem Z6 {α:Type}:∀l:List α,zh l (Jq l):=λl=>by
 have:∃n,zh l n:=by
  induction l with
  | nil=>exact#[0,_,yZ,λk=>Iff.rfl,rfl]
  | cons a l ih =>
   obtain⟨n,us,nd,mem,rfl⟩:=ih;by_cases h:a∈us
   ·exact#[_,us,nd,λk=>#[λhk=>yl _<|(mem k).mp hk,λhk=>(yD.mp hk).elim (λe=>e▸h) λhk=>(mem k).mpr hk],rfl]
   ·exact#[_,_,yO.mpr #[h,nd],λk=>by grind,rfl]
 obtain⟨n,h⟩:=this;rw[KP h];exact h
theorem sV {α β:Type} (g:α->β) (l:List α):Jq (l.map g)<=Jq l:=by
 obtain⟨us,a1,a2,e1⟩:=Z6 _;obtain⟨vs,b1,b2,e2⟩:=Z6 l;rw[<-e1,<-e2,<-ya (f:=g)];refine JY a1 λx hx=>?_;obtain⟨y,hy,e⟩:=yi.mp<|(a2 x).mp hx;exact yi.mpr #[y,(b2 y).mpr hy,e]
theorem kM {α:Type} (l:List α):Jq l<=l.length:=by
 obtain⟨us,a1,a2,e1⟩:=Z6 l;rw[<-e1];exact JY a1 λx hx=>(a2 x).mp hx
theorem Rk.cnt {α:Type}{lt:α->α->Bool}{ks js:List α}{ms ns os qs:List Int} (h:Rk lt ks js ms ns) (f:α->Int) (e1:os=ks.map f) (e2:qs=js.map f):Jq (os++qs)<=Jq (ms++ns):=by
 obtain⟨rk,inj,_,rfl,rfl⟩:=h.old;rw[e1,e2,<-yd,<-yd]
 classical
 let g:=λm=>if h:∃k,k∈ks++js/\(rk k:Int)=m then f h.choose else 0
 have:(ks++js).map f=((ks++js).map λk=>(rk k:Int)).map g:=by
  rw[yq];refine yT λk hk=>?_;have h:∃k',k'∈ks++js/\(rk k')=(rk k:Int):=#[k,hk,rfl];show f k=if h:∃k',k'∈ks++js/\(rk k')=(rk k:Int) then f h.choose else 0
  rw[dif_pos h];have c:=h.choose_spec;rw[inj _ c.1 _ hk gt]
 rw[this];exact sV _ _
def xH:JP.α->Int|.inl (.inl m)::_=>m|_=>0
def r9:uv.α->Int|.inl (.inl m)::_=>m|_=>0
theorem ao {ws:List (List Nat)} (h:pm.length=ws.length):pm=(Jc pm ws nm).map xH:=by
 unfold Jc;rw[yq];refine y7 (by simp [h]) λi h1 h2=>?_;rw[yQ,abE]
 rfl
theorem cP (h:nm.length=es.length):nm=(JA nm es pm).map r9:=by
 unfold JA;rw[yq];refine y7 (by simp [h]) λi h1 h2=>?_;rw[yQ,abE]
 rfl
theorem uO.le {M:jZ} (DE:S1.ok) (DI:S2.ok) (ft:vp S1 S2 M) (h:uO S1 S2 M M'):Jq (M.pp++M.pq)<=Jq (M'.pp++M'.pq)/\Jq (M.np++M.nq)<=Jq (M'.np++M'.nq) :=
 #[h.1.cnt xH (ao (by rw[ft.pp,DE.w])) (ao (by rw[ft.pq,DI.w])),h.2.cnt r9 (cP ft.np)<|cP ft.nq]
theorem Rk.len {α:Type}{lt:α->α->Bool}{ks js:List α}{ms ns:List Int} (h:Rk lt ks js ms ns):ms.length=ks.length/\ns.length=js.length:=by
 obtain⟨rk,_,_,rfl,rfl⟩:=h.old;exact#[ya _,ya _]
theorem vf.fits {M:jZ} (h:vf S1 S2 held M):vp S1 S2 M:=by
 have a:=h.1.len;have b:=h.2.len;rw[JJ,JJ] at a;unfold U4 at b;rw[ya,ya] at b;exact#[a.1,a.2,b.1,b.2]
theorem uO.fits {M:jZ} (DE:S1.ok) (DI:S2.ok) (ft:vp S1 S2 M) (h:uO S1 S2 M M'):vp S1 S2 M':=by
 have a:=h.1.len;have b:=h.2.len;unfold Jc at a;unfold JA at b;rw[ya,ya,yM,yM,ft.pp,ft.pq,DE.w,DI.w,QS,QS] at a;rw[ya,ya,yM,yM,ft.np,ft.nq,QS,QS] at b;exact#[a.1,a.2,b.1,b.2]
theorem vt (xs:List V) (x:V):vG (xs++[x]) (-1)=some x:=by
 have:Gs (xs++[x]).length (-1)=some xs.length:=by
  unfold Gs;rw[yg,aba,if_neg ac,if_pos gt];congr 1
  lia
 unfold vG;rw[this];simp
theorem U9 {α β:Type}{F:α->β->Prop}:∀{l:List α} {m:List β} {a:α} {b:β},Paired F (l++[a]) (m++[b])->Paired F l m/\F a b:=by
 intro l m a b
 induction l generalizing m with
 | nil =>
  intro h;cases m with
  | nil=>cases h with|cons h _=>exact#[.nil,h]
  | cons=>have:=Paired.length h;simp at this
 | cons c l ih =>
  intro h;cases m with
  | nil=>have:=Paired.length h;simp at this
  | cons=>cases h with|cons h t=>exact#[.cons h (ih t).1,(ih t).2]
theorem Z3.off {H:Hp}{ms ns:List Int}{o:HO} (x:Z3 H R ms ns) (eL:H L=some (.lst<|(d0::ds).map V.ref)) (hd:∃k,H d0=some (.dK k)):Z3 (upd H L o) R ms ns:=by
 obtain⟨a,b,e1,e2,e3⟩:=x;have nl:∀{c:Addr} {l:List Int},H c=some (.lst<|l.map V.int)->c≠L:=λ{c l} e z=>by
  rw[z,eL] at e;have:=HO.lst.inj<|Yd e;cases l with
  | nil=>cases this
  | cons _ _=>injection this with h _;cases h
 refine#[a,b,?_,jy (nl e2) e2,jy (nl e3) e3];rw[jC]
 ·exact e1
 ·grind
theorem Vu.off {H:Hp}{M:jZ}{o:HO} (x:Vu H d M) (eL:H L=some (.lst<|(d0::ds).map V.ref)) (hd:∃k,H d0=some (.dK k)):Vu (upd H L o) d M:=by
 obtain⟨R1,R2,e,t1,t2⟩:=x;exact#[R1,R2,jy (j9 e eL) e,t1.off eL hd,t2.off eL hd]
noncomputable def cs (M:jZ):List Int:=[(Jq (M.pp++M.pq):Int),(Jq (M.np++M.nq):Int)]
noncomputable def sm (M:jZ):Nat:=Jq (M.pp++M.pq)+Jq (M.np++M.nq)
inductive Jk (S1 S2:uB) (held:Dc):List jZ->Prop
 | one {M:jZ} (h:vf S1 S2 held M):Jk S1 S2 held [M]
 | snoc {Ms:List jZ} {M M':jZ} (h:Jk S1 S2 held (Ms++[M])) (n:uO S1 S2 M M'):Jk S1 S2 held (Ms++[M]++[M'])
def Vv (Ms:List jZ):Prop:=∀(i:Nat) A B,Ms[i]?=some A->Ms[i+1]?=some B->cs A≠cs B
theorem Vv.one (M:jZ):Vv [M]:=λi A B _ h=>by simp at h
theorem Vv.snoc {Ms:List jZ}{A B:jZ} (h:Vv (Ms++[A])) (n:cs A≠cs B):Vv (Ms++[A]++[B]):=λi X Y h1 h2=>by
 have hi:=(yc.mp h2).1;rw[yg,yg] at hi;have hi:i+1<Ms.length+1+1:=hi;rw[yx (by rw[yg];show i<Ms.length+1;lia)] at h1;by_cases z:i+1<Ms.length+1
 ·rw[yx (by rw[yg];exact z)] at h2;exact h i X Y h1 h2
 ·grind
def Zj (H:Hp) (ds:Di) (Ms:List jZ):Prop:=Paired (λd M=>Vu H d M) ds Ms
theorem Zj.same {H H':Hp} (x:Zj H ds Ms) (s:Same H H'):Zj H' ds Ms:=uD (λ_ _ h=>h.same s) x
theorem vp.len {M:jZ} (DE:S1.ok) (DI:S2.ok) (h:vp S1 S2 M):M.pp.length+M.pq.length<=60/\M.np.length+M.nq.length<=60:=by
 have:=DE.h;have:=DI.h;have:=DE.e;have:=DI.e
 rw[h.pp,h.pq,h.np,h.nq]
 lia
theorem Bj {M:jZ} (h:M.pp.length+M.pq.length<=60/\M.np.length+M.nq.length<=60):sm M<=120:=by
 have h1:=kM<|M.pp++M.pq;have h2:=kM<|M.np++M.nq;rw[yg] at h1 h2;unfold sm
 lia
theorem sD {M:jZ} (h:Jq (M.pp++M.pq)<=Jq (M'.pp++M'.pq)/\Jq (M.np++M.nq)<=Jq (M'.np++M'.nq)) (n:cs M≠cs M'):sm M<sm M':=by
 unfold sm;by_cases e1:Jq (M.pp++M.pq)=Jq (M'.pp++M'.pq)
 ·by_cases e2:Jq (M.np++M.nq)=Jq (M'.np++M'.nq)
  ·exact absurd (by unfold cs;rw[e1,e2]) n
  ·lia
 ·lia
def Am (C:Addr):Sp:=λvs H Q _=>E8 λ(bo o1 o2 hl:Addr) (S1 S2:uB) (us:Di) (held:Dc)=>A8 (vs=[.ref bo,.ref hl]) (H bo=some (.tup [.ref o1,.ref o2])) (UA H C o1 S1) (UA H C o2 S2) (S1.ok/\S2.ok) (H hl=some (.lst<|us.map V.ref)) (KeyAt H us (held.map kI)/\held.length<=8)
 (∀L ds Ms Mp M H',Same H H'->H L=none->H' L=some (.lst<|ds.map V.ref)->Zj H' ds (Ms++[Mp]++[M])->Jk S1 S2 held (Ms++[Mp]++[M])->Vv (Ms++[Mp])->cs Mp=cs M->Q (.ref L) H')
theorem MJ (T:Txt K mg t):j7 P w K mg base 4 "all_rounds" [SC,SL] (Am t.Jj):=by
 refine T.nh.ok [SC,SL,YD,"many"] ?_;rintro _ H Q E ⟨bo,o1,o2,hl,S1,S2,us,held,rfl,hb,k1,k2,⟨DE,DI⟩,hh,KA,q⟩;refine#[rfl,λDF A outer s hr=>#[_,(jf (jt 2<|jY<|ja (jq (md T)<|ja (pv 0)<|ja (pv 1) jb) jb)<|jf (jt 3 gG)<|jf (qC jR (jF (tU hr.units0) (pv 3)<|jq (bM T)<|ja (jo jx (pv 2)<|Kt gP jg) jb)<|jf (jt 3<|jq (bM T)<|ja (jo jx (pv 2)<|Kt gP jg) jb)<|jk<|Jd<|j3 Ya Yg Yf Jb (pv 2)<|ja (jq (MO T)<|ja (pv 0)<|ja (jo jx (pv 2)<|Kt gP jg) jb) jb)<|jk<|jE<|pv 2),?_]];refine ZT (λ(L d) (M)=>[oR bo,oR hl,oR L,none]) (λL d M H'=>A5 _ _ (H' L=some _) (Vu H' d M) _) (λB hB=>#[bo,o1,o2,hl,S1,S2,us,held,rfl,hb,k1,k2,#[DE,DI],hh,KA,λd M H1 s1 hd mk f1=>#[oH,λL hL=>hB L d M _ #[jh s1 hL,Same.nn s1 hL,jc,mk.same<|jh (Same.refl H1) hL,f1]]]) ?_;rintro L d M H1 ⟨s1,hL,eL,mk,f1⟩;refine JO ?_;refine u7 (λ(v)=>[oR bo,oR hl,oR L,v]) (λ_ H'=>E4 λ(ds) (Ms) (Mp M)=>A6 (Same H H') (H' L=some (.lst<|ds.map V.ref)) (Zj H' ds<|Ms++[Mp]++[M]) (Jk S1 S2 held<|Ms++[Mp]++[M]) (Vv<|Ms++[Mp])<|cs Mp=cs M) (λB hB=>?_) ?_
 ·refine#[λm σ H'=>E5 λ(v) (ds) (d) (Ms) (M)=>A7 (σ=[oR bo,oR hl,oR L,some v]) (Same H H') (H' L=some (.lst<|(ds++[d]).map V.ref)) (Zj H' (ds++[d])<|Ms++[M]) (Jk S1 S2 held<|Ms++[M]) (vp S1 S2 M/\ds.length+m<=200) ((v=.non/\m=200/\Ms=[])\/∃(a:Addr) (O6:List jZ) (Mp:jZ),A6 (v=.ref a) (H' a=some (.lst<|(cs Mp).map V.int)) (Ms=O6++[Mp]/\Vv (O6++[Mp])) (Jq (Mp.pp++Mp.pq)<=Jq (M.pp++M.pq)/\Jq (Mp.np++Mp.nq)<=Jq (M.np++M.nq)) (m=150 - sm Mp) True),#[200,_,[],d,[],M,rfl,s1,eL,.cons mk .nil,.one f1,#[f1.fits,yj _],.inl #[rfl,rfl,rfl]],?_];rintro m σ H2 ⟨v,ds,d,Ms,M,rfl,s2,FQ,RA,Rd,⟨ft,ldm⟩,hv⟩;have Ot:=(U9 RA).2;have ln:=ft.len DE DI;refine#[1,rfl,_,_,jj.of FQ,by rw[yd];exact vt _ _,d,M,rfl,Ot,ln,λD H3 s3 hD eD=>#[D,cs M,rfl,jj.of eD,?_]];have DC:=Same.trans s2 s3;have sml:=Bj ln;rcases hv with ⟨hv,hm,e0⟩|⟨a,O6,Mp,hv,ea,⟨RT,st⟩,le,hm,_⟩
  ·subst hv;have lt:150 - sm M<m:=by omega
   have Ft:Vv (Ms++[M]):=by rw[e0];exact Vv.one M
   clear hm;refine .inl #[rfl,Jm ?_];exact (by
    refine#[λσ' H'=>∃(a d':Addr) (M':jZ),A6 (σ'=[oR bo,oR hl,oR L,oR a]) (Same H H') (H' L=some (.lst<|(ds++[d]++[d']).map V.ref)) (Zj H' (ds++[d]++[d'])<|Ms++[M]++[M']) (uO S1 S2 M M')<|H' a=some (.lst<|(cs M).map V.int),?_,?_]
    ·rintro σ' H' ⟨a,d',M',rfl,z1,z2,z3,z4,z5⟩;exact#[_,lt,_,_,d',_,M',rfl,z1,z2,z3,.snoc Rd z4,#[z4.fits DE DI ft,by rw[yg];show ds.length+1+_<=200;lia],.inr #[a,Ms,M,rfl,z5,#[rfl,Ft],z4.le DE DI ft,rfl,trivial]]
    refine#[1,rfl,_,_,jj.of<|s3 _ _ FQ,by rw[yd];exact vt _ _,d,M,rfl,Ot.same s3,ln,λa H4 s4 ha RU=>JO ?_];have DO:=Same.trans DC s4;have Ex:=Same.trans s3 s4;have FR:=Ex _ _ FQ;refine#[.inl #[rfl,_,jj.of FR],1,rfl,_,_,jj.of FR,by rw[yd];exact vt _ _,bo,o1,o2,d,S1,S2,M,rfl,DO _ _ hb,k1.same DO,k2.same DO,#[DE,DI],Ot.same Ex,ft,λd' M' H5 s5 Hi mk' nx=>?_];have En:=s5 _ _ FR;have Hv:=(RA.same Ex).same s5;have IH:=s5 _ _ RU;refine#[L,_,_,rfl,rfl,En,by rw[ya,yg];exact yG (show ds.length+1<=1000 by lia) ac,a,d',M',rfl,jK (Same.trans DO s5) hL,by rw[jc,yd (l₂:=[d'])];rfl,?_,nx,?_]
    ·obtain⟨d0,dr,e0,hk⟩:∃d0 dr,ds++[d]=d0::dr/\∃k,H5 d0=some (.dK k):=by
      cases ds with
      | nil=>exact#[d,_,rfl,let ⟨_,_,e,_,_⟩:=(U9 Hv).2;#[_,e]]
      | cons x xs=>cases Ms with
       | nil=>have:=Paired.length Hv;simp at this
       | cons _ _=>cases Hv with|cons h _=>exact#[x,_,rfl,let ⟨_,_,e,_,_⟩:=h;#[_,e]]
     rw[e0] at En;exact Uk (uD (λ_ _ h=>h.off En hk) Hv) (.cons (mk'.off En hk) .nil)
    ·rw[jC]
     ·exact IH
     ·intro z;rw[z,En] at IH;have:=HO.lst.inj<|Yd IH;cases ds with
      | nil=>cases this
      | cons _ _=>injection this with h _;cases h)
  ·subst hv;refine .inr #[a,_,rfl,jj.of<|s3 _ _ ea,?_];by_cases e:cs Mp=cs M
   ·rw[decide_eq_true e];exact hB _ _ #[_,O6,Mp,M,DC,s3 _ _ FQ,by rw[<-RT];exact RA.same s3,by rw[<-RT];exact Rd,st,e]
   ·have lt:150 - sm M<m:=by have:=sD le e;lia
    have Ft:Vv (Ms++[M]):=by rw[RT];exact st.snoc e
    rw[decide_eq_false e];clear hm;refine Jm ?_;exact (by
    refine#[λσ' H'=>∃(a d':Addr) (M':jZ),A6 (σ'=[oR bo,oR hl,oR L,oR a]) (Same H H') (H' L=some (.lst<|(ds++[d]++[d']).map V.ref)) (Zj H' (ds++[d]++[d'])<|Ms++[M]++[M']) (uO S1 S2 M M')<|H' a=some (.lst<|(cs M).map V.int),?_,?_]
    ·rintro σ' H' ⟨a,d',M',rfl,z1,z2,z3,z4,z5⟩;exact#[_,lt,_,_,d',_,M',rfl,z1,z2,z3,.snoc Rd z4,#[z4.fits DE DI ft,by rw[yg];show ds.length+1+_<=200;lia],.inr #[a,Ms,M,rfl,z5,#[rfl,Ft],z4.le DE DI ft,rfl,trivial]]
    refine#[1,rfl,_,_,jj.of<|s3 _ _ FQ,by rw[yd];exact vt _ _,d,M,rfl,Ot.same s3,ln,λa H4 s4 ha RU=>JO ?_];have DO:=Same.trans DC s4;have Ex:=Same.trans s3 s4;have FR:=Ex _ _ FQ;refine#[.inl #[rfl,_,jj.of FR],1,rfl,_,_,jj.of FR,by rw[yd];exact vt _ _,bo,o1,o2,d,S1,S2,M,rfl,DO _ _ hb,k1.same DO,k2.same DO,#[DE,DI],Ot.same Ex,ft,λd' M' H5 s5 Hi mk' nx=>?_];have En:=s5 _ _ FR;have Hv:=(RA.same Ex).same s5;have IH:=s5 _ _ RU;refine#[L,_,_,rfl,rfl,En,by rw[ya,yg];exact yG (show ds.length+1<=1000 by lia) ac,a,d',M',rfl,jK (Same.trans DO s5) hL,by rw[jc,yd (l₂:=[d'])];rfl,?_,nx,?_]
    ·obtain⟨d0,dr,e0,hk⟩:∃d0 dr,ds++[d]=d0::dr/\∃k,H5 d0=some (.dK k):=by
      cases ds with
      | nil=>exact#[d,_,rfl,let ⟨_,_,e,_,_⟩:=(U9 Hv).2;#[_,e]]
      | cons x xs=>cases Ms with
       | nil=>have:=Paired.length Hv;simp at this
       | cons _ _=>cases Hv with|cons h _=>exact#[x,_,rfl,let ⟨_,_,e,_,_⟩:=h;#[_,e]]
     rw[e0] at En;exact Uk (uD (λ_ _ h=>h.off En hk) Hv) (.cons (mk'.off En hk) .nil)
    ·rw[jC]
     ·exact IH
     ·intro z;rw[z,En] at IH;have:=HO.lst.inj<|Yd IH;cases ds with
      | nil=>cases this
      | cons _ _=>injection this with h _;cases h)
 rintro v H2 ⟨ds,Ms,Mp,M,s2,FQ,RA,Rd,st,ec⟩;exact q L ds Ms Mp M H2 s2 hL FQ RA Rd st ec
theorem um {α β:Type}{F:α->β->Prop}:∀{l:List α} {m:List β} {i:Nat} {a:α} {b:β},Paired F l m->l[i]?=some a->m[i]?=some b->F a b:=by
 intro l m i a b p
 induction p generalizing i with
 | nil=>exact λh=>nomatch h
 | cons r t ih =>
  intro h1 h2;cases i with
  | zero=>cases h1;cases h2;exact r
  | succ i=>exact ih h1 h2
def ue (ms ns:List Int):Prop:=∀m,ms.count m=ns.count m
def jZ.even (M:jZ):Prop:=ue M.pp M.pq/\ue M.np M.nq
theorem Nf {ms ns:List Int} (h:∀m∈ms++ns,ms.count m=ns.count m):ue ms ns:=λm=>by
 grind
structure Zh (ms ns:List Int) (m:Int):Prop where
 ne:ms.count m≠ns.count m
 lt:∀k,k<m->ms.count k=ns.count k
structure vF (Ms:List jZ) (i:Nat) (x:Str) (ms ns:List Int) (m:Int):Prop where
 ev:∀X∈Ms.take i,X.even
 at_:∃M,Ms[i]?=some M/\((x=EQ/\ms=M.pp/\ns=M.pq)\/(x=FB/\ue M.pp M.pq/\ms=M.np/\ns=M.nq))
 odd:Zh ms ns m
theorem NF {ms ns vs:List Int}{k:Nat}{m:Int} (mem:∀a,a∈vs↔a∈ms++ns) (so:vs.Pairwise (·<=·)) (ek:vs[k]?=some m) (ec:∀a∈vs.take k,ms.count a=ns.count a) (ne:ms.count m≠ns.count m):Zh ms ns m:=by
 refine#[ne,λa ha=>?_];by_cases h:a∈vs
 ·obtain⟨i,hi,rfl⟩:=yH h;obtain⟨hk,e⟩:=yc.mp ek;rcases y6 i k with z|z
  ·exact ec _ (List.mem_iff_getElem.mpr #[i,by rw[yF];lia,by rw[aby]])
  ·rcases Nat.eq_or_lt_of_le z with rfl|z
   ·lia
   ·have:=Qj.mp so k i hk hi z
    lia
 ·grind
def Bt:Sp:=λvs H Q _=>E3 λ(L:Addr) (ds:Di) (Ms:List jZ)=>A6 (vs=[.ref L]) (H L=some (.lst<|ds.map V.ref)) (Zj H ds Ms) (∀M∈Ms,M.pp.length+M.pq.length<=60/\M.np.length+M.nq.length<=60) ((∀M∈Ms,M.even)->∀H',Same H H'->Q .non H') (∀i x ms ns m,vF Ms i x ms ns m->∀u H',Same H H'->H u=none->H' u=some (.tup [.str IO,.int (i:Nat),.str x,.int m,.int (ms.count m:Nat),.int (ns.count m:Nat)])->Q (.ref u) H')
theorem ad (T:Txt K mg t):j7 P w K mg base 1 "first_odd" [YD] Bt:=by
 refine T.bc.ok [YD,YE,IO,"word","here","there","mark"] ?_;rintro _ H Q E ⟨L,ds,Ms,rfl,eL,RA,hl,qN,qM⟩;refine#[rfl,λDF A outer s hr=>#[_,(jf (j0 jR (JT rfl rfl T.Ja<|ja (pv 0) jb) (j5<|jr (jl 1)<|jr (jl 2) jV) (jk (j0 jR (og (Uu (v:=.ref t.VI) (by rfl) T.cy rfl)) (jl 3) (jf (jt 4<|jo jx (Ud (pv 2)<|pv 3) jg) (jf (jt 5<|jo jx (Ud (pv 2)<|pv 3) jg) (jk (j0 jR (jN (jw (vH rfl) (by rfl) T.JS JR (ja (jT (uQ rfl) (by rfl) T.Vj Vg<|ja (jB uL (pv 4)<|pv 5) jb) jb))) (jl 6)<|jk<|j8 (jF vh (j3 Ya Yl Yj uR (pv 4)<|ja (pv 6) jb)<|j3 Ya Yl Yj uR (pv 5)<|ja (pv 6) jb) (jk<|jE<|jL<|ja Jt<|ja (pv 1)<|ja (pv 3)<|ja (pv 6)<|ja (j3 Ya Yl Yj uR (pv 4)<|ja (pv 6) jb)<|ja (j3 Ya Yl Yj uR (pv 5)<|ja (pv 6) jb) jb) jP)))))))<|jk<|jE gG),?_]];have ld:=Paired.length RA;refine CK (λ(v1 v2 v3 v4 v5 v6)=>[oR L,v1,v2,v3,v4,v5,v6]) (λ_ _ _ _ _ _ H'=>A3 (Same H H') (∀M∈Ms,M.even) True) (λB hB=>?_) ?_
 ·refine#[L,rfl,#[_,jj.of eL],ua (λi σ H'=>E6 λ(v1 v2 v3 v4 v5 v6)=>A3 (σ=[oR L,v1,v2,v3,v4,v5,v6]) (Same H H') (∀M∈Ms.take i,M.even)) #[_,_,_,_,_,_,rfl,Same.refl H,λM h=>nomatch h] (λi σ H' _ h=>by obtain⟨_,_,_,_,_,_,_,e,_⟩:=h;exact jj.of<|e _ _ eL) ?_ ?_]
  ·rintro i x p σ H2 hx hp ⟨v1,v2,v3,v4,v5,v6,rfl,s2,ev⟩;obtain⟨d,ed,rfl⟩:=gm hx;have hi:i<Ms.length:=by rw[<-ld];exact (yc.mp ed).1
   have em:=yb hi;have mk:=um RA ed em;have Em:=yz hi;generalize Ms[i]=M at em mk Em
   refine Ev hp λH3 s3 e3=>?_
   have DC:=Same.trans s2 s3;refine#[_,ju.of e3,rfl,vL ?_];refine#[t.VI,rfl,#[_,T.Gg H3],tj (λj σ H'=>E4 λ(v3 v4 v5 v6)=>A3 (σ=[oR L,some _,oR d,v3,v4,v5,v6]) (Same H H')<|(0<j->ue M.pp M.pq)/\(1<j->ue M.np M.nq)) #[_,_,_,_,rfl,DC,λh=>absurd h ac,λh=>absurd h ac] (λj σ H' _ h=>T.Gg H') ?_ ?_]
   ·rintro j x σ H4 hx ⟨v3,v4,v5,v6,rfl,s4,Ou⟩;obtain⟨R1,R2,T8,t1,t2⟩:=mk.same s4;have F1:=hl M Em;have:∃(R:Addr) (ms ns:List Int) (wd:Str),A6 (x=.str wd/\((wd=EQ/\ms=M.pp/\ns=M.pq)\/(wd=FB/\ue M.pp M.pq/\ms=M.np/\ns=M.nq))) (Z3 H4 R ms ns) (JX H4 d x<|some<|.ref R) (ms.length+ns.length<=60) (ue ms ns->(0<j+1->ue M.pp M.pq)/\(1<j+1->ue M.np M.nq)) (M.even->ue ms ns):=by
     match j,hx with
     | 0,hx=>cases hx;exact#[R1,M.pp,M.pq,EQ,#[rfl,.inl #[rfl,rfl,rfl]],t1,by exact JX.k (k:=.inr EQ) T8,F1.1,λh=>#[λ_=>h,λz=>absurd z ac],λh=>h.1]
     | 1,hx=>cases hx;exact#[R2,M.np,M.nq,FB,#[rfl,.inr #[rfl,Ou.1 ac,rfl,rfl]],t2,by exact JX.k (k:=.inr FB) T8,F1.2,λh=>#[λ_=>Ou.1 ac,λ_=>h],λh=>h.2]
    obtain⟨R,ms,ns,wd,⟨rfl,hw⟩,⟨a,b,f1,f2,f3⟩,gd,ll,kY,kN⟩:=this;refine#[d,_,rfl,gd,_,_,jj.of f1,rfl,JO ?_];refine#[d,_,rfl,gd,_,_,jj.of f1,rfl,JO ?_];refine#[a,b,_,_,rfl,rfl,f2,f3,by rw[ya,ya];exact yk ll ac,λp5 Ov=>?_];have s5:=jh (o:=.lst<|ms.map V.int++ns.map V.int) (Same.refl H4) Ov;have e5:upd H4 p5 (.lst<|ms.map V.int++ns.map V.int) p5=some (.lst<|((ms++ns).map Yh).map kV):=by rw[jc,yd,yd,yq,yq];rfl
    generalize upd H4 p5 (.lst<|ms.map V.int++ns.map V.int)=H5 at s5 e5;refine#[p5,(ms++ns).map Yh,rfl,e5,by rw[ya,yg];lia,λS us hS nd mem=>?_];obtain⟨vs,rfl,Ej,DS⟩:=zp nd mem;have lv:vs.length<=60:=by
     have:=JY Ej λa ha=>(DS a).mp ha;rw[yg] at this
     lia
    have s6:=jh (o:=.ext<|Us P w S<|vs.map Yh) (Same.refl H5) hS;refine#[S,vs,rfl,jc,by lia,λl EZ DU pm so=>?_];have s7:=jh (o:=.lst<|EZ.map V.int) (Same.refl<|upd H5 S<|.ext<|Us P w S<|vs.map Yh) DU;have e7:upd (upd H5 S<|.ext<|Us P w S<|vs.map Yh) l (.lst<|EZ.map V.int) l=some (.lst<|EZ.map V.int):=jc;have F8:=Same.trans s5<|Same.trans s6 s7;refine#[l,rfl,#[_,jj.of e7],uJ (λk σ H'=>∃v6:Option V,A4 (σ=[oR L,some _,oR d,some _,oR a,oR b,v6]) (Same H4 H') (H' l=some _) (∀m∈EZ.take k,ms.count m=ns.count m)) #[_,rfl,F8,e7,λm h=>nomatch h] (λk σ H' _ h=>by obtain⟨_,_,_,e,_⟩:=h;exact jj.of e) ?_ ?_]
    ·rintro k y σ H8 hy ⟨b₁,rfl,Eo,Ow,ec⟩;obtain⟨m,ey,rfl⟩:=gm hy;have g2:=Eo _ _ f2;have g3:=Eo _ _ f3;refine#[.inl #[rfl,_,jj.of g2],a,ms,m,rfl,rfl,g2,.inl #[rfl,_,jj.of g3],b,ns,m,rfl,rfl,g3,?_];refine#[rfl,?_];by_cases h:ms.count m=ns.count m
     ·refine Uq (by rw[h]) #[_,rfl,Eo,Ow,λm' Fl=>?_];rw[jA ey] at Fl;rcases yB.mp Fl with z|z
      ·exact ec m' z
      ·rw[yp.mp z];exact h
     ·rw[decide_eq_false (show ¬(V.int (ms.count m)=V.int (ns.count m)) from λz=>h<|Yn<|V.int.inj z)];exact#[.inl #[rfl,_,jj.of g2],a,ms,m,rfl,rfl,g2,.inl #[rfl,_,jj.of g3],b,ns,m,rfl,rfl,g3,(by show 6<=sizeLine;decide),λu hu=>qM i wd ms ns m #[ev,#[M,em,hw],NF (λa=>pm.mem_iff.trans<|DS a) so ey ec h] u _ (jh (Same.trans s4 Eo) hu) (Same.nn (Same.trans s4 Eo) hu) jc]
    ·rintro σ H8 ⟨b₁,rfl,Eo,_,ec⟩;rw[ya,jO rfl] at ec;exact#[_,_,_,_,rfl,Same.trans s4 Eo,kY (Nf λm hm=>ec m<|pm.mem_iff.mpr<|(DS m).mpr hm)]
   ·rintro σ H4 ⟨v3,v4,v5,v6,rfl,s4,Ou⟩;refine#[_,_,_,_,_,_,rfl,s4,λM' h=>?_];rw[jA em] at h;rcases yB.mp h with z|z
    ·exact ev M' z
    ·rw[yp.mp z];exact#[Ou.1 ac,Ou.2 ac]
  ·rintro σ H2 ⟨v1,v2,v3,v4,v5,v6,rfl,s2,ev⟩;rw[ya,ld,jO rfl] at ev;exact hB _ _ _ _ _ _ _ #[s2,ev,trivial]
 rintro v1 v2 v3 v4 v5 v6 H2 ⟨s2,ev,_⟩;exact qN ev _ s2
theorem VN {α:Type}:∀{l m:List α},l.Nodup->(∀a∈l,a∈m)->m.length<=l.length->l.Perm m
 | [],m,_,_,h=>by simp_all
 | a::l,m,nd,h,hl=>by
  classical
  obtain⟨h1,h2⟩:=yO.mp nd;have ha:=h a<|yu ..;have:=VN (m:=m.erase a) h2 (λb hb=>(abc (λe=>h1 (by rw[<-e];exact hb))).mpr<|h b<|yl _ hb) (by simp_all);exact (this.cons a).trans (List.perm_cons_erase ha).symm
structure zM (n:Nat) (p:Nat->Nat):Prop where
 lt:∀i,i<n->p i<n
 inj:∀i,i<n->∀j,j<n->p i=p j->i=j
theorem UF {α β:Type}{f:α->β}:∀{l:List α},l.Nodup->(∀a∈l,∀b∈l,f a=f b->a=b)->(l.map f).Nodup
 | [],_,_=>yZ
 | a::l,nd,h=>by
  obtain⟨h1,h2⟩:=yO.mp nd;refine yO.mpr #[λz=>?_,UF h2 λx hx y hy=>h x (yl _ hx) y<|yl _ hy];obtain⟨b,hb,e⟩:=yi.mp z;rw[h b (yl _ hb) a (yu ..) e] at hb;exact h1 hb
theorem zM.perm {n:Nat} (b:zM n p):((Yc n).map p).Perm (Yc n) :=
 VN (UF QQ λi hi j hj=>b.inj i (yI.mp hi) j<|yI.mp hj) (λa ha=>by obtain⟨i,hi,rfl⟩:=yi.mp ha;exact yI.mpr<|b.lt i<|yI.mp hi) (by grind)
theorem uy {α:Type} (l:List α) (d:α):(Yc l.length).map (λi=>l.getD i d)=l:=y7 on λi h1 h2=>by simp [h2]
theorem zM.perm_of {n:Nat} (b:zM n p) {ms ns:List Int} (l1:ms.length=n) (l2:ns.length=n) (h:∀i,i<n->ns[p i]?=ms[i]?):ms.Perm ns:=by
 have e:ms=((Yc n).map p).map λi=>ns.getD i 0:=by
  rw[yq];refine (uy ms 0).symm.trans ?_;rw[l1];exact yT λi hi=>by grind
 have e2:=by have:=uy ns 0;rwa [l2] at this
 rw[e];exact (b.perm.map _).trans (by rw[e2])
structure uB.wf (S:uB):Prop where
 wm:∀(i:Nat) x,S.hs[i]?=some x->∃l,S.ws[i]?=some l/\l.length=x.2
 we:∀(i:Nat) l (q:Nat) j,S.ws[i]?=some l->l[q]?=some j->∃e,S.es[j]?=some e/\(i,q)∈e
 ew:∀(j:Nat) e i q,S.es[j]?=some e->(i,q)∈e->∃l,S.ws[i]?=some l/\l[q]?=some j
 ne:∀e∈S.es,e≠[]
structure kq (S1 S2:uB) (p r:Nat->Nat):Prop where
 n:S1.hs.length=S2.hs.length
 m:S1.es.length=S2.es.length
 bp:zM S1.hs.length p
 br:zM S1.es.length r
 hs:∀i,i<S1.hs.length->S2.hs[p i]?=S1.hs[i]?
 es:∀(j:Nat) l1 l2,S1.es[j]?=some l1->S2.es[r j]?=some l2->(l1.map λx=>(p x.1,x.2)).Perm l2
theorem kq.ws (I:kq S1 S2 p r) (w1:S1.wf) (w2:S2.wf) {i:Nat} (hi:i<S1.hs.length) {l:List Nat} (h1:S1.ws[i]?=some l):S2.ws[p i]?=some (l.map r):=by
 have e1:=yb hi;obtain⟨l1,g1,n1⟩:=w1.wm i _ e1;obtain⟨l2,g2,n2⟩:=w2.wm _ _<|(I.hs i hi).trans e1;rw[h1] at g1;cases g1;rw[g2];congr 1;refine y7 (by rw[ya,n1,n2]) λq q1 q2=>?_;rw[ya] at q2;obtain⟨e,ee,he⟩:=w1.we i l q _ h1<|yb q2;have hj:=(yc.mp ee).1;have Lp:r l[q]<S2.es.length:=by rw[<-I.m];exact I.br.lt _ hj
 have e2:=yb Lp;have:=(I.es _ _ _ ee e2).mem_iff.mp<|yi.mpr #[_,he,rfl];obtain⟨l',f1,f2⟩:=w2.ew _ _ _ _ e2 this;rw[g2] at f1;cases f1;rw[yQ];rw[yb q1] at f2;exact Yd f2
def kB (n:Nat) (p:Nat->Nat) (held:Dc):Prop:=∀x∈held,∃i,i<n/\x.1=(i:Nat)/\x.2=(p i:Nat)
structure bX (S1:uB) (p r:Nat->Nat) (M:jZ):Prop where
 p:∀i,i<S1.hs.length->M.pq[p i]?=M.pp[i]?
 r:∀j,j<S1.es.length->M.nq[r j]?=M.np[j]?
theorem Rk.agr {α:Type}{lt:α->α->Bool}{ks js:List α}{ms ns:List Int} (h:Rk lt ks js ms ns) {i j:Nat} (e:js[j]?=ks[i]?):ns[j]?=ms[i]?:=by
 obtain⟨rk,_,_,rfl,rfl⟩:=h.old;rw[ye,ye,e]
theorem Kr {a b:Int}:∀{held:Dc},(∀x∈held,x.1=a↔x.2=b)->(a∈held.map (·.1)↔b∈held.map (·.2))/\(held.map (·.1)).idxOf a=(held.map (·.2)).idxOf b
 | [],_=>#[#[λh=>(nomatch h),λh=>(nomatch h)],rfl]
 | x::l,h=>by
  obtain⟨h1,h2⟩:=Kr λy hy=>h y<|yl _ hy;have hx:=h x<|yu ..;rw[Ql,Ql,yD,yD,aaq,h2];refine#[or_congr (by rw[eq_comm,hx,eq_comm]) h1,?_];by_cases z:x.1=a
  ·grind
  ·grind
theorem bT {n:Nat} (b:zM n p) (k:kB n p held) {i:Nat} (hi:i<n):u4 (held.map (·.2)) (p i)=u4 (held.map (·.1)) i:=by
 obtain⟨h1,h2⟩:=Kr (a:=(i)) λx hx=>by
  obtain⟨j,hj,e1,e2⟩:=k x hx;rw[e1,e2];exact#[λe=>by rw[Yn e],λe=>by rw[b.inj j hj i hi<|Yn e]]
 unfold u4;by_cases z:(i:Int)∈held.map (·.1)
 ·grind
 ·grind
theorem vC (hs:List (Str×Nat)) (held:List Int) (i:Nat):(Jf hs held)[i]?=hs[i]?.map λx=>NB x.1 x.2 (u4 held i):=by
 unfold Jf;simp [YT]
theorem zw {ws:List (List Nat)}{i:Nat}{m:Int}{l:List Nat} (h1:pm[i]?=some m) (h2:ws[i]?=some l):(Jc pm ws nm)[i]?=some (Kw m (l.map λn=>nm.getD n 0)):=by
 unfold Jc;rw[ye,Qd (z:=(m,l)) |>.mpr #[h1,h2]]
 rfl
theorem Zy {i:Nat}{m:Int}{l:Ps} (h1:nm[i]?=some m) (h2:es[i]?=some l):(JA nm es pm)[i]?=some (Km m (zK (l.map λp=>(pm.getD p.1 0,(p.2:Int))))):=by
 unfold JA;rw[ye,Qd (z:=(m,l)) |>.mpr #[h1,h2]]
 rfl
theorem vf.agr {M:jZ} (h:vf S1 S2 held M) (I:kq S1 S2 p r) (k:kB S1.hs.length p held):bX S1 p r M:=by
 refine#[λi hi=>h.1.agr ?_,λj hj=>h.2.agr ?_]
 ·rw[vC,vC,I.hs i hi,bT I.bp k hi]
 ·unfold U4;have Lp:r j<S2.es.length:=by rw[<-I.m];exact I.br.lt _ hj
  rw[ye,ye,yb hj,yb Lp];have:=(I.es j _ _ (yb hj)<|yb Lp).length_eq;rw[ya] at this;simp [this]
theorem uO.agr {M:jZ} (h:uO S1 S2 M M') (I:kq S1 S2 p r) (DE:S1.ok) (w1:S1.wf) (w2:S2.wf) (ft:vp S1 S2 M) (a:bX S1 p r M):bX S1 p r M':=by
 have gp:∀i,i<S1.hs.length->M.pq.getD _ 0=M.pp.getD i 0:=λi hi=>by rw[yn,yn,a.p i hi]
 have gr:∀i,i<S1.es.length->M.nq.getD _ 0=M.np.getD i 0:=λi hi=>by rw[yn,yn,a.r i hi]
 refine#[λi hi=>h.1.agr ?_,λj hj=>h.2.agr ?_]
 ·have hw:i<S1.ws.length:=by rw[DE.w];exact hi
  have ew:=yb hw;have em:=yb (by rw[ft.pp];exact hi);rw[zw em ew,zw ((a.p i hi).trans em)<|I.ws w1 w2 hi ew,yq];congr 2;exact yT λn hn=>gr n ((DE.wl _<|yz hw).2 n hn)
 ·have Lp:r j<S2.es.length:=by rw[<-I.m];exact I.br.lt _ hj
  have ee:=yb hj;have e2:=yb Lp;have em:=yb (by rw[ft.np];exact hj);rw[Zy em ee,Zy ((a.r j hj).trans em) e2];congr 2;refine gM.mpr<|((I.es j _ _ ee e2).symm.map _).trans ?_;rw[yq];refine .of_eq (yT λx hx=>?_);show (M.pq.getD _ 0,(x.2:Int))=_;rw[gp _<|(DE.el _<|yz hj).2 x hx]
theorem Jk.fits (h:Jk S1 S2 held Ms) (DE:S1.ok) (DI:S2.ok):∀M∈Ms,vp S1 S2 M:=by
 induction h with
 | one h=>intro M hM;rw[yp.mp hM];exact h.fits
 | snoc h n ih =>
  intro X hX;rcases yB.mp hX with z|z
  ·exact ih X z
  ·rw[yp.mp z];exact n.fits DE DI (ih _<|yA _<|yp.mpr rfl)
theorem Jk.agr (h:Jk S1 S2 held Ms) (I:kq S1 S2 p r) (k:kB S1.hs.length p held) (DE:S1.ok) (DI:S2.ok) (w1:S1.wf) (w2:S2.wf):∀M∈Ms,bX S1 p r M:=by
 induction h with
 | one h=>intro M hM;rw[yp.mp hM];exact h.agr I k
 | snoc h n ih =>
  intro X hX;rcases yB.mp hX with z|z
  ·exact ih X z
  ·rw[yp.mp z];exact n.agr I DE w1 w2 (h.fits DE DI _<|yA _<|yp.mpr rfl) (ih _<|yA _<|yp.mpr rfl)
theorem bX.even {M:jZ} (a:bX S1 p r M) (I:kq S1 S2 p r) (ft:vp S1 S2 M):M.even :=
 #[λm=>(I.bp.perm_of ft.pp (by rw[ft.pq,I.n]) a.p).count_eq m,λm=>(I.br.perm_of ft.np (by rw[ft.nq,I.m]) a.r).count_eq m]
def pf (a b:List Int):Nat ⊕ Nat->Int|.inl i=>a.getD i 0|.inr i=>b.getD i 0
def ix (n m:Nat):List (Nat ⊕ Nat):=(Yc n).map Yh++(Yc m).map Yr
theorem U5 {n m i:Nat}:.inl i∈ix n m↔i<n:=by simp [ix]
theorem zG {n m i:Nat}:.inr i∈ix n m↔i<m:=by simp [ix]
theorem Ku (a b:List Int):(ix a.length b.length).map (pf a b)=a++b:=by
 unfold ix;rw[yd,yq,yq];congr 1
 ·exact uy a 0
 ·exact uy b 0
def kf {α:Type} (a b:List α):Nat ⊕ Nat->Option α|.inl i=>a[i]?|.inr i=>b[i]?
theorem Rk.key {α:Type}{lt:α->α->Bool}{ks js:List α}{ms ns:List Int} (h:Rk lt ks js ms ns) {x y:Nat ⊕ Nat} (hx:x∈ix ks.length js.length) (hy:y∈ix ks.length js.length) (e:pf ms ns x=pf ms ns y):kf ks js x=kf ks js y:=by
 obtain⟨rk,inj,_,rfl,rfl⟩:=h.old;have key:∀{x},x∈ix ks.length js.length->∃k∈ks++js,kf ks js x=some k/\pf _ _ x=rk k:=λ{x} hx=>by
  cases x with
  | inl i =>
   have hi:=U5.mp hx;refine#[_,y9 _<|yz hi,yb hi,?_];show (ks.map λk=>(rk k:Int)).getD i 0=_;rw[yn,ye,yb hi]
   rfl
  | inr i =>
   have hi:=zG.mp hx;refine#[_,yA _<|yz hi,yb hi,?_];show (js.map λk=>(rk k:Int)).getD i 0=_;rw[yn,ye,yb hi]
   rfl
 obtain⟨k,hk,k1,k2⟩:=key hx;obtain⟨j,hj,j1,j2⟩:=key hy;rw[k2,j2] at e;rw[k1,j1,inj k hk j hj<|Yn e]
theorem some_of {α:Type}{l:List α}{d:α}{i:Nat} (h:i<l.length):l[i]?=some (l.getD i d):=by grind
theorem wb {m:Int}{l l':List Int} (h:Kw m l=Kw m' l'):m=m':=by
 injection (h) with h _
 exact Ym (Ym h)
theorem mY:∀{l l':Dc},VA l=VA l'->l=l'
 | [],[],_=>rfl
 | [],_::_,h=>by injection h
 | _::_,[],h=>by injection h
 | a::l,b::l',h=>by
  injection (h) with h1 h2
  rw[mY h2];injection Yw h1 with h1 h3
  injection h3 with h3 _
  rw[Y8 (Ym h1)<|Ym h3]
theorem tP {m:Int}{l:Dc} (h:Km m l=Km m' l'):m=m'/\l=l':=by
 injection (h) with h h2
 injection h2 with h2 _
 exact#[Ym<|Ym h,mY<|Yw h2]
theorem cz {x x':Str}{m h h':Int} (e:NB x m h=NB x' m' h'):x=x'/\m=m'/\h=h':=by
 injection (e) with e1 e
 injection e with e2 e
 injection e with e3 _
 exact#[Yw<|Ym e1,Ym<|Ym e2,Ym<|Ym e3]
def rD (n m:Nat) (a b c d:List Int):Prop:=∀x∈ix n m,∀y∈ix n m,pf a b x=pf a b y->pf c d x=pf c d y
def xW (S1 S2:uB) (M:jZ):Nat ⊕ Nat->List (Int×Int)
 | .inl j=>(S1.es.getD j []).map λp=>(M.pp.getD p.1 0,(p.2:Int))
 | .inr j=>(S2.es.getD j []).map λp=>(M.pq.getD p.1 0,(p.2:Int))
theorem uO.fnP {M:jZ} (h:uO S1 S2 M M') (DE:S1.ok) (DI:S2.ok) (ft:vp S1 S2 M):rD S1.hs.length S2.hs.length M'.pp M'.pq M.pp M.pq:=by
 have key:∀{x},x∈ix S1.hs.length S2.hs.length->∃l,kf (Jc M.pp S1.ws M.np) (Jc M.pq S2.ws M.nq) x=some (Kw (pf M.pp M.pq x) l):=λ{x} hx=>by
  cases x with
  | inl i =>
   have hi:=U5.mp hx;exact#[_,zw (some_of (by rw[ft.pp];exact hi)) (yb (by rw[DE.w];exact hi))]
  | inr i =>
   have hi:=zG.mp hx;exact#[_,zw (some_of (by rw[ft.pq];exact hi)) (yb (by rw[DI.w];exact hi))]
 have l1:(Jc M.pp S1.ws M.np).length=S1.hs.length:=by unfold Jc;rw[ya,yM,ft.pp,DE.w,QS]
 have l2:(Jc M.pq S2.ws M.nq).length=S2.hs.length:=by unfold Jc;rw[ya,yM,ft.pq,DI.w,QS]
 intro x hx y hy e;have:=h.1.key (by rw[l1,l2];exact hx) (by rw[l1,l2];exact hy) e;obtain⟨l,k1⟩:=key hx;obtain⟨l',k2⟩:=key hy;rw[k1,k2] at this;exact wb (Yd this)
theorem uO.fnN {M:jZ} (h:uO S1 S2 M M') (ft:vp S1 S2 M) {x y:Nat ⊕ Nat} (hx:x∈ix S1.es.length S2.es.length) (hy:y∈ix S1.es.length S2.es.length) (e:pf M'.np M'.nq x=pf M'.np M'.nq y):pf M.np M.nq x=pf M.np M.nq y/\(xW S1 S2 M x).Perm (xW S1 S2 M y):=by
 have key:∀{x},x∈ix S1.es.length S2.es.length->kf _ _ x=some (Km (pf M.np M.nq x)<|zK<|xW S1 S2 M x):=λ{x} hx=>by
  cases x with
  | inl i =>
   have hi:=U5.mp hx;exact Zy (some_of (by rw[ft.np];exact hi)) (some_of hi)
  | inr i =>
   have hi:=zG.mp hx;exact Zy (some_of (by rw[ft.nq];exact hi)) (some_of hi)
 have l1:(JA M.np S1.es M.pp).length=S1.es.length:=by unfold JA;rw[ya,yM,ft.np,QS]
 have l2:(JA M.nq S2.es M.pq).length=S2.es.length:=by unfold JA;rw[ya,yM,ft.nq,QS]
 have:=h.2.key (by rw[l1,l2];exact hx) (by rw[l1,l2];exact hy) e;rw[key hx,key hy] at this;obtain⟨a,b⟩:=tP<|Yd this;exact#[a,gM.mp b]
theorem Jk.first (h:Jk S1 S2 held Ms) (DE:S1.ok) (DI:S2.ok):∀M∈Ms,∃M0,vf S1 S2 held M0/\rD S1.hs.length S2.hs.length M.pp M.pq M0.pp M0.pq:=by
 induction h with
 | one h=>intro M hM;rw[yp.mp hM];exact#[_,h,λx _ y _ e=>e]
 | snoc h n ih =>
  intro X hX;rcases yB.mp hX with z|z
  ·exact ih X z
  ·rw[yp.mp z];obtain⟨M0,f,g⟩:=ih _<|yA _<|yp.mpr rfl;exact#[M0,f,λx hx y hy e=>g x hx y hy<|n.fnP DE DI (h.fits DE DI _<|yA _<|yp.mpr rfl) x hx y hy e]
theorem Jk.last (h:Jk S1 S2 held Ms):∀{A:List jZ} {Mp M:jZ},Ms=A++[Mp]++[M]->uO S1 S2 Mp M:=by
 cases h with
 | one h=>intro A Mp M e;have:=congrArg Ys e;simp at this
 | snoc h n =>
  intro A Mp M e;obtain⟨e1,e2⟩:=Y0 e rfl;obtain⟨_,e3⟩:=Y0 e1 rfl;cases e2;cases e3;exact n
theorem xY {α β:Type}{h:α->β}{us:List α} (nd:(us.map h).Nodup) {a b:α} (ha:a∈us) (hb:b∈us) (e:h a=h b):a=b:=by
 obtain⟨i,hi,rfl⟩:=yH ha;obtain⟨j,hj,rfl⟩:=yH hb;have pw:=Qj.mp<|QB.mp nd;rcases QM i j with z|rfl|z
 ·grind
 ·rfl
 ·grind
theorem nR {α:Type}{X:List α}{f g:α->Int} (ec:Jq (X.map f)=Jq (X.map g)) (fn:∀x∈X,∀y∈X,f x=f y->g x=g y):∀x∈X,∀y∈X,g x=g y->f x=f y:=by
 classical
 obtain⟨us,u1,u2,u3⟩:=Z6 _;obtain⟨vs,v1,v2,v3⟩:=Z6 _
 let h:=λu=>if z:∃x,x∈X/\f x=u then g z.choose else 0
 have hh:∀x∈X,h _=g x:=λx hx=>by
  have z:∃y,y∈X/\f y=f x:=#[x,hx,rfl];show (if z:∃y,y∈X/\f y=f x then g z.choose else 0)=g x;rw[dif_pos z];exact fn _ z.choose_spec.1 x hx z.choose_spec.2
 have nd:=by
  have p:=VN v1 (λa ha=>by
   obtain⟨x,hx,rfl⟩:=yi.mp ((v2 a).mp ha)
   exact yi.mpr #[_,(u2 _).mpr<|yi.mpr #[x,hx,rfl],hh x hx]) (by rw[ya];lia)
  exact p.nodup_iff.mp v1
 intro x hx y hy e;exact xY nd ((u2 _).mpr<|yi.mpr #[x,hx,rfl]) ((u2 _).mpr<|yi.mpr #[y,hy,rfl]) (by rw[hh x hx,hh y hy];exact e)
theorem uO.stable {M:jZ} (h:uO S1 S2 M M') (DE:S1.ok) (DI:S2.ok) (ft:vp S1 S2 M) (ec:cs M=cs M'):rD S1.hs.length S2.hs.length M.pp M.pq M'.pp M'.pq:=by
 have Hw:=h.fits DE DI ft;have e1:=Ku M.pp M.pq;have e2:=Ku M'.pp M'.pq;rw[ft.pp,ft.pq] at e1;rw[Hw.pp,Hw.pq] at e2;refine nR ?_<|h.fnP DE DI ft;rw[e1,e2];injection ec with ec _
 exact (Yn ec).symm
structure MW (S1 S2:uB) (ps ns:List Nat):Prop where
 pl:ps.length=S1.hs.length
 nl:ns.length=S1.es.length
 pm:ps.Perm (Yc S2.hs.length)
 nm:ns.Perm (Yc S2.es.length)
 hs:∀(i:Nat) k,ps[i]?=some k->S2.hs[k]?=S1.hs[i]?
 es:∀(j:Nat) k l1 l2,ns[j]?=some k->S1.es[j]?=some l1->S2.es[k]?=some l2->(l1.map λx=>(ps.getD x.1 0,x.2)).Perm l2
theorem iQ {l:List Int} (nd:l.Nodup) {i:Nat} (h:i<l.length):l.idxOf l[i]=i:=by
 grind
theorem Zt {l:List Int} (nd:l.Nodup) {i:Nat} (h:i<l.length):l.idxOf (l.getD i 0)=i:=by
 grind
theorem NE {ms ns:List Int} (p:ms.Perm ns) (nd:ms.Nodup):(ms.map λm=>ns.idxOf m).Perm (Yc ns.length):=by
 refine (p.map _).trans<|.of_eq ?_;refine y7 on λi h1 h2=>?_;rw[yQ,aab,iQ<|p.nodup_iff.mp nd]
theorem GU {l:List Int}{m:Int} (h:m∈l):l.getD (l.idxOf m) 0=m:=by
 grind
theorem Vn {ms ns:List Int} (h:ue ms ns):ms.Perm ns:=List.perm_iff_count.mpr h
theorem Ny {l:List Int} (nd:l.Nodup) {i j:Nat} (hi:i<l.length) (hj:j<l.length) (e:l.getD i 0=l.getD j 0):i=j:=by rw[<-Zt nd hi,e,Zt nd hj]
theorem qK {M:jZ} (h:Jk S1 S2 held (Ms++[Mp]++[M])) (DE:S1.ok) (DI:S2.ok) (w1:S1.wf) (ec:cs Mp=cs M) (ev:M.even) (nd:M.pp.Nodup):MW S1 S2 (M.pp.map λm=>M.pq.idxOf m) (M.np.map λm=>M.nq.idxOf m):=by
 have nx:=h.last rfl;have II:=h.fits DE DI Mp<|y9 _<|yA _<|yp.mpr rfl;have ft:=h.fits DE DI M<|yA _<|yp.mpr rfl;have pp:=Vn ev.1;have np:=Vn ev.2;have fn:=nx.fnP DE DI II;have st:=nx.stable DE DI II ec;have b₂:=pp.nodup_iff.mp nd;have d₁:M.np.Nodup:=by
  have e1:=uy M.np 0;rw[<-e1];refine UF QQ λi hi j hj e=>?_;have hi:=yI.mp hi;have hj:=yI.mp hj;rw[ft.np] at hi hj;have pr:=(nx.fnN II (U5.mpr hi) (U5.mpr hj) e).2;have ei:=some_of (d:=[]) hi;have ej:=some_of (d:=[]) hj;have ne:=w1.ne _<|yh ei;obtain⟨x,hx⟩:=List.exists_mem_of_ne_nil _ ne;have:=pr.mem_iff.mp<|yi.mpr #[x,hx,rfl];obtain⟨y,hy,e⟩:=yi.mp this;have x1:=(DE.el _<|yh ei).2 x hx;have y1:=(DE.el _<|yh ej).2 y hy;injection e with e1 e2
  have:=st _ (U5.mpr y1) _ (U5.mpr x1) e1;have z1:=Ny nd (by rw[ft.pp];exact y1) (by rw[ft.pp];exact x1) this;have z2:=Yn e2;obtain⟨l,f1,f2⟩:=w1.ew i _ _ _ ei hx;obtain⟨l',f3,f4⟩:=w1.ew j _ _ _ ej hy;rw[z1,f1] at f3;cases f3;rw[z2,f2] at f4;exact Yd f4
 have along:∀i,i<S1.hs.length->M.pq.idxOf _<S2.hs.length/\M.pq.getD _ 0=M.pp.getD i 0:=λi hi=>by
  have:M.pp.getD i 0∈M.pq:=pp.mem_iff.mp (yh (some_of (by rw[ft.pp];exact hi)));exact#[by rw[<-ft.pq];exact Qo this,GU this]
 refine#[by rw[ya,ft.pp],by rw[ya,ft.np],by rw[<-ft.pq];exact NE pp nd,by rw[<-ft.nq];exact NE np d₁,λi k e=>?_,λj k l1 l2 e e1 e2=>?_]
 ·obtain⟨m,em,rfl⟩:=gm e;have hi:i<S1.hs.length:=by rw[<-ft.pp];exact (yc.mp em).1
  have eg:M.pp.getD i 0=m:=by grind
  obtain⟨a1,a2⟩:=along i hi;rw[eg] at a1 a2;obtain⟨M0,f0,g0⟩:=h.first DE DI M (yA _<|yp.mpr rfl);have:=g0 _ (U5.mpr hi) _ (zG.mpr a1)<|eg.trans a2.symm;have:=f0.1.key (by rw[JJ];exact U5.mpr hi) (by rw[JJ,JJ];exact zG.mpr a1) this;have:(Jf S1.hs _)[i]?=(Jf S2.hs _)[M.pq.idxOf m]?:=this;rw[vC,vC,yb hi,yb a1] at this;obtain⟨x1,x2,_⟩:=cz<|Yd this;rw[yb hi,yb a1,Y8 x1<|Yn x2]
 ·obtain⟨m,em,rfl⟩:=gm e;have hj:=(yc.mp e1).1;have hk:=(yc.mp e2).1;have eg:M.np.getD j 0=m:=by grind
  have mq:=np.mem_iff.mp<|yh em;have pr:=(nx.fnN II (U5.mpr hj) (zG.mpr hk)<|eg.trans (GU mq).symm).2;have pr:((S1.es.getD j _).map _).Perm ((S2.es.getD _ _).map _):=pr;rw[yn,yn,e1,e2] at pr;have O7:Mp.pq.Nodup:=by
   rw[<-uy Mp.pq 0];refine UF QQ λa ha b hb e=>?_;have ha:=yI.mp ha;have hb:=yI.mp hb;rw[II.pq] at ha hb;exact Ny b₂ (by rw[ft.pq];exact ha) (by rw[ft.pq];exact hb) (st _ (zG.mpr ha) _ (zG.mpr hb) e)
  have T9:=pr.map λ(x)=>(Mp.pq.idxOf x.1,x.2.toNat);rw[yq,yq] at T9;have d₂:=(DE.el _<|yh e1).2;have IJ:=(DI.el _<|yh e2).2;refine (abe ?_).trans (T9.trans<|.of_eq ?_)
  ·refine yT λx hx=>?_;have EX:=d₂ x hx;obtain⟨a1,a2⟩:=along _ EX;have:=fn _ (U5.mpr EX) _ (zG.mpr a1) a2.symm;have:Mp.pp.getD _ 0=Mp.pq.getD _ 0:=this;show _=(Mp.pq.idxOf<|Mp.pp.getD _ 0,(x.2:Int).toNat);rw[this,Zt O7 (by rw[II.pq];exact a1),yn,ye,some_of (by rw[ft.pp];exact EX)]
   rfl
  ·refine (yT λx hx=>?_).trans<|aag l2;show (Mp.pq.idxOf _,(x.2:Int).toNat)=x;rw[Zt O7 (by rw[II.pq];exact IJ x hx)]
   rfl
theorem pb {m:Int}:∀{l:List Int},1<l.count m->∃i,A3 (i<l.length) (i≠l.idxOf m) (l[i]?=some m)
 | [],h=>by simp at h
 | a::l,h=>by
  by_cases z:a=m
  ·rw[z,List.count_cons_self] at h;have hm:m∈l:=QK.mp gt;obtain⟨i,hi,e⟩:=yH hm;refine#[i+1,by rw[Qe];lia,?_,by simp_all];rw[aaq,beq_iff_eq.mpr z];exact Nat.succ_ne_zero _
  ·rw[List.count_cons_of_ne z] at h;obtain⟨i,h1,h2,h3⟩:=pb h;refine#[i+1,by rw[Qe];lia,?_,by grind];rw[aaq,beq_eq_false_iff_ne.mpr z];exact λe=>h2 (Yx e)
theorem lY {held:List Int}{n k:Nat} (h:(n:Int)∈held) (e:u4 held n=u4 held k):n=k:=by
 unfold u4 at e;rw[if_pos h] at e;by_cases z:(k:Int)∈held
 ·have e:held.idxOf (n:Int)=held.idxOf (k:Int):=by lia
  have a:=aac<|Qo h;have b:=aac<|Qo z;simp only[e] at a;exact Yn (a.symm.trans b)
 ·rw[if_neg z] at e
  lia
structure Hd (n:Nat) (held:Dc):Prop where
 nd:(held.map (·.1)).Nodup
 lt:∀x∈held,∃i,i<n/\x.1=(i:Nat)
theorem Hd.le {n:Nat} (h:Hd n held):held.length<=n:=by
 have:=JY h.nd λa ha=>by
  obtain⟨x,hx,rfl⟩:=yi.mp ha;obtain⟨i,hi,e⟩:=h.lt x hx;exact yi.mpr #[i,yI.mpr hi,e.symm]
 simpa using this
theorem Hd.snoc {n:Nat}{held:Dc} (h:Hd n held) {i:Nat} (hi:i<n) (hn:(i:Int) ∉ held.map (·.1)) (k:Int):Hd n (held++[((i:Int),k)]):=by
 refine#[?_,λx hx=>?_]
 ·rw[yd];refine y8.mpr #[h.nd,yO.mpr #[yS,yZ],λa ha b hb e=>?_];have hb:=yp.mp hb;rw[e,hb] at ha;exact hn ha
 ·rcases yB.mp hx with z|z
  ·exact h.lt x z
  ·grind
theorem zm {M:jZ} (h:Jk S1 S2 held Ms) (DE:S1.ok) (DI:S2.ok) (hM:M∈Ms) {m:Int} (hc:1<M.pp.count m):M.pp.idxOf m<S1.hs.length/\(M.pp.idxOf m:Int) ∉ held.map (·.1):=by
 have ft:=h.fits DE DI M hM;have mm:m∈M.pp:=QK.mp gt;have hp:M.pp.idxOf m<S1.hs.length:=by rw[<-ft.pp];exact Qo mm
 refine#[hp,λEm=>?_];obtain⟨i,i1,i2,i3⟩:=pb hc;rw[ft.pp] at i1;obtain⟨M0,f0,g0⟩:=h.first DE DI M hM;have:=g0 _ (U5.mpr hp) _ (U5.mpr i1) ((GU mm).trans (by show m=M.pp.getD i 0;rw[yn,i3];rfl));have:=f0.1.key (by rw[JJ];exact U5.mpr hp) (by rw[JJ];exact U5.mpr i1) this;have:(Jf S1.hs _)[M.pp.idxOf m]?=(Jf S1.hs _)[i]?:=this;rw[vC,vC,yb hp,yb i1] at this;exact i2 (lY Em (cz<|Yd this).2.2).symm
def dq (S1 S2:uB) (held:Dc):Prop:=∀p r,kq S1 S2 p r->kB S1.hs.length p held->False
theorem lJ {M:jZ} (h:Jk S1 S2 held Ms) (DE:S1.ok) (DI:S2.ok) (w1:S1.wf) (w2:S2.wf) (hM:M∈Ms) {m:Int} (hc:1<M.pp.count m) (no:∀(k:Nat),M.pq[k]?=some m->dq S1 S2 (held++[((M.pp.idxOf m:Int),(k:Int))])):dq S1 S2 held:=by
 intro p r I k;have a:=h.agr I k DE DI w1 w2 M hM;have hp:=(zm h DE DI hM hc).1;have mm:m∈M.pp:=QK.mp gt;have e:=(a.p _ hp).trans<|(yb<|Qo mm).trans<|congrArg some<|aac _;refine no _ e p r I λx hx=>?_;rcases yB.mp hx with z|z
 ·exact k x z
 ·grind
theorem xM (h:Jk S1 S2 held Ms) (DE:S1.ok) (DI:S2.ok) (w1:S1.wf) (w2:S2.wf) (no:¬∀M∈Ms,M.even):dq S1 S2 held :=
 λp r I k=>no λM hM=>(h.agr I k DE DI w1 w2 M hM).even I (h.fits DE DI M hM)
theorem mU {α:Type}{lt:α->α->Bool}{ks js us vs:List α} (a:U2 lt ks js us) (b:U2 lt ks js vs):us.Perm vs :=
 VN a.nd (λk hk=>(b.mem k).mpr<|(a.mem k).mp hk) (JY b.nd λk hk=>(a.mem k).mpr<|(b.mem k).mp hk)
theorem NG {ks js us vs:List T.α} (a:U2 (Kf T) ks js us) (b:U2 (Kf T) ks js vs):us=vs:=fG (M:=T.M) (mU a b) a.so b.so
theorem xp {ks js us vs:List Int} (a:U2 Gw ks js us) (b:U2 Gw ks js vs):us=vs :=
 Y7 (λ_ _ _ _ h1 h2=>aaO h1 h2) (a.so.imp λh=>by grind) (b.so.imp λh=>by grind) (mU a b)
theorem Rk.det {α:Type}{lt:α->α->Bool}{ks js:List α}{ms ns HP DK:List Int} (u:∀{us vs},U2 lt ks js us->U2 lt ks js vs->us=vs) (h:Rk lt ks js ms ns) (h':Rk lt ks js HP DK):ms=HP/\ns=DK:=by
 obtain⟨us,r,rfl,rfl⟩:=h;obtain⟨vs,r',rfl,rfl⟩:=h';rw[u r r'];exact#[rfl,rfl]
theorem jZ.eq {M:jZ} (a:M.pp=M'.pp/\M.pq=M'.pq) (b:M.np=M'.np/\M.nq=M'.nq):M=M':=by
 cases M;obtain⟨rfl,rfl⟩:=a;obtain⟨rfl,rfl⟩:=b
 rfl
theorem vf.det {M:jZ} (h:vf S1 S2 held M) (h':vf S1 S2 held M'):M=M':=jZ.eq (h.1.det NG h'.1) (h.2.det xp h'.2)
theorem uO.det {M M1 M2:jZ} (h:uO S1 S2 M M1) (h':uO S1 S2 M M2):M1=M2:=jZ.eq (h.1.det NG h'.1) (h.2.det NG h'.2)
theorem Jk.det (h:Jk S1 S2 held Ms):∀{ER:List jZ},Jk S1 S2 held ER->Ms.length=ER.length->Ms=ER:=by
 induction h with
 | one f =>
  intro ER h' l;cases h' with
  | one f'=>rw[f.det f']
  | snoc _ _=>simp at l
 | snoc h n ih =>
  intro ER h' l;cases h' with
  | one _=>simp at l
  | snoc h' n' =>
   have e:=ih h' (by simpa using l);obtain⟨e1,e2⟩:=Y0 e rfl;cases e2;rw[e1,n.det n']
theorem zJ {α β:Type}{F:α->β->Prop}{l:List α}{m:List β}{b:β} (h:Paired F l (m++[b])):∃l' a,A3 (l=l'++[a]) (Paired F l' m) (F a b):=by
 have ne:l≠[]:=λz=>by have:=Paired.length h;rw[z] at this;simp at this
 have e:=(List.dropLast_concat_getLast ne).symm;rw[e] at h;exact#[_,_,e,(U9 h).1,(U9 h).2]
def UB (n:Nat):V:=.int (n:Nat)
def VQ (H:Hp) (u:Addr):Prop:=∃a b:Addr,H u=some (.tup [.str YA,.ref a,.ref b])
def UG (H:Hp) (u:Addr):Prop:=∃(z:Str) (r:List V),H u=some (.tup (.str z::r))/\z≠YA
structure VR (S1 S2:uB) (held:Dc) (Ms:List jZ) (Mp M:jZ):Prop where
 rd:Jk S1 S2 held (Ms++[Mp]++[M])
 st:Vv (Ms++[Mp])
 ec:cs Mp=cs M
structure mB (M:jZ) (m:Int):Prop where
 two:1<M.pp.count m
 lt:∀k,k<m->M.pp.count k<=1
def Uv (M:jZ) (m:Int) (n:Nat):List Nat:=(Yc n).filter λk=>decide (M.pq[k]?=some m)
inductive Jg (S1 S2:uB) (H0 H:Hp):List (Int×Int)->Addr->Prop
 | marks {held:Dc} {u:Addr} {Ms:List jZ} {Mp M:jZ} {i:Nat} {x:Str} {ms ns:List Int} {m:Int} (r:VR S1 S2 held Ms Mp M) (o:vF (Ms++[Mp]++[M]) i x ms ns m) (hu:H0 u=none) (e:H u=some (.tup [.str IO,.int (i:Nat),.str x,.int m,.int (ms.count m:Nat),.int (ns.count m:Nat)])):Jg S1 S2 H0 H held u
 | same {held:Dc} {u a b:Addr} {Ms:List jZ} {Mp M:jZ} (r:VR S1 S2 held Ms Mp M) (ev:∀X∈Ms++[Mp]++[M],X.even) (nd:M.pp.Nodup) (R:MW S1 S2 (M.pp.map λm=>M.pq.idxOf m) (M.np.map λm=>M.nq.idxOf m)) (hu:H0 u=none) (ha:H0 a=none) (hb:H0 b=none) (ab:a≠b) (e:H u=some (.tup [.str YA,.ref a,.ref b])) (ea:H a=some (.lst ((M.pp.map λm=>M.pq.idxOf m).map UB))) (eb:H b=some (.lst ((M.np.map λm=>M.nq.idxOf m).map UB))):Jg S1 S2 H0 H held u
 | choice {held:Dc} {u W:Addr} {Ms:List jZ} {Mp M:jZ} {m:Int} {rows:List (Nat×Addr×Addr)} (r:VR S1 S2 held Ms Mp M) (ev:∀X∈Ms++[Mp]++[M],X.even) (sh:mB M m) (hu:H0 u=none) (hW:H0 W=none) (e:H u=some (.tup [.str "choice",.int (M.pp.idxOf m:Nat),.ref W])) (eW:H W=some (.lst (rows.map λr=>V.ref r.2.1))) (ks:rows.map (·.1)=Uv M m M.pq.length)
   (hr:∀r∈rows,H0 r.2.1=none) (er:∀r∈rows,H r.2.1=some (.tup [.int (r.1:Nat),.ref r.2.2])) (an:∀r∈rows,Jg S1 S2 H0 H (held++[((M.pp.idxOf m:Int),(r.1:Int))]) r.2.2) (ns:∀r∈rows,UG H r.2.2):Jg S1 S2 H0 H held u
 | pick {held:Dc} {u:Addr} {Ms:List jZ} {Mp M:jZ} {m:Int} {rows:List (Nat×Addr×Addr)} {k:Nat} (r:VR S1 S2 held Ms Mp M) (ev:∀X∈Ms++[Mp]++[M],X.even) (sh:mB M m) (ks:rows.map (·.1)=Uv M m k) (hk:M.pq[k]?=some m)
   (an:∀r∈rows,Jg S1 S2 H0 H (held++[((M.pp.idxOf m:Int),(r.1:Int))]) r.2.2) (ns:∀r∈rows,UG H r.2.2) (a:Jg S1 S2 H0 H (held++[((M.pp.idxOf m:Int),(k:Int))]) u) (sm:VQ H u):Jg S1 S2 H0 H held u
theorem Jg.new {H:Hp}{u:Addr} (s:∀b,H1 b=none->H0 b=none) (x:Jg S1 S2 H1 H held u):Jg S1 S2 H0 H held u:=by
 induction x with
 | marks r o hu e=>exact .marks r o (s _ hu) e
 | same r ev nd R hu ha hb ab e ea eb=>exact .same r ev nd R (s _ hu) (s _ ha) (s _ hb) ab e ea eb
 | choice r ev sh hu hW e eW ks hr er _ ns ih=>exact .choice r ev sh (s _ hu) (s _ hW) e eW ks (λr h=>s _<|hr r h) er ih ns
 | pick r ev sh ks hk _ ns _ sm ih ih2=>exact .pick r ev sh ks hk ih ns ih2 sm
theorem Jg.at_ {H:Hp}{u:Addr} (x:Jg S1 S2 H0 H held u):H0 u=none:=by
 induction x with
 | marks r o hu e=>exact hu
 | same r ev nd R hu ha hb ab e ea eb=>exact hu
 | choice r ev sh hu hW e eW ks hr er _ ns ih=>exact hu
 | pick r ev sh ks hk _ ns _ sm ih ih2=>exact ih2
theorem Jg.keep {H H':Hp}{u:Addr} (k:∀b o,H0 b=none->H b=some o->H' b=some o) (x:Jg S1 S2 H0 H held u):Jg S1 S2 H0 H' held u:=by
 induction x with
 | marks r o hu e=>exact .marks r o hu (k _ _ hu e)
 | same r ev nd R hu ha hb ab e ea eb=>exact .same r ev nd R hu ha hb ab (k _ _ hu e) (k _ _ ha ea) (k _ _ hb eb)
 | choice r ev sh hu hW e eW ks hr er an ns ih=>exact .choice r ev sh hu hW (k _ _ hu e) (k _ _ hW eW) ks hr (λr h=>k _ _ (hr r h)<|er r h) ih λr h=>let ⟨z,q,e,n⟩:=ns r h;#[z,q,k _ _ (an r h).at_ e,n]
 | pick r ev sh ks hk an ns a sm ih ih2=>exact .pick r ev sh ks hk ih (λr h=>let ⟨z,q,e,n⟩:=ns r h;#[z,q,k _ _ (an r h).at_ e,n]) ih2 (let ⟨p,q,e⟩:=sm;#[p,q,k _ _ a.at_ e])
theorem Vl {M:jZ}{m:Int} (n:Nat):Uv M m (n+1)=if M.pq[n]?=some m then Uv M m n++[n] else Uv M m n:=by
 unfold Uv;rw[QD,QI];by_cases h:M.pq[n]?=some m
 ·grind
 ·grind
theorem Jg.head {H:Hp}{u:Addr} (x:Jg S1 S2 H0 H held u):VQ H u\/UG H u:=by
 cases x with
 | marks r o hu e=>exact .inr #[_,_,e,by decide +kernel]
 | same r ev nd R hu ha hb ab e ea eb=>exact .inl #[_,_,e]
 | choice r ev sh hu hW e eW ks hr er _ ns=>exact .inr #[_,_,e,by decide +kernel]
 | pick r ev sh ks hk _ ns _ sm=>exact .inl sm
def wu (C:Addr) (d:Nat):Sp:=λvs H Q _=>E8 λ(bo o1 o2 hl:Addr) (S1 S2:uB) (us:Di) (held:Dc)=>A9 (vs=[.ref bo,.ref hl]) (H bo=some (.tup [.ref o1,.ref o2])) (UA H C o1 S1) (UA H C o2 S2) (A4 S1.ok S2.ok S1.wf S2.wf) (H hl=some (.lst<|us.map V.ref)) (KeyAt H us<|held.map kI) (Hd S1.hs.length held/\S1.hs.length<held.length+d)
 (∀u H',Same H H'->Jg S1 S2 H H' held u->Q (.ref u) H')
local macro_rules|`(tactic| decide)=>`(tactic| (simp only[Nat.add_eq];omega))
theorem MI (T:Txt K mg t) (d:Nat):j7 P w K mg base (5+d) "alike_with" [SC,SL] (wu t.Jj d):=by
 induction d with
 | zero =>
  refine T.ZZ.ok [SC,SL,YD,"odd",IO,"mark","shared","least",EQ,"rows",YE,"told"] ?_;rintro _ H Q E ⟨bo,o1,o2,hl,S1,S2,us,held,rfl,hb,k1,k2,ok,hh,KA,⟨h1,h2⟩,q⟩;exact absurd h1.le gt
 | succ d DQ =>
  refine T.ZZ.ok [SC,SL,YD,"odd",IO,"mark","shared","least",EQ,"rows",YE,"told"] ?_;rintro _ H Q E ⟨bo,o1,o2,hl,S1,S2,us,held,rfl,hb,k1,k2,⟨DE,DI,w1,w2⟩,hh,KA,⟨h1,h2⟩,q⟩;refine#[rfl,λDF A outer s hr=>#[_,(jf (jt 2<|jq (MJ T)<|ja (pv 0)<|ja (pv 1) jb) (jf (jt 3<|jq (ad T)<|ja (pv 2) jb) (jf (j8 (Kx<|mn<|pv 3) (jk<|jE<|pv 3) jP) (jf (jt 4<|Ud (jo jx (pv 2)<|Kt gP jg) Jt) (jf (vd 6 (N0:=[SC,SL,YD,"odd",IO,".mark","shared","least",EQ,"rows",YE,"told"]) (own:=["mark"]) (JW (cl:=[(IO,_)])) (jN<|jo jx (pv 4) jg) (λ_ _ _ _ _=>jl 12) (λ_ _ _ _ _=>zb<|jF Ge (j3 Ya Yl Yj uR (jo jx (pv 4) jg)<|ja (pv 12) jb) jg) (λ_ _ _ _ _=>(pv 12))) (jf (j8 (uc (aD (pv 6) (λ_=>rfl))) (jk<|jE<|jL<|ja Jt<|ja (jq (bS T)<|ja (pv 4) jb)<|ja (jq (bS T)<|ja (Ud (jo jx (pv 2)<|Kt gP jg) Jt) jb) jb) jP) (jf (jt 7 (jw Mw (by rfl) T.Bc AT<|ja (pv 6) jb))<|jf (jt 8<|j3 Ya Yk Yi uS (jo jx (pv 4) jg)<|ja (pv 7) jb)<|jf (jt 9<|jY jb)<|jf (j0 jR (JT rfl rfl T.Ja<|ja (jo jx (pv 4) jg) jb) (j5<|jr (jl 10)<|jr (jl 5) jV)<|jk<|j8 (jF uZ (pv 5)<|pv 7) (jf (jt 11<|jq DQ<|ja (pv 0)<|ja (jB uL (pv 1)<|jY<|ja (jL<|ja (pv 8)<|ja (pv 10) jb) jb) jb)<|jf (j8 (jF uZ (jo jz (pv 11) jg) Jt) (jk<|jE<|pv 11) jP)<|jk<|Jd<|j3 Ya Yg Yf Jb (pv 9)<|ja (jL<|ja (pv 10)<|ja (pv 11) jb) jb) jP)<|jk<|jE<|jL<|ja Jt<|ja (pv 8)<|ja (pv 9) jb))))))),?_]];have hle:=h1.le;have h8:=DE.h;refine sC (λ(L) (ds) (Ms) (Mp M)=>[oR bo,oR hl,oR L,none,none,none,none,none,none,none,none,none]) (λL ds Ms Mp M H'=>A5 _ _ _ _<|VR S1 S2 held Ms Mp M) (λB hB=>#[bo,o1,o2,hl,S1,S2,us,held,rfl,hb,k1,k2,#[DE,DI],hh,#[KA,by lia],λL ds Ms Mp M H1 s1 hL eL RA Rd st ec=>hB L ds Ms Mp M H1 #[s1,hL,eL,RA,#[Rd,st,ec]]]) ?_;rintro L ds Ms Mp M H1 ⟨s1,hL,eL,RA,RE⟩;have Rd:=RE.rd;have ec:=RE.ec;have fits:=Rd.fits DE DI;refine u7 (λ(v)=>[oR bo,oR hl,oR L,some v,none,none,none,none,none,none,none,none]) (λv H'=>A3 (Same H1 H') ((v=.non/\∀X∈Ms++[Mp]++[M],X.even)\/∃u i x ms ns m,A4 (v=.ref u) (vF _ i x ms ns m) (H1 u=none)<|H' u=some (.tup [.str IO,.int<|i,.str x,.int m,.int<|ms.count m,.int<|ns.count m])) True) (λB hB=>#[L,ds,_,rfl,eL,RA,λX hX=>(fits X hX).len DE DI,λev H2 s2=>hB _ H2 #[s2,.inl #[rfl,ev],trivial],λi x ms ns m o u H2 s2 hu e=>hB _ H2 #[s2,.inr #[u,i,x,ms,ns,m,rfl,o,hu,e],trivial]]) ?_;rintro v H2 ⟨s2,hv,_⟩;have DN:=Same.trans s1 s2;rcases hv with ⟨rfl,ev⟩|⟨u,i,x,ms,ns,m,rfl,od,hu,eu⟩
  rotate_left
  ·refine UK [] (λ_=>False) (λB hB=>by unfold uV aU tB KF;exact Jm<|q u H2 DN<|.marks RE od (Same.nn s1 hu) eu) ?_;exact λH' h=>h.elim
  refine JO ?_;have hM:M∈Ms++[Mp]++[M]:=yA _<|yp.mpr rfl;have ft:=fits M hM;obtain⟨dr,d0,rfl,_,mk⟩:=zJ<|RA.same s2;obtain⟨R1,R2,em,⟨a,b,f1,f2,f3⟩,t2⟩:=mk;have FQ:=s2 _ _ eL;have lp:M.pp.length<=8:=by rw[ft.pp];exact DE.h
  have lq:M.pq.length<=8:=by rw[ft.pq];exact DI.h
  refine#[1,rfl,_,_,jj.of FQ,by rw[yd];exact vt _ _,d0,.ref R1,rfl,by exact JX.k (k:=.inr EQ) em,JO ?_];refine u7 (λ(D)=>[oR bo,oR hl,oR L,some .non,oR R1,none,oR D,none,none,none,none,none]) (λD H'=>A3 (Same H2 H') (H' D=some (.lst ((M.pp.filter λm=>decide ((1:Int)<(M.pp.count m))).map V.int))) True) (λB hB=>?_) ?_
  ·refine#[_,_,jj.of f1,rfl,a,rfl,#[_,jj.of f2],Ux (λx=>match x with|.int m=>decide ((1:Int)<(M.pp.count m))|_=>false) (λx=>x) (jj.of f2) (by rw[ya];exact yk lp ac) (λx hx H' Qy Qn s' hy hn=>?_) λD hD=>?_]
   ·obtain⟨m,Fl,rfl⟩:=yi.mp hx;exact#[#[_,rfl,rfl],_,_,jj.of<|s' _ _ f1,rfl,.inl #[rfl,_,jj.of<|s' _ _ f2],a,M.pp,m,rfl,rfl,s' _ _ f2,V2 (λh=>hy<|decide_eq_true h) λh=>hn<|decide_eq_false h]
   ·refine hB D _ #[jh (Same.refl H2) hD,?_,trivial];rw[jc,abK,List.map_id']
    rfl
  rintro D H3 ⟨s3,eD,_⟩;have DC:=Same.trans DN s3;have O8:=s3 _ _ f1;have O9:=s3 _ _ f2;have Pa:=s3 _ _ f3;have Im:∀m,m∈(M.pp.filter λm=>decide ((1:Int)<(M.pp.count m)))->1<M.pp.count m:=λm hm=>by have:=of_decide_eq_true (Qx.mp hm).2;lia
  by_cases hs:(M.pp.filter λm=>decide ((1:Int)<(M.pp.count m)))=[]
  ·refine UK [] (λ_=>False) (λB hB=>#[false,.inl #[_,jj.of eD,by rw[hs];rfl],?_]) (λH' h=>h.elim);have nd:M.pp.Nodup:=List.nodup_iff_count.mpr λm=>by
    by_cases hm:m∈M.pp
    ·have:=List.filter_eq_nil_iff.mp hs m hm;rw[decide_eq_true_eq] at this
     lia
    ·rw[List.count_eq_zero.mpr hm];exact yP _
   have R:=qK Rd DE DI w1 ec (ev M hM) nd;have p1:=Vn (ev M hM).1;have p2:=Vn (ev M hM).2;have ln:=ft.len DE DI;refine#[R1,M.pp,M.pq,rfl,#[a,b,O8,O9,Pa],λm hm=>p1.mem_iff.mp hm,#[by lia,by lia],λD1 H4 s4 e₁ RV=>?_];have IK:=Same.trans s3 s4;refine#[1,rfl,_,_,jj.of<|IK _ _ FQ,by rw[yd];exact vt _ _,d0,_,rfl,by exact JX.k (k:=.inr FB) (IK _ _ em),R2,M.np,M.nq,rfl,t2.same IK,λm hm=>p2.mem_iff.mp hm,#[by lia,by lia],λD2 H5 s5 Rx O0=>#[cY,λu hu=>?_]];have DO:=Same.trans DC s4;refine q u _ (jh (Same.trans DO s5) hu) (.same RE ev nd R (Same.nn (Same.trans DO s5) hu) (Same.nn DC e₁) (Same.nn DO Rx) (jJ RV Rx) jc ?_ ?_)
   ·rw[jC<|jJ (s5 _ _ RV) hu,s5 _ _ RV,yq,yq];rfl
   ·rw[jC<|jJ O0 hu,O0,yq,yq];rfl
  refine#[true,.inl #[_,jj.of eD,by cases e:(M.pp.filter _) with|nil=>exact absurd e hs|cons _ _=>rfl],JO ?_];refine u7 (λ(m)=>[oR bo,oR hl,oR L,some _,oR R1,none,oR D,some _,none,none,none,none]) (λm H'=>H'=H3/\mB M m) (λB hB=>#[D,_,rfl,jj.of eD,List.length_pos_iff.mpr hs,λm hm RW=>hB m _ #[rfl,Im m hm,λk hk=>?_]]) ?_
  ·by_cases h:1<M.pp.count k
   ·have:=RW k (Qx.mpr #[QK.mp gt,decide_eq_true gt])
    lia
   ·lia
  rintro m H3 ⟨rfl,shr⟩;have hc:=shr.two;have mm:m∈M.pp:=QK.mp gt;refine#[_,_,jj.of O8,rfl,.inl #[rfl,_,jj.of O9],a,M.pp,m,rfl,rfl,O9,by lia,mm,JO ?_];obtain⟨pl,pn⟩:=zm Rd DE DI hM hc;refine u7 (λ(W)=>[oR bo,oR hl,oR L,some _,oR R1,none,oR D,some _,some _,oR W,none,none]) (λW H'=>H'=upd H3 W _/\H3 W=none) (λB hB=>#[vR,λW hW=>hB W _ #[rfl,hW]]) ?_;rintro W _ ⟨rfl,hW⟩;have s4:=jh (o:=.lst []) (Same.refl H3) hW;have dm:∀{H':Hp} {o:HO},Same H3 H'->H' W=some o->∀b,H' b=none->upd H3 W (.lst []) b=none:=λ{H' o} s' e b hb=>by
   by_cases z:b=W
   ·rw[z,e] at hb;cases hb
   ·rw[jC z];exact Same.nn s' hb
  have nw:∀b,upd H3 W (.lst []) b=none->b≠W/\H b=none:=λb hb=>by
   by_cases z:b=W
   ·rw[z,jc] at hb;cases hb
   ·rw[jC z] at hb;exact#[z,Same.nn DC hb]
  refine Mh (λ(v5 v10 v11) (rows:List (Nat×Addr×Addr))=>[oR bo,oR hl,oR L,some .non,oR R1,v5,oR D,some<|.int m,some<|.int<|M.pp.idxOf m,oR W,v10,v11]) (λ_ _ _ rows H'=>A6 (Same H3 H') (H' W=some (.lst (rows.map λr=>V.ref r.2.1))) (rows.map (·.1)=Uv M m M.pq.length) (∀r∈rows,upd H3 W (.lst []) r.2.1=none/\H' r.2.1=some (.tup [.int<|r.1,.ref r.2.2])) (∀r∈rows,Jg S1 S2 (upd H3 W<|.lst []) H' (held++[((M.pp.idxOf m:Int),(r.1:Int))]) r.2.2) (∀r∈rows,UG H' r.2.2)) (λB hB=>?_) ?_
  ·refine#[_,_,jj.of<|s4 _ _ O8,rfl,b,rfl,#[_,jj.of<|s4 _ _ Pa],ua (λi σ H'=>E4 λ(v5 v10 v11) (rows:List (Nat×Addr×Addr))=>A7 (σ=[oR bo,oR hl,oR L,some _,oR R1,v5,oR D,some _,some _,oR W,v10,v11]) (Same H3 H') (H' W=some (.lst (rows.map λr=>V.ref r.2.1))) (rows.map (·.1)=Uv M m i/\rows.length<=i) (∀r∈rows,upd H3 W (.lst []) r.2.1=none/\H' r.2.1=some (.tup [.int<|r.1,.ref r.2.2])) (∀r∈rows,Jg S1 S2 (upd H3 W<|.lst []) H' (held++[((M.pp.idxOf m:Int),(r.1:Int))]) r.2.2) (∀r∈rows,UG H' r.2.2)) #[_,_,_,[],rfl,s4,jc,#[rfl,yj _],(λr h=>nomatch h),(λr h=>nomatch h),λr h=>nomatch h] (λi σ H' _ h=>by obtain⟨_,_,_,_,_,e,_⟩:=h;exact jj.of<|e _ _ Pa) ?_ ?_]
   ·rintro i x p σ H5 hx hp ⟨v5,v10,v11,rows,rfl,s5,Fs,⟨ks,lr⟩,er,an,Lq⟩;obtain⟨mk,ek,rfl⟩:=gm hx;have li:=(yc.mp ek).1
    refine Ev hp λH6 s6 e6=>?_
    have D0:=Same.trans s5 s6;refine#[_,ju.of e6,rfl,vL ?_];refine#[rfl,?_];by_cases FE:mk=m
    rotate_left
    ·refine Zv (λz=>FE<|V.int.inj z) #[_,_,_,rows,rfl,D0,s6 _ _ Fs,#[?_,by lia],λr h=>#[(er r h).1,s6 _ _ (er r h).2],λr h=>(an r h).keep λb o _ e=>s6 _ _ e,λr h=>let ⟨z,q,e,n⟩:=Lq r h;#[z,q,s6 _ _ e,n]];rw[Vl,if_neg (by rw[ek];exact λz=>FE<|Yd z)];exact ks
    subst FE;refine Gb rfl ?_;have Hx:=Same.trans DC D0;refine z8 (λ(u) (_:Unit)=>[oR bo,oR hl,oR L,some .non,oR R1,some<|.int mk,oR D,some<|.int mk,some<|.int<|M.pp.idxOf mk,oR W,some<|.int i,oR u]) (λu _ H'=>Same H6 H'/\Jg S1 S2 (upd H3 W<|.lst []) H' (held++[((M.pp.idxOf mk:Int),(i:Int))]) u) (λB hB=>#[JE,λu5 Om=>#[oH,λl6 Ox=>?_]]) ?_
    ·have t1:=jh (o:=.tup [.int (M.pp.idxOf mk:Nat),.int (i:Int)]) (Same.refl H6) Om;have eu:upd H6 u5 (.tup [.int (M.pp.idxOf mk:Nat),.int (i:Int)]) u5=some (.tup [.int (M.pp.idxOf mk:Nat),.int (i:Int)]):=jc;generalize upd H6 u5 (.tup [.int (M.pp.idxOf mk:Nat),.int (i:Int)])=H7 at t1 eu Ox
     refine Ev Ox λH8 t2 el=>?_
     have Wb:=Same.trans t1 t2;have e₂:=Same.trans Hx Wb;have lu:=Ut KA;refine#[hl,l6,_,_,rfl,rfl,e₂ _ _ hh,el,by rw[ya];exact yk (show us.length+1<=100 by lia) ac,λl7 RX=>?_];have t3:=jh (o:=.lst<|us.map V.ref++[.ref u5]) (Same.refl H8) RX;have e7:upd H8 l7 (.lst<|us.map V.ref++[.ref u5]) l7=some (.lst<|(us++[u5]).map V.ref):=by rw[jc,yd];rfl
     generalize upd H8 l7 (.lst<|us.map V.ref++[.ref u5])=H9 at t3 e7;have IL:=Same.trans Wb t3;have Lr:=Same.trans Hx IL;refine#[bo,o1,o2,l7,S1,S2,_,_,rfl,Lr _ _ hb,k1.same Lr,k2.same Lr,#[DE,DI,w1,w2],e7,?_,#[h1.snoc pl pn _,by rw[yg];show _<held.length+1+d;lia],λu H' s' r=>hB u () H' #[Same.trans IL s',r.new<|dm (Same.trans D0 IL)<|IL _ _<|s6 _ _ Fs]];rw[yd];exact JL (KeyAt.mono' KA Lr) (Same.trans t2 t3 _ _ eu)
    rintro u _ H7 ⟨s7,Hy⟩;have Ha:=Same.trans s6 s7;have RY:=Same.trans D0 s7;have RZ:=Ha _ _ Fs;have EG:∀r∈rows,Jg S1 S2 _ H7 _ _:=λr h=>(an r h).keep λb o _ e=>Ha _ _ e;have DK:∀r∈rows,UG H7 _:=λr h=>let ⟨z,q,e,n⟩:=Lq r h;#[z,q,Ha _ _ e,n]
    rcases Hy.head with ⟨ra,rb,g1⟩|⟨z,r_,eu,zn⟩
    ·refine UK [] (λ_=>False) (λB hB=>?_) (λH' h=>h.elim);exact#[_,_,ju.of g1,rfl,rfl,Gb rfl (q u H7 (Same.trans DC RY) (.pick RE ev shr ks ek (λr h=>(EG r h).new λb hb=>(nw b hb).2) DK (Hy.new λb hb=>(nw b hb).2) #[ra,rb,g1]))]
    refine#[_,_,ju.of eu,jX rfl,rfl,Zv (λq=>zn<|V.str.inj q)<|JO ?_];refine#[.inl #[rfl,_,jj.of RZ],JE,λu8 Ls=>?_];have s8:=jh (o:=.tup [.int (i:Int),.ref u]) (Same.refl H7) Ls;have e8:upd H7 u8 (.tup [.int (i:Int),.ref u]) u8=some (.tup [.int (i:Int),.ref u]):=jc;have n8:=dm RY RZ u8 Ls;generalize upd H7 u8 (.tup [.int (i:Int),.ref u])=H8 at s8 e8;have kp:∀b o,upd H3 W _ b=none->H7 b=some o->upd H8 W (.lst ((rows.map λr=>V.ref r.2.1)++[.ref u8])) b=some o:=λb o hb e=>by rw[jC (nw b hb).1];exact s8 _ _ e
    have mem:∀r∈rows++[(i,u8,u)],r∈rows\/r=(i,u8,u):=λr h=>(yB.mp h).imp id λh=>yp.mp h;refine#[W,_,_,rfl,rfl,s8 _ _ RZ,by rw[ya];exact yG (show rows.length<=100 by lia) ac,_,_,_,rows++[(i,u8,u)],rfl,jK (Same.trans RY s8) hW,by rw[jc,yd];rfl,#[?_,by rw[yg];show rows.length+1<=_;lia],λr h=>?_,λr h=>?_,λr h=>?_]
    ·rw[Vl,if_pos ek,yd,ks];rfl
    ·rcases mem r h with h|rfl
     ·exact#[(er r h).1,kp _ _ (er r h).1<|Ha _ _ (er r h).2]
     ·exact#[n8,jy ((nw _ n8).1) e8]
    ·rcases mem r h with h|rfl
     ·exact (EG r h).keep kp
     ·exact Hy.keep kp
    ·rcases mem r h with h|rfl
     ·obtain⟨z,q,e,n⟩:=DK r h;exact#[z,q,kp _ _ (EG r h).at_ e,n]
     ·exact#[z,r_,kp _ _ Hy.at_ eu,zn]
   ·rintro σ H5 ⟨v5,v10,v11,rows,rfl,s5,Fs,⟨ks,lr⟩,er,an,Lq⟩;rw[ya] at ks;exact hB _ _ _ rows _ #[s5,Fs,ks,er,an,Lq]
  rintro v5 v10 v11 rows H5 ⟨s5,Fs,ks,er,an,Lq⟩;refine#[cY,λu hu=>?_];have s6:=jh (o:=.tup [.str "choice",.int (M.pp.idxOf m:Nat),.ref W]) (Same.refl H5) hu;refine q u _ (Same.trans DC<|Same.trans s5 s6) (.choice RE ev shr (Same.nn (Same.trans DC s5) hu) (Same.nn DC hW) jc (s6 _ _ Fs) ks (λr h=>(nw _ (er r h).1).2) (λr h=>s6 _ _ (er r h).2) (λr h=>((an r h).keep λb o _ e=>s6 _ _ e).new λb hb=>(nw b hb).2) λr h=>let ⟨z,q,e,n⟩:=Lq r h;#[z,q,s6 _ _ e,n])
noncomputable def fP (xs:List Jx) (k:JM):Nat:=Ub (xs.map (·.name)) k.1
noncomputable def fw (ys:List JG) (k:JM):Str:=match Jp (JK ys) (kP k) with|some (.str z)=>z|_=>""
noncomputable def fN (ys:List JG) (k:JM):Nat:=Ub (ys.map (·.1)) (fw ys k)
noncomputable def Vf (xs:List Jx) (ys:List JG) (ks:List JM):List (List Nat):=(Yc xs.length).map λi=>(ks.filter λk=>decide (fP xs k=i)).map (fN ys)
noncomputable def vZ (xs:List Jx) (ys:List JG) (ks:List JM):Pi:=(Yc ys.length).map λj=>(ks.filter λk=>decide (fN ys k=j)).map λk=>(fP xs k,k.2.toNat)
def hsOf (xs:List Jx):List (Str×Nat):=xs.map λx=>(x.kind,x.many)
noncomputable def UZ (xs:List Jx) (ys:List JG) (ks:List JM):uB:=#[hsOf xs,Vf xs ys ks,vZ xs ys ks]
theorem fE {α:Type}{l:List α} (nd:l.Nodup) {i:Nat} {a:α} (h:l[i]?=some a):Ub l a=i:=by
 have e:=Ve<|yh h;obtain⟨h1,e1⟩:=yc.mp e;obtain⟨h2,e2⟩:=yc.mp h;exact Kj nd h1 h2 (e1.trans e2.symm)
theorem Zx {x:Jx}{k:JM} (h:k∈x.pins):∃q:Nat,q<x.many/\k=(x.name,(q:Int)):=by
 obtain⟨q,hq,rfl⟩:=yi.mp h;exact#[q,yI.mp hq,rfl]
theorem G8 {x:Jx}{q:Nat} (h:q<x.many):x.pins[q]?=some (x.name,(q:Int)):=by
 unfold Jx.pins VG;rw[ye,QN h]
 rfl
theorem G9 (x:Jx):x.pins.length=x.many:=by unfold Jx.pins VG;simp
theorem kU (nd:(xs.map (·.name)).Nodup) {i:Nat} {x:Jx} (h:xs[i]?=some x) {k:JM} (hk:k∈x.pins):fP xs k=i:=by
 obtain⟨q,_,rfl⟩:=Zx hk;exact fE nd (by rw[ye,h];rfl)
theorem NX (G:uY xs ys) {j:Nat} {y:JG} (h:ys[j]?=some y) {k:JM} (hk:k∈y.2):Jp (JK ys) (kP k)=some (.str y.1)/\fw ys k=y.1:=by
 have hm:(kP k,V.str _)∈JK ys:=QH.mpr #[y,yh h,yi.mpr #[k,hk,rfl]];obtain⟨i,hi,e⟩:=yH hm;have:=c9 (NJ G.nd) (by rw[yb hi,e]);refine#[this,?_];unfold fw;rw[this]
theorem dJ (G:uY xs ys) {j:Nat} {y:JG} (h:ys[j]?=some y) {k:JM} (hk:k∈y.2):fN ys k=j:=by
 unfold fN;rw[(NX G h hk).2];exact fE G.names2 (by rw[ye,h];rfl)
theorem flt {α β:Type} (F:β->Nat) (B:α->List β):∀(zs:List α) (o:Nat),(∀(i:Nat) z,zs[i]?=some z->∀k∈B z,F k=o+i)->∀(i:Nat) z,zs[i]?=some z->(zs.flatMap B).filter (λk=>decide (F k=o+i))=B z
 | [],_,_,_,_,e=>by simp at e
 | a::zs,o,h,0,z,e=>by
  have e:=by simpa using e
  rw[Q4,QI,e,Qw.mpr λk hk=>decide_eq_true (h 0 z (by rw[e];rfl) k hk),List.filter_eq_nil_iff.mpr,Qk];intro k hk;obtain⟨b,hb,hk⟩:=QH.mp hk;obtain⟨i,hi,rfl⟩:=yH hb;have:=h (i+1) _ (by simp_all) k hk;rw[decide_eq_true_eq]
  lia
 | a::zs,o,h,i+1,z,e=>by
  have ih:=flt F B zs (o+1) (λi z e k hk=>by have:=h (i+1) z (by grind) k hk;lia) i z e;rw[Q4,QI,List.filter_eq_nil_iff.mpr,<-ih]
  ·grind
  ·intro k hk;have:=h 0 a rfl k hk;rw[decide_eq_true_eq]
   lia
theorem xh {α β:Type}{F:β->Nat}{B:α->List β}{zs:List α} (h:∀(i:Nat) z,zs[i]?=some z->∀k∈B z,F k=i) {i:Nat} {z:α} (e:zs[i]?=some z):(zs.flatMap B).filter (λk=>decide (F k=i))=B z:=by
 have:=flt F B zs 0 (λi z e k hk=>by grind) i z e;rwa [Q7] at this
structure uC (ys:List JG) (ks:List JM):Prop where
 pm:ks.Perm (ui ys)
 so:(ks.map kP).Pairwise λa b=>lx b a=false
theorem bV (z:Str) (n:Nat):((VG z n).map kP).Pairwise λa b=>lx b a=false:=by
 unfold VG;rw[yq];refine QB.mpr (List.pairwise_lt_range.imp λ{a b} h=>?_);show (if (Yr z)=Yr z then (if (Yh _)=Yh _ then lx _ _ else V3 (Yh<|b) (Yh<|a)) else V3 _ _)=false;rw[if_pos rfl];split
 ·rfl
 ·exact decide_eq_false gt
section
variable {xs:List Jx}{ys:List JG}{ks:List JM}
theorem AN (G:uY xs ys) (S:uC ys ks) {i:Nat} {x:Jx} (h:xs[i]?=some x):ks.filter (λk=>decide (fP xs k=i))=x.pins:=by
 have p:=((S.pm.trans G.pm).filter _).trans (.of_eq (xh (λi z e k hk=>kU G.names e hk) h));exact (Y9 λ_ _ e=>Kb e).mp (vE (p.map kP) (S.so.sublist<|List.filter_sublist.map kP)<|bV _ _)
theorem iC (G:uY xs ys) (S:uC ys ks) {j:Nat} {y:JG} (h:ys[j]?=some y):(ks.filter λk=>decide (fN ys k=j)).Perm y.2 :=
 (S.pm.filter _).trans (.of_eq (xh (λi z e k hk=>dJ G e hk) h))
theorem KH (G:uY xs ys) (S:uC ys ks) {i:Nat} {x:Jx} (h:xs[i]?=some x):(Vf xs ys ks)[i]?=some (x.pins.map<|fN ys):=by
 unfold Vf;rw[ye,QN (yc.mp h).1,QX,AN G S h]
theorem kT {j:Nat} (h:j<ys.length):(vZ xs ys ks)[j]?=some ((ks.filter λk=>decide (fN ys k=j)).map λk=>(fP xs k,k.2.toNat)):=by
 unfold vZ;rw[ye,QN h]
 rfl
theorem gR:(Vf xs ys ks).length=xs.length:=by unfold Vf;simp
theorem gb:(vZ xs ys ks).length=ys.length:=by unfold vZ;simp
theorem ie (S:uC ys ks) {k:JM} (h:k∈ks):∃(j:Nat) (y:JG),ys[j]?=some y/\k∈y.2:=by
 obtain⟨y,hy,hk⟩:=QH.mp<|S.pm.mem_iff.mp h;obtain⟨j,hj,rfl⟩:=yH hy;exact#[j,_,yb hj,hk]
theorem KN (G:uY xs ys) (S:uC ys ks) {k:JM} (h:k∈ks):∃(i:Nat) (x:Jx),xs[i]?=some x/\k∈x.pins:=by
 obtain⟨y,hy,hk⟩:=QH.mp<|G.pm.mem_iff.mp<|S.pm.mem_iff.mp h;obtain⟨j,hj,rfl⟩:=yH hy;exact#[j,_,yb hj,hk]
theorem eB (G:uY xs ys) (S:uC ys ks) {i:Nat} {x:Jx} (h:xs[i]?=some x) {k:JM} (hk:k∈x.pins):k∈ks :=
 S.pm.mem_iff.mpr (G.pm.mem_iff.mpr<|QH.mpr #[x,yh h,hk])
theorem rP (G:uY xs ys) (S:uC ys ks) {k:JM} (h:k∈ks):fN ys k<ys.length:=by
 obtain⟨j,y,e,hk⟩:=ie S h;rw[dJ G e hk];exact (yc.mp e).1
theorem AU (G:uY xs ys) (S:uC ys ks) {k:JM} (h:k∈ks):fP xs k<xs.length:=by
 obtain⟨j,y,e,hk⟩:=KN G S h;rw[kU G.names e hk];exact (yc.mp e).1
theorem i4 (G:uY xs ys) (S:uC ys ks):ks.length<64:=by
 rw[S.pm.length_eq];exact G.tl
theorem aJ (G:uY xs ys) (S:uC ys ks):(UZ xs ys ks).ok:=by
 have hl:(hsOf xs).length=xs.length:=by unfold hsOf;rw[ya]
 refine#[by show (hsOf xs).length<=8;rw[hl];exact G.few,by show (Vf xs ys ks).length=(hsOf xs).length;rw[hl,gR],by show (vZ xs ys ks).length<=24;rw[gb];exact G.few2,λl DU=>?_,λl DU=>?_]
 ·obtain⟨i,hi,e⟩:=yH (show l∈Vf xs ys ks from DU);rw[gR] at hi;have ex:=yb hi;have e2:=KH G S ex;rw[yb (by rw[gR];exact hi),e] at e2;cases e2;refine#[?_,λn hn=>?_]
  ·rw[ya,G9];exact yk (G.parts _<|yz hi).m8 ac
  ·obtain⟨k,hk,rfl⟩:=yi.mp hn;show _<(vZ xs ys ks).length;rw[gb];exact rP G S (eB G S ex hk)
 ·obtain⟨j,hj,rfl⟩:=yi.mp<|DU;refine#[?_,λp hp=>?_]
  ·rw[ya];exact yG (Q0 _ _) (i4 G S)
  ·obtain⟨k,hk,rfl⟩:=yi.mp hp;show fP xs k<(hsOf xs).length;rw[hl];exact AU G S (Qx.mp hk).1
theorem aK (G:uY xs ys) (S:uC ys ks):(UZ xs ys ks).wf:=by
 have key:∀{k:JM} {i q:Nat},k∈ks->fP xs k=i->k.2.toNat=q->∃x,xs[i]?=some x/\q<x.many/\k=(x.name,(q:Int)):=λ{k i q} hk e1 e2=>by
  obtain⟨i',x,ex,hx⟩:=KN G S hk;have:=kU G.names ex hx;obtain⟨q',hq,rfl⟩:=Zx hx;have z:q'=q:=e2;exact#[x,by rw[<-e1,this];exact ex,by rw[<-z];exact hq,by rw[z]]
 refine#[λi x h=>?_,λi l q j h1 h2=>?_,λj e i q h1 h2=>?_,λe he=>?_]
 ·have h:(hsOf xs)[i]?=some x:=h;unfold hsOf at h;obtain⟨y,ey,rfl⟩:=gm h;exact#[_,KH G S ey,by rw[ya,G9]]
 ·have h1:(Vf xs ys ks)[i]?=some l:=h1;have hi:i<xs.length:=by rw[<-gR];exact (yc.mp h1).1
  have ex:=yb hi;rw[KH G S ex] at h1;cases h1;have hq:=by have:=(yc.mp h2).1;rwa [ya,G9] at this
  rw[ye,G8 hq] at h2;have h2:=Yd h2;have hk:=yh<|G8 hq;have hj:j<ys.length:=by rw[<-h2];exact rP G S (eB G S ex hk)
  exact#[_,kT hj,yi.mpr #[_,Qx.mpr #[eB G S ex hk,decide_eq_true h2],by rw[kU G.names ex hk];rfl]]
 ·have h1:(vZ xs ys ks)[j]?=some e:=h1;have hj:j<ys.length:=by rw[<-gb];exact (yc.mp h1).1
  rw[kT hj] at h1;cases h1;obtain⟨k,hk,ek⟩:=yi.mp h2;obtain⟨k1,k2⟩:=Qx.mp hk;injection ek with e1 e2
  obtain⟨x,ex,hq,rfl⟩:=key k1 e1 e2;refine#[_,KH G S ex,?_];rw[ye,G8 hq];exact congrArg some (of_decide_eq_true k2)
 ·obtain⟨j,hj,rfl⟩:=yi.mp<|he;have hj:=yI.mp hj;have ey:=yb hj;have ne:=(G.nets _<|yz hj).2;intro z;have z:=List.map_eq_nil_iff.mp z;have:=(iC G S ey).length_eq;rw[z] at this;exact ne (Y3 this.symm)
theorem Ak (G:uY xs ys) (S:uC ys ks) {j:Nat} {y:JG} (h:ys[j]?=some y):∃e,(UZ xs ys ks).es[j]?=some e/\e.Perm (y.2.map λk=>(fP xs k,k.2.toNat)) :=
 #[_,kT (yc.mp h).1,(iC G S h).map _]
end
theorem kR {tv:TE}{a0 a1 a2 a3 a4 a5 a6:Option V}{a:Addr}{H:Hp} (hv:∀Q':VK,Q' (.ref a) H->tv [a0,a1,a2,a3,a4,a5,a6] H Q') (ha:H a=some (.dK Dx))
  (q:∀(D:Addr) (vs:Di) (H':Hp),Same H H'->H D=none->H' D=some (.lst<|vs.map V.ref)->vs.length=Dx.length->vs.Nodup->(∀v∈vs,A3 (H v=none) (v≠D)<|H' v=some (.lst []))->Q (.ref D) H') :
  oX P w (KD (iN P w tv) 1 (UW 7) (λ_ H Q=>Q true H)<|re aV) [a0,a1,a2,a3,a4,a5,a6] H Q:=by
 refine hv _ #[a,Dx,rfl,ha,λo F=>?_];have back:∀{b},upd H a _ b=none->H b=none:=λ{b} hb=>by
  by_cases z:b=a
  ·rw[z,F.e] at hb;cases hb
  ·rwa [jC z] at hb
 refine pQ F (λD i ys H'=>∃vs:List Addr,A7 (ys=vs.map V.ref) (vs.length=i) (Same _ H') _ (H' D=some (.lst ys)) vs.Nodup (∀v∈vs,A3 (upd H a (vz a o) v=none) (v≠D)<|H' v=some (.lst []))) (λD hD=>#[_,rfl,rfl,jh (Same.refl _) hD,hD,jc,yZ,λv h=>nomatch h]) (λD i ys H' #[vs,h1,h2,h3,h4,h5,h6,h7]=>#[h5,by grind,h3 _ _ F.e]) ?_ ?_
 ·rintro D i kv ys H' Qy Qn Hr ⟨vs,rfl,hl,s1,hD,eD,nd,Hz⟩ hy hn;refine#[#[_,rfl,rfl],Jm #[vR,λb hb=>?_]];have s2:=jh (o:=.lst []) (Same.refl H') hb;have e2:upd H' b _ b=some (.lst []):=jc;have nD:b≠D:=λz=>by rw[z,eD] at hb;cases hb
  refine hy _ _ (s2 _ _ eD) #[vs++[b],by rw[yd];rfl,by grind,jK (Same.trans s1 s2) hD,hD,jc,?_,λv hv=>?_]
  ·refine y8.mpr #[nd,yO.mpr #[yS,yZ],λx hx y hy e=>?_];obtain⟨_,_,e3⟩:=Hz x hx;rw[e,yp.mp hy,hb] at e3;cases e3
  ·rcases yB.mp hv with h|h
   ·obtain⟨g1,g2,g3⟩:=Hz v h;exact#[g1,g2,jy g2<|s2 _ _ g3]
   ·rw[yp.mp h];exact#[Same.nn s1 hb,nD,jy nD e2]
 ·rintro D ys H' hD ⟨vs,rfl,hl,s1,OZ,eD,nd,Hz⟩;have ea:=s1 _ _ F.e;have Da:D≠a:=λz=>by rw[z,F.e] at hD;cases hD
  refine#[a,o,Dx,#[ea,F.hm,F.dr,F.hz],q D vs _ (λb u e=>?_) (back hD) (jy Da eD) hl nd λv hv=>?_]
  ·by_cases z:b=a
   ·rw[z,ha] at e;cases e;rw[z];exact jc
   ·rw[jC z];exact s1 _ _ (jy z e)
  ·obtain⟨g1,g2,g3⟩:=Hz v hv;have va:v≠a:=λz=>by rw[z,F.e] at g1;cases g1
   exact#[back g1,g2,jy va g3]
theorem Uo.trans {o:Addr}{H H2:Hp} (a:Uo o H H1) (b:Uo o H1 H2):Uo o H H2:=λx u n e=>b x u n (a x u n e)
theorem Uo.of {o:Addr}{H:Hp} (a:Same H H1):Uo o H H1:=λx u _ e=>a x u e
theorem Uo.put {o:Addr}{H:Hp}{u:HO}:Uo o H (upd H o u):=λx v n e=>by rw[jC n];exact e
theorem Uo.nn {o b:Addr}{H:Hp}{v:HO} (a:Uo o H H1) (n:H1 o=some v) (h:H1 b=none):H b=none:=by
 cases e:H b with
 | none=>rfl
 | some u =>
  by_cases z:b=o
  ·rw[z,n] at h;cases h
  ·rw[a _ _ z e] at h;cases h
theorem xg (h w e:Addr):Jz "ends" (.ref e) (Jz "wires" (.ref w)<|Jz "heads" (.ref h) [])=fS h w e:=by kernel_rfl
def Mg (xs:List Jx):List Key:=xs.map λx=>.inr x.name
def Ma (ys:List JG):List Key:=ys.map λy=>.inr y.1
theorem Nu {α β:Type} (F:α->Nat) (g:α->β) (n:Nat) (pre:List α) (k:α):((Yc n).map λi=>((pre++[k]).filter λk'=>decide (F k'=i)).map g)=((Yc n).map λi=>(pre.filter λk'=>decide (F k'=i)).map g).set (F k) ((pre.filter λk'=>decide (F k'=F k)).map g++[g k]):=by
 refine y7 on λi h1 h2=>?_;rw[List.getElem_set,yQ,yQ,QI];split
 ·grind
 ·grind
theorem dw {vs:Di} (nd:vs.Nodup) {i j:Nat} {v u:Addr} (h1:vs[i]?=some v) (h2:vs[j]?=some u) (n:j≠i):u≠v:=λz=>by
 obtain⟨a,ea⟩:=yc.mp h1;obtain⟨b,eb⟩:=yc.mp h2;exact n (Kj nd b a (by rw[ea,eb,z]))
theorem Uc.put {H:Hp}{vs:Di}{ws:List (List Nat)} (W:Uc H vs ws) (nd:vs.Nodup) {i:Nat} {v:Addr} {l:List Nat} (h1:vs[i]?=some v) (n:Nat):Uc (upd H v (.lst ((l.map λn=>V.int (n:Nat))++[.int (n:Nat)]))) vs (ws.set i<|l++[n]):=by
 refine#[by rw[aap];exact W.1,λj u m e1 e2=>?_];by_cases z:j=i
 ·subst z;rw[h1] at e1;cases e1;rw[QR (by grind)] at e2;cases e2;rw[jc,yd]
  rfl
 ·rw[Q5<|yV z] at e2;rw[jC<|dw nd h1 e1 z];exact W.2 j u m e1 e2
theorem Uc.off {H:Hp}{vs:Di}{ws:List (List Nat)} (W:Uc H vs ws) {v:Addr} {o:HO} (h:v ∉ vs):Uc (upd H v o) vs ws :=
 #[W.1,λj u m e1 e2=>jy (show u≠v from λz=>h<|z▸yh e1)<|W.2 j u m e1 e2]
theorem Uc.same {H H':Hp}{vs:Di}{ws:List (List Nat)} (W:Uc H vs ws) (s:Same H H'):Uc H' vs ws:=#[W.1,λj u m e1 e2=>s _ _<|W.2 j u m e1 e2]
theorem Ju.same {H H':Hp}{vs:Di}{ws:Pi} (W:Ju H vs ws) (s:Same H H'):Ju H' vs ws:=#[W.1,λj u m e1 e2=>let ⟨us,a,b⟩:=W.2 j u m e1 e2;#[us,s _ _ a,KeyAt.mono' b s]]
theorem Ju.off {H:Hp}{vs:Di}{ws:Pi} (W:Ju H vs ws) {v:Addr} {o:HO} (h:v ∉ vs) (e:H v=some (.lst zs)):Ju (upd H v o) vs ws :=
 #[W.1,λj u m e1 e2=>let ⟨us,a,b⟩:=W.2 j u m e1 e2;#[us,jy (show u≠v from λz=>h<|z▸yh e1) a,b.wr e]]
theorem Ju.put {H:Hp}{vs:Di}{ws:Pi} (W:Ju H vs ws) (nd:vs.Nodup) {i:Nat} {v u0:Addr} {us:Di} {l:Ps} {x:Nat×Nat} (h1:vs[i]?=some v) (e:H v=some (.lst<|us.map V.ref)) (ka:KeyAt H us (l.map kE)) (eu:H u0=some (.tup<|(kE x).map kV)):Ju (upd H v<|.lst<|us.map V.ref++[.ref u0]) vs (ws.set i<|l++[x]):=by
 refine#[by rw[aap];exact W.1,λj u m e1 e2=>?_];by_cases z:j=i
 ·subst z;rw[h1] at e1;cases e1;rw[QR (by grind)] at e2;cases e2;refine#[us++[u0],by rw[jc,yd];rfl,?_];rw[yd];exact (JL ka eu).wr e
 ·rw[Q5<|yV z] at e2;obtain⟨R0,a,b⟩:=W.2 j u m e1 e2;exact#[R0,jy (dw nd h1 e1 z) a,b.wr e]
structure B4 (H H':Hp) (C o dx pd nd hl wl el:Addr) (us vs ls:Di) (xs:List Jx) (ys:List JG):Prop where
 but:Uo o H H'
 ho:H' o=some (.ins C dx<|fS hl wl el)
 hpd:H' pd=some (.dK<|vO<|Mg xs)
 hnd:H' nd=some (.dK<|vO<|Ma ys)
 hhl:H' hl=some (.lst<|us.map V.ref)
 ku:KeyAt H' us ((hsOf xs).map kH)
 hwl:H' wl=some (.lst<|vs.map V.ref)
 lv:vs.length=xs.length
 hel:H' el=some (.lst<|ls.map V.ref)
 ll:ls.length=ys.length
 ev:∀v∈vs++ls,A5 (H v=none) (H' v=some (.lst [])) (v≠hl) (v≠wl) (v≠el)
 un:(vs++ls).Nodup
def AA (C CD:Addr):Sp:=λvs H Q _=>E8 λ(o dx dr:Addr) (ps ns ls:Di) (xs:List Jx) (ys:List JG)=>A5 (vs=[.ref o,.ref dr]) (H o=some (.ins C dx [])) (Dr H CD dr ps ns ls xs ys) (uY xs ys)
 (∀ks H',Uo o H H'->uC ys ks->UA H' C o (UZ xs ys ks)->Q .non H')
theorem ma (T:Txt K mg t):MU P w K mg base 6 "Sketch" t.Jj [LE,YN] (AA t.Jj t.jS):=by
 refine T.Ml.ok T.qc [LE,YN,IN,PP,EQ,FB,SZ] ?_;rintro _ H Q E ⟨o,dx,dr,ps,ns,ls,xs,ys,rfl,ho,D,G,kQ⟩;refine#[rfl,λDF A outer s hr=>#[_,(jf (jt 2 (jq (Gy T) (ja (jT (kJ rfl) (by rfl) T.Uj Ug<|ja (uM<|pv 1) jb) jb))) (jf (jt 3 (jq (Gy T) (ja (jT (kJ rfl) (by rfl) T.Uj Ug<|ja (gF (fe<|ZW T)<|pv 1) jb) jb))) (jf (zd (pv 0) (jT (dD rfl) (by rfl) T.Uj Ug<|ja (xQ PySem.F.plainAttrs_dict aaM PySem.F.type_dict_values lH<|uM<|pv 1) jb) rfl) (jf (zd (pv 0) (ar (vx (N0:=[LE,YN,IN,PP,".part",FB,SZ]) (own:=[EQ]) (JW (cl:=[])) (au rfl<|pv 2) (λ_ _ _ _ _=>jl 7) (λ_ _ _ _ _=>j4) (λ_ _ _ _ _=>(jY jb)))) rfl) (jf (zd (pv 0) (ar (vx (N0:=[LE,YN,IN,PP,EQ,".net",SZ]) (own:=[FB]) (JW (cl:=[])) (au rfl<|pv 3) (λ_ _ _ _ _=>jl 7) (λ_ _ _ _ _=>j4) (λ_ _ _ _ _=>(jY jb)))) rfl)<|jk<|j0 jR (jN<|gF (fe<|zv T)<|pv 1) (jl 6)<|jf (jt 4<|Ud (pv 2)<|jo jz (pv 6) jg)<|jf (jt 5<|Ud (pv 3)<|aq (pv 1) (Gj T)<|ja (pv 6) jb)<|jf (Jd<|j3 Ya Yg Yf Jb (jo jx (uM<|pv 0)<|pv 4)<|ja (pv 5) jb)<|jk<|Jd<|j3 Ya Yg Yf Jb (jo jx (uM<|pv 0)<|pv 5)<|ja (jL<|ja (pv 4)<|ja (jo jz (pv 6) jg) jb) jb))))),?_]];obtain⟨IM,pl,Wc,kd,jn,Dx,d1,d2,d3,d4,d5,d6⟩:=D.ex;have LJ:(Mg xs).Nodup:=by
  have:Mg xs=(xs.map (·.name)).map Yr:=by rw[yq];rfl
  rw[this];exact UF G.names λa _ b _ e=>Yw e
 have We:(Ma ys).Nodup:=by
  have:Ma ys=(ys.map (·.1)).map Yr:=by rw[yq];rfl
  rw[this];exact UF G.names2 λa _ b _ e=>Yw e
 have lP:(Mg xs).length=xs.length:=by unfold Mg;rw[ya]
 have lN:(Ma ys).length=ys.length:=by unfold Ma;rw[ya]
 have f1:=G.few;have f2:=G.few2;refine u7 (λ(pd)=>[oR o,oR dr,oR pd,none,none,none,none]) (λpd H'=>A3 _ _ _) (λB hB=>#[dr,_,IM,_,_,rfl,d1,T.Jh,T.vw,rfl,kd,Dx,rfl,d5,λl hl=>.k l _ rfl (by rw[jc];unfold Mg;rw[<-d6.1,yq];rfl) LJ gt λD H' s' hD eD=>hB D H' #[Same.trans (jh (Same.refl H) hl) s',Same.nn (jh (Same.refl H) hl) hD,eD]]) ?_;rintro pd H1 ⟨s1,hpd,Wf⟩;refine u7 (λ(nd)=>[oR o,oR dr,oR pd,oR nd,none,none,none]) (λnd H'=>A3 _ _ _) (λB hB=>#[dr,IM,_,rfl,s1 _ _ d1,rfl,dr,ps,ns,ls,xs,ys,rfl,D.same s1,G,λZ kz H2 s2 hZ eZ kk=>#[Z,kz,rfl,eZ,λl hl=>.k l _ rfl (by rw[jc];unfold Ma;rw[<-kk,yq];rfl) We gt λD H' s' hD eD=>hB D H' #[Same.trans s2<|Same.trans (jh (Same.refl H2) hl) s',Same.nn (Same.trans s2<|jh (Same.refl H2) hl) hD,eD]]]) ?_;rintro nd H2 ⟨s2,hnd,end_⟩;have DN:=Same.trans s1 s2;have lk:=by have:=congrArg Ys d6.1;rwa [ya,ya] at this
 have Wg:=d6.same DN;obtain⟨us,f₁,Wh⟩:∃us:List Addr,Dx.map (·.2)=us.map V.ref/\KeyAt H2 us ((hsOf xs).map kH):=by
  have hv:∀kv∈Dx,∃u,kv.2=V.ref u:=λkv hk=>by
   obtain⟨i,hi,rfl⟩:=yH hk;obtain⟨u,e,_⟩:=Wg.2 i _ _ (yb hi) (yb (by rw[<-lk];exact hi));exact#[u,e]
  refine#[Dx.map λkv=>match kv.2 with|.ref u=>u|_=>0,?_,?_,?_]
  ·rw[yq];refine yT λkv hk=>?_;obtain⟨u,e⟩:=hv kv hk;show kv.2=V.ref (match kv.2 with|.ref u=>u|_=>0);rw[e]
  ·unfold hsOf;rw[ya,ya,ya,lk]
  ·intro i u c h1 h2;unfold hsOf at h2;rw[yq,ye] at h2;obtain⟨kv,e1,rfl⟩:=gm h1;obtain⟨x,e2,rfl⟩:=yr.mp h2;obtain⟨u,e,h⟩:=Wg.2 i _ _ e1 e2;rw[e];exact h
 have Ei:=DN _ _ ho;have R5:=DN _ _ d5;refine u7 (λ(hl)=>[oR o,oR dr,oR pd,oR nd,none,none,none]) (λhl H'=>A4 (Uo o H2 H') (H' o=some (.ins t.Jj dx<|Jz "heads" (.ref hl) [])) (H2 hl=none)<|H' hl=some (.lst<|us.map V.ref)) (λB hB=>#[dr,_,IM,_,_,rfl,DN _ _ d1,T.Jh,T.vw,rfl,.inr<|.inr<|.inl #[rfl,.inl #[_,R5]],kd,Dx,rfl,rfl,R5,λp hp=>?_]) ?_
 ·have s3:=jh (o:=nK p kd) (Same.refl H2) hp;have e3:upd H2 p (nK p kd) p=some (nK p kd):=jc;refine#[p,kd,Dx,rfl,e3,s3 _ _ R5,λl hl=>?_];have s4:=jh (o:=.lst<|Dx.map (·.2)) s3 hl;have e4:upd (upd H2 p<|nK p kd) l (.lst<|Dx.map (·.2)) l=some (.lst<|us.map V.ref):=by rw[jc,f₁]
  have no:l≠o:=λz=>by rw[z,s3 _ _ Ei] at hl;cases hl
  exact#[o,_,dx,_,rfl,s4 _ _ Ei,T.Uh,T.zu,by decide,hB l _ #[(Uo.of s4).trans .put,jc,Same.nn s3 hl,jy no e4]]
 rintro hl H3 ⟨b3,Fq,hhl,Wl⟩;have no:∀{q:Addr} {u:HO},H2 q=some u->(∀C dx fs,u≠.ins C dx fs)->q≠o:=λe n=>j9 e Ei<|n _ _ _;have Ln:∀{q:Addr} {u:HO},H2 q=some u->(∀C dx fs,u≠.ins C dx fs)->H3 q=some u:=λe n=>b3 _ _ (no e n) e;have R6:=Ln (s2 _ _ Wf) (by intro _ _ _ z;cases z);have end3:=Ln end_ (by intro _ _ _ z;cases z);refine z8 (λ(wl) (vs:Di)=>[oR o,oR dr,oR pd,oR nd,none,none,none]) (λwl vs H'=>A7 (Uo o H3 H') (H' o=some (.ins t.Jj dx<|Jz "wires" (.ref wl)<|Jz "heads" (.ref hl) [])) (H3 wl=none) (H' wl=some (.lst<|vs.map V.ref)) (vs.length=xs.length) vs.Nodup (∀v∈vs,A3 (H3 v=none) (v≠wl)<|H' v=some (.lst []))) (λB hB=>?_) ?_
 ·unfold uV qR;refine kR (λQ' h=>h) R6 λD vs H' s' hD eD lv nv hv=>?_;have nD:D≠o:=λz=>by rw[z,Fq] at hD;cases hD
  refine#[o,_,dx,_,rfl,s' _ _ Fq,T.Uh,T.vN,(by show (1)<1000;decide),hB D vs _ #[(Uo.of s').trans .put,jc,hD,jy nD eD,by rw[lv,<-ya,Vo,lP],nv,λv h=>?_]];obtain⟨g1,g2,g3⟩:=hv v h;exact#[g1,g2,by rw[jC (λz=>by rw[z,Fq] at g1;cases g1)];exact g3]
 rintro wl vs H4 ⟨b4,Pb,hwl,Pc,lv,nv,hv⟩;have R7:=b3.trans b4;have O1:∀{q:Addr} {u:HO},H2 q=some u->(∀C dx fs,u≠.ins C dx fs)->H4 q=some u:=λe n=>R7 _ _ (no e n) e;refine ZT (λ(el) (es) (_:Unit)=>[oR o,oR dr,oR pd,oR nd,none,none,none]) (λel es _ H'=>B4 H H' t.Jj o dx pd nd hl wl el us vs es xs ys) (λB hB=>?_) ?_
 ·unfold uV qR;refine kR (λQ' h=>h) (O1 end_ (by intro _ _ _ z;cases z)) λD es H' s' hD eD le ne he=>?_;have nD:D≠o:=λz=>by rw[z,Pb] at hD;cases hD
  have Wm:Uo o H2 (upd H' o<|.ins t.Jj dx<|Jz "ends" (.ref D)<|Jz "wires" (.ref wl)<|Jz "heads" (.ref hl) []):=R7.trans<|(Uo.of s').trans .put;have Hs:∀{q:Addr} {u:HO},H2 q=some u->(∀C dx fs,u≠.ins C dx fs)->upd H' o _ q=some u:=λe n=>Wm _ _ (no e n) e;have vo:∀{v},H4 v=none->v≠o:=λ{v} h z=>by rw[z,Pb] at h;cases h
  have P0:hl≠o:=λz=>by rw[z,Ei] at hhl;cases hhl
  have f₂:wl≠o:=λz=>by rw[z,Fq] at hwl;cases hwl
  have Oy:=b4 _ _ P0 Wl;have o3:∀{v},H3 v=none->v≠o:=λ{v} h z=>by rw[z,Fq] at h;cases h
  refine#[o,_,dx,_,rfl,s' _ _ Pb,T.Uh,T.UY,(by show (2)<1000;decide),hB D es () _ #[(Uo.of DN).trans Wm,by rw[jc,xg],Hs (s2 _ _ Wf) (by intro _ _ _ z;cases z),Hs end_ (by intro _ _ _ z;cases z),jy P0<|s' _ _ Oy,#[Wh.1,λi b k h1 h2=>Hs (Wh.2 i b k h1 h2) (by intro _ _ _ z;cases z)],jy f₂<|s' _ _ Pc,lv,jy nD eD,by rw[le,<-ya,Vo,lN],λv h=>?_,?_]]
  ·rcases yB.mp h with h|h
   ·obtain⟨g1,g2,g3⟩:=hv v h;refine#[(Uo.of DN).trans b3 |>.nn Fq g1,jy (o3 g1)<|s' _ _ g3,(λz=>by rw[z,Wl] at g1;cases g1),g2,(λz=>by rw[z,hD] at g3;cases g3)]
   ·obtain⟨g1,g2,g3⟩:=he v h;refine#[(Uo.of DN).trans R7 |>.nn Pb g1,jy (vo g1) g3,(λz=>by rw[z,Oy] at g1;cases g1),(λz=>by rw[z,Pc] at g1;cases g1),g2]
  ·refine y8.mpr #[nv,ne,λx hx y hy e=>?_];obtain⟨_,_,g3⟩:=hv x hx;obtain⟨g1,_,_⟩:=he y hy;rw[e,g1] at g3;cases g3
 rintro el es _ H5 S5;have i₁:∀{b:Addr} {u:HO},H b=some u->b ∉ vs++es:=λ{b u} e z=>by rw[(S5.ev b z).1] at e;cases e
 have R8:∀{b:Addr} {u:HO},H b=some u->(∀C dx fs,u≠.ins C dx fs)->b≠o:=λe n=>j9 e ho<|n _ _ _;have i₂:dr≠o:=λz=>by
  rw[z,ho] at d1;have:=HO.ins.inj<|Yd d1;exact absurd this.2.2 (by intro z;cases z)
 have Pd:=S5.but _ _ i₂ d1;have R9:=S5.but _ _ (R8 d4 (by intro _ _ _ z;cases z)) d4;refine#[dr,IM,_,rfl,Pd,rfl,dr,IM,pl,Wc,kd,jn,ys,rfl,Pd,R9,G.tl,λl bs kk H6 s6 DU Wn KA pm so=>?_];obtain⟨kp,o₁⟩:∃kp:List JM,kk=kp.map kP:=#[kk.map AM,by
  rw[yq];refine ((yT λk hk=>?_).trans<|aag kk).symm;obtain⟨x,_,rfl⟩:=yi.mp (pm.mem_iff.mp hk)
  rfl]
 subst o₁;have Sr:uC ys kp:=#[t0 pm,so];have lb:=Ut KA;have kf:=i4 G Sr;have Sa:=λv hv=>s6 _ _ (S5.ev v hv).2;have Eg:∀{b:Addr} {u:HO},H6 b=some u->u≠.lst _->b ∉ vs++es:=λ{b u} e n z=>by rw[Sa b z] at e;exact n (Yd e).symm
 have off:∀{b:Addr},(∀v∈vs++es,v≠b)->b ∉ vs++es:=λ{b} h z=>h b z rfl;have nl:=off λv hv z=>by have:=(S5.ev v hv).2;rw[z,DU] at this;cases this
 have o₂:=off λv hv=>(S5.ev v hv).3;have Wo:=off λv hv=>(S5.ev v hv).4;have Sb:=off λv hv=>(S5.ev v hv).5;have Se:=(y8.mp S5.un).1;have p₁:=(y8.mp S5.un).2.1;have Wq:=(y8.mp S5.un).2.2;refine#[l,rfl,#[_,jj.of Wn],uJ (λi σ H'=>E3 λ(v4 v5 v6)=>A4 (σ=[oR o,oR dr,oR pd,oR nd,v4,v5,v6]) (∀b u,b ∉ vs++es->H6 b=some u->H' b=some u) (Uc H' vs<|Vf xs ys<|kp.take i)<|Ju H' es<|vZ xs ys<|kp.take i) #[_,_,_,rfl,λ_ _ _ e=>e,?_,?_] (λi σ H' _ h=>by obtain⟨_,_,_,_,e,_⟩:=h;exact jj.of<|e _ _ nl Wn) ?_ ?_]
 ·refine#[by rw[gR];exact S5.lv,λi v l h1 h2=>?_];obtain⟨j,_,e⟩:=yi.mp<|yh h2;rw[<-e];exact Sa v (y9 _<|yh h1)
 ·refine#[by rw[gb];exact S5.ll,λi v l h1 h2=>?_];obtain⟨j,_,e⟩:=yi.mp<|yh h2;rw[<-e];exact#[[],Sa v<|yA _<|yh h1,rfl,λi b k h=>nomatch h]
 ·rintro i x σ H7 hx ⟨v4,v5,v6,rfl,EH,W7,HQ⟩;obtain⟨p,ep,rfl⟩:=gm hx;have hi:i<kp.length:=by rw[<-lb];exact (yc.mp ep).1
  have ek:=yb hi;have hk:=yz hi;have tp:H6 p=some (.tup [.str _,.int _]):=KA.2 i p (kP _) ep (by rw[ye,ek];rfl);generalize kp[i]=k at ek hk tp;have Ws:=EH _ _ (Eg tp (λz=>nomatch z)) tp;obtain⟨i1,x1,Sf,EX⟩:=KN G Sr hk;obtain⟨j1,y1,Lu,Rw⟩:=ie Sr hk;have eP:=kU G.names Sf EX;have eN:=dJ G Lu Rw;obtain⟨p₂,nv2⟩:=NX G Lu Rw;have q0:0<=k.2:=by obtain⟨q,_,rfl⟩:=Zx EX;exact Int.natCast_nonneg q
  have kx:k.1=x1.name:=by obtain⟨q,_,rfl⟩:=Zx EX;rfl
  have pP:(Mg xs)[i1]?=some (.inr k.1):=by unfold Mg;rw[ye,Sf,kx];rfl
  have pN:(Ma ys)[j1]?=some (.inr y1.1):=by unfold Ma;rw[ye,Lu];rfl
  have q₁:=EH _ _ (Eg (s6 _ _ S5.hpd) (λz=>nomatch z))<|s6 _ _ S5.hpd;have q₂:=EH _ _ (Eg (s6 _ _ S5.hnd) (λz=>nomatch z))<|s6 _ _ S5.hnd;have Wt:=EH _ _ (Eg (s6 _ _ Pd) (λz=>nomatch z))<|s6 _ _ Pd;have r₁:=EH _ _ (Eg (s6 _ _ R9) (λz=>nomatch z))<|s6 _ _ R9;have r₂:=EH _ _ (Eg (s6 _ _ S5.ho) (λz=>nomatch z))<|s6 _ _ S5.ho;have t₁:=EH _ _ Wo<|s6 _ _ S5.hwl;have el7:=EH _ _ Sb<|s6 _ _ S5.hel;refine#[_,_,ju.of Ws,rfl,pd,_,rfl,by rw[<-GZ LJ pP];exact JX.k (k:=.inr _) q₁,JO ?_];refine#[dr,IM,_,rfl,Wt,rfl,dr,IM,pl,Wc,kd,jn,p,k,_,_,rfl,Wt,r₁,Ws,p₂,nd,_,rfl,by rw[<-GZ We pN];exact JX.k (k:=.inr _) q₂,JO ?_];have Wu:=(yc.mp Sf).1;have Wv:=(yc.mp Lu).1;have vi:i1<vs.length:=by rw[S5.lv];exact Wu
  have ei:j1<es.length:=by rw[S5.ll];exact Wv
  have ev:=yb vi;have ee:=yb ei;have vm:=yz vi;have em:=yz ei;generalize vs[i1]=v at ev vm;generalize es[j1]=e1 at ee em;have gw:(Vf xs ys<|kp.take i)[i1]?=some (((kp.take i).filter λk'=>decide (fP xs k'=i1)).map<|fN ys):=by unfold Vf;rw[ye,QN Wu];rfl
  have Sg:=W7.2 i1 v _ ev gw;have lf:∀(f:JM->Bool),((kp.take i).filter f).length<=64:=λf=>yk (Q0 _ _) (yk (List.length_take_le _ _) gt);refine u7 (λ(_)=>[oR o,oR dr,oR pd,oR nd,some _,some _,oR p]) (λ_ H'=>A3 (∀b u,b ∉ vs++es->H6 b=some u->H' b=some u) (Uc H' vs<|Vf xs ys<|kp.take<|i+1)<|Ju H' es<|vZ xs ys<|kp.take i) (λB hB=>#[o,_,dx,_,_,rfl,r₂,T.Uh,T.vN,rfl,_,.ref v,jj.of t₁,jX (by rw[ye,ev];rfl),.inl #[rfl,_,jj.of Sg],v,_,_,rfl,rfl,Sg,by rw[ya,ya];exact yG (lf _) ac,hB () _ #[λb u n e=>?_,?_,?_]]) ?_
  ·rw[jC (λz=>n (by rw[z];exact y9 _ vm))];exact EH _ _ n e
  ·rw[jA ek];have:=W7.put Se (l:=((kp.take i).filter λk'=>decide (fP xs k'=i1)).map<|fN ys) ev j1;have e2:=Nu (fP xs) (fN ys) xs.length (kp.take i) k;rw[eP,eN] at e2;unfold Vf;rw[e2];exact this
  ·exact HQ.off (λz=>Wq v vm v z rfl) Sg
  rintro _ H8 ⟨Pf,W8,Hb⟩;have ge:(vZ xs ys<|kp.take i)[j1]?=some _:=kT Wv;have t₂:=Pf _ _ (Eg tp (λz=>nomatch z)) tp;have w₁:=Pf _ _ (Eg (s6 _ _ S5.ho) (λz=>nomatch z))<|s6 _ _ S5.ho;have Ow:=Pf _ _ Sb<|s6 _ _ S5.hel;obtain⟨Ek,g1,g2⟩:=Hb.2 j1 e1 _ ee ge;refine#[o,_,dx,_,_,rfl,w₁,T.Uh,T.UY,rfl,_,.ref e1,jj.of Ow,jX (by rw[ye,ee];rfl),.inl #[rfl,_,jj.of g1],_,_,ju.of t₂,rfl,JE,λu0 w₂=>?_];have s9:=jh (o:=.tup [.int (i1:Nat),.int k.2]) (Same.refl H8) w₂;have e9:upd H8 u0 (.tup [.int (i1:Nat),.int k.2]) u0=some (.tup<|(kE (i1,k.2.toNat)).map kV):=by
   rw[jc];show _=some (HO.tup [V.int (i1:Nat),V.int (k.2.toNat:Nat)]);rw[abr q0]
  generalize upd H8 u0 (.tup [.int (i1:Nat),.int k.2])=H9 at s9 e9;have Ww:=s9 _ _ g1;have x₁:Ek.length<=64:=by have:=g2.1;rw[ya,ya] at this;rw[this];exact lf _
  refine#[e1,_,_,rfl,rfl,Ww,by rw[ya];exact yG x₁ ac,_,_,_,rfl,λb u n e=>?_,(W8.same s9).off (λz=>Wq e1 z e1 em rfl),?_]
  ·rw[jC (λz=>n (by rw[z];exact yA _ em))];exact s9 _ _ (Pf _ _ n e)
  ·rw[jA ek];have:=(Hb.same s9).put p₁ ee Ww (KeyAt.mono' g2 s9) e9;have e2:=Nu (fN ys) (λk':JM=>(fP xs k',k'.2.toNat)) ys.length (kp.take i) k;rw[eP,eN] at e2;unfold vZ;rw[e2];exact this
 ·rintro σ H7 ⟨v4,v5,v6,rfl,EH,W7,HQ⟩;rw[ya,lb,jO rfl] at W7 HQ;refine kQ kp H7 (λb u n e=>EH _ _ (i₁ e)<|s6 _ _<|S5.but _ _ n e) Sr #[dx,hl,wl,el,us,vs,es,EH _ _ (Eg (s6 _ _ S5.ho) (λz=>nomatch z))<|s6 _ _ S5.ho,EH _ _ o₂<|s6 _ _ S5.hhl,#[S5.ku.1,λi b k h1 h2=>?_],EH _ _ Wo<|s6 _ _ S5.hwl,W7,EH _ _ Sb<|s6 _ _ S5.hel,HQ];have e:=s6 _ _<|S5.ku.2 i b k h1 h2;exact EH _ _ (Eg e (λz=>nomatch z)) e
structure Dw (H:Hp) (C o:Addr) (xs:List Jx) (ys:List JG):Prop where
 ex:∃ps ns ls,Dr H C o ps ns ls xs ys
 g:uY xs ys
theorem Dw.same {H H':Hp}{o:Addr} (d:Dw H C o xs ys) (s:Same H H'):Dw H' C o xs ys:=#[let ⟨ps,ns,ls,h⟩:=d.ex;#[ps,ns,ls,h.same s],d.g]
theorem lF {H:Hp}{CD dr:Addr} (D:Dw H CD dr xs ys) {x dx:Addr} (hx:H x=none) (Sh:H dx=none) (ne:dx≠x) (q:∀ks H',Same H H'->uC ys ks->UA H' C x (UZ xs ys ks)->Q .non H'):AA C CD [.ref x,.ref dr] (upd (upd H dx<|.own x) x<|.ins C dx []) Q E:=by
 obtain⟨ps,ns,ls,d⟩:=D.ex;have s1:=jh (o:=.own x) (Same.refl H) Sh;have s2:=jh (o:=.ins C dx []) s1<|jy (yV ne) hx;exact#[x,dx,dr,ps,ns,ls,xs,ys,rfl,jc,d.same s2,D.g,λks H' b sr sk=>q ks H' (λb' u e=>b _ _ (jJ e hx)<|s2 _ _ e) sr sk]
def qU (C:Addr):Sp:=λvs H Q _=>E6 λ(o1 o2:Addr) (F5:List Jx) (HR:List JG) (Lv:List Jx) (HS:List JG)=>A4 (vs=[.ref o1,.ref o2]) (Dw H C o1 F5 HR) (Dw H C o2 Lv HS)
 (∀FT Ff u H',Same H H'->uC HR FT->uC HS Ff->Jg (UZ F5 HR FT) (UZ Lv HS Ff) H H' [] u->Q (.ref u) H')
theorem qt (T:Txt K mg t):j7 P w K mg base 15 "alike" ["one","other"] (qU t.jS):=by
 have DQ:=MI (P:=P) (w:=w) (base:=base) T 9;refine T.sO.ok ["one","other"] ?_;rintro _ H Q E ⟨o1,o2,F5,HR,Lv,HS,rfl,D1,D2,q⟩;refine#[rfl,λDF A outer s hr=>#[_,(jk<|jE<|jq DQ<|ja (jL<|ja (G7 (ma T)<|ja (pv 0) jb)<|ja (G7 (ma T)<|ja (pv 1) jb) jb)<|ja (jY jb) jb),?_]];refine λx1 dx1 EX Si ne1=>lF D1 EX Si ne1 λFT H1 s1 Lw x₂=>#[rfl,λx2 dx2 A' Sj ne2=>lF (D2.same s1) A' Sj ne2 λFf H2 s2 Lx A₁=>#[rfl,JE,λu hu=>#[vR,λl hl=>?_]]];have s3:=jh (o:=.tup [.ref x1,.ref x2]) (Same.refl H2) hu;have e3:upd H2 u (.tup [.ref x1,.ref x2]) u=some _:=jc;generalize upd H2 u _=H3 at s3 e3 hl;have s4:=jh (o:=.lst []) (Same.refl H3) hl;have e4:upd H3 l (.lst []) l=some _:=jc;have Ex:=Same.trans s3 s4;have DO:=Same.trans s1<|Same.trans s2 Ex;have DE:=aJ D1.g Lw;have h8:=DE.h;refine#[u,x1,x2,l,_,_,[],[],rfl,s4 _ _ e3,x₂.same<|Same.trans s2 Ex,A₁.same Ex,#[DE,aJ D2.g Lx,aK D1.g Lw,aK D2.g Lx],e4,#[rfl,λi b k h=>nomatch h],#[#[yZ,λx h=>nomatch h],by lia],λu' H' s' r=>q FT Ff u' H' (Same.trans DO s') Lw Lx (r.new λb hb=>Same.nn DO hb)]
def qV (K:C9):Sp:=λvs H Q _=>E3 λ(a:Addr) (ns:List Int) (k:Nat)=>A3 (vs=[.ref a,.int (k:Nat)]) (jj K H a<|ns.map V.int) (Q (.int<|ns.getD k 0) H)
theorem zX (T:Txt K mg t):j7 P w K mg base 1 "_law_cell_at" [TD,FS] (qV K):=by
 refine T.Mq.ok [TD,FS] ?_;rintro _ H Q E ⟨a,ns,k,rfl,hq,q⟩;refine#[rfl,λDF A outer s hr=>#[_,(jf (j8 (jF Be (pv 1) (jw jW (by rfl) T.JD JC<|ja (pv 0) jb)) (jk<|jE<|jo jx (pv 0)<|pv 1) jP)<|jk<|jE jg),?_]];refine#[a,_,rfl,.inl hq,V2 (λDA=>?_) λL9=>?_]
 rotate_left
 ·rw[ya] at L9;rw[yn,QZ gt] at q;exact q
 rw[ya] at DA;exact#[_,.int ns[k],hq,jX (by grind),by grind]
theorem VC {i m:Int} (h:0<m):0<=i % m/\i % m<m:=#[abN _ gt,abA _ h]
def wv:Sp:=λvs H Q _=>∃(c:Int) (n:Nat),A3 (vs=[.int c,.int (n:Nat)]) (n<=30) (∀(D:Addr) (ds:List Int) (H':Hp),Same H H'->H D=none->H' D=some (.lst<|ds.map V.int)->ds.length=n->(∀d∈ds,0<=d/\d<24)->Q (.ref D) H')
theorem vP (T:Txt K mg t):j7 P w K mg base 1 "_law_draws" [P3,XV] wv:=by
 refine T.bd.ok [P3,XV,WP,"_law_rest",FS,"_law_number"] ?_;rintro _ H Q E ⟨c,n,rfl,hn,q⟩;refine#[rfl,λDF A outer s hr=>#[_,(jf (jt 2<|jY jb)<|jf (jt 3<|jB Vc (pv 0) jg)<|jf (j0 jR (ub rfl T.uz<|ja (pv 1) jb) (jl 4)<|jf (jt 5<|jB Jy (jB V8 (jB uF (jB uF (jB Jy (pv 0) jg)<|jB V8 jg<|pv 4) jg) jg) jg)<|jf (jt 5<|jB Jy (jB V8 (pv 5)<|jB uF (jB Vc (pv 5) jg) jg) jg)<|jf (jt 5<|jB Jy (jB V8 (jB uF (pv 5)<|jB Vc (jB V8 (pv 4)<|pv 5) jg) jg) jg)<|jf (j8 (zY (jF uZ (jB Jy (pv 0) jg) jg)<|zZ<|jF Ge (pv 3) jg).pt (jf (jt 5<|pv 3)<|jk<|jt 3<|jB Vc (pv 3) jg) jP)<|jk<|Jd<|j3 Ya Yg Yf Jb (pv 2)<|ja (jB Jy (pv 5) jg) jb)<|jk<|jE<|pv 2),?_]];refine ze λD H1 s1 hD eD=>?_;refine#[#[by decide,by decide],JO ?_];refine Mh (λ(r) (v4 v5) (ds:List Int)=>[oI c,oI<|n,oR D,oI r,v4,v5]) (λ_ _ _ ds H'=>A4 (Same H H') (H' D=some (.lst<|ds.map V.int)) (ds.length=n) (∀d∈ds,0<=d/\d<24)) (λB hB=>?_) ?_
 ·refine#[n,rfl,by lia,by lia,UM (n:=n) (λi σ H'=>E4 λ(r) (v4 v5) (ds)=>A5 (σ=[oI c,oI _,oR D,oI r,v4,v5]) (Same H H') (H' D=some (.lst<|ds.map V.int)) (ds.length=i) (∀d∈ds,0<=d/\d<24)) #[_,_,_,[],rfl,s1,eD,rfl,λd h=>nomatch h] ?_ ?_]
  ·rintro i σ H2 hi ⟨r,v4,v5,ds,rfl,s2,e2,ld,hd⟩;rw[QE];refine u7 (λ(x)=>[oI c,oI _,oR D,oI r,oI _,oI x]) (λx H'=>H'=H2/\0<=x/\x<2147483647) (λB hB=>#[(by show (0)<2147483647;decide),.inl #[by decide,by decide],.inr #[by decide,by decide],(by show (0)<2147483647;decide),hB _ _ #[rfl,VC ac]]) ?_;rintro x H2 ⟨rfl,x0,x1⟩;refine u7 (λ(x)=>[oI c,oI _,oR D,oI r,oI _,oI x]) (λx H'=>H'=H2/\0<=x/\x<2147483647) (λB hB=>#[#[by decide,by decide],.inl #[by lia,by lia],(by show (0)<2147483647;decide),hB _ _ #[rfl,VC ac]]) ?_;rintro y H2 ⟨rfl,y0,y1⟩;refine u7 (λ(x)=>[oI c,oI _,oR D,oI r,oI _,oI x]) (λx H'=>H'=H2/\0<=x/\x<2147483647) (λB hB=>#[.inl #[by lia,by lia],#[by decide,by decide],.inr #[by decide,by decide],(by show (0)<2147483629;decide),hB _ _ #[rfl,abN _ ac,Int.lt_trans (abA _ ac) ac]]) ?_;rintro z H2 ⟨rfl,_,_⟩;refine z8 (λ(r x)=>[oI c,oI<|n,oR D,oI r,oI<|i,oI x]) (λ_ _ H'=>H'=H2) (λB hB=>?_) ?_
   ·refine#[(by show (0)<2;decide),rfl,?_];refine vM (λ_=>vM (λ_=>?_) λ_=>hB _ _ _ rfl) λ_=>hB _ _ _ rfl;refine JO ?_;exact#[#[by decide,by decide],hB _ _ _ rfl]
   rintro r' x' H2 rfl;refine#[.inl #[rfl,_,jj.of e2],(by show (0)<24;decide),D,_,_,rfl,rfl,e2,by rw[ya,ld];exact yC (show i<100 by lia) ac,_,_,_,ds++[x' % 24],rfl,jK s2 hD,by rw[jc,yd];rfl,by rw[yg,ld];rfl,λd h=>?_];rcases yB.mp h with h|h
   ·exact hd d h
   ·rw[yp.mp h];exact VC ac
  ·rintro σ H2 ⟨r,v4,v5,ds,rfl,s2,e2,ld,hd⟩;exact hB _ _ _ ds _ #[s2,e2,ld,hd]
 rintro r v4 v5 ds H2 ⟨s2,e2,ld,hd⟩;exact q D ds H2 s2 hD e2 ld hd
theorem Jk.front (h:Jk S1 S2 held Ms) (h':Jk S1 S2 held ER) (l:Ms.length<=ER.length):∃R,ER=Ms++R:=by
 induction h' with
 | one f =>
  refine#[[],?_];rw[Qk];refine ((h.det<|.one f)<|Y4 l ?_).symm;cases h with
  | one _=>exact yj _
  | snoc _ _=>simp
 | @snoc A X Y h' n ih =>
  rcases y6 _ Ms.length with z|z
  ·refine#[[],?_];rw[Qk];refine (h.det (.snoc h' n)<|Y4 l ?_).symm;rw[yg];exact z
  ·grind
theorem VR.len {M:jZ} (a:VR S1 S2 held Ms Mp M) (b:VR S1 S2 held ER Oh M'):ER.length<=Ms.length:=by
 refine aam λz=>?_;obtain⟨R,e⟩:=a.rd.front b.rd (by simp;lia);have h1:(ER++[Oh])[Ms.length]?=some Mp:=by
  have:=congrArg (·[Ms.length]?) e;rw[yx (by simp;lia)] at this;rw[this];simp
 have h2:(ER++[Oh])[Ms.length+1]?=some M:=by
  have:=congrArg (·[Ms.length+1]?) e;rw[yx (by simp;omega)] at this;rw[this];simp
 exact b.st _ _ _ h1 h2 a.ec
theorem VR.det {M:jZ} (a:VR S1 S2 held Ms Mp M) (b:VR S1 S2 held ER Oh M'):Ms=ER/\Mp=Oh/\M=M':=by
 have e:=a.rd.det b.rd (by have:=a.len b;have:=b.len a;simp;lia);obtain⟨e1,e2⟩:=Y0 e rfl;obtain⟨e3,e4⟩:=Y0 e1 rfl;cases e2;cases e4;exact#[e3,rfl,rfl]
theorem mB.det {M:jZ}{m k:Int} (a:mB M m) (b:mB M k):m=k:=by
 rcases abF m k with z|z|z
 ·have:=b.lt m z;have:=a.two;lia
 ·exact z
 ·have:=a.lt k z;have:=b.two;lia
theorem Zh.det {ms ns:List Int}{m k:Int} (a:Zh ms ns m) (b:Zh ms ns k):m=k:=by
 rcases abF m k with z|z|z
 ·exact absurd (b.lt m z) a.ne
 ·exact z
 ·exact absurd (a.lt k z) b.ne
theorem vF.noteven {i:Nat}{x:Str}{ms ns:List Int}{m:Int} (o:vF Ms i x ms ns m):∃X,Ms[i]?=some X/\¬X.even:=by
 obtain⟨M,e,h⟩:=o.at_;refine#[M,e,λev=>o.odd.ne ?_];rcases h with ⟨_,rfl,rfl⟩|⟨_,_,rfl,rfl⟩
 ·exact ev.1 m
 ·exact ev.2 m
theorem vF.det {i j:Nat}{x y:Str}{ms ns HP DK:List Int}{m k:Int} (a:vF Ms i x ms ns m) (b:vF Ms j y HP DK k):A4 (i=j) (x=y) (ms=HP/\ns=DK) (m=k):=by
 have le:∀{i j:Nat} {x y:Str} {ms ns HP DK:List Int} {m k:Int},vF Ms i x ms ns m->vF Ms j y HP DK k->¬i<j:=λ{i j x y ms ns HP DK m k} a b z=>by
  obtain⟨X,e,n⟩:=a.noteven;exact n (b.ev X (List.mem_iff_getElem?.mpr #[i,by grind]))
 obtain rfl:i=j:=Y4 (aam<|le b a)<|aam<|le a b;obtain⟨M,e,h⟩:=a.at_;obtain⟨M',e',h'⟩:=b.at_;rw[e] at e';cases e';have oa:=a.odd;have ob:=b.odd;rcases h with ⟨rfl,rfl,rfl⟩|⟨rfl,ev,rfl,rfl⟩
 ·rcases h' with ⟨rfl,rfl,rfl⟩|⟨rfl,Ep,rfl,rfl⟩
  ·exact#[rfl,rfl,#[rfl,rfl],oa.det ob]
  ·exact absurd (Ep m) oa.ne
 ·rcases h' with ⟨rfl,rfl,rfl⟩|⟨rfl,Ep,rfl,rfl⟩
  ·exact absurd (ev k) ob.ne
  ·exact#[rfl,rfl,#[rfl,rfl],oa.det ob]
theorem c5 {ks DM:List JM} (a:uC ys ks) (b:uC ys DM):ks=DM :=
 (Y9 λ_ _ e=>Kb e).mp (vE ((a.pm.trans b.pm.symm).map kP) a.so b.so)
theorem Ng {n m:Nat}{a b c d:List Int} (la:a.length=n) (lb:b.length=m) (lc:c.length=n) (ld:d.length=m) (fn:rD n m a b c d) (e:ue a b):ue c d:=by
 classical
 let g:=λv=>if h:∃x,x∈ix n m/\pf a b x=v then pf c d h.choose else 0
 have hg:∀x∈ix n m,g _=pf c d x:=λx hx=>by
  have z:∃y,y∈ix n m/\pf a b y=pf a b x:=#[x,hx,rfl];show (if h:∃y,y∈ix n m/\pf a b y=pf a b x then pf c d h.choose else 0)=_;rw[dif_pos z];exact fn _ z.choose_spec.1 x hx z.choose_spec.2
 have h1:=uy c 0;have h2:=uy d 0;have h3:=uy a 0;have h4:=uy b 0;rw[lc] at h1;rw[ld] at h2;rw[la] at h3;rw[lb] at h4;have e1:c=a.map g:=by
  rw[<-h1,<-h3,yq];exact yT λi hi=>(hg _<|U5.mpr<|yI.mp hi).symm
 have e2:d=b.map g:=by
  rw[<-h2,<-h4,yq];exact yT λi hi=>(hg _<|zG.mpr<|yI.mp hi).symm
 exact λk=>List.Perm.count_eq (by rw[e1,e2];exact (Vn e).map g) k
theorem uO.even {M:jZ} (h:uO S1 S2 M M') (DE:S1.ok) (DI:S2.ok) (ft:vp S1 S2 M) (ec:cs M=cs M') (e:M.even):M'.even:=by
 have Hw:=h.fits DE DI ft;refine#[Ng ft.pp ft.pq Hw.pp Hw.pq (h.stable DE DI ft ec) e.1,Ng ft.np ft.nq Hw.np Hw.nq ?_ e.2];have e1:=Ku M.np M.nq;have e2:=Ku M'.np M'.nq;rw[ft.np,ft.nq] at e1;rw[Hw.np,Hw.nq] at e2;refine nR ?_ λx hx y hy z=>(h.fnN ft hx hy z).1;rw[e1,e2];injection ec with _ ec
 injection ec with ec
 exact (Yn ec).symm
theorem Vb {H:Hp}{u:Addr} (n:UG H u) (s:VQ H u):False:=by
 obtain⟨z,r,e,n⟩:=n;obtain⟨a,b,e'⟩:=s;rw[e] at e';injection e' with e'
 injection e' with e'
 injection e' with e' _
 injection e' with e'
 exact n e'
theorem Jg.right {H:Hp}{u:Addr} (x:Jg S1 S2 H0 H held u) (sm:VQ H u):∃(a b:Addr) (ps ns:List Nat),A4 (H u=some (.tup [.str YA,.ref a,.ref b])) (H a=some (.lst<|ps.map UB)) (H b=some (.lst<|ns.map UB)) (MW S1 S2 ps ns):=by
 induction x with
 | marks r o hu e=>exact (Vb #[_,_,e,by decide +kernel] sm).elim
 | same r ev nd R hu ha hb ab e ea eb=>exact#[_,_,_,_,e,ea,eb,R]
 | choice r ev sh hu hW e eW ks hr er an ns ih=>exact (Vb #[_,_,e,by decide +kernel] sm).elim
 | pick r ev sh ks hk an ns a sm' ih ih2=>exact ih2 sm
theorem fj {M:jZ}{m:Int}{n k:Nat}:k∈Uv M m n↔k<n/\M.pq[k]?=some m:=by
 unfold Uv;rw[Qx,yI,decide_eq_true_eq]
theorem gK {M:jZ}{m:Int}{n k:Nat}{rows:List (Nat×Addr×Addr)} (ks:rows.map (·.1)=Uv M m n) (h:k<n) (hk:M.pq[k]?=some m):∃r∈rows,r.1=k:=yi.mp (ks▸fj.mpr #[h,hk])
theorem Jg.iso {H:Hp}{u:Addr} (DE:S1.ok) (DI:S2.ok) (w1:S1.wf) (w2:S2.wf) (x:Jg S1 S2 H0 H held u):∀p r,kq S1 S2 p r->kB S1.hs.length p held->VQ H u:=by
 induction x with
 | marks r o hu e=>exact λp r' I k=>(xM r.rd DE DI w1 w2 (λev=>let ⟨X,e,n⟩:=o.noteven;n<|ev X<|yh e) p r' I k).elim
 | same r ev nd R hu ha hb ab e ea eb=>exact λ_ _ _ _=>#[_,_,e]
 | choice rd ev sh hu hW e eW ks hr er an ns ih =>
  intro p r I k;refine (lJ rd.rd DE DI w1 w2 (yA _<|yp.mpr rfl) sh.two (λk hk p' r' I' K'=>?_) p r I k).elim;obtain⟨q,hq,rfl⟩:=gK ks (yc.mp hk).1 hk;exact Vb (ns q hq) (ih q hq p' r' I' K')
 | pick r ev sh ks hk an ns a sm' ih ih2=>exact λ_ _ _ _=>sm'
theorem Jw {H:Hp} (k:Key):∀n,Vt H n (kV k) (kV k)
 | 0=>#[k,rfl,rfl]
 | _+1=>.inl #[k,rfl,rfl]
theorem mN {H:Hp}:∀{n:Nat} {x y:V},Vt H n x y->Vt H (n+1) x y
 | 0,_,_,h=>.inl h
 | _+1,_,_,.inl h=>.inl h
 | _+1,_,_,.inr ⟨a,b,xs,ys,h1,h2,h3,p⟩=>.inr #[a,b,xs,ys,h1,h2,h3,uD (λ_ _ h=>mN h) p]
theorem Zm {H:Hp}{n:Nat}{x y:V} (h:Zd H n x y):Zd H (n+1) x y:=let ⟨a,b,xs,ys,h1,h2,h3,p⟩:=h;#[a,b,xs,ys,h1,h2,h3,uD (λ_ _ h=>mN h) p]
theorem pS {H:Hp}{a b:Str}:∀{n:Nat},Vt H n (.str a) (.str b)->a=b:=λ{n} h=>by
 have key:(∃k:Key,V.str a=kV k/\V.str b=kV k)->a=b:=λ⟨k,e1,e2⟩=>V.str.inj<|e1.trans e2.symm;cases n with
 | zero=>exact key h
 | succ n=>exact h.elim key λ⟨_,_,_,_,e,_,_,_⟩=>nomatch e
theorem mK {H:Hp}{n:Nat}{u v:Addr} (h:Zd H n (.ref u) (.ref v)) {a b:Str} {r r':List V} (e1:H u=some (.tup (.str a::r))) (e2:H v=some (.tup (.str b::r'))):a=b:=by
 obtain⟨_,_,xs,ys,e3,e4,h,p⟩:=h;cases e3;cases e4;rcases h with ⟨h1,h2⟩|⟨h1,h2⟩
 ·rw[e1] at h1;rw[e2] at h2;cases h1;cases h2;cases p with
  | cons h _=>exact pS h
 ·rw[e1] at h1;cases h1
theorem zI {α:Type}{F:α->α->Prop}:∀{l:List α},(∀a∈l,F a a)->Paired F l l
 | [],_=>.nil
 | _::_,h=>.cons (h _<|yu ..) (zI λa ha=>h a<|yl _ ha)
theorem GA {F:V->V->Prop}:∀{l m:List (Nat×Addr×Addr)},l.map (·.1)=m.map (·.1)->(∀a∈l,∀b∈m,a.1=b.1->F (.ref a.2.1) (.ref b.2.1))->Paired F (l.map λr=>V.ref r.2.1) (m.map λr=>V.ref r.2.1)
 | [],[],_,_=>.nil
 | [],_::_,h,_=>nomatch h
 | _::_,[],h,_=>nomatch h
 | _::_,_::_,h,f=>.cons (f _ (yu ..) _ (yu ..) (abq h).1) (GA (abq h).2 λa ha b hb=>f a (yl _ ha) b<|yl _ hb)
theorem NV {l:List Int}{m:Int} (nd:l.Nodup) (h:1<l.count m):False:=by
 grind
theorem mM {H:Hp}{a b:Addr}{ks:List Nat}{n:Nat} (h1:H a=some (.lst<|ks.map UB)) (h2:H b=some (.lst<|ks.map UB)):Vt H (n+1) (.ref a) (.ref b):=.inr #[a,b,_,_,rfl,rfl,.inr #[h1,h2],zI λv hv=>by obtain⟨k,_,rfl⟩:=yi.mp hv;exact Jw (.inl _) n]
theorem Jg.deep {H:Hp} (DE:S1.ok) (DI:S2.ok):∀(d:Nat) {held:Dc} {u v:Addr},Hd S1.hs.length held->S1.hs.length<held.length+d->Jg S1 S2 H0 H held u->Jg S1 S2 H1 H held v->Zd H (3*d) (.ref u) (.ref v):=λd=>by
 induction d with
 | zero=>intro held u v hd lt;exact absurd hd.le gt
 | succ d ih =>
  intro held u v hd lt x y;have step:∀{Ms:List jZ} {Mp M:jZ} {m:Int} {k:Nat} {a b:Addr},VR S1 S2 held Ms Mp M->mB M m->Jg S1 S2 H0 H _ a->Jg S1 S2 H1 H (held++[((M.pp.idxOf m:Int),(k:Int))]) b->Zd H _ _ _:=λr sh a b=>by
   obtain⟨pl,pn⟩:=zm r.rd DE DI (yA _<|yp.mpr rfl) sh.two;exact ih (hd.snoc pl pn _) (by grind) a b
  have diff:∀{a b:Addr},Zd H (3*d) _ _->(VQ H a/\UG H b)\/(UG H a/\VQ H b)->False:=λh z=>by
   rcases z with ⟨⟨_,_,e⟩,⟨z,_,e',n⟩⟩|⟨⟨z,_,e',n⟩,⟨_,_,e⟩⟩
   ·exact n (mK h e e').symm
   ·exact n (mK h e' e)
  cases x with
  | marks r o hu e =>
   cases y with
   | marks r' o' EE e' =>
    obtain⟨rfl,rfl,rfl⟩:=r.det r';obtain⟨rfl,rfl,⟨rfl,rfl⟩,rfl⟩:=o.det o';exact#[_,_,_,_,rfl,rfl,.inl #[e,e'],.cons (Jw (.inr _) _)<|.cons (Jw (.inl _) _)<|.cons (Jw (.inr _) _)<|.cons (Jw (.inl _) _)<|.cons (Jw (.inl _) _)<|.cons (Jw (.inl _) _) .nil]
   | same r' Ep|choice r' Ep|pick r' Ep =>
    obtain⟨rfl,rfl,rfl⟩:=r.det r';obtain⟨X,e,n⟩:=o.noteven;exact (n<|Ep X<|yh e).elim
  | same r ev nd R hu ha hb ab e ea eb =>
   cases y with
   | marks r' o' EE e' =>
    obtain⟨rfl,rfl,rfl⟩:=r.det r';obtain⟨X,e,n⟩:=o'.noteven;exact (n<|ev X<|yh e).elim
   | same r' Ep Ej R' EE TC EY ab' e' ea' eb' =>
    obtain⟨rfl,rfl,rfl⟩:=r.det r';exact#[_,_,_,_,rfl,rfl,.inl #[e,e'],.cons (Jw (.inr _) _)<|.cons (mM ea ea')<|.cons (mM eb eb') .nil]
   | choice r' Ep sh'|pick r' Ep sh' =>
    obtain⟨rfl,rfl,rfl⟩:=r.det r';exact (NV nd sh'.two).elim
  | choice r ev sh hu hW e eW ks hr er an ns =>
   cases y with
   | marks r' o' EE e' =>
    obtain⟨rfl,rfl,rfl⟩:=r.det r';obtain⟨X,e,n⟩:=o'.noteven;exact (n<|ev X<|yh e).elim
   | same r' Ep Ej =>
    obtain⟨rfl,rfl,rfl⟩:=r.det r';exact (NV Ej sh.two).elim
   | choice r' Ep sh' EE hW' e' eW' DM Oz Pg EG DK =>
    obtain⟨rfl,rfl,rfl⟩:=r.det r';obtain rfl:=sh.det sh';refine#[_,_,_,_,rfl,rfl,.inl #[e,e'],.cons (Jw (.inr _) _) (.cons (Jw (.inl _) _) (.cons (.inr #[_,_,_,_,rfl,rfl,.inr #[eW,eW'],GA (ks.trans DM.symm) λa ha b hb z=>?_]) .nil))];refine .inr #[_,_,_,_,rfl,rfl,.inl #[er a ha,Pg b hb],.cons (by rw[z];exact Jw (.inl _) _) (.cons (.inr (step r sh (an a ha) (by rw[z];exact EG b hb))) .nil)]
   | pick r' Ep sh' DM Eb EG DK a' sm' =>
    obtain⟨rfl,rfl,rfl⟩:=r.det r';obtain rfl:=sh.det sh';obtain⟨q,hq,rfl⟩:=gK ks (yc.mp Eb).1 Eb;exact (diff (step r sh (an q hq) a')<|.inr #[ns q hq,sm']).elim
  | @pick _ _ _ _ _ _ rows k r ev sh ks hk an ns a sm =>
   cases y with
   | marks r' o' EE e' =>
    obtain⟨rfl,rfl,rfl⟩:=r.det r';obtain⟨X,e,n⟩:=o'.noteven;exact (n<|ev X<|yh e).elim
   | same r' Ep Ej =>
    obtain⟨rfl,rfl,rfl⟩:=r.det r';exact (NV Ej sh.two).elim
   | choice r' Ep sh' EE hW' e' eW' DM Oz Pg EG DK =>
    obtain⟨rfl,rfl,rfl⟩:=r.det r';obtain rfl:=sh.det sh';obtain⟨q,hq,rfl⟩:=gK DM (yc.mp hk).1 hk;exact (diff (step r sh a<|EG q hq)<|.inl #[sm,DK q hq]).elim
   | @pick _ _ _ _ _ _ rows' k' r' Ep sh' DM Eb EG DK a' sm' =>
    obtain⟨rfl,rfl,rfl⟩:=r.det r';obtain rfl:=sh.det sh';rcases QM k k' with z|rfl|z
    ·obtain⟨q,hq,rfl⟩:=gK DM z hk;exact (diff (step r sh a<|EG q hq)<|.inl #[sm,DK q hq]).elim
    ·exact Zm (Zm<|Zm<|step r sh a a')
    ·obtain⟨q,hq,rfl⟩:=gK ks z Eb;exact (diff (step r sh (an q hq) a')<|.inr #[ns q hq,sm']).elim
abbrev uG:=Str×Nat
def ur (rs:List uG):Ps:=rs.zipIdx.flatMap λx=>(Yc x.1.2).map λq=>(x.2,q)
theorem ZF (rs:List uG) (x:uG):ur (rs++[x])=ur rs++(Yc x.2).map λq=>(rs.length,q):=by
 unfold ur;rw[Yz,Q9];simp
structure UJ (rs:List uG) (nn:Pi):Prop where
 few:rs.length<=5
 k:∀x∈rs,A3 (x.1="r"\/x.1=W1) (1<=x.2) (x.2<=6)
 fewN:nn.length<=5
 ne:∀l∈nn,l≠[]
 pm:nn.flatten.Perm (ur rs)
structure uU (H:Hp) (u:Addr) (rs:List uG) (nn:Pi):Prop where
 ex:∃(pl nl:Addr) (us vs:Di),A5 (H u=some (.tup [.ref pl,.ref nl])) (H pl=some (.lst<|us.map V.ref)) (KeyAt H us<|rs.map kH) (H nl=some (.lst<|vs.map V.ref)) (Ju H vs nn)
theorem uU.same {H H':Hp}{u:Addr}{nn:Pi} (x:uU H u rs nn) (s:Same H H'):uU H' u rs nn:=by
 obtain⟨pl,nl,us,vs,a1,a2,a3,a4,a5⟩:=x.ex;exact#[pl,nl,us,vs,s _ _ a1,s _ _ a2,KeyAt.mono' a3 s,s _ _ a4,a5.same s]
theorem Vx {ds:List Int}{k:Nat} (h:k<ds.length):vG (ds.map V.int) (k:Int)=some (.int ds[k]):=jX (by grind)
theorem iX {H:Hp}{us vs:Di}{js:List (List Key)} (a:KeyAt H us ks) (b:KeyAt H vs js):KeyAt H (us++vs) (ks++js):=by
 refine#[by rw[yg,yg,a.1,b.1],λi q c h1 h2=>?_];have la:=a.1;by_cases hi:i<us.length
 ·rw[yx hi] at h1;rw[yx gt] at h2;exact a.2 i q c h1 h2
 ·rw[yR gt] at h1;rw[yR gt,<-la] at h2;exact b.2 _ q c h1 h2
theorem GT {α:Type}{x:α}:∀{ee:List (List α)} {j:Nat} {l:List α},ee[j]?=some l->(ee.set j<|l++[x]).flatten.Perm (ee.flatten++[x])
 | [],_,_,h=>by simp at h
 | a::ee,0,l,h=>by
  have h:=by simpa using h
  rw[abn,Qv,Qv,h,Qf,Qf];exact (YX).append_left l
 | a::ee,j+1,l,h=>by
  have h:=by simpa using h
  rw[abo,Qv,Qv,Qf];exact (GT h).append_left a
theorem gY {α:Type}:∀ee:List (List α),(ee.filter λl=>!l.isEmpty).flatten=ee.flatten
 | []=>rfl
 | []::ee=>by rw[aa4 on,gY ee];rfl
 | (a::l)::ee=>by rw[aa3 on,Qv,Qv,gY ee]
theorem UR (h:rs.length<=5) (k:∀x∈rs,x.2<=6):(ur rs).length<=30:=by
 have:∀(l:List (uG×Nat)),(∀x∈l,x.1.2<=6)->(l.flatMap λx=>(Yc x.1.2).map λq=>(x.2,q)).length<=6*l.length:=λl=>by
  induction l with
  | nil=>intro _;exact yj _
  | cons a l ih =>
   intro hk;have:=ih λx hx=>hk x<|yl _ hx;have:=hk a<|yu ..;rw[Q4,yg,ya,yL,Qe]
   lia
 have:=this rs.zipIdx λx hx=>k _ (by
  grind)
 rw[aaa] at this;unfold ur
 lia
theorem Ju.snoc {H:Hp}{ws:Di}{nn:Pi} (E:Ju H ws nn) {v:Addr} {us:Di} {l:Ps} (e:H v=some (.lst<|us.map V.ref)) (k:KeyAt H us (l.map kE)):Ju H (ws++[v]) (nn++[l]):=by
 refine#[by rw[yg,yg,E.1];rfl,λj u l' h1 h2=>?_];by_cases hj:j<ws.length
 ·rw[yx hj] at h1;rw[yx (by rw[<-E.1];exact hj)] at h2;exact E.2 j u l' h1 h2
 ·rw[yR gt] at h1;rw[yR (by rw[<-E.1];lia),<-E.1] at h2;have z0:j - ws.length=0:=by grind
  rw[z0] at h1 h2;cases h1;cases h2;exact#[us,e,k]
theorem cG {H:Hp}{l:Ps} (g:KeyAt H qs (l.map kE)):(!(qs.map V.ref).isEmpty)=!l.isEmpty:=by
 have:=g.1;cases qs<;>cases l<;>first|rfl|cases this
theorem cn {ee:Pi}:∀l∈ee.filter λl=>!l.isEmpty,l≠[]:=λl hl z=>by
 grind
structure FI (H0:Hp) (vs:Di) (ee:Pi) (D:Addr) (i:Nat) (ys:List V) (H:Hp):Prop where
 s:Same H0 H
 n:H0 D=none
 e:H D=some (.lst ys)
 w:∃ws:List Addr,A4 (ys=ws.map V.ref) (ws.length<=i) (∀w∈ws,w∈vs) (Ju H ws ((ee.take i).filter λl=>!l.isEmpty))
theorem FI.nil {vs:Di}{ee:Pi} (hD:H0 D=none):FI H0 vs ee D 0 [] (upd H0 D<|.lst []):=#[jh (Same.refl _) hD,hD,jc,[],rfl,yj _,(λw h=>nomatch h),rfl,λi v l h=>nomatch h]
theorem FI.at_ {H:Hp}{vs:Di}{ee:Pi}{i:Nat}{ys:List V} (x:FI H0 vs ee D i ys H) {N:Addr} (hN:H0 N=some (.lst<|vs.map V.ref)):A3 (H D=some (.lst ys)) (ys.length<=i) (jj K H N<|vs.map V.ref):=let ⟨ws,e1,e2,_,_⟩:=x.w;#[x.e,by grind,jj.of<|x.s _ _ hN]
theorem FI.next {H:Hp}{vs:Di}{ee:Pi}{b:Addr}{i:Nat}{ys:List V} (x:FI H0 vs ee D i ys H) (E0:Ju H0 vs ee) {l:Ps} (eb:vs[i]?=some b) (el:ee[i]?=some l) {H':Hp} (s':Same H H'):((!l.isEmpty)=true->FI H0 vs ee D (i+1) (ys++[.ref b]) (upd H' D<|.lst<|ys++[.ref b]))/\((!l.isEmpty)=false->FI H0 vs ee D (i+1) ys H'):=by
 obtain⟨s,n,e,ws,rfl,lw,sub,E9⟩:=x;have s2:=Same.trans s s';have eD:=s' _ _ e;obtain⟨us,g1,g2⟩:=E0.2 i b l eb el
 constructor<;>intro z
 ·have wD:D ∉ ws:=λh=>by
   obtain⟨j,hj,ej⟩:=yH<|sub D h;obtain⟨_,g,_⟩:=E0.2 j D _ (by grind) (yb (by rw[<-E0.1];exact hj));rw[n] at g;cases g
  refine#[jK s2 n,n,jc,ws++[b],by rw[yd];rfl,by grind,λw h=>(yB.mp h).elim (sub w) λh=>by grind,?_];rw[jA el,QI,aa3 (p:=λl:List _=>!l.isEmpty) z];exact ((E9.same s').off wD eD).snoc (by rw[jC (λz=>by rw[z,n] at g1;cases g1)];exact s2 _ _ g1) ((KeyAt.mono' g2 s2).wr eD)
 ·refine#[s2,n,eD,ws,rfl,abC lw,sub,?_];rw[jA el,QI,aa4 (by rw[z];decide),List.filter_nil,Qk];exact E9.same s'
def wC:Sp:=λvs H Q _=>∃(c o:Int),vs=[.int c,.int o]/\∀u rs nn H',Same H H'->uU H' u rs nn->UJ rs nn->Q (.ref u) H'
theorem bQ (T:Txt K mg t):j7 P w K mg base 2 "_law_rows" [P3,FM] wC:=by
 refine T.di.ok [P3,FM,"_law_sizes",IR,FS,XV,"_law_spots",T0,TW,YF,YO] ?_;rintro _ H Q E ⟨c,o,rfl,q⟩;refine#[rfl,λDF A outer s hr=>#[_,(jf (jt 2<|jq (vP T)<|ja (pv 0)<|ja jg jb) (jf (jt 3<|jY jb) (jf (j0 jR (ub rfl T.uz<|ja (jB Jy (jo jx (pv 2) jg) jg) jb) (jl 4) (jf (jt 5<|jB uF jg<|jB Jy (jo jx (pv 2)<|pv 4) jg) (jf (j8 (zY (jF uZ (pv 4) jg)<|zZ<|jF uZ (jB Vc (jo jx (pv 2) jg) jg) jg).pt (jk<|jt 5<|jB uF (pv 5) jg) jP) (jk (Jd (j3 Ya Yg Yf Jb (pv 3) (ja (jL (ja (jo jx (jY<|ja Jt<|ja Jt jb) (jB V8 (jB Jy (jB Vc (jo jx (pv 2)<|pv 4) jg) jg) (jT mG (by rfl) T.fk dy<|ja (vD uZ (jB Jy (jo jx (pv 2)<|pv 4) jg) jg) jb)))<|ja (pv 5) jb)) jb))))))) (jf (jt 6<|jY jb) (jf (j0 jR (JT rfl rfl T.Ja<|ja (pv 3) jb) (j5<|jr (jl 4)<|jr (jl 7) jV) (jk (jt 6 (jB uL (pv 6) (jU (own:=[YJ]) (JW (cl:=[(FS,_)])) (ub rfl T.uz<|ja (jo jz (pv 7) jg) jb) (λ_ _ _ _ _=>jl 11) (λ_ _ _ _ _=>j4) (λ_ _ _ _ _=>(jL<|ja (pv 4)<|ja (pv 11) jb))))))) (jf (vd 8 (N0:=[P3,FM,"_law_sizes",IR,YK,XV,"_law_spots",T0,TW,YF,YO]) (own:=[FS]) (JW (cl:=[])) (ub rfl T.uz<|ja (jB uF jg<|jB Jy (jo jx (pv 2) jg) jg) jb) (λ_ _ _ _ _=>jl 11) (λ_ _ _ _ _=>j4) (λ_ _ _ _ _=>(jY jb))) (jf (jt 9 (jq (vP T) (ja (pv 1) (ja (jw jW (by rfl) T.JD JC<|ja (pv 6) jb) jb)))) (jf (j0 jR (JT rfl rfl T.Ja<|ja (pv 6) jb) (j5<|jr (jl 4)<|jr (jl 10) jV) (jk (Jd (j3 Ya Yg Yf Jb (jo jx (pv 8) (jB Jy (jo jx (pv 9)<|pv 4) (jw jW (by rfl) T.JD JC<|ja (pv 8) jb)))<|ja (pv 10) jb)))) (jk (jE (jL (ja (pv 3) (ja (jU (own:=[YG]) (JW (cl:=[])) (jN<|pv 8) (λ_ _ _ _ _=>jl 11) (λ_ _ _ _ _=>zb<|jF (Vp hr.units0) (pv 11)<|jY jb) (λ_ _ _ _ _=>(pv 11))) jb))))))))))))),?_]];refine#[c,7,rfl,by decide,λS ds H1 s1 hS eS ld hd=>JO ?_];refine ze λpl H2 s2 DJ RD=>?_;have b5:5<ds.length:=by lia
 have b6:6<ds.length:=by lia
 obtain⟨n,en,n5⟩:∃n:Nat,ds[5] % 6=(n)/\n<=5:=#[(ds[5] % 6).toNat,by lia,by lia];refine Mh (λ(v4 v5) (bs) (rs:List uG)=>[oI c,oI o,oR S,oR pl,v4,v5,none,none,none,none,none]) (λ_ _ bs rs H'=>A5 (Same H1 H') (H' pl=some (.lst<|bs.map V.ref)) (KeyAt H' bs<|rs.map kH) (rs.length=n) (∀x∈rs,A3 (x.1="r"\/x.1=W1) (1<=x.2)<|x.2<=6)) (λB hB=>?_) ?_
 ·refine#[_,_,jj.of<|s2 _ _ eS,Vx b5,(by show (0)<6;decide),_,congrArg (λz=>[V.int z]) en,by lia,by lia,UM (n:=n) (λi σ H'=>E4 λ(v4 v5) (bs) (rs:List uG)=>A6 (σ=[oI c,oI o,oR S,oR pl,v4,v5,none,none,none,none,none]) (Same H1 H') (H' pl=some (.lst<|bs.map V.ref)) (KeyAt H' bs<|rs.map kH) (rs.length=i) (∀x∈rs,A3 (x.1="r"\/x.1=W1) (1<=x.2)<|x.2<=6)) #[_,_,[],[],rfl,s2,RD,#[rfl,λi b k h=>nomatch h],rfl,λx h=>nomatch h] ?_ ?_]
  ·rintro i σ H3 hi ⟨v4,v5,bs,rs,rfl,s3,HU,ka,lr,hk⟩;rw[QE];have bi:i<ds.length:=by lia
   have lb:bs.length=i:=by have:=ka.1;rw[ya] at this;lia
   have Wx:=jj.of (K:=K)<|s3 _ _ eS;obtain⟨d0,d1⟩:=hd _<|yz bi;refine#[_,_,Wx,Vx bi,(by show (0)<3;decide),JO ?_];refine u7 (λ(pn)=>[oI c,oI o,oR S,oR pl,oI<|i,oI (pn:Nat),none,none,none,none,none]) (λpn H'=>A3 (H'=H3) (1<=pn)<|pn<=6) (λB hB=>?_) ?_
   ·have h1:=λ(a:Int) (a1:1<=a) (a6:a<=6)=>abr (show 0<=a by lia)▸hB a.toNat H3 #[rfl,by lia,by lia];refine#[rfl,vM (λ_=>#[_,_,Wx,Vx b6,#[by decide,by decide],rfl,vM (λ_=>h1 _ gt gt) λ_=>h1 _ gt gt]) λ_=>h1 _ gt gt]
   rintro pn H3 ⟨rfl,p1,p6⟩;refine#[.inl #[rfl,_,jj.of HU],JE,λl hl=>?_]
   refine Ev hl λH4 t1 e1=>?_
   have Wy:=jj.of (K:=K)<|t1 _ _<|s3 _ _ eS;obtain⟨kd,O3,ek⟩:∃kd:Str,(kd="r"\/kd=W1)/\vG [V.str "r",V.str W1] (ds[i] / 12 % 2*(if decide (V.int (ds[i] % 3)=V.int 0)=true then 1 else 0))=some _:=by
    rcases (show ds[i] / 12 % 2=0\/ds[i] / 12 % 2=1 by lia) with z|z
    ·exact#[_,.inl rfl,by rw[z,Int.zero_mul];rfl]
    ·rw[z,Int.one_mul];by_cases h:V.int (ds[i] % 3)=V.int 0
     ·exact#[_,.inr rfl,by rw[decide_eq_true h];rfl]
     ·exact#[_,.inl rfl,by rw[decide_eq_false h];rfl]
   refine#[_,_,Wy,Vx bi,#[by decide,by decide],(by show (0)<2;decide),_,_,Wy,Vx bi,(by show (0)<3;decide),rfl,.inr #[_,rfl,?_]];refine#[.inl #[by lia,by lia],_,_,jj.of e1,ek,JE,λu hu=>?_]
   refine Fa (o:=.tup [.str kd,.int (pn:Nat)]) (q:=.tup ((kH (kd,pn)).map kV)) rfl hu λH5 t2 e2=>?_
   have t3:=Same.trans t1 t2;have FP:=t3 _ _ HU;refine#[pl,_,_,rfl,rfl,FP,by rw[ya,lb];exact yC (show i<100 by lia) ac,_,_,bs++[u],rs++[(kd,pn)],rfl,jK (Same.trans s3 t3) DJ,by rw[jc,yd];rfl,?_,by rw[yg,lr];rfl,λx hx=>?_]
   ·rw[yd];exact (JL (KeyAt.mono' ka t3) e2).wr FP
   ·rcases yB.mp hx with h|h
    ·exact hk x h
    ·rw[yp.mp h];exact#[O3,p1,p6]
  ·rintro σ H3 ⟨v4,v5,bs,rs,rfl,s3,HU,ka,lr,hk⟩;exact hB _ _ bs rs _ #[s3,HU,ka,lr,hk]
 rintro v4 v5 bs rs H3 ⟨s3,HU,ka,lr,hk⟩;have lb:bs.length=n:=by have:=ka.1;rw[ya] at this;lia
 refine ze λsp H4 s4 El A₂=>?_;refine#[pl,rfl,#[_,jj.of<|s4 _ _ HU],ua (λi σ H'=>E4 λ(v4 v7) (sp) (ss)=>A4 (σ=[oI c,oI o,oR S,oR pl,v4,v5,oR sp,v7,none,none,none]) (Same H3 H') (H' sp=some (.lst<|ss.map V.ref))<|KeyAt H' ss<|(ur<|rs.take i).map kE) #[_,_,sp,[],rfl,s4,A₂,rfl,λi b k h=>nomatch h] (λi σ H' _ h=>by obtain⟨_,_,_,_,_,e,_⟩:=h;exact jj.of<|e _ _ HU) ?_ ?_]
 ·rintro i x p σ H5 hx hp ⟨v4,v7,sp,ss,rfl,s5,e5,k5⟩;obtain⟨u,eu,rfl⟩:=gm hx;have hi:i<rs.length:=by rw[lr,<-lb];exact (yc.mp eu).1
  have er:=yb hi;have Em:=yz hi;have tu:=ka.2 i u _ eu (by rw[ye,er];rfl);generalize rs[i]=x at er Em tu;obtain⟨_,x1,x4⟩:=hk x Em
  refine Ev hp λH6 s6 e6=>?_
  have D0:=Same.trans s5 s6;refine#[_,ju.of e6,rfl,vL ?_];refine#[_,_,ju.of<|D0 _ _ tu,rfl,_,rfl,by lia,by lia,vK (n:=x.2) (λD k ys H'=>A5 _ (Same H6 H') (H' D=some (.lst ys)) (ys.length=k) (∃us:List Addr,ys=us.map V.ref/\KeyAt H' us (((Yc k).map λq=>(i,q)).map kE))) (yk x4 ac) (λD hD=>#[hD,jh (Same.refl H6) hD,jc,rfl,[],rfl,rfl,λi b k h=>nomatch h]) (λD k ys H' h=>by obtain⟨_,_,h1,h2,_⟩:=h;exact#[h1,h2]) ?_ ?_]
  ·rintro D k ys H7 Qy Qn B₁ ⟨hD,s7,eD,ly,Sk,rfl,Sl⟩ hy;rw[QE];refine#[#[_,rfl,rfl],Jm #[JE,λu8 Ls=>?_]]
   refine Fa (o:=.tup [.int (i:Int),.int (k:Int)]) (q:=.tup ((kE (i,k)).map kV)) rfl Ls λH8 s8 e8=>?_
   have Wz:=s8 _ _ eD;refine hy _ _ Wz #[hD,jK (Same.trans s7 s8) hD,jc,by rw[yg,ly];rfl,Sk++[u8],by rw[yd];rfl,?_];rw[QD,yd,yd];exact (JL (KeyAt.mono' Sl s8) e8).wr Wz
  ·rintro D ys H7 hD ⟨_,s7,eD,ly,Sk,rfl,Sl⟩;have Ha:=Same.trans s6 s7;have l5:ss.length<=30:=by
    have:=k5.1;rw[ya] at this;rw[this];exact UR (by rw[yF];lia) λy hy=>(hk y<|List.mem_of_mem_take hy).3
   rw[ya] at ly;refine#[sp,D,_,_,rfl,rfl,Ha _ _ e5,eD,by rw[ya,ya];exact yk (show _<=100 by lia) ac,λp2 EC=>?_];have s9:=jh (o:=.lst<|ss.map V.ref++Sk.map V.ref) (Same.refl H7) EC;refine#[_,_,p2,_,rfl,Same.trans (Same.trans s5 Ha) s9,by rw[jc,yd],?_];rw[jA er,ZF,yF,Qs<|yX hi,yd];exact KeyAt.mono' (iX (KeyAt.mono' k5 Ha) Sl) s9
 rintro σ H5 ⟨v4,v7,sp,ss,rfl,s5,e5,k5⟩;rw[ya,jO gt] at k5;refine JO ?_;have Ph:=Same.trans s3 s5;have ls:=by have:=k5.1;rwa [ya] at this
 have l24:=UR gt λy hy=>(hk y hy).3;obtain⟨m,em,m1,m5⟩:∃n:Nat,(1:Int)+ds[6] % 4=(n)/\1<=n/\n<=4:=#[(1+ds[6] % 4).toNat,by lia,by lia,by lia];refine z8 (λ(N) (vs:Di)=>[oI c,oI o,oR S,oR pl,v4,v5,oR sp,v7,oR N,none,none]) (λN vs H'=>A5 (Same H5 H') (H' N=some (.lst<|vs.map V.ref)) (vs.length=m) vs.Nodup (∀v∈vs,A3 (H5 v=none) (v≠N)<|H' v=some (.lst []))) (λB hB=>?_) ?_
 ·refine#[_,_,jj.of<|Ph _ _ eS,Vx b6,(by show (0)<4;decide),_,congrArg (λz=>[V.int z]) em,by lia,by lia,vK (n:=m) (λD k ys H'=>∃vs:List Addr,A7 (ys=vs.map V.ref) (vs.length=k) (Same H5 H') _ (H' D=some (.lst ys)) vs.Nodup (∀v∈vs,A3 (H5 v=none) (v≠D)<|H' v=some (.lst []))) (yk m5 ac) (λD hD=>#[_,rfl,rfl,jh (Same.refl _) hD,hD,jc,yZ,λv h=>nomatch h]) (λD k ys H' h=>by obtain⟨vs,rfl,h2,_,_,h5,_⟩:=h;exact#[h5,by rw[ya,h2]]) ?_ ?_]
  ·rintro D k ys H' Qy Qn Eb ⟨vs,rfl,hl,Pj,hD,eD,nd,Hz⟩ hy;refine#[#[_,rfl,rfl],Jm #[vR,λb hb=>?_]];have Pk:=jh (o:=.lst []) (Same.refl H') hb;have e2:upd H' b (.lst []) b=some (.lst []):=jc;generalize upd H' b (.lst [])=H2 at Pk e2;have nD:b≠D:=λz=>by rw[z,eD] at hb;cases hb
   refine hy _ _ (Pk _ _ eD) #[vs++[b],by rw[yd];rfl,by rw[yg,hl];rfl,jK (Same.trans Pj Pk) hD,hD,jc,?_,λv hv=>?_]
   ·refine y8.mpr #[nd,yO.mpr #[yS,yZ],λx hx y hy e=>?_];obtain⟨_,_,e3⟩:=Hz x hx;rw[e,yp.mp hy,hb] at e3;cases e3
   ·rcases yB.mp hv with h|h
    ·obtain⟨g1,g2,g3⟩:=Hz v h;exact#[g1,g2,jy g2<|Pk _ _ g3]
    ·rw[yp.mp h];exact#[Same.nn Pj hb,nD,jy nD e2]
  ·rintro D ys H' hD ⟨vs,rfl,hl,Pj,_,eD,nd,Hz⟩;exact hB D vs H' #[Pj,eD,hl,nd,Hz]
 rintro N vs H7 ⟨s7,eN,lv,Se,hv⟩;have nN:N ∉ vs:=λz=>(hv N z).2 rfl;have WB:=s7 _ _ e5;refine z8 (λ(Z) (zs)=>[oI c,oI o,oR S,oR pl,v4,v5,oR sp,v7,oR N,oR Z,none]) (λZ zs H'=>A4 _ _ (zs.length=ss.length) _) (λB hB=>#[sp,_,rfl,.inl<|jj.of WB,o,_,rfl,by rw[ya];lia,λZ zs H' s' hZ eZ l h=>hB Z zs H' #[s',eZ,by rwa [ya] at l,hZ]]) ?_;rintro Z zs H6 ⟨s6,eZ,lz,hZ⟩;refine#[sp,rfl,#[_,jj.of<|s6 _ _ WB],ua (λi σ H'=>E3 λ(v4 v10) (ee)=>A6 (σ=[oI c,oI o,oR S,oR pl,v4,v5,oR sp,v7,oR N,oR Z,v10]) (Same H5 H') (H' Z=some _) (H' N=some _) (Ju H' vs ee)<|ee.flatten.Perm<|(ur rs).take i) #[_,_,Ye m [],rfl,Same.trans s7 s6,eZ,s6 _ _ eN,#[by rw[lv,QW],λi v l h1 h2=>?_],.of_eq on] (λi σ H' _ h=>by obtain⟨_,_,_,_,e,_⟩:=h;exact jj.of<|e _ _ e5) ?_ ?_]
 ·obtain rfl:=(List.mem_replicate.mp<|yh h2).2;exact#[[],s6 _ _ (hv v<|yh h1).3,rfl,λi b k h=>nomatch h]
 ·rintro i x p σ H8 hx hp ⟨v4,v10,ee,rfl,s8,WC,Pl,Hb,pm⟩;obtain⟨u,eu,rfl⟩:=gm hx;have li:=(yc.mp eu).1;have er:=yb (l:=ur rs) (i:=i) gt;have tu:=k5.2 i u _ eu (by rw[ye,er];rfl);generalize (ur rs)[i]=x at er tu
  refine Ev hp λH9 s9 e9=>?_
  have WD:=Same.trans s8 s9;have zi:i<zs.length:=by lia
  obtain⟨j,ej,jm⟩:∃j:Nat,zs[i] % ((vs.map V.ref).length)=(j)/\j<m:=by
   rw[ya,lv];have:=VC (i:=zs[i]) (m:=(m)) gt;exact#[(zs[i] % (m)).toNat,by lia,by lia]
  have jv:j<vs.length:=by lia
  have ev:=yb jv;have vm:=yz jv;generalize vs[j]=v at ev vm;have je:j<ee.length:=by rw[<-Hb.1];exact jv
  have el:=yb je;generalize ee[j]=l at el;have E9:=Hb.same s9;obtain⟨B₂,g1,g2⟩:=E9.2 j v l ev el;have ll:B₂.length<=30:=by
   have h1:=g2.1;rw[ya] at h1;have h2:=pm.length_eq;rw[yF] at h2;have h3:=(QU<|yh el).length_le
   lia
  have Sm:=s9 _ _ Pl;refine#[_,ju.of e9,rfl,vL ?_];refine#[_,_,jj.of<|s9 _ _ WC,Vx zi,N,_,rfl,.inl<|jj.of Sm,(by rw[ya];lia),_,.ref v,jj.of Sm,(congrArg _ ej).trans (jX (by rw[ye,ev];rfl)),.inl #[rfl,_,jj.of g1],v,_,_,rfl,rfl,g1,by rw[ya];exact yG ll ac,_,_,_,rfl,jK WD (hv v vm).1,?_,?_,E9.put Se ev g1 g2<|WD _ _ tu,?_]
  ·rw[jC (λz=>by rw[z,(hv v vm).3] at hZ;cases hZ)];exact s9 _ _ WC
  ·rw[jC (λz=>nN (by rw[z];exact vm))];exact Sm
  ·rw[jA er];exact (GT el).trans (pm.append_right _)
 rintro σ H8 ⟨v4,v10,ee,rfl,s8,_,Pl,Hb,pm⟩;rw[ya,jO ls.symm] at pm;have C₁:ee.length=m:=by rw[<-Hb.1,lv]
 refine#[N,rfl,#[_,jj.of Pl],JV (FI H8 vs ee) (by rw[ya,lv];exact yk m5 ac) (λD hD=>.nil hD) (λD i ys H' h=>let ⟨h1,h2,h3⟩:=h.at_ Pl;#[h1,h2,h3]) ?_ ?_]
 ·rintro D i v ys H9 Qy Qn Sn F hy hn;obtain⟨b,eb,rfl⟩:=gm Sn;have So:i<ee.length:=by rw[<-Hb.1];exact (yc.mp eb).1
  have IP:=yb So;generalize ee[i]=l at IP;obtain⟨qs,g1,g2⟩:=Hb.2 i b l eb IP;refine#[#[_,rfl,rfl],vR,λe hE=>?_];have t1:=jh (o:=.lst []) (Same.refl H9) hE;obtain⟨y1,y2⟩:=F.next Hb eb IP t1;refine#[b,e,_,rfl,rfl,jj.of<|t1 _ _<|F.s _ _ g1,jj.of jc,?_];rw[cG g2];exact vM (λz=>hy _ _ (t1 _ _ F.e)<|y1 z) λz=>hn _ (y2 z)
 ·rintro D ys H9 hD F;obtain⟨s9,_,eD,ws,rfl,lw,_,E9⟩:=F;rw[ya,jO gt] at E9;refine#[JE,λu hu=>?_];have Ey:=jh (o:=.tup [.ref pl,.ref D]) (Same.refl H9) hu;have Sq:=Same.trans s5<|Same.trans s8<|Same.trans s9 Ey;exact q u rs _ _ (Same.trans s1<|Same.trans s3 Sq) #[pl,D,bs,ws,jc,Sq _ _ HU,KeyAt.mono' ka Sq,Ey _ _ eD,E9.same Ey] #[by lia,hk,yk (Q0 _ _) gt,cn,by rw[gY];exact pm]
structure pE (rs:List uG) (nn:Pi) (DB:List uG) (DH:Pi) (p r:Nat->Nat):Prop where
 n:rs.length=DB.length
 m:nn.length=DH.length
 bp:zM rs.length p
 br:zM nn.length r
 hs:∀i,i<rs.length->DB[p i]?=rs[i]?
 es:∀(j:Nat) l1 l2,nn[j]?=some l1->DH[r j]?=some l2->(l1.map λx=>(p x.1,x.2)).Perm l2
theorem GV {α:Type} (os:List α) (j:Nat) (i:α):(os.take j++[i]++os.drop j).Perm (os++[i]):=by
 have h:=(YX (l₁:=[i]) (l₂:=os.drop j)).append_left<|os.take j;rw[<-Qf,<-Qf,Qm] at h;exact h
theorem ND (k:Nat):∀os:List Nat,(os.map λn=>((n:Nat):Int)).idxOf (k:Int)=os.idxOf k
 | []=>rfl
 | a::os=>by
  rw[Ql,aaq,ND k os];by_cases h:a=k
  ·grind
  ·grind
theorem NU (os:List Nat):os.map UB=(os.map λn=>((n:Nat):Int)).map V.int:=by rw[yq];rfl
theorem zU {n:Nat} (p:os.Perm (Yc n)) {i:Nat} (h:i<n):os.idxOf i<n/\os[os.idxOf i]?=some i:=by
 have hm:=p.mem_iff.mpr<|yI.mpr h;have l:os.length=n:=by rw[p.length_eq,yL]
 have h1:=Qo hm;exact#[by rw[<-l];exact h1,(yb h1).trans<|congrArg some<|aac _]
theorem cA {n:Nat} (p:os.Perm (Yc n)):zM n λi=>os.idxOf i :=
 #[λi h=>(zU p h).1,λi hi j hj e=>by
  have h1:=(zU p hi).2;rw[e,(zU p hj).2] at h1;exact (Yd h1).symm]
def pN (hd:Str) (k:Nat):Str:=hd++Str.ofString (toString (k:Int))
def nN (hd:Str) (k:Nat):Str:=("n":Str)++hd++Str.ofString (toString (k:Int))
def ZJ:List Str:=["a","x"]
theorem tW:∀hd∈ZJ,∀k,k<6->UO (pN hd k)=true/\(pN hd k).length<=1000:=by decide +kernel
theorem tK:∀hd∈ZJ,∀k,k<6->UO (nN hd k)=true/\(nN hd k).length<=1000:=by decide +kernel
theorem lX:∀hd∈ZJ,∀k,k<6->∀j,j<6->pN hd k=pN hd j->k=j:=by decide +kernel
theorem xJ:∀hd∈ZJ,∀k,k<6->∀j,j<6->nN hd k=nN hd j->k=j:=by decide +kernel
theorem cF:(UO "r"=true/\("r":Str).length<=1000)/\UO W1=true/\(W1:Str).length<=1000:=by decide +kernel
def UH (hd:Str) (rs:List uG):List Jx:=rs.zipIdx.map λx=>#[pN hd x.2,x.1.1,x.1.2]
def Vw (hd:Str) (q:Nat×Nat):JM:=(pN hd q.1,(q.2:Int))
def UI (hd:Str) (nn:Pi):List JG:=nn.zipIdx.map λx=>(nN hd x.2,x.1.map<|Vw hd)
theorem M7 (i:Nat):(UH hd rs)[i]?=rs[i]?.map λx=>#[pN hd i,x.1,x.2]:=by
 unfold UH;simp [YT]
theorem fY {nn:Pi} (j:Nat):(UI hd nn)[j]?=nn[j]?.map λl=>(nN hd j,l.map<|Vw hd):=by
 unfold UI;simp [YT]
theorem zf:(UH hd rs).length=rs.length:=by unfold UH;rw[ya,aaa]
theorem Vr {nn:Pi}:(UI hd nn).length=nn.length:=by unfold UI;rw[ya,aaa]
theorem Jv {x:Nat×Nat}:x∈ur rs↔∃r,rs[x.1]?=some r/\x.2<r.2:=by
 unfold ur;rw[QH];constructor
 ·grind
 ·rintro⟨r,hr,hx⟩;exact#[(r,x.1),yh (i:=x.1) (by grind),yi.mpr #[_,yI.mpr hx,rfl]]
theorem ZE (rs:List uG):(ur rs).Nodup:=by
 have:∀n,n<=rs.length->(ur<|rs.take n).Nodup:=λn=>by
  induction n with
  | zero=>intro _;exact yZ
  | succ n ih =>
   intro hn;rw[jA (yb gt),ZF];refine y8.mpr #[ih gt,UF QQ λa _ b _ e=>(aaB e).2,λa ha b hb e=>?_];obtain⟨r,hr,_⟩:=Jv.mp ha;obtain⟨q,_,rfl⟩:=yi.mp hb;have:=(yc.mp hr).1;rw[e] at this;exact QF _ this
 have h:=this rs.length<|yj _;rwa [jO rfl] at h
theorem c8:∀(nn:Pi),ui (UI hd nn)=nn.flatten.map (Vw hd):=λnn=>by
 have:∀(nn:List _) (k:Nat),ui ((nn.zipIdx k).map λx=>(nN hd x.2,x.1.map<|Vw hd))=nn.flatten.map _:=λnn=>by
  induction nn with
  | nil=>intro k;rfl
  | cons a nn ih =>
   intro k;rw[aaG,Qv,yd,<-ih _]
   rfl
 exact this nn 0
theorem cU (rs:List uG):UQ (UH hd rs)=(ur rs).map (Vw hd):=by
 unfold UQ UH ur;rw[List.flatMap_map,aak];congr 1;funext x;show VG _ _=_;rw[yq]
 rfl
theorem g9 (hh:hd∈ZJ) {nn:Pi} (G:UJ rs nn):uY (UH hd rs) (UI hd nn):=by
 have g6:=G.few;have Pm:=G.fewN;have inj:∀a∈ur rs,∀b∈ur rs,Vw hd a=Vw hd b->a=b:=λa ha b hb e=>by
  obtain⟨e1,e2⟩:=aaB e;obtain⟨_,ra,_⟩:=Jv.mp ha;obtain⟨_,rb,_⟩:=Jv.mp hb;exact Y8 (lX hd hh _ (by grind) _ (by grind) e1) (Yn e2)
 have pm:(ui<|UI hd nn).Perm (UQ<|UH hd rs):=by rw[c8,cU];exact G.pm.map _
 have O7:(UQ<|UH hd rs).Nodup:=by rw[cU];exact UF (ZE rs) inj
 refine#[by rw[zf];lia,λx hx=>?_,?_,by rw[Vr];lia,λy hy=>?_,?_,pm.nodup_iff.mpr O7,pm,?_]
 ·obtain⟨i,hi,rfl⟩:=yH hx;rw[zf] at hi;have e:=M7 (hd:=hd) (rs:=rs) i;rw[yb (by rw[zf];exact hi),yb hi] at e;rw[Yd e];obtain⟨k1,k2,k3⟩:=G.k _<|yz hi;have n1:=tW hd hh i gt;have n2:UO rs[i].1=true/\rs[i].1.length<=1000:=by
   rcases k1 with z|z
   ·rw[z];exact cF.1
   ·rw[z];exact cF.2
  exact#[n1.1,n2.1,n1.2,n2.2,k2,yk k3 ac]
 ·have:(UH hd rs).map (·.name)=(Yc rs.length).map (pN hd):=y7 (by rw[ya,ya,zf,yL]) λi h1 h2=>by
   rw[ya,zf] at h1;have e:=M7 (hd:=hd) (rs:=rs) i;rw[yb (by rw[zf];exact h1),yb h1] at e;rw[yQ,Yd e,yQ,aab]
  rw[this];exact UF QQ λa ha b hb=>lX hd hh a (by grind) b (by grind)
 ·obtain⟨i,hi,rfl⟩:=yH hy;rw[Vr] at hi;have e:=fY (hd:=hd) (nn:=nn) i;rw[yb (by rw[Vr];exact hi),yb hi] at e;rw[Yd e];exact#[tK hd hh i gt,λz=>G.ne _ (yz hi)<|List.map_eq_nil_iff.mp z]
 ·have:(UI hd nn).map (·.1)=(Yc nn.length).map (nN hd):=y7 (by rw[ya,ya,Vr,yL]) λi h1 h2=>by
   rw[ya,Vr] at h1;have e:=fY (hd:=hd) (nn:=nn) i;rw[yb (by rw[Vr];exact h1),yb h1] at e;rw[yQ,Yd e,yQ,aab]
  rw[this];exact UF QQ λa ha b hb=>xJ hd hh a (by grind) b (by grind)
 ·rw[c8,ya,G.pm.length_eq];exact yG (UR G.few λx hx=>(G.k x hx).3) ac
structure Lk (S:uB) (rs:List uG) (nn:Pi):Prop where
 hs:S.hs=rs
 el:S.es.length=nn.length
 es:∀(j:Nat) l e,nn[j]?=some l->S.es[j]?=some e->e.Perm l
theorem Ba (hh:hd∈ZJ) {nn:Pi} (G:UJ rs nn) {ks:List JM} (S:uC (UI hd nn) ks):Lk (UZ (UH hd rs) (UI hd nn) ks) rs nn:=by
 have GD:=g9 hh G;refine#[QL λi=>?_,by show (vZ _ _ _).length=_;rw[gb,Vr],λj l e h1 h2=>?_]
 ·show (hsOf _)[i]?=_;unfold hsOf;rw[ye,M7,Option.map_map];simp [YT]
 ·have ey:(UI hd nn)[j]?=some (nN hd j,l.map<|Vw hd):=by rw[fY,h1];rfl
  obtain⟨e',e1,p1⟩:=Ak GD S ey;rw[h2] at e1;cases e1;refine p1.trans<|.of_eq ?_;rw[yq];refine (yT λq hq=>?_).trans<|aag l;obtain⟨r,er,hq2⟩:=Jv.mp<|G.pm.mem_iff.mp<|List.mem_flatten.mpr #[l,yh h1,hq];have:fP _ (Vw hd q)=q.1:=fE GD.names (by rw[ye,M7,er];rfl);show (fP _ _,((q.2):Int).toNat)=q;rw[this]
  rfl
theorem xq {nn:Pi} (L1:Lk S1 rs nn) (L2:Lk S2 DB DH) (I:pE rs nn DB DH p r):kq S1 S2 p r:=by
 have e1:=L1.hs;have e2:=L2.hs;refine#[by rw[e1,e2];exact I.n,by rw[L1.el,L2.el];exact I.m,by rw[e1];exact I.bp,by rw[L1.el];exact I.br,by rw[e1,e2];exact I.hs,λj l1 l2 h1 h2=>?_];have hj:j<nn.length:=by rw[<-L1.el];exact (yc.mp h1).1
 have hk:r j<DH.length:=by rw[<-L2.el];exact (yc.mp h2).1
 have g1:=yb hj;have g2:=yb hk;exact ((L1.es j _ _ g1 h1).map _).trans ((I.es j _ _ g1 g2).trans (L2.es _ _ _ g2 h2).symm)
structure hG (rs:List uG) (nn:Pi) (DB:List uG) (DH:Pi) (ps ns:List Nat):Prop where
 pl:ps.length=rs.length
 nl:ns.length=nn.length
 pm:ps.Perm (Yc DB.length)
 nm:ns.Perm (Yc DH.length)
 hs:∀(i:Nat) k,ps[i]?=some k->DB[k]?=rs[i]?
 es:∀(j:Nat) k l1 l2,ns[j]?=some k->nn[j]?=some l1->DH[k]?=some l2->(l1.map λx=>(ps.getD x.1 0,x.2)).Perm l2
theorem i9 {nn:Pi} (L1:Lk S1 rs nn) (L2:Lk S2 DB DH) {ps ns:List Nat} (R:MW S1 S2 ps ns):hG rs nn DB DH ps ns:=by
 have e1:=L1.hs;have e2:=L2.hs;refine#[by rw[R.pl,e1],by rw[R.nl,L1.el],by rw[<-e2];exact R.pm,by rw[<-L2.el];exact R.nm,λi k h=>by have:=R.hs i k h;rwa [e1,e2] at this,λj k l1 l2 h h1 h2=>?_];have hj:j<S1.es.length:=by rw[L1.el];exact (yc.mp h1).1
 have hk:k<S2.es.length:=by rw[L2.el];exact (yc.mp h2).1
 have g1:=yb hj;have g2:=yb hk;exact ((L1.es j _ _ h1 g1).symm.map _).trans ((R.es j k _ _ h g1 g2).trans<|L2.es _ _ _ h2 g2)
def M8 (rs:List uG) (nn:Pi) (DB:List uG) (DH:Pi):Prop:=∃p r,pE rs nn DB DH p r
theorem zM.inv {n:Nat} (b:zM n p):∃p',zM n p'/\(∀i,i<n->p' (p i)=i)/\∀k,k<n->p (p' k)=k:=by
 classical
 have surj:∀k,k<n->∃i,i<n/\p i=k:=λk hk=>by
  obtain⟨i,hi,e⟩:=yi.mp<|b.perm.mem_iff.mpr<|yI.mpr hk;exact#[i,yI.mp hi,e]
 let p':=λk=>if h:∃i,i<n/\p i=k then h.choose else 0
 have hp:∀k,k<n->p' k<n/\p (p' k)=k:=λk hk=>by
  grind
 refine#[p',#[λk hk=>(hp k hk).1,λi hi j hj e=>by grind],λi hi=>?_,λk hk=>(hp k hk).2];exact b.inj _ (hp _<|b.lt i hi).1 i hi (hp _<|b.lt i hi).2
theorem M8.good {nn:Pi} (G:UJ rs nn) (h:M8 rs nn DB DH):UJ DB DH:=by
 obtain⟨p,r,I⟩:=h;obtain⟨p',bp,p1,p2⟩:=I.bp.inv;obtain⟨r',br,r1,r2⟩:=I.br.inv;refine#[by rw[<-I.n];exact G.few,λx hx=>?_,by rw[<-I.m];exact G.fewN,λl hl z=>?_,?_]
 ·obtain⟨i,hi,rfl⟩:=yH hx;rw[<-I.n] at hi;have:=I.hs _<|bp.lt i hi;rw[p2 i hi,yb (by rw[<-I.n];exact hi)] at this;exact G.k _ (yh this.symm)
 ·obtain⟨j,hj,rfl⟩:=yH hl;rw[<-I.m] at hj;have g:=yb<|br.lt j hj;have:=(I.es _ _ _ g (by rw[r2 j hj];exact yb (by rw[<-I.m];exact hj))).length_eq;rw[z,ya] at this;exact G.ne _ (yz _) (Y3 this)
 ·have a1:DH.flatten.Perm ((Yc nn.length).flatMap λj=>DH.getD (r j) []):=by
   have e1:=by have:=(uy DH []).symm;rwa [<-I.m] at this
   have e2:(Yc nn.length).flatMap (λj=>DH.getD (r j) [])=(((Yc nn.length).map r).map λj=>DH.getD j []).flatten:=by rw[yq];rfl
   rw[e2]
   conv=>lhs;rw[e1]
   exact ((I.br.perm.map _).symm).flatten
  have a2:=by
   have:∀l:List Nat,(∀j∈l,j<nn.length)->(l.flatMap λj=>DH.getD (r j) []).Perm (l.flatMap λj=>(nn.getD j []).map _):=λl=>by
    induction l with
    | nil=>intro _;exact .refl _
    | cons a l ih =>
     intro hl;have ha:=hl a<|yu ..;exact (I.es a _ _ (some_of ha) (some_of (by rw[<-I.m];exact I.br.lt a ha))).symm.append (ih λj hj=>hl j<|yl _ hj)
   exact this _ λj hj=>yI.mp hj
  have a3:((Yc nn.length).flatMap λj=>(nn.getD j []).map λx=>(p x.1,x.2))=nn.flatten.map λx=>(p x.1,x.2):=by
   have e1:=uy nn []
   conv=>rhs;rw[<-e1]
   rw[List.map_flatten,yq]
   rfl
  refine a1.trans<|a2.trans<|(abe a3).trans<|(G.pm.map _).trans ?_;have Iw:=UF (ZE rs) λa ha b hb e=>by
   obtain⟨_,ra,_⟩:=Jv.mp ha;obtain⟨_,rb,_⟩:=Jv.mp hb;obtain⟨e1,e2⟩:=aaB e;exact Y8 (I.bp.inj _ (yc.mp ra).1 _ (yc.mp rb).1 e1) e2
  refine VN Iw (λx hx=>?_) ?_
  ·obtain⟨y,hy,rfl⟩:=yi.mp hx;obtain⟨q,ey,hq⟩:=Jv.mp hy;exact Jv.mpr #[q,by rw[<-ey];exact I.hs _ (yc.mp ey).1,hq]
  ·rw[ya,<-ya (f:=λx:Nat×Nat=>(p' _,x.2))];refine JY (UF (ZE DB) λa ha b hb e=>?_) λx hx=>?_
   ·obtain⟨_,ra,_⟩:=Jv.mp ha;obtain⟨_,rb,_⟩:=Jv.mp hb;obtain⟨e1,e2⟩:=aaB e;exact Y8 (bp.inj _ (by rw[I.n];exact (yc.mp ra).1) _ (by rw[I.n];exact (yc.mp rb).1) e1) e2
   ·obtain⟨y,hy,rfl⟩:=yi.mp hx;obtain⟨q,ey,hq⟩:=Jv.mp hy;have hi:y.1<rs.length:=by rw[I.n];exact (yc.mp ey).1
    have:=I.hs _<|bp.lt _ hi;rw[p2 _ hi,ey] at this;exact Jv.mpr #[q,this.symm,hq]
theorem oy {n:Nat} (h5:n<=5) (pm:os.Perm (Yc n)):UJ (Ye n ("r",2)) ((Yc n).map λk=>[(k,1),(os.getD k 0,0)]):=by
 have ls:∀n,(ur<|Ye n (("r"),2)).length=2*n:=λn=>by
  induction n with
  | zero=>rfl
  | succ n ih=>rw[List.replicate_succ',ZF,yg,ih,ya,yL];rfl
 have lf:∀m,(((Yc m).map λk=>[(k,1),(os.getD k 0,0)]).flatten).length=2*m:=λm=>by
  induction m with
  | zero=>rfl
  | succ m ih=>rw[QD,yd,Y5,yg,ih];rfl
 refine#[by simp_all,λx hx=>by rw[(List.mem_replicate.mp hx).2];exact#[.inl rfl,by decide,by decide],by rw[ya,yL];exact h5,λl hl z=>(by grind),(VN (ZE _) (λx hx=>?_) (by rw[ls,lf];exact yj _)).symm];obtain⟨r,er,h⟩:=Jv.mp hx;obtain⟨hi,e⟩:=yc.mp er;rw[QW] at hi;rw[List.getElem_replicate] at e;rw[<-e] at h;obtain⟨i,q⟩:=x;rcases (show q=1\/q=0 by lia) with rfl|rfl
 ·grind
 ·obtain⟨k1,k2⟩:=zU pm hi;exact List.mem_flatten.mpr #[_,yi.mpr #[_,yI.mpr k1,rfl],by grind]
def Ay:Sp:=λvs H Q _=>∃(c:Int),vs=[.int c]/\∀u rs nn H',Same H H'->uU H' u rs nn->UJ rs nn->Q (.ref u) H'
theorem bP (T:Txt K mg t):j7 P w K mg base 2 "_law_ring" [P3] Ay:=by
 refine T.dh.ok [P3,YF,XV,YL,FS] ?_;rintro _ H Q E ⟨c,rfl,q⟩;refine#[rfl,λDF A outer s hr=>#[_,(jf (jt 1<|jq (vP T)<|ja (pv 0)<|ja jg jb) (jf (jt 2<|jB uF jg<|jB Jy (jo jx (pv 1) jg) jg) (jf (jt 3<|jY jb) (jf (j0 jR (ub rfl T.uz<|ja (pv 2) jb) (jl 4)<|jk<|Jd<|j3 Ya aae aad gz (pv 3)<|ja (jB Jy (jo jx (pv 1)<|pv 4)<|jB uF (pv 4) jg)<|ja (pv 4) jb) (jk (jE (jL (ja (jB xP (jY<|ja (jL<|ja Jt<|ja jg jb) jb)<|pv 2) (ja (vx (N0:=[P3,YF,XV,YL,YK]) (own:=[FS]) (JW (cl:=[(YL,_)])) (ub rfl T.uz<|ja (pv 2) jb) (λ_ _ _ _ _=>jl 5) (λ_ _ _ _ _=>j4) (λ_ _ _ _ _=>(jY<|ja (jL<|ja (pv 5)<|ja jg jb)<|ja (jL<|ja (jo jx (pv 3)<|pv 5)<|ja jg jb) jb))) jb))))))))),?_]];refine#[c,7,rfl,by decide,λS ds H1 s1 hS eS ld h=>JO ?_];have b6:6<ds.length:=by lia
 obtain⟨n,en,n2,n5⟩:∃n:Nat,(2:Int)+ds[6] % 4=(n)/\2<=n/\n<=5:=#[(2+ds[6] % 4).toNat,by lia,by lia,by lia];refine UK [oI c,oR S,oI<|n,none,none] (λH'=>H'=H1) (λB hB=>#[_,_,jj.of eS,Vx b6,(by show (0)<4;decide),by have:=hB _ rfl;rw[<-en] at this;exact this]) ?_;rintro H1 rfl;refine ze λD H2 s2 hD eD=>?_;refine#[_,rfl,by lia,by lia,UM (n:=n) (λi σ H'=>E2 λ(v4) (os:List Nat)=>A4 (σ=[oI c,oR S,oI _,oR D,v4]) (Same H1 H') (H' D=some (.lst<|os.map UB))<|os.Perm<|Yc i) #[_,[],rfl,s2,eD,.refl _] ?_ ?_]
 ·rintro i σ H3 hi ⟨v4,os,rfl,s3,e3,pm⟩;rw[QE];have bi:i<ds.length:=by lia
  have m0:=VC (i:=ds[i]) (m:=(i)+1) gt;have lo:os.length=i:=by rw[pm.length_eq,yL]
  refine#[.inl #[rfl,_,jj.of e3],_,_,jj.of<|s3 _ _ eS,Vx bi,gt,D,_,_,_,rfl,rfl,e3,GH (by rw[ya];omega),m0.1,by lia,?_];generalize (min _ (os.map UB).length)=j;refine#[_,os.take j++[i]++os.drop j,rfl,jK s3 hD,?_,?_]
  ·rw[jc,yd,yd,aaX,aaY]
   rfl
  ·rw[QD];exact (GV os j i).trans (pm.append_right _)
 rintro σ H3 ⟨v4,os,rfl,s3,e3,pm⟩;have lo:os.length=n:=by rw[pm.length_eq,yL]
 refine#[JE,λu hu=>#[oH,λl hl=>?_]];have t1:=jh (o:=.tup [.str "r",.int 2]) (Same.refl H3) hu;have e1:upd H3 u (.tup [.str "r",.int 2]) u=some (.tup<|(kH ("r",2)).map kV):=jc;generalize upd H3 u (.tup [.str "r",.int 2])=H4 at t1 e1 hl
 refine Ev hl λH5 t2 e2=>?_
 refine#[l,_,_,rfl,rfl,e2,by lia,by lia,by show 1*(n:Int).toNat<=sizeLine;exact yk (show _<=100 by lia) ac,λp hp=>?_];have t3:=jh (o:=.lst (Ye (n:Int).toNat [V.ref u]).flatten) (Same.refl H5) hp;have e4:upd H5 p (.lst (Ye (n:Int).toNat [V.ref u]).flatten) p=some (.lst<|(Ye n u).map V.ref):=by rw[jc,Qg,List.flatten_replicate_singleton,abp]
 generalize upd H5 p (.lst (Ye (n:Int).toNat [V.ref u]).flatten)=H6 at t3 e4;have WE:=Same.trans t1<|Same.trans t2 t3;have kr:KeyAt H6 (Ye n u) ((Ye n (("r":Str),2)).map kH):=by
  refine#[by simp,λi b k h1 h2=>?_];obtain rfl:=(List.mem_replicate.mp<|yh h1).2;rw[abp] at h2;obtain rfl:=(List.mem_replicate.mp<|yh h2).2;exact t3 _ _ (t2 _ _ e1)
 refine#[_,rfl,by lia,by lia,vK (n:=n) (λC k ys H'=>∃vs:List Addr,A6 (Same H6 H') _ (H' C=some (.lst ys)) (ys=vs.map V.ref/\vs.length=k) (∀v∈vs,v≠C) (Ju H' vs ((Yc k).map λk=>[(k,1),(os.getD k 0,0)]))) (yk n5 ac) (λC hC=>#[[],jh (Same.refl _) hC,hC,jc,#[rfl,rfl],(λv h=>nomatch h),rfl,λi v l h=>nomatch h]) (λC k ys H' h=>by obtain⟨vs,_,_,h3,⟨rfl,h4⟩,_⟩:=h;exact#[h3,by rw[ya,h4]]) ?_ ?_]
 ·rintro C k ys H7 Qy Qn B₁ ⟨vs,s7,hC,eC,⟨rfl,lv⟩,nC,HQ⟩ hy;rw[QE];have ko:k<os.length:=by lia
  refine#[#[_,rfl,rfl],Jm #[JE,λu1 OV=>?_]]
  refine Fa (o:=.tup [.int (k:Int),.int 1]) (q:=.tup ((kE (k,1)).map kV)) rfl OV λH8 r1 f1=>?_
  refine#[_,.int _,jj.of<|r1 _ _<|s7 _ _<|WE _ _ e3,jX (by rw[ye,some_of (d:=0) ko];rfl),JE,λu2 L7=>?_]
  refine Fa (o:=.tup [.int (os.getD k 0:Nat),.int 0]) (q:=.tup ((kE (os.getD k 0,0)).map kV)) rfl L7 λH9 r2 f2=>?_
  refine#[JE,λl9 Ss=>?_];have r3:=jh (o:=.lst [.ref u1,.ref u2]) (Same.refl H9) Ss;have f3:upd H9 l9 (.lst [.ref u1,.ref u2]) l9=some (.lst<|[u1,u2].map V.ref):=jc;have n9:l9≠C:=λz=>by rw[z,r2 _ _<|r1 _ _ eC] at Ss;cases Ss
  generalize upd H9 l9 (.lst [.ref u1,.ref u2])=HV at r3 f3;have Su:=Same.trans r1<|Same.trans r2 r3;have OA:=Su _ _ eC;have WG:=λv hv=>(yB.mp hv).elim (nC v) λh=>by rw[yp.mp h];exact n9
  refine hy _ _ OA #[_,jK (Same.trans s7 Su) hC,hC,jc,#[by rw[yd];rfl,by rw[yg,lv];rfl],WG,?_];rw[QD,yd];exact ((HQ.same Su).snoc (l:=[(k,1),(os.getD k 0,0)]) f3 (JL (JL (ps:=[]) (ks:=[]) #[rfl,λi b k h=>nomatch h]<|r3 _ _<|r2 _ _ f1)<|r3 _ _ f2)).off (λz=>WG C z rfl) OA
 ·rintro C ys H7 hC ⟨vs,s7,_,eC,⟨rfl,lv⟩,nC,HQ⟩;refine#[JE,λu9 IQ=>?_];have r1:=jh (o:=.tup [.ref p,.ref C]) (Same.refl H7) IQ;have r6:=Same.trans s7 r1;exact q u9 _ _ _ (Same.trans s1<|Same.trans s3<|Same.trans WE r6) #[p,C,_,vs,jc,r6 _ _ e4,KeyAt.mono' kr r6,r1 _ _ eC,HQ.same r1] (oy n5 pm)
structure MV (H0 H:Hp) (u:Addr) (rs:List uG) (nn:Pi):Prop where
 ex:∃(pl nl:Addr) (us vs:Di),A7 (H u=some (.tup [.ref pl,.ref nl])) (H pl=some (.lst<|us.map V.ref)) (KeyAt H us<|rs.map kH) (H nl=some (.lst<|vs.map V.ref)) (Ju H vs nn) (pl::nl::vs).Nodup (∀x∈pl::nl::vs,H0 x=none)
theorem MV.at_ {H:Hp}{u:Addr}{nn:Pi} (x:MV H0 H u rs nn):uU H u rs nn:=let ⟨pl,nl,us,vs,h1,h2,h3,h4,h5,_,_⟩:=x.ex;#[pl,nl,us,vs,h1,h2,h3,h4,h5]
theorem io {β:Type}{H:Hp}{zs:List (Addr×β)}{g:β->Ps} (h:∀z∈zs,∃us:List Addr,H z.1=some (.lst<|us.map V.ref)/\KeyAt H us ((g z.2).map kE)):Ju H (zs.map (·.1)) (zs.map λz=>g z.2):=by
 refine#[by grind,λi v l h1 h2=>?_];rw[ye] at h1 h2;obtain⟨z,e,rfl⟩:=yr.mp h1;rw[e] at h2;cases h2;exact h z (yh e)
theorem K9 {nn:Pi} (G:UJ rs nn) {l:Ps} (lm:l∈nn):l.length<=30/\∀x∈l,x.1<rs.length:=by
 refine#[?_,λx hx=>?_]
 ·have h1:=(QU lm).length_le;have h2:=G.pm.length_eq;have h3:=UR G.few λx hx=>(G.k x hx).3
  lia
 ·obtain⟨r,er,_⟩:=Jv.mp<|G.pm.mem_iff.mp<|List.mem_flatten.mpr #[l,lm,hx];exact (yc.mp er).1
def qY:Sp:=λvs H Q _=>E4 λ(u:Addr) (c:Int) (rs:List uG) (nn:Pi)=>A4 (vs=[.ref u,.int c]) (uU H u rs nn) (UJ rs nn) (∀u' DB DH H' p r,Same H H'->MV H H' u' DB DH->pE rs nn DB DH p r->Q (.ref u') H')
theorem MN (T:Txt K mg t):j7 P w K mg base 2 "_law_turned" [SB,P3] qY:=by
 refine T.nA.ok [SB,P3,IR,TW,YF,YL,FS,YH] ?_;rintro _ H Q E ⟨uu,c,rs,nn,rfl,⟨pl,nl,us,ws,hu,DJ,ka,DZ,EA⟩,G,q⟩;refine#[rfl,λDF A outer s hr=>#[_,(jf (zc (pv 0)<|j5<|jr (jl 2)<|jr (jl 3) jV) (jf (jt 4<|jq (vP T)<|ja (pv 1)<|ja jg jb) (jf (jt 5<|jY jb) (jf (j0 jR (ub rfl T.uz (ja (jw jW (by rfl) T.JD JC<|ja (pv 2) jb) jb)) (jl 6)<|jk<|Jd<|j3 Ya aae aad gz (pv 5)<|ja (jB Jy (jo jx (pv 4)<|pv 6)<|jB uF (pv 6) jg)<|ja (pv 6) jb) (jf (jt 7<|jY jb) (jf (j0 jR (ub rfl T.uz (ja (jw jW (by rfl) T.JD JC<|ja (pv 3) jb) jb)) (jl 6) (jk (Jd (j3 Ya aae aad gz (pv 7) (ja (jB Jy (jo jx (pv 4)<|jB uF jg<|pv 6)<|jB uF (pv 6) jg) (ja (jU (own:=[T0,YJ]) (JW (cl:=[(YL,_)])) (jN<|jo jx (pv 3)<|pv 6) (λ_ _ _ _ _=>j5 (n:=2)<|jr (jl 8)<|jr (jl 9) jV) (λ_ _ _ _ _=>j4) (λ_ _ _ _ _=>(jL<|ja (j3 Ya Yk Yi uS (pv 5)<|ja (pv 8) jb)<|ja (pv 9) jb))) jb)))))) (jk (jE (jL (ja (vx (N0:=[SB,P3,IR,TW,YF,YL,YK,YH]) (own:=[FS]) (JW (cl:=[(IR,_)])) (jN<|pv 5) (λ_ _ _ _ _=>jl 8) (λ_ _ _ _ _=>j4) (λ_ _ _ _ _=>(jo jx (pv 2)<|pv 8)))<|ja (pv 7) jb)))))))))),?_]];have lu:=Ut ka;have lw:=EA.1;have g6:=G.few;have Pm:=G.fewN;refine#[_,ju.of hu,rfl,JO ?_];refine#[c,12,rfl,by decide,λZ ds H1 s1 hS eZ ld h=>JO ?_];refine ze λO H2 s2 hO eO=>?_;refine#[pl,_,rfl,.inl<|jj.of<|s2 _ _<|s1 _ _ DJ,(rs.length),by rw[ya,lu],by lia,by lia,UM (n:=rs.length) (λi σ H'=>E2 λ(v6) (os:List Nat)=>A4 (σ=[oR uu,oI c,oR pl,oR nl,oR Z,oR O,v6,none]) (Same H1 H') (H' O=some (.lst<|os.map UB))<|os.Perm<|Yc i) #[_,[],rfl,s2,eO,.refl _] ?_ ?_]
 ·rintro i σ H3 hi ⟨v6,os,rfl,s3,e3,pm⟩;rw[QE];have bi:i<ds.length:=by lia
  have m0:=VC (i:=ds[i]) (m:=(i)+1) gt;have lo:os.length=i:=by rw[pm.length_eq,yL]
  refine#[.inl #[rfl,_,jj.of e3],_,_,jj.of<|s3 _ _ eZ,Vx bi,gt,O,_,_,_,rfl,rfl,e3,by rw[ya];exact yC (show _<100 by lia) ac,m0.1,by lia,?_];generalize (min _ (os.map UB).length)=j;refine#[_,os.take j++[i]++os.drop j,rfl,jK s3 hO,?_,?_]
  ·rw[jc,yd,yd,aaX,aaY]
   rfl
  ·rw[QD];exact (GV os j i).trans (pm.append_right _)
 rintro σ H3 ⟨v6,os,rfl,s3,eO3,pm⟩;refine JO ?_;have lo:os.length=rs.length:=by rw[pm.length_eq,yL]
 have mo:∀k∈os,k<rs.length:=λk hk=>yI.mp<|pm.mem_iff.mp hk;refine ze λL H4 s4 hL eL=>?_;have DC:=Same.trans s1 s3
 let g:=λk=>(nn.getD k []).map λx=>(os.idxOf x.1,x.2)
 refine#[nl,_,rfl,.inl<|jj.of<|s4 _ _<|DC _ _ DZ,(nn.length),by rw[ya,lw],by lia,by lia,UM (n:=nn.length) (λi σ H'=>E2 λ(v6) (zs:List (Addr×Nat))=>A6 (σ=[oR uu,oI c,oR pl,oR nl,oR Z,oR O,v6,oR L]) (Same H3 H') (H' L=some (.lst<|(zs.map (·.1)).map V.ref)) ((zs.map (·.2)).Perm<|Yc i) ((zs.map (·.1)).Nodup) (∀z∈zs,A3 (H3 z.1=none) (z.1≠L) (∃us:List Addr,H' z.1=some (.lst<|us.map V.ref)/\KeyAt H' us ((g z.2).map kE)))) #[_,[],rfl,s4,eL,.refl _,yZ,λz h=>nomatch h] ?_ ?_]
 ·rintro i σ H5 hi ⟨v6,zs,rfl,s5,En,F7,Sv,hz⟩;rw[QE];have bi:6+i<ds.length:=by lia
  have m0:=VC (i:=ds[6+i]) (m:=(i)+1) gt;have lz:=by have:=F7.length_eq;rwa [ya,yL] at this
  have Ef:=Same.trans DC s5;have ev:=yb (l:=ws) (i:=i) gt;generalize ws[i]=v at ev;have el:=yb hi;have lm:=yz hi;have gi:g i=nn[i].map λx=>(os.idxOf x.1,x.2):=by show (nn.getD i _).map _=_;rw[yn,el];rfl
  generalize nn[i]=l at el lm gi;obtain⟨qs,g1,g2⟩:=(EA.same Ef).2 i v l ev el;have IS:=Ut g2;obtain⟨ll,inl⟩:=K9 G lm;refine#[.inl #[rfl,_,jj.of En],_,_,jj.of<|s5 _ _<|s3 _ _ eZ,Vx bi,gt,_,_,jj.of<|Ef _ _ DZ,jX (by rw[ye,ev];rfl),v,rfl,#[_,jj.of g1],JV (xs:=qs.map V.ref) (λD i ys H'=>∃Ek:List Addr,A6 (Same H5 H') _ (H' D=some (.lst ys)) (ys=Ek.map V.ref) (Ek.length<=i) (KeyAt H' Ek (((l.take i).map λx=>(os.idxOf x.1,x.2)).map kE))) (by rw[ya];exact yk (show _<=100 by lia) ac) (λD hD=>#[[],jh (Same.refl H5) hD,hD,jc,rfl,yj _,rfl,λi b k h=>nomatch h]) (λD i ys H' h=>by obtain⟨Ek,h1,h2,h3,h4,h5,_⟩:=h;exact#[h3,by rw[h4,ya];exact h5,jj.of<|h1 _ _ g1]) ?_ ?_]
  ·rintro D i' y ys H8 Qy Qn C₂ ⟨Ek,s8,hD,eD,rfl,l8,k8⟩ hy hn;obtain⟨b,eb,rfl⟩:=gm C₂;have li:i'<l.length:=by rw[<-IS];exact (yc.mp eb).1
   have ex:=yb li;have xm:=yz li;have tb:=g2.2 i' b _ eb (by rw[ye,ex];rfl);generalize l[i']=x at ex xm tb;have WH:H8 O=some (.lst ((os.map λn=>((n:Nat):Int)).map V.int)):=by rw[<-NU];exact s8 _ _ (s5 _ _ eO3)
   refine#[_,ju.of<|s8 _ _ tb,rfl,#[_,rfl,rfl],Jm #[.inl #[rfl,_,jj.of WH],O,_,_,rfl,rfl,WH,by rw[ya];lia,yi.mpr #[_,pm.mem_iff.mpr<|yI.mpr<|inl x xm,rfl],JE,λu9 IQ=>?_]];rw[ND]
   refine Fa (o:=.tup [.int (os.idxOf x.1:Nat),kV<|Yh ((x.2:Nat):Int)]) (q:=.tup ((kE (os.idxOf x.1,x.2)).map kV)) rfl IQ λH9 s9 e9=>?_
   have HW:=s9 _ _ eD;refine hy _ _ HW #[Ek++[u9],jK (Same.trans s8 s9) hD,hD,jc,by rw[yd];rfl,by rw[yg];exact Qt l8,?_];rw[jA ex,yd,yd];exact (JL (KeyAt.mono' k8 s9) e9).wr HW
  ·rintro D ys H8 hD ⟨Ek,s8,_,eD,rfl,l8,k8⟩;rw[ya,jO IS.symm,<-gi] at k8;have Sw:=s8 _ _ En;have nD:D≠L:=λz=>by rw[z,En] at hD;cases hD
   refine#[L,_,_,_,rfl,rfl,Sw,by rw[ya,ya];exact yC (show _<100 by lia) ac,m0.1,by lia,?_];generalize (min _ ((zs.map _).map V.ref).length)=j;have ip:=GV zs j (D,i);refine#[_,zs.take j++[(D,i)]++zs.drop j,rfl,jK (Same.trans s5 s8) hL,by rw[jc];simp,?_,?_,λz PJ=>?_]
   ·rw[QD];refine (ip.map _).trans ?_;rw[yd];exact F7.append_right _
   ·refine (ip.map _).nodup_iff.mpr ?_;rw[yd];refine y8.mpr #[Sv,yO.mpr #[yS,yZ],λx hx y hy e=>?_];obtain⟨z,D₁,rfl⟩:=yi.mp hx;obtain⟨_,_,HX,e',_⟩:=hz z D₁;rw[e,yp.mp hy,hD] at e';cases e'
   ·rcases yB.mp (ip.mem_iff.mp PJ) with h|h
    ·obtain⟨h1,h2,HX,h3,h4⟩:=hz z h;exact#[h1,h2,HX,jy h2<|s8 _ _ h3,(KeyAt.mono' h4 s8).wr Sw]
    ·rw[yp.mp h];exact#[Same.nn s5 hD,nD,Ek,jy nD eD,k8.wr Sw]
 rintro σ H5 ⟨v6,zs,rfl,s5,En,F7,Sv,hz⟩;have Ef:=Same.trans DC s5;refine#[O,rfl,#[_,jj.of<|s5 _ _ eO3],Ux (λ_=>true) (λx=>match x with|.int k=>.ref (us.getD k.toNat 0)|_=>.non) (jj.of<|s5 _ _ eO3) (by rw[ya,lo];exact yk g6 ac) (λx hx H' Qy Qn s' hy _=>?_) λX hX=>?_]
 ·obtain⟨k,hk,rfl⟩:=yi.mp hx;have kl:k<us.length:=by rw[lu];exact mo k hk
  exact#[#[_,rfl,rfl],Jm #[_,_,jj.of<|s' _ _<|Ef _ _ DJ,jX (by rw[ye,some_of kl];rfl),hy rfl]]
 have t1:=jh (o:=.lst (((os.map UB).filter λ_=>true).map λx=>match x with|.int k=>.ref (us.getD k.toNat 0)|_=>.non)) (Same.refl H5) hX;have e1:upd H5 X (.lst (((os.map UB).filter λ_=>true).map λx=>match x with|.int k=>.ref (us.getD k.toNat 0)|_=>.non)) X=some (.lst ((os.map λk=>us.getD k 0).map V.ref)):=by rw[jc,Qw.mpr (λ_ _=>rfl),yq,yq];rfl
 generalize upd H5 X (.lst (((os.map UB).filter λ_=>true).map λx=>match x with|.int k=>.ref (us.getD k.toNat 0)|_=>.non))=H6 at t1 e1;refine#[JE,λu hu=>?_];have t2:=jh (o:=.tup [.ref X,.ref L]) (Same.refl H6) hu;have Sx:=Same.trans t1 t2;have kX:KeyAt H (os.map λk=>us.getD k 0) ((os.map λk=>rs.getD k ("",0)).map kH):=by
  refine#[by rw[ya,ya,ya],λi b k h1 h2=>?_];rw[ye] at h1;rw[yq,ye] at h2;obtain⟨x,ex,rfl⟩:=yr.mp h1;rw[ex] at h2;cases h2;have xl:=mo x<|yh ex;exact ka.2 x _ _ (some_of (by rw[lu];exact xl)) (by rw[ye,some_of xl];rfl)
 have DN:=Same.trans Ef Sx;have nX:∀z∈zs,z.1≠X:=λz h e=>by
  obtain⟨_,_,_,e',_⟩:=hz z h;rw[e,hX] at e';cases e'
 refine q u _ _ _ _ _ DN #[X,L,_,_,jc,t2 _ _ e1,KeyAt.mono' kX DN,Sx _ _ En,(io λz h=>(hz z h).3).same Sx,?_,λx hx=>?_] #[by rw[ya,lo],?_,cA pm,cA F7,λi hi=>?_,λj l1 l2 h1 h2=>?_]
 ·refine yO.mpr #[λh=>?_,yO.mpr #[λh=>?_,Sv]]
  ·rcases yD.mp h with e|h
   ·rw[e,En] at hX;cases hX
   ·obtain⟨z,h,e⟩:=yi.mp h;exact nX z h e
  ·obtain⟨z,h,e⟩:=yi.mp h;exact (hz z h).2 e
 ·rcases yD.mp hx with rfl|hx
  ·exact Same.nn Ef hX
  ·rcases yD.mp hx with rfl|hx
   ·exact Same.nn DC hL
   ·obtain⟨z,h,rfl⟩:=yi.mp hx;exact Same.nn DC (hz z h).1
 ·have:=F7.length_eq;rwa [ya,yL,<-ya,eq_comm] at this
 ·rw[ye,(zU pm hi).2,some_of (l:=rs) (d:=("",0)) hi]
  rfl
 ·have:=(zU F7 (yc.mp h1).1).2;rw[ye] at this h2;obtain⟨z,ez,e⟩:=yr.mp this;rw[ez] at h2;cases h2;show (l1.map _).Perm (g _);rw[e];show (l1.map _).Perm ((nn.getD j _).map _);rw[yn,h1];exact .refl _
theorem Ju.to {H:Hp}{vs:Di}{ws:Pi} (W:Ju H vs ws) (nd:vs.Nodup) {i:Nat} {v:Addr} {us:Di} {l:Ps} (h1:vs[i]?=some v) (e:H v=some (.lst zs)) (ka:KeyAt H us (l.map kE)):Ju (upd H v<|.lst<|us.map V.ref) vs (ws.set i l):=by
 refine#[by rw[aap];exact W.1,λj u m e1 e2=>?_];by_cases z:j=i
 ·subst z;rw[h1] at e1;cases e1;rw[QR (by grind)] at e2;cases e2;exact#[us,jc,ka.wr e]
 ·rw[Q5<|yV z] at e2;obtain⟨R0,a,b⟩:=W.2 j u m e1 e2;exact#[R0,jy (dw nd h1 e1 z) a,b.wr e]
theorem iY {H:Hp}{us:Di} (h:KeyAt H us ks) (c:Nat):KeyAt H (us.eraseIdx c) (ks.eraseIdx c):=by
 refine#[by rw[abd,abd,h.1],λi b k h1 h2=>?_];rw[List.getElem?_eraseIdx] at h1 h2;by_cases z:i<c
 ·rw[if_pos z] at h1 h2;exact h.2 i b k h1 h2
 ·rw[if_neg z] at h1 h2;exact h.2 _ b k h1 h2
theorem ck {α:Type}{x:α}:∀{l:List α} {c:Nat},l[c]?=some x->(x::l.eraseIdx c).Perm l
 | [],_,h=>by simp at h
 | a::l,0,h=>by cases h;exact .refl _
 | a::l,c+1,h=>(aaF ..).trans ((ck (by simpa using h)).cons a)
theorem n6 {α β:Type} (f:α->β):∀(l:List α) (c:Nat),(l.map f).eraseIdx c=(l.eraseIdx c).map f
 | [],_=>rfl
 | _::_,0=>rfl
 | a::l,c+1=>congrArg _ (n6 f l c)
theorem Nt {α:Type}{x:α}:∀{ee:List (List α)} {j c:Nat} {l:List α},ee[j]?=some l->l[c]?=some x->((ee.set j<|l.eraseIdx c).flatten++[x]).Perm ee.flatten
 | [],_,_,_,h,_=>by simp at h
 | a::ee,0,c,l,h,hx=>by
  have h:=by simpa using h
  rw[abn,h];exact (YX).trans ((ck hx).append_right ee.flatten)
 | a::ee,j+1,c,l,h,hx=>by
  have h:=by simpa using h
  rw[abo,Qv,Qf];exact (Nt h hx).append_left a
structure Z1 (H0:Hp) (pl nl Z:Addr) (us vs:Di) (rs:List uG) (ds:List Int) (ee:Pi) (H:Hp):Prop where
 s:Same H0 H
 p:H pl=some (.lst<|us.map V.ref)
 k:KeyAt H us (rs.map kH)
 n:H nl=some (.lst<|vs.map V.ref)
 e:Ju H vs ee
 z:H Z=some (.lst<|ds.map V.int)
theorem Z1.same {H H':Hp}{us vs:Di}{ds:List Int}{ee:Pi} (x:Z1 H0 pl nl Z us vs rs ds ee H) (s:Same H H'):Z1 H0 pl nl Z us vs rs ds ee H':=#[Same.trans x.s s,s _ _ x.p,KeyAt.mono' x.k s,s _ _ x.n,x.e.same s,s _ _ x.z]
theorem Z1.put {H:Hp}{us vs:Di}{ds:List Int}{ee:Pi} (x:Z1 H0 pl nl Z us vs rs ds ee H) (nd:(pl::nl::vs).Nodup) (fr:∀v∈pl::nl::vs,H0 v=none) (nZ:Z ∉ vs) {j:Nat} {v:Addr} (h1:vs[j]?=some v) (e:H v=some (.lst zs)) {l:Ps} (ka:KeyAt H qs (l.map kE)):Z1 H0 pl nl Z us vs rs ds (ee.set j l) (upd H v<|.lst<|qs.map V.ref):=by
 have vm:=yh h1;obtain⟨n1,n2⟩:=yO.mp nd;obtain⟨n3,n4⟩:=yO.mp n2;exact#[jK x.s<|fr v<|yl _<|yl _ vm,jy (λz:pl=v=>n1<|yl _<|z▸vm) x.p,x.k.wr e,jy (λz:nl=v=>n3<|z▸vm) x.n,x.e.to n4 h1 e ka,jy (λz:Z=v=>nZ<|z▸vm) x.z]
theorem qi {H:Hp}{u v:Addr}{us:Di}{k j:List Key} (h:KeyAt H (u::us) (k::ks)) (e:H v=some (.tup<|j.map kV)):KeyAt H (v::us) (j::ks):=by
 refine#[h.1,λi b c h1 h2=>?_];cases i with
 | zero=>cases h1;cases h2;exact e
 | succ i=>exact h.2 (i+1) b c h1 h2
def qX:Sp:=λvs H Q _=>E5 λ(H0:Hp) (u:Addr) (c:Int) (rs:List uG) (nn:Pi)=>A5 (vs=[.ref u,.int c]) (Same H0 H) (MV H0 H u rs nn) (UJ rs nn) (∀u' DB DH H',Same H0 H'->uU H' u' DB DH->UJ DB DH->Q (.ref u') H')
theorem MM (T:Txt K mg t):j7 P w K mg base 2 "_law_spoilt" [SB,P3] qX:=by
 refine T.ny.ok [SB,P3,IR,TW,YF,FS,"_law_line",YO,"_law_goal","_law_kind",XV,FM] ?_;rintro _ H Q E ⟨H0,uu,c,rs,nn,rfl,s0,⟨pl,nl,us,vs,hu,DJ,ka,DZ,EA,nd,fr⟩,G,q⟩;refine#[rfl,λDF A outer s hr=>#[_,(jf (zc (pv 0)<|j5<|jr (jl 2)<|jr (jl 3) jV) (jf (jt 4<|jq (vP T)<|ja (pv 1)<|ja jg jb) (jf (j0 jR (ub rfl T.uz (ja (jB V8 (jB Jy (jo jx (pv 4) jg) jg) (jT mG (by rfl) T.fk dy<|ja (vD (Vp hr.units0) (pv 3)<|jY jb) jb)) jb)) (jl 5) (jf (jt 6 (jo jx (pv 3) (jB Jy (jo jx (pv 4)<|jB uF jg<|pv 5) (jw jW (by rfl) T.JD JC<|ja (pv 3) jb)))) (jk (j8 (jF (Vp hr.units0) (pv 6)<|jY jb) (jf (jt 7 (j3 Ya PySem.F.slot_list_pop PySem.F.type_list_pop qo (pv 6) (ja (jB Jy (jB Vc (jo jx (pv 4)<|jB uF jg<|pv 5) jg) (jw jW (by rfl) T.JD JC<|ja (pv 6) jb)) jb))) (jf (jt 8 (jo jx (pv 3) (jB Jy (jo jx (pv 4)<|jB uF jg<|pv 5) (jw jW (by rfl) T.JD JC<|ja (pv 3) jb))))<|jk<|Jd<|j3 Ya Yg Yf Jb (pv 8)<|ja (pv 7) jb)) jP)))) (jf (j8 (zY (jF uZ (jB Jy (jo jx (pv 4) jg) jg) jg)<|zZ<|jF (Vp hr.units0) (pv 2)<|jY jb).pt (jf (zc (jo jx (pv 2) jg)<|j5<|jr (jl 9)<|jr (jl 10) jV)<|jf (jt 11 Jt)<|jf (j8 (jF uZ (pv 9) Jt) (jk<|jt 11 Jt) jP)<|jk<|zc (jL<|ja (pv 11)<|ja (pv 10) jb)<|xU (pv 2) jg qS) jP) (jk (jE (jL (ja (pv 2) (ja (jU (own:=[YG]) (JW (cl:=[])) (jN<|pv 3) (λ_ _ _ _ _=>jl 12) (λ_ _ _ _ _=>zb<|jF (Vp hr.units0) (pv 12)<|jY jb) (λ_ _ _ _ _=>(pv 12))) jb))))))))),?_]];have lv:=EA.1;have g6:=G.few;have Pm:=G.fewN;refine#[_,ju.of hu,rfl,JO ?_];refine z8 (λ(Z) (ds)=>[oR uu,oI c,oR pl,oR nl,oR Z,none,none,none,none,none,none,none]) (λZ ds H'=>A4 (Z1 H0 pl nl Z us vs rs ds nn H') _ (Z ∉ vs)<|Z≠pl) (λB hB=>#[c,6,rfl,by decide,λS ds H' s' hS eS l h=>hB S ds H' #[#[Same.trans s0 s',s' _ _ DJ,KeyAt.mono' ka s',s' _ _ DZ,EA.same s',eS],l,λz=>?_,λz=>by rw[z,DJ] at hS;cases hS]]) ?_
 ·obtain⟨i,hi,rfl⟩:=yH z;obtain⟨_,e,_⟩:=EA.2 i _ _ (yb hi) (yb (by rw[<-EA.1];exact hi));rw[e] at hS;cases hS
 rintro Z ds H1 ⟨S1,ld,nZ,D₂⟩;have b0:0<ds.length:=by lia
 obtain⟨n,en,n2,E₁⟩:∃n:Nat,ds[0] % 3*(if (!(vs.map V.ref).isEmpty)=true then 1 else 0)=(n)/\n<=2/\(n≠0->vs≠[]):=by
  cases vs with
  | nil=>exact#[0,by show _*0=_;lia,by lia,λh=>absurd rfl h]
  | cons _ _=>exact#[(ds[0] % 3).toNat,by show _*1=_;lia,by lia,λ_ h=>nomatch h]
 refine sC (λ(v5 v6 v7 v8) (ee)=>[oR uu,oI c,oR pl,oR nl,oR Z,v5,v6,v7,v8,none,none,none]) (λ_ _ _ _ ee H'=>Z1 H0 pl nl Z us vs rs ds ee H'/\ee.flatten.Perm (ur rs)) (λB hB=>?_) ?_
 ·refine#[_,_,jj.of S1.z,Vx b0,(by show (0)<3;decide),vR,λe he=>?_];have t1:=jh (o:=.lst []) (Same.refl H1) he;have S2:=S1.same t1;refine#[nl,e,_,rfl,rfl,jj.of S2.n,jj.of jc,.inr #[_,rfl,.inl #[by lia,by lia],_,congrArg (λz=>[V.int z]) en,by lia,by omega,UM (n:=n) (λi σ H'=>E5 λ(v5 v6 v7 v8) (ee)=>A3 (σ=[oR uu,oI c,oR pl,oR nl,oR Z,v5,v6,v7,v8,none,none,none]) (Z1 H0 pl nl Z us vs rs ds ee H')<|ee.flatten.Perm _) #[_,_,_,_,nn,rfl,S2,G.pm] ?_ ?_]]
  ·rintro i σ H3 hi ⟨v5,v6,v7,v8,ee,rfl,S3,pm⟩;rw[QE];have vn:=E₁ gt;have vl:=List.length_pos_iff.mpr vn;have b1:1+i<ds.length:=by lia
   have b3:3+i<ds.length:=by lia
   have ix:∀d:Int,∃(j:Nat) (v:Addr),d % ((vs.map V.ref).length)=(j)/\vs[j]?=some v:=λd=>by
    rw[ya];have:=VC (i:=d) (m:=(vs.length)) gt;have hj:(d % (vs.length)).toNat<vs.length:=by lia
    exact#[_,_,by lia,yb hj]
   have WI:∀{j v ee H},Z1 H0 pl nl Z us vs rs ds ee H->vs[j]?=some v->ee.flatten.length<=30->∃(l:List _) (qs:Di),A5 (ee[j]?=some l) (H v=some (.lst<|qs.map V.ref)) (KeyAt H qs<|l.map kE) (qs.length=l.length) (l.length<=30):=λ{j v ee H} S ev Sy=>by
    have hj:j<ee.length:=by rw[<-S.e.1];exact (yc.mp ev).1
    obtain⟨qs,g1,g2⟩:=S.e.2 j v _ ev<|yb hj;have h3:=(QU<|yz hj).length_le;exact#[_,qs,yb hj,g1,g2,by have:=g2.1;rwa [ya] at this,by lia]
   have Sy:=UR G.few λx hx=>(G.k x hx).3;obtain⟨j,v,ej,ev⟩:=ix ds[1+i];obtain⟨l,qs,el,g1,g2,IS,ll⟩:=WI S3 ev (by rw[pm.length_eq];exact Sy);refine UK [oR uu,oI c,oR pl,oR nl,oR Z,oI _,oR v,v7,v8,none,none,none] (λH'=>H'=H3) (λB hB=>#[_,_,jj.of S3.z,Vx b1,nl,_,rfl,.inl<|jj.of S3.n,(by rw[ya];lia),_,_,jj.of S3.n,(congrArg _ ej).trans (jX (by rw[ye,ev];rfl)),hB _ rfl]) ?_;rintro H3 rfl;refine#[vR,λe2 E₂=>?_];have t2:=jh (o:=.lst []) (Same.refl H3) E₂;have S4:=S3.same t2;have IT:=t2 _ _ g1;have Sz:=KeyAt.mono' g2 t2;refine#[v,e2,_,rfl,rfl,jj.of IT,jj.of jc,?_];generalize upd H3 e2 (.lst [])=H4 at t2 S4 IT Sz;refine vM (λzz=>?_) λzz=>#[_,_,_,_,ee,rfl,S4,pm];have ql:0<qs.length:=by cases qs with|nil=>cases zz|cons _ _=>exact Qh _
   obtain⟨a,ea,al⟩:∃a:Nat,ds[1+i] / 4 % ((qs.map V.ref).length)=(a)/\a<qs.length:=by
    rw[ya];have:=VC (i:=ds[1+i] / 4) (m:=(qs.length)) gt;exact#[(ds[1+i] / 4 % (qs.length)).toNat,by lia,by lia]
   have ex:=yb (l:=l) (i:=a) gt;have eb:=yb al;have tb:=Sz.2 a _ _ eb (by rw[ye,ex];rfl);generalize qs[a]=b at eb tb;generalize l[a]=x at ex tb;refine UK [oR uu,oI c,oR pl,oR nl,oR Z,oI _,oR v,oR b,v8,none,none,none] (λH'=>H'=upd H4 v _) (λB hB=>#[.inl #[rfl,_,jj.of IT],_,_,jj.of S4.z,Vx b1,#[by decide,by decide],v,_,rfl,.inl<|jj.of IT,(by rw[ya];lia),v,_,_,a,_,rfl,congrArg (λz=>[V.int z]) ea,IT,by lia,by lia,PySem.StrLaws.seqIndex_nonneg gt (by rw[ya];lia),by rw[ye,eb];rfl,hB _ (by rw[n6])]) ?_;rintro _ rfl;have S5:=S4.put nd fr nZ ev IT (by rw[<-n6];exact iY Sz a);have Pn:upd H4 v (.lst<|(qs.eraseIdx a).map V.ref) b=some (.tup<|(kE x).map kV):=by rw[jC<|j9 tb IT];exact tb
   have pd:=Nt el ex;generalize upd H4 v (.lst<|(qs.eraseIdx a).map V.ref)=H5 at S5 Pn;generalize ee.set j _=e5 at S5 pd;obtain⟨j2,v2,F',IU⟩:=ix ds[3+i];obtain⟨l2,WJ,IJ,f1,f2,lql2,ll2⟩:=WI S5 IU (by have:=pd.length_eq;rw[yg,pm.length_eq] at this;lia);refine UK [oR uu,oI c,oR pl,oR nl,oR Z,oI _,oR v,oR b,oR v2,none,none,none] (λH'=>H'=H5) (λB hB=>#[_,_,jj.of S5.z,Vx b3,nl,_,rfl,.inl<|jj.of S5.n,(by rw[ya];lia),_,_,jj.of S5.n,(congrArg _ F').trans (jX (by rw[ye,IU];rfl)),hB _ rfl]) ?_;rintro H5 rfl;refine#[.inl #[rfl,_,jj.of f1],v2,_,_,rfl,rfl,f1,by rw[ya];exact yG (show _<=100 by lia) ac,_,_,_,_,_,rfl,?_,(GT IJ).trans<|pd.trans pm];have:=S5.put nd fr nZ IU f1 (l:=l2++[x]) (by rw[yd];exact JL f2 Pn);rwa [yd] at this
  ·rintro σ H3 ⟨v5,v6,v7,v8,ee,rfl,S3,pm⟩;exact hB _ _ _ _ ee _ #[S3,pm]
 rintro v5 v6 v7 v8 ee H3 ⟨S3,pm⟩;have b5:5<ds.length:=by lia
 refine sC (λ(v9 v10 v11) (HX) (DB)=>[oR uu,oI c,oR pl,oR nl,oR Z,v5,v6,v7,v8,v9,v10,v11]) (λ_ _ _ HX DB H'=>A4 (Z1 H0 pl nl Z HX vs DB ds ee H') (ur DB=ur rs) (DB.length=rs.length) (∀x∈DB,A3 (x.1="r"\/x.1=W1) (1<=x.2)<|x.2<=6)) (λB hB=>?_) ?_
 ·refine#[_,_,jj.of S3.z,Vx b5,(by show (0)<4;decide),rfl,vM (λ_=>#[vR,λe he=>?_]) λ_=>hB _ _ _ us rs _ #[S3,rfl,rfl,G.k]];have t1:=jh (o:=.lst []) (Same.refl H3) he;have S4:=S3.same t1;refine#[pl,e,_,rfl,rfl,jj.of S4.p,jj.of jc,?_];generalize upd H3 e (.lst [])=H4 at t1 S4;refine vM (λzz=>?_) λ_=>hB _ _ _ us rs _ #[S4,rfl,rfl,G.k];have hk:=G.k;cases us with
  | nil=>cases zz
  | cons u0 ut =>
   cases rs with
   | nil=>have:=ka.1;cases this
   | cons r0 rt =>
    obtain⟨kd,pn⟩:=r0;have tu:H4 u0=some (.tup [.str kd,.int<|pn]):=S4.k.2 0 u0 _ rfl rfl;refine#[_,_,jj.of S4.p,jX rfl,_,ju.of tu,rfl,JO ?_];refine JO ?_;refine u7 (λ(ot:Str)=>[oR uu,oI c,oR pl,oR nl,oR Z,v5,v6,v7,v8,some<|.str kd,oI _,some _]) (λot H'=>H'=H4/\(ot="r"\/ot=W1)) (λB hB=>#[rfl,vM (λ_=>hB _ _ #[rfl,.inl rfl]) λ_=>hB _ _ #[rfl,.inr rfl]]) ?_;rintro ot H4 ⟨rfl,ho⟩;refine#[JE,λnu F₁=>?_]
    refine Fa (o:=.tup [.str ot,.int (pn:Nat)]) (q:=.tup ((kH (ot,pn)).map kV)) rfl F₁ λH5 t2 e2=>?_
    have S5:=S4.same t2;have np:=(yO.mp nd).1;refine#[pl,_,0,0,rfl,rfl,S5.p,by unfold Gs;rw[if_pos gt,if_pos (by show (0:Int)<((ut.map V.ref).length+1);lia)];rfl,hB _ _ _ _ ((ot,pn)::rt) _ #[#[jK S5.s<|fr pl<|yu ..,jc,(qi S5.k e2).wr S5.p,jy (λz:nl=pl=>np<|z▸yu ..) S5.n,S5.e.off (λz=>np<|yl _ z) S5.p,jy D₂ S5.z],rfl,rfl,λx hx=>?_]];rcases yD.mp hx with rfl|hx
    ·obtain⟨_,h2,h3⟩:=hk _<|yu ..;exact#[ho,h2,h3]
    ·exact hk x (yl _ hx)
 rintro v9 v10 v11 HX DB H4 ⟨S4,es,lr,hk⟩;have C₁:ee.length=nn.length:=by rw[<-S4.e.1,lv]
 refine#[nl,rfl,#[_,jj.of S4.n],JV (FI H4 vs ee) (by rw[ya,lv];exact yk Pm ac) (λD hD=>.nil hD) (λD i ys H' h=>let ⟨h1,h2,h3⟩:=h.at_ S4.n;#[h1,h2,h3]) ?_ ?_]
 ·rintro D i v ys H9 Qy Qn Sn F hy hn;obtain⟨b,eb,rfl⟩:=gm Sn;have So:i<ee.length:=by rw[<-S4.e.1];exact (yc.mp eb).1
  have IP:=yb So;generalize ee[i]=l at IP;obtain⟨qs,g1,g2⟩:=S4.e.2 i b l eb IP;refine#[#[_,rfl,rfl],vR,λe hE=>?_];have t1:=jh (o:=.lst []) (Same.refl H9) hE;obtain⟨y1,y2⟩:=F.next S4.e eb IP t1;refine#[b,e,_,rfl,rfl,jj.of<|t1 _ _<|F.s _ _ g1,jj.of jc,?_];rw[cG g2];exact vM (λz=>hy _ _ (t1 _ _ F.e)<|y1 z) λz=>hn _ (y2 z)
 ·rintro D ys H9 hD F;obtain⟨s9,_,eD,ws,rfl,lw,_,E9⟩:=F;rw[ya,jO gt] at E9;refine#[JE,λu hu=>?_];have Ey:=jh (o:=.tup [.ref pl,.ref D]) (Same.refl H9) hu;have SA:=Same.trans s9 Ey;exact q u DB _ _ (Same.trans S4.s SA) #[pl,D,HX,ws,jc,SA _ _ S4.p,KeyAt.mono' S4.k SA,Ey _ _ eD,E9.same Ey] #[by lia,hk,yk (Q0 _ _) gt,cn,by rw[gY,es];exact pm]
theorem Zl {a:Addr}{xs:List V}{g:TG}{tc:TT}{k:Nat}{H:Hp} (Pv:Addr->Nat->List V->Hp->Prop)
  (h0:∀D,H D=none->Pv D 0 [] (upd H D<|.lst [])) (hD:∀D i ys H',Pv D i ys H'->H' D=some (.lst ys)/\jj K H' a xs)
  (step:∀D i x p ys H' (Qy:VK) (Qn:Hp->Prop),xs[i]?=some x->H' p=none->Pv D i ys H'->(∀y H4,H4 D=some (.lst ys)->Pv D (i+1) (ys++[y]) (upd H4 D<|.lst<|ys++[y])->Qy y H4)->(∀H4,Pv D (i+1) ys H4->Qn H4) ->
   g (.ref p) (σ++Ye k none) (upd H' p<|.tup [.int i,x]) λσ2 H2=>(∃zs,σ2=σ++zs/\zs.length=k)/\tc σ2 H2 λb H3=>if b=true then te σ2 H3 Qy else Qn H3)
  (hz:∀D i ys H',Pv D i ys H'->ys.length<sizeLine) (q:∀D ys H',H D=none->Pv D xs.length ys H'->Q (.ref D) H'):vJ k g tc te σ Q (KL K a) H:=by
 intro D EW;refine#[λi m ys H'=>m=xs.length - i/\i<=xs.length/\Pv D i ys H',#[xs.length,by simp,yP _,h0 D EW],?_];rintro i m ys H' ⟨rfl,hi,p⟩;obtain⟨e,q1⟩:=hD D i ys H' p;refine#[e,?_];by_cases DA:i<xs.length
 ·refine .inr #[#[xs,xs[i],q1,by simp [DA]],hz D i ys H' p,λx H2 y=>?_];obtain⟨t,x,ht,rfl,rfl,e⟩:=y;exact step D i x t ys H' _ _ (e xs q1) ht p (λy H4 e4 p4=>#[e4,_,by omega,rfl,DA,p4]) λH4 p4=>#[_,by omega,rfl,DA,p4]
 ·obtain rfl:i=xs.length:=by lia
  exact .inl #[#[xs,q1,yj _],q D ys H' EW p]
theorem N7:∀hd∈ZJ,∀k:Nat,k<6->A3 (hd.length+(Str.ofString<|toString (k:Int)).length<=1000) (("n":Str).length+hd.length<=1000) ((("n":Str)++hd).length+(Str.ofString<|toString (k:Int)).length<=1000):=λhd hh k hk=>by
 have:∀hd∈ZJ,∀k:Nat,k<6->hd.length+(Str.ofString<|toString<|k).length<=1000/\("n").length+hd.length<=1000/\(("n")++hd).length+(Str.ofString<|toString<|k).length<=1000:=by decide +kernel
 obtain⟨a,b,c⟩:=this hd hh k hk;exact#[a,b,c]
theorem Ul.snoc {H:Hp}{ps:Di}{xs:List Jx} (C:Ul H ps xs) {p:Addr} {x:Jx} (h:H p=some (.tup [.str x.name,.str x.kind,.int x.many])):Ul H (ps++[p]) (xs++[x]):=by
 refine#[by rw[yg,yg,C.1];rfl,λi q c h1 h2=>?_];have la:=C.1;by_cases hi:i<ps.length
 ·rw[yx hi] at h1;rw[yx gt] at h2;exact C.2 i q c h1 h2
 ·grind
theorem Ul.wr {H:Hp} (C:Ul H ps xs) {o:HO} (e:H D=some (.lst zs)):Ul (upd H D o) ps xs:=#[C.1,λi b k h1 h2=>jy (j9 (C.2 i b k h1 h2) e)<|C.2 i b k h1 h2]
theorem wM (hd:Str) (rs:List uG) (x:uG):UH hd (rs++[x])=UH hd rs++[#[pN hd rs.length,x.1,x.2]]:=by
 unfold UH;rw[Yz,yd];simp
theorem wN (hd:Str) (nn:Pi) (l:Ps):UI hd (nn++[l])=UI hd nn++[(nN hd nn.length,l.map<|Vw hd)]:=by
 unfold UI;rw[Yz,yd];simp
theorem K6 {i:Nat} (h:i<6):(i:Int).natAbs.log2<1920:=by
 have:=Nat.log2_le_self i;show Nat.log2 i<1920
 lia
def oN (C:Addr):Sp:=λvs H Q _=>E4 λ(uu:Addr) (rs:List uG) (nn:Pi) (hd:Str)=>A5 (vs=[.ref uu,.str hd]) (uU H uu rs nn) (UJ rs nn) (hd∈ZJ) (∀o H',Same H H'->Dw H' C o (UH hd rs) (UI hd nn)->Q (.ref o) H')
theorem mh (T:Txt K mg t):j7 P w K mg base 7 "_law_drawing" [SB,YI] (oN t.jS):=by
 refine T.Mr.ok [SB,YI,FS,IR,YH,YG] ?_;rintro _ H Q E ⟨uu,rs,nn,hd,rfl,⟨pl,nl,us,ws,hu,DJ,ka,DZ,EA⟩,G,hh,q⟩;refine#[rfl,λDF A outer s hr=>#[_,(jf (vd 3 (N0:=[SB,YI,YK,IR,YH,YG]) (own:=[FS,T0]) (JW (cl:=[(YI,_)])) (JT rfl rfl T.Ja<|ja (jo jz (pv 0) jg) jb) (λ_ _ _ _ _=>j5 (n:=2)<|jr (jl 6)<|jr (jl 7) jV) (λ_ _ _ _ _=>j4) (λ_ _ _ _ _=>(jL (ja (jB vQ (pv 1) (jT VU (by rfl) T.Ki kG<|ja (pv 6) jb))<|ja (jo jz (pv 7) jg)<|ja (jo jz (pv 7) jg) jb)))) (jf (jt 4<|jY jb) (jf (j0 jR (JT rfl rfl T.Ja<|ja (jo jz (pv 0) jg) jb) (j5<|jr (jl 2)<|jr (jl 5) jV) (jk (Jd (j3 Ya Yg Yf Jb (pv 4) (ja (jL (ja (jB vQ (jB vQ Jt<|pv 1) (jT VU (by rfl) T.Ki kG<|ja (pv 2) jb)) (ja (jU (own:=[T0,YJ]) (JW (cl:=[(YI,_)])) (jN<|pv 5) (λ_ _ _ _ _=>j5 (n:=2)<|jr (jl 6)<|jr (jl 7) jV) (λ_ _ _ _ _=>j4) (λ_ _ _ _ _=>(jL (ja (jB vQ (pv 1) (jT VU (by rfl) T.Ki kG<|ja (pv 6) jb))<|ja (pv 7) jb)))) jb))) jb)))))<|jk<|jE<|G7 (Kn T)<|ja (pv 3)<|ja (pv 4) jb))),?_]];have lu:=Ut ka;have lw:=EA.1;have g6:=G.few;have Pm:=G.fewN;refine z8 (λ(A) (bs)=>[oR uu,some<|.str hd,none,oR A,none,none]) (λA bs H'=>A3 (Same H H') (H' A=some (.lst<|bs.map V.ref))<|Ul H' bs<|UH hd rs) (λB hB=>?_) ?_
 ·refine#[_,_,ju.of hu,rfl,pl,rfl,#[_,jj.of DJ],Zl (λD i ys H'=>∃bs:List Addr,A6 (Same H H') _ (H' D=some (.lst ys)) (ys=bs.map V.ref) (bs.length<=6)<|Ul H' bs<|UH hd<|rs.take i) (λD hD=>#[[],jh (Same.refl H) hD,hD,jc,rfl,yP _,rfl,λi p x h=>nomatch h]) (λD i ys H' h=>by obtain⟨bs,h1,_,h3,_⟩:=h;exact#[h3,jj.of<|h1 _ _ DJ]) ?_ (λD i ys H' h=>by obtain⟨bs,_,_,_,rfl,l6,_⟩:=h;rw[ya];exact yG l6 ac) ?_]
  ·rintro D i x p ys H1 Qy Qn hx hp ⟨bs,s1,hD,eD,rfl,l6,C⟩ hy _;obtain⟨u,eu,rfl⟩:=gm hx;obtain⟨x,er,tu⟩:=cE ka eu;have hi:=(yc.mp er).1
   refine Ev hp λH2 s2 e2=>?_
   have DN:=Same.trans s1 s2;obtain⟨n1,_,_⟩:=N7 hd hh i gt;refine#[_,ju.of e2,rfl,#[_,rfl,rfl],Jm #[_,rfl,K6 gt,hd,_,rfl,rfl,yk n1 ac,_,.str _,ju.of<|DN _ _ tu,rfl,_,.int _,ju.of<|DN _ _ tu,rfl,cY,λv hv=>?_]]
   refine Fa (o:=.tup [.str<|hd++Str.ofString (toString (i:Int)),.str x.1,.int (x.2:Nat)]) (q:=.tup [.str<|pN hd i,.str x.1,.int (x.2:Nat)]) rfl hv λH3 s3 e3=>?_
   have Er:=Same.trans s2 s3;have Ea:=Er _ _ eD;have lb:bs.length=i:=by rw[C.1,zf,yF];lia
   refine hy _ _ Ea #[bs++[v],jK (Same.trans s1 Er) hD,hD,jc,by rw[yd];rfl,by rw[yg,lb];show i+1<=6;lia,?_];rw[jA er,wM,yF,Qs<|yX hi];exact ((C.same Er).snoc e3).wr Ea
  ·rintro D ys H1 hD ⟨bs,s1,_,eD,rfl,l6,C⟩;rw[ya,jO lu.symm] at C;exact hB D bs H1 #[s1,eD,C]
 rintro A bs H1 ⟨s1,eA,CP⟩;refine ze λL H2 s2 hL eL=>?_;refine#[_,_,ju.of<|s2 _ _<|s1 _ _ hu,rfl,nl,rfl,#[_,jj.of<|s2 _ _<|s1 _ _ DZ],ua (λi σ H'=>E4 λ(v3 v6) (ns ls)=>A5 (σ=[oR uu,some _,v3,oR A,oR L,v6]) (Same H1 H') (H' L=some (.lst<|ns.map V.ref)) (Ua H' ns ls<|UI hd<|nn.take i) (∀l∈ls,l≠L)) #[_,_,_,_,rfl,s2,eL,GY,λl h=>nomatch h] (λi σ H' _ h=>by obtain⟨_,_,_,_,_,e,_⟩:=h;exact jj.of<|e _ _<|s1 _ _ DZ) ?_ ?_]
 ·rintro i x p σ H3 hx hp ⟨v3,v6,ns,ls,rfl,s3,Ll,N3,nL⟩;obtain⟨v,ev,rfl⟩:=gm hx;have hi:i<nn.length:=by rw[<-lw];exact (yc.mp ev).1
  have el:=yb hi;have lm:=yz hi;obtain⟨qs,g1,g2⟩:=EA.2 i v _ ev el;generalize nn[i]=l at el lm g2;have IS:=Ut g2;have ll:l.length<=30:=by
   have h1:=(QU lm).length_le;have h2:=G.pm.length_eq;have h3:=UR G.few λx hx=>(G.k x hx).3
   lia
  refine Ev hp λH4 s4 e4=>?_
  have DO:=Same.trans s1<|Same.trans s3 s4;have FR:=s4 _ _ Ll;obtain⟨n1,n2,n3⟩:=N7 hd hh i gt;refine#[_,ju.of e4,rfl,vL ?_];refine#[.inl #[rfl,_,jj.of FR],_,hd,rfl,rfl,yk n2 ac,_,rfl,K6 gt,_,_,rfl,rfl,yk n3 ac,v,rfl,#[_,jj.of<|DO _ _ g1],JV (xs:=qs.map V.ref) (λD j ys H'=>∃DB:List Addr,A6 (Same H4 H') _ (H' D=some (.lst ys)) (ys=DB.map V.ref) (DB.length<=j)<|ud H' DB<|(l.take j).map<|Vw hd) (by rw[ya];exact yk (show _<=100 by lia) ac) (λD hD=>#[_,jh (Same.refl H4) hD,hD,jc,rfl,yj _,ke]) (λD j ys H' h=>by obtain⟨bs,h1,_,h3,rfl,h5,_⟩:=h;exact#[h3,by rw[ya];exact h5,jj.of<|h1 _ _<|DO _ _ g1]) ?_ ?_]
  ·rintro D j y ys H5 Qy Qn F₂ ⟨DB,s5,hD,eD,rfl,l5,C⟩ hy hn;obtain⟨b,eb,rfl⟩:=gm F₂;obtain⟨x,ex,tb⟩:=cE g2 eb;have xm:=yh ex;obtain⟨r,er,_⟩:=Jv.mp<|G.pm.mem_iff.mp<|List.mem_flatten.mpr #[l,lm,xm];have x6:x.1<6:=by have:=(yc.mp er).1;lia
   obtain⟨m1,_,_⟩:=N7 hd hh _ x6;have Pn:=s5 _ _<|DO _ _ tb;refine#[_,ju.of Pn,rfl,#[_,rfl,rfl],Jm #[_,rfl,K6 x6,hd,_,rfl,rfl,yk m1 ac,JE,λu9 IQ=>?_]]
   refine Fa (o:=.tup [.str<|hd++Str.ofString (toString ((x.1:Nat):Int)),kV<|Yh ((x.2:Nat):Int)]) (q:=.tup ((kP<|Vw hd x).map kV)) rfl IQ λH9 s9 e9=>?_
   have HW:=s9 _ _ eD;refine hy _ _ HW #[DB++[u9],jK (Same.trans s5 s9) hD,hD,jc,by rw[yd];rfl,by rw[yg];exact Qt l5,?_];unfold ud;rw[jA ex,yd,yd];exact (JL (KeyAt.mono' C s9) e9).wr HW
  ·rintro D ys H5 hD ⟨DB,s5,_,eD,rfl,l5,C⟩;rw[ya,jO IS.symm] at C;refine#[JE,λu6 IB=>?_]
   refine Fa (o:=.tup [.str<|("n":Str)++hd++Str.ofString (toString (i:Int)),.ref D]) (q:=.tup [.str<|nN hd i,.ref D]) rfl IB λH6 s6 e6=>?_
   have Fp:=Same.trans s5 s6;have D0:=Same.trans s4 Fp;have WK:=Fp _ _ FR;have nD:D≠L:=λz=>by rw[z,FR] at hD;cases hD
   have WL:=λx hx=>(yB.mp hx).elim (λh=>nL x h) λh=>by rw[yp.mp h];exact nD
   have N6:=(N3.same D0).snoc (y:=(nN hd i,l.map _)) #[e6,DB,s6 _ _ eD,C.same s6];have WM:ns.length=i:=by rw[N3.1,Vr,yF];lia
   refine#[L,_,_,rfl,rfl,WK,by rw[ya,WM];exact yC (show _<100 by lia) ac,_,_,ns++[u6],_,rfl,jK (Same.trans s3 D0) hL,by rw[jc,yd];rfl,?_,WL];rw[jA el,wN,yF,Qs<|yX hi];exact N6.wr (λq zs e=>jy (j9 e WK) e) λx hx zs e=>by rw[jC<|WL x hx];exact e
 rintro σ H3 ⟨v3,v6,ns,ls,rfl,s3,Ll,N3,_⟩;rw[ya,jO lw.symm] at N3;refine λo dx ho Sh ne=>?_;have t1:=jh (o:=.own o) (Same.refl H3) Sh;have t2:=jh (o:=.ins t.jS dx []) t1<|jy (yV ne) ho;have DC:=Same.trans s1 s3;have GD:=g9 hh G;exact#[o,dx,A,L,bs,_,ns,ls,_,rfl,jc,#[t2 _ _<|s3 _ _ eA,(CP.same s3).same t2,t2 _ _ Ll,N3.same t2],GD,λDK Ec H' bt dr=>#[rfl,q o H' (λb u e=>bt _ _ (jJ (DC _ _ e) ho)<|t2 _ _<|DC _ _ e) #[#[_,_,_,dr],GD]]]
def CB (x:Jx):List Key:=[.inr x.name,.inr x.kind,.inl x.many]
theorem Ul.key {H:Hp} (C:Ul H ps xs):KeyAt H ps (xs.map CB):=by
 refine#[by rw[ya];exact C.1,λi p k h1 h2=>?_];obtain⟨x,ex,rfl⟩:=gm h2;exact C.2 i p x h1 ex
theorem gE {α β:Type}{F:α->β->Prop}:∀{l:List α} {m:List β},l.length=m.length->(∀(i:Nat) a b,l[i]?=some a->m[i]?=some b->F a b)->Paired F l m
 | [],[],_,_=>.nil
 | [],_::_,h,_=>nomatch h
 | _::_,[],h,_=>nomatch h
 | _::_,_::_,h,f=>.cons (f 0 _ _ rfl rfl) (gE (Yx h) λi=>f<|i+1)
theorem mL {H:Hp}{us vs:Di}{n:Nat} (a:KeyAt H us ks) (b:KeyAt H vs ks):Paired (Vt H<|n+1) (us.map V.ref) (vs.map V.ref):=by
 refine gE (by rw[ya,ya,a.1,b.1]) λi x y h1 h2=>?_;rw[ye] at h1 h2;obtain⟨p,e1,rfl⟩:=yr.mp h1;obtain⟨q,e2,rfl⟩:=yr.mp h2;have hi:i<ks.length:=by rw[<-a.1];exact (yc.mp e1).1
 have ek:=yb hi;exact .inr #[p,q,_,_,rfl,rfl,.inl #[a.2 i p _ e1 ek,b.2 i q _ e2 ek],zI λv hv=>by obtain⟨k,_,rfl⟩:=yi.mp hv;exact Jw k n]
structure Ze (H:Hp) (a b:Addr) (xs:List Jx) (ys:List JG):Prop where
 ex:∃us vs ls:List Addr,A4 (H a=some (.lst<|us.map V.ref)) (Ul H us xs) (H b=some (.lst<|vs.map V.ref)) (Ua H vs ls ys)
theorem Ze.same {H H':Hp}{a b:Addr} (x:Ze H a b xs ys) (s:Same H H'):Ze H' a b xs ys:=let ⟨us,vs,ls,h1,h2,h3,h4⟩:=x.ex;#[us,vs,ls,s _ _ h1,h2.same s,s _ _ h3,h4.same s]
theorem Ze.deep {H:Hp}{a b c:Addr} (x:Ze H a b xs ys) (y:Ze H c d xs ys):Vt H 5 (.ref a) (.ref c)/\Vt H 5 (.ref b) (.ref d):=by
 obtain⟨us,vs,ls,h1,h2,h3,h4⟩:=x.ex;obtain⟨HX,EZ,Ec,g1,g2,g3,g4⟩:=y.ex;refine#[.inr #[a,c,_,_,rfl,rfl,.inr #[h1,g1],mL h2.key g2.key],.inr #[b,d,_,_,rfl,rfl,.inr #[h3,g3],gE (by rw[ya,ya,h4.1,g4.1]) λi v w z1 z2=>?_]];rw[ye] at z1 z2;obtain⟨p,e1,rfl⟩:=yr.mp z1;obtain⟨q,e2,rfl⟩:=yr.mp z2;obtain⟨l,y1,_,Lu,f1,ps,f2,pn⟩:=h4.at_ e1;obtain⟨l',y2,_,WN,SE,ps',Po,H₁⟩:=g4.at_ e2;rw[Lu] at WN;cases WN;exact .inr #[p,q,_,_,rfl,rfl,.inl #[f1,SE],.cons (Jw (.inr _) _)<|.cons (.inr #[l,l',_,_,rfl,rfl,.inr #[f2,Po],mL pn H₁]) .nil]
def An (C:Addr):Sp:=λvs H Q _=>E3 λ(o:Addr) (xs:List Jx) (ys:List JG)=>A3 (vs=[.ref o]) (Dw H C o xs ys) (∀D a b H',Same H H'->H' D=some (.lst [.ref a,.ref b])->Ze H' a b xs ys->Q (.ref D) H')
theorem bN (T:Txt K mg t):j7 P w K mg base 1 "_law_deep" [YR] (An t.jS):=by
 refine T.df.ok [YR] ?_;rintro _ H Q E ⟨o,xs,ys,rfl,D,q⟩;refine#[rfl,λDF A outer s hr=>#[_,(jk (jE (jY (ja (jT VT (by rfl) T.Uj Ug<|ja (uM<|pv 0) jb) (ja (jU (own:=["_law_name","_law_pins"]) (JW) (jN<|uM<|pv 0) (λ_ _ _ _ _=>j5 (n:=2)<|jr (jl 1)<|jr (jl 2) jV) (λ_ _ _ _ _=>j4) (λ_ _ _ _ _=>(jL (ja (pv 1) (ja (jT (ZN rfl) (by rfl) T.Uj Ug<|ja (pv 2) jb) jb))))) jb))))),?_]];obtain⟨ps,ns,ls,dr⟩:=D.ex;have f2:=D.g.few2;obtain⟨dx,pl,nl,kd,jn,Dx,ho,DJ,DZ,_⟩:=dr.ex;refine#[o,_,dx,_,_,rfl,ho,T.Jh,T.V7,rfl,pl,_,rfl,.inl<|jj.of DJ,λl1 Hq=>?_]
 refine Ev Hq λH1 s1 e1=>?_
 have N1:=dr.N.same s1;refine#[o,_,dx,_,_,rfl,s1 _ _ ho,T.Jh,T.zr,rfl,nl,rfl,#[_,jj.of<|s1 _ _ DZ],JV (xs:=ns.map V.ref) (λD i zs H'=>∃DK Ec:List Addr,A6 (Same H1 H') _ (H' D=some (.lst zs)) (zs=DK.map V.ref/\DK.length<=i) (Ua H' DK Ec<|ys.take i) (∀l∈Ec,l≠D)) (by rw[ya,N1.1];exact yk f2 ac) (λD hD=>#[_,_,jh (Same.refl H1) hD,hD,jc,#[rfl,yj _],GY,λl h=>nomatch h]) (λD i zs H' h=>by obtain⟨DK,Ec,h1,_,h3,⟨rfl,h4⟩,_⟩:=h;exact#[h3,by rw[ya];exact h4,jj.of<|h1 _ _<|s1 _ _ DZ]) ?_ ?_]
 ·rintro D i v zs H4 Qy Qn hv ⟨DK,Ec,s4,hD,eD,⟨rfl,lz⟩,N4,fr⟩ hy hn;obtain⟨p,Et,rfl⟩:=gm hv;obtain⟨l,x,_,ex,na⟩:=N1.at_ Et;obtain⟨ep,rs,el,pn⟩:=na.same s4;refine#[_,ju.of ep,rfl,#[_,rfl,rfl],Jm #[l,_,rfl,.inl<|jj.of el,λl5 Fo=>?_]]
  refine Ev Fo λH5 s5 e5=>?_
  refine#[JE,λu hu=>?_]
  refine Ev hu λH6 s6 e6=>?_
  have Fp:=Same.trans s5 s6;have Ed:=Fp _ _ eD;have nD:l5≠D:=λz=>by rw[z,eD] at Fo;cases Fo
  have WO:=λx hx=>(yB.mp hx).elim (λh=>fr x h) λh=>by rw[yp.mp h];exact nD
  refine hy _ _ Ed #[DK++[u],_,jK (Same.trans s4 Fp) hD,hD,jc,#[by rw[yd];rfl,by rw[yg];exact Qt lz],?_,WO];rw[jA ex];exact ((N4.same Fp).snoc #[e6,rs,s6 _ _ e5,pn.same Fp]).wr (λq zs e=>jy (j9 e Ed) e) λl hl zs e=>by rw[jC<|WO l hl];exact e
 ·rintro D zs H4 hD ⟨DK,Ec,s4,_,eD,⟨rfl,lz⟩,N4,fr⟩;rw[ya,jO N1.1.symm] at N4;refine#[JE,λr Oz=>?_];have s5:=jh (o:=.lst [.ref l1,.ref D]) (Same.refl H4) Oz;have IV:=Same.trans s4 s5;exact q r l1 D _ (Same.trans s1 IV) jc #[ps,DK,Ec,IV _ _ e1,(dr.C.same s1).same IV,s5 _ _ eD,N4.same s5]
structure DD {α:Type} (lt:α->α->Bool) (ks:List α) (i:Nat) (us:List α):Prop where
 nd:us.Nodup
 mem:∀x,x∈us↔x∈ks.take i
 so:us.Pairwise λa b=>lt b a=false
theorem DD.nil {α:Type}{lt:α->α->Bool}{ks:List α}:DD lt ks 0 []:=#[yZ,λx=>Iff.rfl,.nil]
theorem DD.few {α:Type}{lt:α->α->Bool}{ks us:List α}{i:Nat} (d:DD lt ks i us):us.length<=ks.length:=yk (JY d.nd λx h=>(d.mem x).mp h) (by rw[yF];lia)
theorem DD.skip {α:Type}{lt:α->α->Bool}{ks us:List α}{i:Nat}{k:α} (d:DD lt ks i us) (hk:ks[i]?=some k) (h0:i≠0) (h1:ks[i - 1]?=some k):DD lt ks (i+1) us:=by
 refine#[d.nd,λx=>?_,d.so];rw[jA hk,yB,d.mem x];refine#[.inl,λh=>h.elim id λh=>?_];exact List.mem_iff_getElem?.mpr #[i - 1,by grind]
theorem DD.add {α:Type}{lt:α->α->Bool} (tot:∀{a b},lt a b=false->lt b a=false->a=b) {ks us:List α} {i:Nat} {k:α} (d:DD lt ks i us) (so:ks.Pairwise λa b=>lt b a=false) (hk:ks[i]?=some k) (h1:i=0\/∃k',ks[i - 1]?=some k'/\k'≠k):DD lt ks (i+1) (us++[k]):=by
 have pw:=Qj.mp so;obtain⟨hi,ek⟩:=yc.mp hk;have WQ:∀x∈ks.take i,∃(j:Nat) (h:j<ks.length),j<i/\ks[j]=x:=λx hx=>by
  obtain⟨j,hj,e⟩:=yH hx;rw[yF] at hj;exact#[j,_,by omega,by rw[<-e,aby]]
 refine#[y8.mpr #[d.nd,yO.mpr #[yS,yZ],λx hx y hy e=>?_],λx=>by rw[jA hk,yB,yB,d.mem x],List.pairwise_append.mpr #[d.so,aaj ..,λx hx y hy=>?_]]
 ·obtain⟨j,hj,ji,ej⟩:=WQ x<|(d.mem x).mp hx;rcases h1 with z|⟨k',e',n⟩
  ·lia
  ·grind
 ·obtain⟨j,hj,ji,ej⟩:=WQ x<|(d.mem x).mp hx;have a1:=pw j i hj hi ji;rw[yp.mp hy,<-ek,<-ej];exact a1
theorem DD.rk {α:Type}{lt:α->α->Bool}{ks js ls us:List α} (d:DD lt ls ls.length us) (pm:ls.Perm (ks++js)):U2 lt ks js us:=#[d.nd,λx=>by rw[d.mem x,jO rfl];exact pm.mem_iff,d.so]
def vU (H:Hp) (R:Addr) (ms ns:List Int):Prop:=∃a b:Addr,A3 (H R=some (.tup [.ref a,.ref b])) (H a=some (.lst<|ms.map V.int)) (H b=some (.lst<|ns.map V.int))
theorem vU.same {H H':Hp}{ms ns:List Int} (x:vU H R ms ns) (s:Same H H'):vU H' R ms ns:=let ⟨a,b,e1,e2,e3⟩:=x;#[a,b,s _ _ e1,s _ _ e2,s _ _ e3]
theorem oB {us:List Int} (nd:us.Nodup) {k:Int} (h:k∈us):us.idxOf k=Ub us k:=by
 obtain⟨hi,e⟩:=yc.mp<|Ve h;have:=iQ nd hi;rwa [e] at this
theorem tI {a b:Int} (h1:Gw a b=false) (h2:Gw b a=false):a=b:=by
 grind
theorem vX {a:Addr}{n:Nat}{vs:List V}{ms:List Int}{H:Hp} (hσ:σ.length=n) (ha:H a=some (.lst vs)) (hl:vs.length=ms.length) (hz:vs.length<=1000) (hg:∀(i:Nat) v m,vs[i]?=some v->ms[i]?=some m->∀H' (Q':VK),Same H H'->Q' (.int m) H'->te (σ++[some v]) H' Q')
  (q:∀D H',Same H H'->H D=none->H' D=some (.lst<|ms.map V.int)->Q (.ref D) H'):vJ 1 (UW n) (λ_ H Q=>Q true H) te σ Q (kA K a) H:=by
 refine JV (λD i ys H'=>A4 (Same H H') _ (H' D=some (.lst ys))<|ys=(ms.take i).map V.int) (yk hz ac) (λD hD=>#[jh (Same.refl H) hD,hD,jc,rfl]) (λD i ys H' #[s1,h1,h2,h3]=>#[h2,by grind,jj.of<|s1 _ _ ha]) ?_ ?_
 ·rintro D i v ys H1 Qy Qn hv ⟨s1,hD,eD,rfl⟩ hy hn;have hi:i<ms.length:=by grind
  have em:=yb hi;have es:(σ++Ye 1 none).set n (some v)=σ++[some v]:=by subst hσ;simp
  unfold UW;rw[es];refine#[#[_,rfl,rfl],Jm<|hg i v _ hv em H1 _ s1<|hy _ _ eD #[jK s1 hD,hD,jc,?_]];rw[jA em,yd]
  rfl
 ·rintro D ys H1 hD ⟨s1,_,eD,rfl⟩;rw[hl,jO rfl] at eD;exact q D H1 s1 hD eD
inductive Ar (vs:List V) (H:Hp) (Q:VK):Prop
 | g (T:TK) (l0 l1:Addr) (bs cs:Di) (ks js:List T.α) (h0:vs=[.ref l0,.ref l1]) (h2:H l0=some (.lst<|bs.map V.ref)) (h3:H l1=some (.lst<|cs.map V.ref)) (h4:J1 T.M H bs ks) (h5:J1 T.M H cs js) (h6:∀k∈ks++js,T.good k) (fc:∀a∈ks++js,∀b∈ks++js,kn T a b) (h7:ks.length+js.length<=60) (q:∀R ms ns H',Same H H'->Rk (Kf T) ks js ms ns->vU H' R ms ns->Q (.ref R) H')
 | k (l0 l1:Addr) (ks js:List Int) (h0:vs=[.ref l0,.ref l1]) (h2:H l0=some (.lst<|ks.map V.int)) (h3:H l1=some (.lst<|js.map V.int)) (h7:ks.length+js.length<=60) (q:∀R ms ns H',Same H H'->Rk Gw ks js ms ns->vU H' R ms ns->Q (.ref R) H')
def Bp:Sp:=λvs H Q _=>Ar vs H Q
theorem ag (T:Txt K mg t):j7 P w K mg base 1 "_law_marks" [LT,FM] Bp:=by
 refine T.bh.ok [LT,FM,"_law_some"] ?_;rintro _ H Q E (⟨T',l0,l1,bs,cs,ks,js,rfl,h0,h1,N0,N1,hg,fc,hl,q⟩|⟨l0,l1,ks,js,rfl,h0,h1,hl,q⟩)
 ·refine#[rfl,λDF A outer s hr=>#[_,(jf (jt 2 (jw (VL (VJ λT=>ZQ T hr.units) UD) (by rfl) T.JS JR<|ja (jB uL (pv 0)<|pv 1) jb)) (jf (jt 2 (jU (own:=[FS,YM]) (JW) (JT rfl rfl T.Ja<|ja (pv 2) jb) (λ_ _ _ _ _=>j5 (n:=2)<|jr (jl 3)<|jr (jl 4) jV) (λ_ _ _ _ _=>zb (uI (jF uZ (pv 3) jg) (uN (jF (lQ (lS λT=>lU T hr.units) vh) (jo jx (pv 2)<|jB lW (pv 3) jg)<|pv 4))).pt) (λ_ _ _ _ _=>(pv 4)))) (jk (jE (jL (ja (jU (own:=[YM]) (JW) (jN<|pv 0) (λ_ _ _ _ _=>jl 3) (λ_ _ _ _ _=>j4) (λ_ _ _ _ _=>(j3 Ya Yk Yi (Kg (Kh λT=>zq T hr.units) uS) (pv 2)<|ja (pv 3) jb))) (ja (jU (own:=[YM]) (JW) (jN<|pv 1) (λ_ _ _ _ _=>jl 3) (λ_ _ _ _ _=>j4) (λ_ _ _ _ _=>(j3 Ya Yk Yi (Kg (Kh λT=>zq T hr.units) uS) (pv 2)<|ja (pv 3) jb))) jb))))))),?_]];refine ZT (λ(S) (DP) (ls:List T'.α)=>[oR l0,oR l1,oR S]) (λS DP ls H'=>A5 (Same H H') (H' S=some (.lst<|DP.map V.ref)) (J1 T'.M H' DP ls) (ls.Perm<|ks++js) (ls.Pairwise λa b=>Kf T' b a=false)) (λB hB=>#[l0,l1,_,_,rfl,rfl,h0,h1,?_,λp hp=>?_]) ?_
  ·rw[ya,ya,(Ji N0).1,(Ji N1).1];exact yk hl ac
  ·have s1:=jh (o:=.lst<|bs.map V.ref++cs.map V.ref) (Same.refl H) hp;have e1:upd H p (.lst<|bs.map V.ref++cs.map V.ref) p=some (.lst<|(bs++cs).map V.ref):=by rw[jc,yd]
   generalize upd H p (.lst<|bs.map V.ref++cs.map V.ref)=H1 at s1 e1;refine .inl #[T',p,_,_,rfl,e1,(N0.app N1).mono λ_ _ e=>s1 _ _ e,#[hg,by rw[yg];omega],λl DP ls DU NA pm so=>hB l DP ls _ #[jh s1 DU,jc,NA.mono λ_ _ e=>jh (Same.refl H1) DU _ _ e,pm,so]]
  rintro S DP ls H1 ⟨s1,eS,NL,pm,so⟩;have ll:ls.length<=60:=by rw[pm.length_eq,yg];exact hl
  have fl:=λa ha b hb=>fc a (pm.mem_iff.mp ha) b<|pm.mem_iff.mp hb;refine ZT (λ(D) (Fg) (us:List T'.α)=>[oR l0,oR l1,oR D]) (λD Fg us H'=>A4 (Same H1 H') (H' D=some (.lst<|Fg.map V.ref)) (J1 T'.M H' Fg us)<|U2 (Kf T') ks js us) (λB hB=>?_) ?_
  ·refine#[S,rfl,#[_,jj.of eS],Zl (λD i ys H'=>∃(Fg:Di) (us:List T'.α),A6 (Same H1 H') _ (H' D=some (.lst ys)) (ys=Fg.map V.ref) (J1 T'.M H' Fg us)<|DD (Kf T') ls i us) (λD hD=>#[_,_,jh (Same.refl H1) hD,hD,jc,rfl,.nil,.nil]) (λD i ys H' h=>by obtain⟨_,_,a1,_,a3,_,_,_⟩:=h;exact#[a3,jj.of<|a1 _ _ eS]) ?_ (λD i ys H' h=>by obtain⟨Fg,us,_,_,_,rfl,N,d⟩:=h;rw[ya,(Ji N).1];exact yG (yk d.few ll) ac) ?_]
   ·rintro D i x p ys H2 Qy Qn hx hp ⟨Fg,us,s2,hD,eD,rfl,N2,dd⟩ hy hn;obtain⟨b,eb,rfl⟩:=gm hx;have hi:i<ls.length:=by rw[<-(Ji NL).1];exact (yc.mp eb).1
    have ek:=yb hi;have km:=yz hi;have vb:=(Ji NL).2 i b _ eb ek;generalize ls[i]=k at ek vb km
    refine Ev hp λH3 s3 e3=>?_
    have Er:=Same.trans s2 s3;have Ea:=s3 _ _ eD;have yes:(i=0\/∃k',ls[i - 1]?=some k'/\k'≠k)->Qy _ H3:=λz=>hy _ _ Ea #[_,_,jK Er hD,hD,jc,by rw[yd];rfl,((N2.mono λ_ _ e=>s3 _ _ e).app (.cons (T'.M.mono (λ_ _ e=>Er _ _ e) vb) .nil)).mono λq ys e=>jy (j9 e Ea) e,dd.add T'.M.tot so ek z];refine#[_,ju.of e3,rfl,#[_,rfl,rfl],rfl,V2 (λz=>Jm<|yes<|.inl ?_) λz=>?_]
    ·have:=V.int.inj z;omega
    have i0:i≠0:=λe=>z (by rw[e];rfl);have hj:i - 1<ls.length:=by omega
    have ej:=yb hj;have jm:=yz hj;have hc:i - 1<DP.length:=by rw[(Ji NL).1];exact hj
    have ec:=yb hc;have vc:=(Ji NL).2 _ _ _ ec ej;generalize DP[i - 1]=c at ec vc;generalize ls[i - 1]=k' at ej jm vc;refine#[_,_,jj.of<|Er _ _ eS,(congrArg _ (show _=((i - 1:Nat):Int) from by omega)).trans (jX (by rw[ye,ec];rfl)),.inl #[T',c,b,k',k,rfl,rfl,T'.M.mono (λ_ _ e=>Er _ _ e) vc,T'.M.mono (λ_ _ e=>Er _ _ e) vb,fl _ jm _ km,eG (λz=>yes<|.inr #[k',ej,of_decide_eq_false z]) λz=>hn _ #[Fg,us,Er,hD,Ea,rfl,N2.mono λ_ _ e=>s3 _ _ e,dd.skip ek i0 (by rw[ej,of_decide_eq_true z])]]]
   ·rintro D ys H2 hD ⟨Fg,us,s2,_,eD,rfl,N2,dd⟩;rw[ya,(Ji NL).1] at dd;exact hB D Fg us H2 #[s2,eD,N2,dd.rk pm]
  rintro D Fg us H2 ⟨s2,eD,N2,ir⟩;have DN:=Same.trans s1 s2;have lu:us.length<=60:=by
   have:=JY ir.nd λa ha=>(ir.mem a).mp ha;rw[yg] at this;omega
  have gu:=λk hk=>hg k<|(ir.mem k).mp hk;have ix:∀{b:Addr} {k:T'.α} {H':Hp} {Q':VK},Same H2 H'->T'.M.V_ H _ k->k∈ks++js->Q' _ H'->_:=λ{b k H' Q'} s' vb hk q'=>(#[T',D,b,Fg,us,k,_,rfl,rfl,s' _ _ eD,N2.mono λ_ _ e=>s' _ _ e,T'.M.mono (λ_ _ e=>s' _ _<|DN _ _ e) vb,#[ir.nd,Ve<|(ir.mem k).mpr hk,by omega],λj hj=>T'.cm (gu j hj)<|hg k hk,q']:∃(T:TK) (l b':Addr) (bs:Di) (ks:List T.α) (k:T.α) (j:Nat),A8 (V.ref D=.ref l) ([V.ref b]=[.ref b']) (H' l=some (.lst<|bs.map V.ref)) (J1 T.M H' bs ks) (T.M.V_ H' (.ref b') k) (ks.Nodup/\ks[j]?=some k/\ks.length<=1000) (∀i∈ks,T.M.cmp i k)<|Q' (.int<|j) H');refine#[l0,rfl,#[_,jj.of<|DN _ _ h0],vX (ms:=ks.map λk=>((Ub us k))) rfl (DN _ _ h0) (by rw[ya,ya,(Ji N0).1]) (by rw[ya,(Ji N0).1];omega) (λi v m hv hm H' Q' s' q'=>?_) λr0 H3 s3 IA e0=>?_]
  ·rw[ye] at hv hm;obtain⟨b,eb,rfl⟩:=yr.mp hv;obtain⟨k,ek,rfl⟩:=yr.mp hm;exact#[.inl #[rfl,_,jj.of<|s' _ _ eD],.inl<|ix s' ((Ji N0).2 i b k eb ek) (y9 _<|yh ek) q']
  have DC:=Same.trans DN s3;refine#[l1,rfl,#[_,jj.of<|DC _ _ h1],vX (ms:=js.map λk=>((Ub us k))) rfl (DC _ _ h1) (by rw[ya,ya,(Ji N1).1]) (by rw[ya,(Ji N1).1];omega) (λi v m hv hm H' Q' s' q'=>?_) λr1 H4 s4 Ht e1=>?_]
  ·rw[ye] at hv hm;obtain⟨b,eb,rfl⟩:=yr.mp hv;obtain⟨k,ek,rfl⟩:=yr.mp hm;exact#[.inl #[rfl,_,jj.of<|s' _ _<|s3 _ _ eD],.inl<|ix (Same.trans s3 s') ((Ji N1).2 i b k eb ek) (yA _<|yh ek) q']
  refine#[JE,λR hR=>?_];have s5:=jh (o:=.tup [.ref r0,.ref r1]) (Same.refl H4) hR;exact q R _ _ _ (Same.trans DC<|Same.trans s4 s5) #[us,ir,rfl,rfl] #[r0,r1,jc,s5 _ _<|s4 _ _ e0,s5 _ _ e1]
 ·refine#[rfl,λDF A outer s hr=>#[_,(jf (jt 2 (jw (VL (VJ λT=>ZQ T hr.units) UD) (by rfl) T.JS JR<|ja (jB uL (pv 0)<|pv 1) jb)) (jf (jt 2 (jU (own:=[FS,YM]) (JW) (JT rfl rfl T.Ja<|ja (pv 2) jb) (λ_ _ _ _ _=>j5 (n:=2)<|jr (jl 3)<|jr (jl 4) jV) (λ_ _ _ _ _=>zb (uI (jF uZ (pv 3) jg) (uN (jF (lQ (lS λT=>lU T hr.units) vh) (jo jx (pv 2)<|jB lW (pv 3) jg)<|pv 4))).pt) (λ_ _ _ _ _=>(pv 4)))) (jk (jE (jL (ja (jU (own:=[YM]) (JW) (jN<|pv 0) (λ_ _ _ _ _=>jl 3) (λ_ _ _ _ _=>j4) (λ_ _ _ _ _=>(j3 Ya Yk Yi (Kg (Kh λT=>zq T hr.units) uS) (pv 2)<|ja (pv 3) jb))) (ja (jU (own:=[YM]) (JW) (jN<|pv 1) (λ_ _ _ _ _=>jl 3) (λ_ _ _ _ _=>j4) (λ_ _ _ _ _=>(j3 Ya Yk Yi (Kg (Kh λT=>zq T hr.units) uS) (pv 2)<|ja (pv 3) jb))) jb))))))),?_]];refine z8 (λ(S) (ls:List Int)=>[oR l0,oR l1,oR S]) (λS ls H'=>A4 (Same H H') (H' S=some (.lst<|ls.map V.int)) (ls.Perm<|ks++js) (ls.Pairwise λa b=>Gw b a=false)) (λB hB=>#[l0,l1,_,_,rfl,rfl,h0,h1,?_,λp hp=>?_]) ?_
  ·rw[ya,ya];exact yk hl ac
  ·have s1:=jh (o:=.lst<|ks.map V.int++js.map V.int) (Same.refl H) hp;exact .inr #[p,_,rfl,jj.of (by rw[jc,yd]),by rw[yg];lia,λl ls DU pm so=>hB l ls _ #[jh s1 DU,jc,pm,so.imp λh=>decide_eq_false gt]]
  rintro S ls H1 ⟨s1,eS,pm,so⟩;have ll:ls.length<=60:=by rw[pm.length_eq,yg];exact hl
  refine z8 (λ(D) (us)=>[oR l0,oR l1,oR D]) (λD us H'=>A3 (Same H1 H') (H' D=some (.lst<|us.map V.int))<|U2 Gw ks js us) (λB hB=>?_) ?_
  ·refine#[S,rfl,#[_,jj.of eS],Zl (λD i ys H'=>∃us:List Int,A5 (Same H1 H') _ (H' D=some (.lst ys)) (ys=us.map V.int)<|DD Gw ls i us) (λD hD=>#[_,jh (Same.refl H1) hD,hD,jc,rfl,.nil]) (λD i ys H' h=>by obtain⟨_,a1,_,a3,_,_⟩:=h;exact#[a3,jj.of<|a1 _ _ eS]) ?_ (λD i ys H' h=>by obtain⟨us,_,_,_,rfl,d⟩:=h;rw[ya];exact yG (yk d.few ll) ac) ?_]
   ·rintro D i x p ys H2 Qy Qn hx hp ⟨us,s2,hD,eD,rfl,dd⟩ hy hn;obtain⟨k,ek,rfl⟩:=gm hx;have hi:=(yc.mp ek).1
    refine Ev hp λH3 s3 e3=>?_
    have Er:=Same.trans s2 s3;have Ea:=s3 _ _ eD;have yes:=λz=>hy _ _ Ea #[_,jK Er hD,hD,jc,by rw[yd];rfl,dd.add tI so ek z];refine#[_,ju.of e3,rfl,#[_,rfl,rfl],rfl,V2 (λz=>Jm<|yes<|.inl ?_) λz=>?_]
    ·have:=V.int.inj z;lia
    have i0:i≠0:=λe=>z (by rw[e];rfl);have hj:i - 1<ls.length:=by omega
    have ej:=yb hj;generalize ls[i - 1]=k' at ej;refine#[_,_,jj.of<|Er _ _ eS,(congrArg _ (show _=((i - 1:Nat):Int) from by lia)).trans (jX (by rw[ye,ej];rfl)),.inr #[rfl,eG (λz=>yes (.inr #[k',ej,λe=>of_decide_eq_false z (by rw[e])])) λz=>hn _ #[us,Er,hD,Ea,rfl,dd.skip ek i0 (by rw[ej,V.int.inj<|of_decide_eq_true z])]]]
   ·rintro D ys H2 hD ⟨us,s2,_,eD,rfl,dd⟩;rw[ya] at dd;exact hB D us H2 #[s2,eD,dd.rk pm]
  rintro D us H2 ⟨s2,eD,ir⟩;have DN:=Same.trans s1 s2;have lu:us.length<=60:=by
   have:=JY ir.nd λa ha=>(ir.mem a).mp ha;rw[yg] at this
   lia
  refine#[l0,rfl,#[_,jj.of<|DN _ _ h0],vX (ms:=ks.map λk=>((Ub us k))) rfl (DN _ _ h0) (by rw[ya,ya]) (by rw[ya];lia) (λi v m hv hm H' Q' s' q'=>?_) λr0 H3 s3 IA e0=>?_]
  ·rw[ye] at hv hm;obtain⟨k,ek,rfl⟩:=yr.mp hv;rw[ek] at hm;cases hm;have ku:=(ir.mem k).mpr<|y9 _<|yh ek;exact#[.inl #[rfl,_,jj.of<|s' _ _ eD],.inr #[D,us,k,rfl,rfl,s' _ _ eD,by lia,ku,by rw[oB ir.nd ku];exact q']]
  have DC:=Same.trans DN s3;refine#[l1,rfl,#[_,jj.of<|DC _ _ h1],vX (ms:=js.map λk=>((Ub us k))) rfl (DC _ _ h1) (by rw[ya,ya]) (by rw[ya];lia) (λi v m hv hm H' Q' s' q'=>?_) λr1 H4 s4 Ht e1=>?_]
  ·rw[ye] at hv hm;obtain⟨k,ek,rfl⟩:=yr.mp hv;rw[ek] at hm;cases hm;have ku:=(ir.mem k).mpr<|yA _<|yh ek;exact#[.inl #[rfl,_,jj.of<|s' _ _<|s3 _ _ eD],.inr #[D,us,k,rfl,rfl,s' _ _<|s3 _ _ eD,by lia,ku,by rw[oB ir.nd ku];exact q']]
  refine#[JE,λR hR=>?_];have s5:=jh (o:=.tup [.ref r0,.ref r1]) (Same.refl H4) hR;exact q R _ _ _ (Same.trans DC<|Same.trans s4 s5) #[us,ir,rfl,rfl] #[r0,r1,jc,s5 _ _<|s4 _ _ e0,s5 _ _ e1]
def Bl:Sp:=λvs H Q _=>E5 λ(u hl:Addr) (rs:List uG) (nn:Pi) (held:List Int)=>A6 (vs=[.ref u,.ref hl]) (uU H u rs nn) (UJ rs nn) (H hl=some (.lst<|held.map V.int)) (held.length<=100)
 (∀R a b bs H',Same H H'->H' R=some (.tup [.ref a,.ref b])->H' a=some (.lst<|bs.map V.ref)->J1 JF.M H' bs (Jf rs held)->H' b=some (.lst ((nn.map λl=>(l.length:Int)).map V.int))->Q (.ref R) H')
theorem ae (T:Txt K mg t):j7 P w K mg base 1 "_law_first" [SB,WF] Bl:=by
 refine T.be.ok [SB,WF,IR,FS,T0,"_law_place"] ?_;rintro _ H Q E ⟨uu,hl,rs,nn,held,rfl,⟨pl,nl,us,ws,hu,DJ,KA,DZ,EA⟩,G,hh,lh,q⟩;refine#[rfl,λDF A outer s hr=>#[_,(jf (jt 2<|jY jb) (jf (j0 jR (JT rfl rfl T.Ja<|ja (jo jz (pv 0) jg) jb) (j5<|jr (jl 3)<|jr (jl 4) jV)<|jf (jt 5 jg)<|jf (j8 (jF Me (pv 3)<|pv 1) (jk<|jt 5<|jB uF (j3 Ya Yk Yi uS (pv 1)<|ja (pv 3) jb) jg) jP)<|jk<|Jd<|j3 Ya Yg Yf Jb (pv 2)<|ja (jL<|ja (jo jz (pv 4) jg)<|ja (jo jz (pv 4) jg)<|ja (pv 5) jb) jb) (jk (jE (jL (ja (pv 2) (ja (jU (own:=[YG]) (JW (cl:=[])) (jN<|jo jz (pv 0) jg) (λ_ _ _ _ _=>jl 6) (λ_ _ _ _ _=>j4) (λ_ _ _ _ _=>(jw (ZM (K:=K) rfl) (by rfl) T.JD JC<|ja (pv 6) jb))) jb))))))),?_]];have lu:=Ut KA;have g5:=G.few;refine ze λD H1 s1 hD eD=>?_;refine Mh (λ(v3 v4 v5) (bs)=>[oR uu,oR hl,oR D,v3,v4,v5]) (λ_ _ _ bs H'=>A3 (Same H H') (H' D=some (.lst<|bs.map V.ref))<|J1 JF.M H' bs<|Jf rs held) (λB hB=>?_) ?_
 ·refine#[_,_,ju.of<|s1 _ _ hu,rfl,pl,rfl,#[_,jj.of<|s1 _ _ DJ],ua (λi σ H'=>E4 λ(v3 v4 v5) (bs)=>A4 (σ=[oR uu,oR hl,oR D,v3,v4,v5]) (Same H H') (H' D=some (.lst<|bs.map V.ref))<|J1 JF.M H' bs<|Jf (rs.take i) held) #[_,_,_,_,rfl,s1,eD,.nil] (λi σ H' _ h=>by obtain⟨_,_,_,_,_,e,_⟩:=h;exact jj.of<|e _ _ DJ) ?_ ?_]
  ·rintro i v p σ H2 hv hp ⟨v3,v4,v5,bs,rfl,s2,e2,N2⟩;obtain⟨u,eu,rfl⟩:=gm hv;obtain⟨r,em,eh⟩:=cE KA eu;have hi:=(yc.mp em).1
   refine Ev hp λH3 s3 e3=>?_
   have DC:=Same.trans s2 s3;have WR:=DC _ _ eh;refine#[_,ju.of e3,rfl,vL ?_];refine JO ?_;refine UK [oR uu,oR hl,oR D,some<|.int i,oR u,some<|.int<|u4 held i] (λH'=>H'=H3) (λB hB=>#[hl,_,rfl,.inl<|jj.of<|DC _ _ hh,rfl,QG.mpr λv hv=>by obtain⟨n,_,rfl⟩:=yi.mp hv;rfl,vM (λz=>?_) λz=>?_]) ?_
   ·have z:mS _ _=true:=z;rw[V1,decide_eq_true_eq] at z;refine#[.inl #[rfl,_,jj.of<|DC _ _ hh],hl,held,i,rfl,rfl,DC _ _ hh,by omega,z,?_];have:=hB H3 rfl;rwa [show u4 held i=(held.idxOf _)+1 from if_pos z] at this
   ·have z:mS _ _=false:=z;rw[V1,decide_eq_false_iff_not] at z;have:=hB H3 rfl;rwa [show u4 held i=0 from if_neg z] at this
   rintro H3 rfl;refine#[.inl #[rfl,_,jj.of<|s3 _ _ e2],_,.str _,ju.of WR,rfl,_,.int _,ju.of WR,rfl,cY,λu6 IB=>?_]
   refine Ev IB λH6 s6 e6=>?_
   have FN:=Same.trans s3 s6;have Ed:=FN _ _ e2;have lb:bs.length=i:=by
    rw[(Ji N2).1,JJ,yF,Qs<|yX hi]
   refine#[D,_,_,rfl,rfl,Ed,by rw[ya,lb];exact yG (show _<=8 by omega) ac,_,_,_,bs++[u6],rfl,jK (Same.trans s2 FN) hD,by rw[jc,yd];rfl,?_];rw[jA em,Gr,yF,Qs<|yX hi];have v6:JF.M.V_ H6 _ (NB _ _ _):=#[u6,_,rfl,e6,.cons rfl<|.cons rfl<|.cons rfl .nil];exact ((N2.mono λ_ _ e=>FN _ _ e).app<|.cons v6 .nil).mono λq ys e=>by rw[jC<|j9 e Ed];exact e
  ·rintro σ H2 ⟨v3,v4,v5,bs,rfl,s2,e2,N2⟩;rw[ya,lu,jO rfl] at N2;exact hB _ _ _ bs _ #[s2,e2,N2]
 rintro v3 v4 v5 bs H2 ⟨s2,e2,N2⟩;refine#[_,_,ju.of<|s2 _ _ hu,rfl,nl,rfl,#[_,jj.of<|s2 _ _ DZ],JV (λC i ys H'=>A4 (Same H2 H') _ (H' C=some (.lst ys)) (ys=((nn.take i).map λl=>(l.length)).map V.int)) (by rw[ya,EA.1];exact yk G.fewN ac) (λC hC=>#[jh (Same.refl H2) hC,hC,jc,rfl]) (λC i ys H' #[s1,h1,h2,h3]=>#[h2,by rw[h3,ya,ya,yF];exact Wa _ _,jj.of<|s1 _ _<|s2 _ _ DZ]) ?_ ?_]
 ·rintro C i v ys H3 Qy Qn hv ⟨s3,hC,eC,rfl⟩ hy hn;obtain⟨b,eb,rfl⟩:=gm hv;have hi:i<nn.length:=by rw[<-EA.1];exact (yc.mp eb).1
  have em:=yb hi;obtain⟨qs,f1,f2⟩:=EA.2 i b _ eb em;generalize nn[i]=l at em f2;refine#[#[_,rfl,rfl],Jm #[b,_,rfl,.inl<|jj.of<|s3 _ _<|s2 _ _ f1,hy _ _ eC #[jK s3 hC,hC,jc,?_]]];have lq:=Ut f2;rw[jA em,yd,yd,ya,lq]
  rfl
 ·rintro C ys H3 hC ⟨s3,_,eC,rfl⟩;rw[ya,EA.1,jO rfl] at eC;refine#[JE,λR hR=>?_];have s4:=jh (o:=.tup [.ref D,.ref C]) (Same.refl H3) hR;have Ex:=Same.trans s3 s4;exact q R D C bs _ (Same.trans s2 Ex) jc (Ex _ _ e2) (N2.mono λ_ _ e=>Ex _ _ e) (s4 _ _ eC)
def jn (S:uB) (x:Nat×Nat):Nat:=(S.ws.getD x.1 []).getD x.2 0
theorem A1 {nn:Pi} (L:Lk S rs nn) (W:S.wf) {j:Nat} {l:Ps} {x:Nat×Nat} (h:nn[j]?=some l) (hx:x∈l):jn S x=j:=by
 have hj:j<S.es.length:=by rw[L.el];exact (yc.mp h).1
 have he:=yb hj;obtain⟨l',e1,e2⟩:=W.ew j _ _ _ he<|(L.es j l _ h he).mem_iff.mpr hx;unfold jn;rw[yn,yn,e1];show (l'[x.2]?).getD 0=j;rw[e2]
 rfl
theorem BH {nn:Pi} (L:Lk S rs nn) (W:S.wf) {i:Nat} {r:uG} (h:rs[i]?=some r):∃l,S.ws[i]?=some l/\l=(Yc r.2).map λq=>jn S (i,q):=by
 obtain⟨l,e1,e2⟩:=W.wm i r (by rw[L.hs];exact h);refine#[l,e1,?_];rw[<-e2];refine ((uy l 0).symm.trans (yT λq _=>?_));unfold jn;rw[yn (l:=S.ws),e1]
 rfl
theorem qD {Dx:List (List Key×V)}{k:List Key}{v:V}:(uA Dx k v).length<=Dx.length+1:=by
 unfold uA;split
 ·rw[ya];lia
 ·grind
def Lg (S:uB) (nm:List Int) (Dx:List (List Key×V)) (ps:Ps):Prop:=Dx.length<=ps.length/\∀x∈ps,Jp Dx (kE x)=some (.int<|nm.getD (jn S x) 0)
theorem xt {a b:Nat×Nat} (h:kE a=kE b):a=b:=by
 injection h with h1 h
 injection h with h2 _
 exact Y8 (Yn<|Ym h1) (Yn<|Ym h2)
theorem Lg.put {Dx:List (List Key×V)}{ps:Ps} (h:Lg S nm Dx ps) (x:Nat×Nat):Lg S nm (uA Dx (kE x)<|.int<|nm.getD (jn S x) 0) (ps++[x]):=by
 refine#[yk qD (by rw[yg];exact Qt h.1),λy hy=>?_];rw[rn];by_cases z:kE y=kE x
 ·rw[if_pos z,xt z]
 ·rw[if_neg z];exact h.2 y ((yB.mp hy).resolve_right λe=>z (by rw[yp.mp e]))
def Bs:Sp:=λvs H Q _=>E8 λ(u pa na:Addr) (rs:List uG) (nn:Pi) (S:uB) (pm nm:List Int)=>A8 (vs=[.ref u,.ref pa,.ref na]) (uU H u rs nn) (UJ rs nn) (Lk S rs nn/\S.wf) (H pa=some (.lst<|pm.map V.int)) (H na=some (.lst<|nm.map V.int)) (pm.length=rs.length/\nm.length=nn.length)
 (∀R a b bs cs H',Same H H'->H' R=some (.tup [.ref a,.ref b])->H' a=some (.lst<|bs.map V.ref)->J1 JP.M H' bs (Jc pm S.ws nm)->H' b=some (.lst<|cs.map V.ref)->J1 uv.M H' cs (JA nm S.es pm)->Q (.ref R) H')
theorem bO (T:Txt K mg t):j7 P w K mg base 1 "_law_next" [SB,IR,TW] Bs:=by
 refine T.dg.ok [SB,IR,TW,"_law_legs",FS,YG,YO,"_law_more",T0,YH] ?_;rintro _ H Q E ⟨uu,pa,na,rs,nn,S,pm,nm,rfl,⟨pl,nl,us,ws,hu,DJ,KA,DZ,EA⟩,G,⟨LK,W⟩,hp,hn,⟨lp,ln⟩,q⟩;refine#[rfl,λDF A outer s hr=>#[_,(jf (jt 3 G6) (jf (j0 jR (JT rfl rfl T.Ja<|ja (jo jz (pv 0) jg) jb) (j5<|jr (jl 4)<|jr (jl 5) jV)<|jk<|j0 jR (jN<|pv 5) (jl 6)<|jk<|Gf (pv 3) (pv 6)<|jo jx (pv 2)<|pv 4) (jf (jt 7<|jY jb) (jf (j0 jR (JT rfl rfl T.Ja<|ja (jo jz (pv 0) jg) jb) (j5<|jr (jl 4)<|jr (jl 8) jV) (jk (Jd (j3 Ya Yg Yf Jb (pv 7) (ja (jL (ja (jo jx (pv 1)<|pv 4) (ja (jT vg (by rfl) T.UX UU (ja (jU (own:=[YJ]) (JW (cl:=[("_law_legs",_),(FS,_)])) (ub rfl T.uz<|ja (jo jz (pv 8) jg) jb) (λ_ _ _ _ _=>jl 10) (λ_ _ _ _ _=>j4) (λ_ _ _ _ _=>(Ud (pv 3)<|jL<|ja (pv 4)<|ja (pv 10) jb))) jb)) jb))) jb))))) (jf (jt 9<|jY jb) (jf (j0 jR (JT rfl rfl T.Ja<|ja (jo jz (pv 0) jg) jb) (j5<|jr (jl 4)<|jr (jl 5) jV) (jk (Jd (j3 Ya Yg Yf Jb (pv 9) (ja (jL (ja (jo jx (pv 2)<|pv 4) (ja (jT vg (by rfl) T.UX UU (ja (jw (UE hr.units) (by rfl) T.JS JR (ja (vx (N0:=[SB,IR,TW,"_law_legs",FS,YG,YO,"_law_more","._law_part",YH]) (own:=[T0,YJ]) (JW (cl:=[(IR,_)])) (jN<|pv 5) (λ_ _ _ _ _=>j5 (n:=2)<|jr (jl 10)<|jr (jl 11) jV) (λ_ _ _ _ _=>j4) (λ_ _ _ _ _=>(jL<|ja (jo jx (pv 1)<|pv 10)<|ja (pv 11) jb))) jb)) jb)) jb))) jb)))))<|jk<|jE<|jL<|ja (pv 7)<|ja (pv 9) jb)))))),?_]];have lu:=Ut KA;have lw:=EA.1;have g5:=G.few;have g5':=G.fewN;have Sy:nn.flatten.length<=30:=by rw[G.pm.length_eq];exact UR G.few λx hx=>(G.k x hx).3
 refine u7 (λ(D)=>[oR uu,oR pa,oR na,oR D,none,none,none,none,none,none]) (λD H'=>A3 _ _<|H' D=some _) (λB hB=>λD hD=>hB D _ #[jh (Same.refl H) hD,hD,jc]) ?_;rintro D H1 ⟨s1,hD,eD⟩;refine#[_,_,ju.of<|s1 _ _ hu,rfl,nl,rfl,#[_,jj.of<|s1 _ _ DZ],ua (λi σ H'=>E4 λ(v4 v5 v6) (Dx)=>A4 (σ=[oR uu,oR pa,oR na,oR D,v4,v5,v6,none,none,none]) (Same H H') (H' D=some (.dT Dx))<|Lg S nm Dx (nn.take i).flatten) #[_,_,_,_,rfl,s1,eD,yj _,λx h=>nomatch h] (λi σ H' _ h=>by obtain⟨_,_,_,_,_,e,_⟩:=h;exact jj.of<|e _ _ DZ) ?_ ?_]
 ·rintro i x p σ H2 hx EC ⟨v4,v5,v6,Dx,rfl,s2,e2,g2⟩;obtain⟨v,ev,rfl⟩:=gm hx;have hi:i<nn.length:=by rw[<-lw];exact (yc.mp ev).1
  have el:=yb hi;have lm:=yz hi;obtain⟨qs,f1,f2⟩:=EA.2 i v _ ev el;generalize nn[i]=l at el f2 lm;have lq:=Ut f2
  refine Ev EC λH3 s3 e3=>?_
  have DC:=Same.trans s2 s3;have Ip:∀j,((nn.take i).flatten++l.take j).length<=30:=λj=>by
   have h1:((nn.take<|i+1).flatten).length<=nn.flatten.length:=by
    conv=>rhs;rw[<-Qm (i+1) nn,Y5,yg]
    omega
   rw[jA el,Y5,yg] at h1;simp only[Qv,List.flatten_nil,Qk] at h1;rw[yg,yF];omega
  refine#[_,ju.of e3,rfl,vL ?_];refine#[v,rfl,#[_,jj.of<|DC _ _ f1],uJ (λj σ H'=>E2 λ(v6) (Dx)=>A4 (σ=[oR uu,oR pa,oR na,oR D,some _,oR v,v6,none,none,none]) (Same H H') (H' D=some (.dT Dx))<|Lg S nm Dx<|(nn.take i).flatten++l.take j) #[_,Dx,rfl,DC,s3 _ _ e2,by rw[List.take_zero,Qk];exact g2] (λj σ H' _ h=>by obtain⟨_,_,_,e,_⟩:=h;exact jj.of<|e _ _ f1) ?_ ?_]
  ·rintro j y σ H4 hy ⟨v6,Dx,rfl,s4,e4,g4⟩;obtain⟨b,eb,rfl⟩:=gm hy;obtain⟨x,ex,tb⟩:=cE f2 eb;have xm:=yh ex;have hj:=(yc.mp ex).1;have g5:=g4.put x;rw[A1 LK W el xm] at g5;refine#[_,_,jj.of<|s4 _ _ hn,jX (by rw[ye,some_of (d:=0) (by omega)];rfl),D,_,rfl,Vs.t e4 (s4 _ _ tb) (yG (yk g4.1<|Ip j) ac),_,_,rfl,jK s4 hD,jc,?_];rw[jA ex,<-Qf];exact g5
  ·rintro σ H4 ⟨v6,Dx,rfl,s4,e4,g4⟩;rw[ya,jO lq.symm] at g4;refine#[_,_,_,Dx,rfl,s4,e4,?_];rw[jA el,Y5];simpa using g4
 rintro σ H2 ⟨v4,v5,v6,Dx,rfl,s2,e2,lg⟩;rw[ya,jO lw.symm] at lg;refine JO ?_;refine ze λM H3 s3 hM eM=>?_;have DC:=Same.trans s2 s3;refine#[_,_,ju.of<|DC _ _ hu,rfl,pl,rfl,#[_,jj.of<|DC _ _ DJ],ua (λi σ H'=>E3 λ(v4 v8) (bs)=>A4 (σ=[oR uu,oR pa,oR na,oR D,v4,v5,v6,oR M,v8,none]) (Same H2 H') (H' M=some (.lst<|bs.map V.ref)) (J1 JP.M H' bs (((pm.zip S.ws).take i).map λx=>Kw x.1 (x.2.map λn=>nm.getD n 0)))) #[_,_,_,rfl,s3,eM,.nil] (λi σ H' _ h=>by obtain⟨_,_,_,_,e,_⟩:=h;exact jj.of<|e _ _<|s2 _ _ DJ) ?_ ?_]
 ·rintro i x p σ H4 hx Oi ⟨v4,v8,bs,rfl,s4,e4,N4⟩;obtain⟨u,eu,rfl⟩:=gm hx;obtain⟨r,er,tu⟩:=cE KA eu;have rm:=yh er;have hi:=(yc.mp er).1;obtain⟨_,_,r6⟩:=G.k r rm;obtain⟨l,Pc,el⟩:=BH LK W er;have em:pm[i]?=some (pm.getD i 0):=some_of (by omega);have ez:(pm.zip S.ws)[i]?=some (pm.getD i 0,l):=Qd.mpr #[em,Pc];generalize pm.getD i 0=m at em ez
  refine Ev Oi λH5 s5 e5=>?_
  have Ph:=Same.trans s4 s5;have Ef:=Same.trans s2 Ph;refine#[_,ju.of e5,rfl,vL ?_];refine#[.inl #[rfl,_,jj.of<|s5 _ _ e4],_,_,jj.of<|Ef _ _ hp,jX (by rw[ye,em];rfl),_,_,ju.of<|Ef _ _ tu,rfl,_,rfl,by omega,by omega,vK (n:=r.2) (λC k ys H'=>A4 (Same H5 H') _ (H' C=some (.lst ys)) (ys=((Yc k).map λq=>nm.getD (jn S (i,q)) 0).map V.int)) (yk r6 ac) (λC hC=>#[jh (Same.refl H5) hC,hC,jc,rfl]) (λC k ys H' h=>by obtain⟨_,_,h1,h2⟩:=h;exact#[h1,by rw[h2,ya,ya,yL]]) ?_ ?_]
  ·rintro C k ys H6 Qy Qn H₂ ⟨s6,hC,eC,rfl⟩ hy;rw[QE];refine#[#[_,rfl,rfl],Jm #[JE,λu8 Ls=>?_]]
   refine Fa (o:=.tup [.int (i:Int),.int (k:Int)]) (q:=.tup ((kE (i,k)).map kV)) rfl Ls λH8 s8 e8=>?_
   have hv:=lg.2 (i,k)<|G.pm.mem_iff.mpr<|Jv.mpr #[r,er,H₂];refine#[D,_,rfl,by rw[<-hv];exact JX.t (s8 _ _<|s6 _ _<|Ph _ _ e2) e8,hy _ _ (s8 _ _ eC) #[jK (Same.trans s6 s8) hC,hC,jc,?_]];rw[QD,yd,yd]
   rfl
  ·rintro C ys H6 hC ⟨s6,_,eC,rfl⟩;refine#[C,_,rfl,.inl #[jj.of eC,λt5 IC=>?_]];have I₁:(Yc r.2).map (λq=>nm.getD (jn S (i,q)) 0)=l.map λn=>nm.getD n 0:=by rw[el,yq];rfl
   rw[I₁]
   refine Ev IC λH7 s7 e7=>?_
   refine#[JE,λt6 ID=>?_]
   refine Ev ID λH8 s8 e8=>?_
   have Eo:=Same.trans s5<|Same.trans s6<|Same.trans s7 s8;have WS:=Eo _ _ e4;have lb:bs.length<=5:=by
    rw[(Ji N4).1,ya,yF,yM];omega
   refine#[M,_,_,rfl,rfl,WS,by rw[ya];exact yG lb ac,_,_,bs++[t6],rfl,jK (Same.trans s4 Eo) hM,by rw[jc,yd];rfl,?_];rw[jA ez,yd];have v6:JP.M.V_ H8 _ (Kw m _):=#[t6,_,rfl,e8,.cons rfl<|.cons #[t5,_,rfl,s8 _ _ e7,Gz _] .nil];exact ((N4.mono λ_ _ e=>Eo _ _ e).app<|.cons v6 .nil).mono λq ys e=>by rw[jC<|j9 e WS];exact e
 rintro σ H4 ⟨v4,v8,bs,rfl,s4,e4,N4⟩;rw[ya,YW (by rw[yM];omega)] at N4;refine JO ?_;refine ze λL H5 s5 hL eL=>?_;have DO:=Same.trans s2 s4;have Ef:=Same.trans DO s5;refine#[_,_,ju.of<|Ef _ _ hu,rfl,nl,rfl,#[_,jj.of<|Ef _ _ DZ],ua (λi σ H'=>E3 λ(v4 v5) (cs:Di)=>A4 (σ=[oR uu,oR pa,oR na,oR D,v4,v5,v6,oR M,v8,oR L]) (Same H4 H') (H' L=some (.lst<|cs.map V.ref)) (J1 uv.M H' cs (((nm.zip S.es).take i).map λx=>Km x.1 (zK (x.2.map λp=>(pm.getD p.1 0,(p.2))))))) #[_,_,[],rfl,s5,eL,.nil] (λi σ H' _ h=>by obtain⟨_,_,_,_,e,_⟩:=h;exact jj.of<|e _ _<|DO _ _ DZ) ?_ ?_]
 ·rintro i x p σ H6 hx I₂ ⟨v4,v5,cs,rfl,s6,e6,N6⟩;obtain⟨v,ev,rfl⟩:=gm hx;have hi:i<nn.length:=by rw[<-lw];exact (yc.mp ev).1
  have el:=yb hi;have lm:=yz hi;obtain⟨qs,f1,f2⟩:=EA.2 i v _ ev el;generalize nn[i]=l at el f2 lm;obtain⟨ll,inl⟩:=K9 G lm;have lq:=Ut f2;have L':i<S.es.length:=by rw[LK.el];exact hi
  have ee:=yb L';have pe:=LK.es i l _ el ee;generalize S.es[i]=e at ee pe;have em:nm[i]?=some (nm.getD i 0):=some_of (by omega);have ez:(nm.zip S.es)[i]?=some (nm.getD i 0,e):=Qd.mpr #[em,ee];generalize nm.getD i 0=m at em ez
  refine Ev I₂ λH7 s7 e7=>?_
  have EI:=Same.trans DO<|Same.trans s6 s7;have WT:=EI _ _ f1;refine#[_,ju.of e7,rfl,vL ?_];refine#[.inl #[rfl,_,jj.of<|s7 _ _ e6],_,_,jj.of<|EI _ _ hn,jX (by rw[ye,em];rfl),v,rfl,#[_,jj.of WT],JV (λC j ys H'=>A4 (Same H7 H') _ (H' C=some (.lst ys)) (∃rs:List Addr,ys=rs.map V.ref/\KeyAt H' rs (((l.take j).map λp=>(pm.getD p.1 0,(p.2))).map kI))) (by rw[ya,lq];exact yk ll ac) (λC hC=>#[jh (Same.refl H7) hC,hC,jc,[],rfl,rfl,λi b k h=>nomatch h]) (λC j ys H' #[s1,h1,h2,rs,h3,h4]=>#[h2,by rw[h3,ya,h4.1,ya,ya,yF];exact Wa _ _,jj.of<|s1 _ _ WT]) ?_ ?_]
  ·rintro C j x ys H8 Qy Qn hx ⟨s8,hC,eC,DB,rfl,KR⟩ hy FW;obtain⟨tb,HM,rfl⟩:=gm hx;have hj:j<l.length:=by rw[<-lq];exact (yc.mp HM).1
   have ex:=yb hj;have xm:=yz hj;have tt:=s8 _ _ (EI _ _ (f2.2 j tb _ HM (by rw[ye,ex];rfl)));generalize l[j]=x at ex xm tt;have DA:x.1<pm.length:=by have:=inl x xm;omega
   refine#[_,ju.of tt,rfl,#[_,rfl,rfl],Jm #[_,_,jj.of<|s8 _ _<|EI _ _ hp,jX (by rw[ye,some_of (d:=0) DA];rfl),JE,λt5 IC=>?_]];have s9:=jh (o:=.tup [.int<|pm.getD x.1 0,.int (x.2:Nat)]) (Same.refl H8) IC;have e9:upd H8 t5 (.tup [.int<|pm.getD x.1 0,.int (x.2:Nat)]) t5=some (.tup<|(kI (pm.getD x.1 0,(x.2:Int))).map kV):=jc;refine hy _ _ (s9 _ _ eC) #[jK (Same.trans s8 s9) hC,hC,jc,DB++[t5],by rw[yd];rfl,?_];rw[jA ex,yd,yd];exact (JL (KeyAt.mono' KR s9) e9).wr (s9 _ _ eC)
  ·rintro C ys H8 hC ⟨s8,_,eC,DB,rfl,KR⟩;rw[ya,lq,jO rfl] at KR;refine#[C,DB,_,sd<|kI (0,0),rfl,eC,KR,λk hk=>by obtain⟨p,_,rfl⟩:=yi.mp hk;rfl,(λz=>nomatch z),by rw[ya,ya];omega,λl5 DP DM Fo O5 F7 RJ=>?_];obtain⟨ms,Of,rfl⟩:=STb.perm_map F7 _ rfl;obtain rfl:=z9 Of RJ;rw[gM.mpr<|(pe.map _).symm] at O5
   refine Ev Fo λH9 s9 e9=>?_
   refine#[l5,_,rfl,.inl #[jj.of e9,λt6 ID=>?_]]
   refine Ev ID λHV Ey Io=>?_
   refine#[JE,λt7 RK=>?_]
   refine Ev RK λHY HZ OQ=>?_
   have OB:=Same.trans s9<|Same.trans Ey HZ;have IW:=Same.trans s7<|Same.trans s8 OB;have OC:=IW _ _ e6;have lb:cs.length<=5:=by
    rw[(Ji N6).1,ya,yF,yM];omega
   refine#[L,_,_,rfl,rfl,OC,by rw[ya];exact yG lb ac,_,_,cs++[t7],rfl,jK (Same.trans s6 IW) hL,by rw[jc,yd];rfl,?_];rw[jA ez,yd];have v7:uv.M.V_ HY _ (Km m _):=#[t7,_,rfl,OQ,.cons rfl<|.cons #[t6,_,rfl,HZ _ _ Io,zH<|KeyAt.mono' O5 OB] .nil];exact ((N6.mono λ_ _ e=>IW _ _ e).app<|.cons v7 .nil).mono λq ys e=>by rw[jC<|j9 e OC];exact e
 rintro σ H6 ⟨v4,v5,cs,rfl,s6,e6,N6⟩;rw[ya,YW (by rw[yM];omega)] at N6;refine#[JE,λR hR=>?_];have s7:=jh (o:=.tup [.ref M,.ref L]) (Same.refl H6) hR;have F8:=Same.trans s6 s7;exact q R M L bs cs _ (Same.trans DO F8) jc (F8 _ _ e4) (N4.mono λ_ _ e=>F8 _ _ e) (s7 _ _ e6) (N6.mono λ_ _ e=>s7 _ _ e)
def wy:Sp:=λvs H Q _=>E4 λ(a b:Addr) (ms ns:List Int)=>A6 (vs=[.ref a,.ref b]) (H a=some (.lst<|ms.map V.int)) (H b=some (.lst<|ns.map V.int)) (ms.length+ns.length<=60) (ue ms ns->∀H',Same H H'->Q .non H') (∀m u H',Zh ms ns m->Same H H'->H' u=some (.tup [.int m,.int (ms.count m:Nat),.int (ns.count m:Nat)])->Q (.ref u) H')
theorem af (T:Txt K mg t):j7 P w K mg base 1 "_law_least" [LT,FM] wy:=by
 refine T.bf.ok [LT,FM,"_law_mark"] ?_;rintro _ H Q E ⟨a,b,ms,ns,rfl,f2,f3,ll,qN,qM⟩;refine#[rfl,λDF A outer s hr=>#[_,(jf (j0 jR (jN (jw (vH rfl) (by rfl) T.JS JR (ja (jT (uQ rfl) (by rfl) T.Vj Vg<|ja (jB uL (pv 0)<|pv 1) jb) jb))) (jl 2)<|jk<|j8 (jF vh (j3 Ya Yl Yj uR (pv 0)<|ja (pv 2) jb)<|j3 Ya Yl Yj uR (pv 1)<|ja (pv 2) jb) (jk<|jE<|jL<|ja (pv 2)<|ja (j3 Ya Yl Yj uR (pv 0)<|ja (pv 2) jb)<|ja (j3 Ya Yl Yj uR (pv 1)<|ja (pv 2) jb) jb) jP)<|jk<|jE gG),?_]];refine u7 (λ(v)=>[oR a,oR b,v]) (λ_ H'=>Same H H'/\ue ms ns) (λB hB=>#[a,b,_,_,rfl,rfl,f2,f3,by rw[ya,ya];exact yk ll ac,λp5 Ov=>?_]) ?_
 ·have s5:=jh (o:=.lst<|ms.map V.int++ns.map V.int) (Same.refl H) Ov;have e5:upd H p5 (.lst<|ms.map V.int++ns.map V.int) p5=some (.lst<|((ms++ns).map Yh).map kV):=by rw[jc,yd,yd,yq,yq];rfl
  generalize upd H p5 (.lst<|ms.map V.int++ns.map V.int)=H5 at s5 e5;refine#[p5,(ms++ns).map Yh,rfl,e5,by rw[ya,yg];lia,λS us hS nd mem=>?_];obtain⟨vs,rfl,Ej,DS⟩:=zp nd mem;have lv:vs.length<=60:=by
   have:=JY Ej λa ha=>(DS a).mp ha;rw[yg] at this
   lia
  have s6:=jh (o:=.ext<|Us P w S<|vs.map Yh) (Same.refl H5) hS;refine#[S,vs,rfl,jc,by lia,λl EZ DU pm so=>?_];have s7:=jh (o:=.lst<|EZ.map V.int) (Same.refl<|upd H5 S<|.ext<|Us P w S<|vs.map Yh) DU;have e7:upd (upd H5 S<|.ext<|Us P w S<|vs.map Yh) l (.lst<|EZ.map V.int) l=some (.lst<|EZ.map V.int):=jc;have F8:=Same.trans s5<|Same.trans s6 s7;refine#[l,rfl,#[_,jj.of e7],uJ (λk σ H'=>∃v:Option V,A4 (σ=[oR a,oR b,v]) (Same H H') (H' l=some _) (∀m∈EZ.take k,ms.count m=ns.count m)) #[_,rfl,F8,e7,λm h=>nomatch h] (λk σ H' _ h=>by obtain⟨_,_,_,e,_⟩:=h;exact jj.of e) ?_ ?_]
  ·rintro k y σ H8 hy ⟨v,rfl,Eo,Ow,ec⟩;obtain⟨m,ey,rfl⟩:=gm hy;have g2:=Eo _ _ f2;have g3:=Eo _ _ f3;refine#[.inl #[rfl,_,jj.of g2],a,ms,m,rfl,rfl,g2,.inl #[rfl,_,jj.of g3],b,ns,m,rfl,rfl,g3,rfl,?_];by_cases h:ms.count m=ns.count m
   ·refine Uq (by rw[h]) #[_,rfl,Eo,Ow,λm' Fl=>?_];rw[jA ey] at Fl;rcases yB.mp Fl with z|z
    ·exact ec m' z
    ·rw[yp.mp z];exact h
   ·rw[decide_eq_false (show ¬(V.int (ms.count m)=V.int (ns.count m)) from λz=>h<|Yn<|V.int.inj z)];exact#[.inl #[rfl,_,jj.of g2],a,ms,m,rfl,rfl,g2,.inl #[rfl,_,jj.of g3],b,ns,m,rfl,rfl,g3,cY,λu hu=>qM m u _ (NF (λa=>pm.mem_iff.trans<|DS a) so ey ec h) (jh Eo hu) jc]
  ·rintro σ H8 ⟨v,rfl,Eo,_,ec⟩;rw[ya,jO rfl] at ec;exact hB _ _ #[Eo,Nf λm hm=>ec m<|pm.mem_iff.mpr<|(DS m).mpr hm]
 rintro v H1 ⟨s1,ev⟩;exact qN ev _ s1
theorem Jk.at0 (h:Jk S1 S2 held Ms):∃M0,Ms[0]?=some M0/\vf S1 S2 held M0:=by
 induction h with
 | one f=>exact#[_,rfl,f]
 | snoc h n ih =>
  obtain⟨M0,e,f⟩:=ih;exact#[M0,by grind,f]
theorem Jk.nx (h:Jk S1 S2 held Ms):∀{i:Nat} {A B:jZ},Ms[i]?=some A->Ms[i+1]?=some B->uO S1 S2 A B:=by
 induction h with
 | one f=>intro i A B _ h2;simp at h2
 | @snoc Ms M M' h n ih =>
  intro i A B h1 h2;have hi:=(yc.mp h2).1;rw[yg,yg] at hi;have hi:i+1<Ms.length+1+1:=hi;rw[yx (by grind)] at h1;by_cases z:i+1<Ms.length+1
  ·rw[yx (by grind)] at h2;exact ih h1 h2
  ·obtain rfl:i=Ms.length:=by lia
   rw[yR<|yj _,aaD] at h1;rw[yR (by grind),yg] at h2;cases h1;have h2:([M'])[Ms.length+1 - (Ms.length+1)]?=some B:=h2;rw[aaD] at h2;cases h2;exact n
structure Sd (rs:List uG) (nn:Pi) (S:uB):Prop where
 g:UJ rs nn
 k:Lk S rs nn
 ok:S.ok
 wf:S.wf
theorem VR.few {M:jZ}{nn:Pi} (D1:Sd rs nn S1) (D2:Sd DB DH S2) (r:VR S1 S2 held Ms Mp M):Ms.length<=20:=by
 have fits:=r.rd.fits D1.ok D2.ok;have ups:∀(i:Nat) X,(Ms++[Mp])[i]?=some X->i<=sm X:=λi=>by
  induction i with
  | zero=>intro X _;exact yP _
  | succ i ih =>
   intro B hB;have hi:=(yc.mp hB).1;have hA:=yb (show i<(Ms++[Mp]).length by lia);have n:=r.rd.nx (i:=i) (by rw[yx gt];exact hA) (by rw[yx hi];exact hB);have:=sD (n.le D1.ok D2.ok<|fits _<|y9 _<|yh hA)<|r.st i _ _ hA hB;have:=ih _ hA
   lia
 have h1:=ups Ms.length Mp on;have ft:=fits Mp<|y9 _<|yA _<|yp.mpr rfl;have c1:=kM<|Mp.pp++Mp.pq;have c2:=kM<|Mp.np++Mp.nq;rw[yg,ft.pp,ft.pq,D1.k.hs,D2.k.hs] at c1;rw[yg,ft.np,ft.nq,D1.k.el,D2.k.el] at c2;have:=D1.g.few;have:=D2.g.few;have:=D1.g.fewN;have:=D2.g.fewN;unfold sm at h1
 lia
theorem iG {a b:JF.α} (ha:JF.good a) (hb:JF.good b):kn JF a b:=by
 obtain⟨x,m,h,rfl⟩:=ha;obtain⟨x',m',h',rfl⟩:=hb;intro i y z h1 h2
 match i with
 | 0=>cases h1;cases h2;rfl
 | 1=>cases h1;cases h2;rfl
 | 2=>cases h1;cases h2;rfl
 | _+3=>cases h1
theorem iH {a b:JP.α} (ha:JP.good a) (hb:JP.good b):kn JP a b:=by
 obtain⟨m,l,rfl⟩:=ha;obtain⟨m',l',rfl⟩:=hb;intro i y z h1 h2
 match i with
 | 0=>cases h1;cases h2;rfl
 | 1=>cases h1;cases h2;exact Zu l l'
 | _+2=>cases h1
theorem p8 {a b:uv.α} (ha:uv.good a) (hb:uv.good b):kn uv a b:=by
 obtain⟨m,l,rfl⟩:=ha;obtain⟨m',l',rfl⟩:=hb;intro i y z h1 h2
 match i with
 | 0=>cases h1;cases h2;rfl
 | 1=>cases h1;cases h2;exact GQ l l'
 | _+2=>cases h1
theorem nS {nn:Pi} (L:Lk S rs nn):(nn.map λl=>(l.length:Int))=U4 S:=by
 unfold U4;refine y7 (by rw[ya,ya,L.el]) λi h1 h2=>?_;rw[ya] at h1 h2;rw[yQ,yQ,(L.es i _ _ (yb h1)<|yb h2).length_eq]
theorem gU {ms ns:List Int}{n:Nat}{H:Hp} (hσ:σ[n]?=some (oR R)) (h:vU H R ms ns) (ll:ms.length+ns.length<=60) (q:∀H',Same H H'->Q (.int (Jq (ms++ns):Nat)) H'):oQ (λxs H Q=>∃(S:Addr) (us:List Key),A4 (xs=[.ref S]) (H S=some (.ext<|Us P w S us)) (us.length<=1000000)<|Q (.int us.length) H) (M5 (oQ (λxs H Q=>∃(p:Addr) (ks:List Key),A4 (xs=[.ref p]) (H p=some (.lst<|ks.map kV)) (ks.length<=990) (∀S us,H S=none->us.Nodup->(∀k,k∈us↔k∈ks)->Q (.ref S) (upd H S<|.ext<|Us P w S us)))<|M5 (ZU xZ (ZU (gJ K) (US n)<|tC<|.int 0)<|ZU (gJ K) (US n)<|tC<|.int 1) aV) aV) σ H Q:=by
 obtain⟨a,b,e1,e2,e3⟩:=h;simp only[oQ,M5,ZU];refine US.mk hσ #[_,_,ju.of e1,rfl,US.mk hσ #[_,_,ju.of e1,rfl,a,b,_,_,rfl,rfl,e2,e3,by rw[ya,ya];exact yk ll ac,λp hp=>?_]];have s4:=jh (o:=.lst<|ms.map V.int++ns.map V.int) (Same.refl H) hp;have e4:upd H p (.lst<|ms.map V.int++ns.map V.int) p=some (.lst<|((ms++ns).map Yh).map kV):=by rw[jc,yd,yd,yq,yq];rfl
 refine#[p,_,rfl,e4,by grind,λS us hS nd mem=>?_];obtain⟨vs,rfl,Ej,DS⟩:=zp nd mem;have lv:=by
  have:=JY Ej λa ha=>(DS a).mp ha;rw[yg] at this;omega
 refine#[S,_,rfl,jc,by rw[ya];lia,?_];rw[ya,<-KP #[vs,Ej,DS,rfl]];exact q _ (jh s4 hS)
inductive aN (vs:List V) (H:Hp) (Q:VK):Prop
 | mk (u1 u2 hl:Addr) (rs DB:List uG) (nn DH:Pi) (S1 S2:uB) (us:Di) (held:Dc) (Ms:List jZ) (Mp M:jZ) (h0:vs=[.ref u1,.ref u2,.ref hl]) (L1:uU H u1 rs nn) (L2:uU H u2 DB DH) (D1:Sd rs nn S1) (D2:Sd DB DH S2) (hh:H hl=some (.lst<|us.map V.ref)) (KA:KeyAt H us (held.map kI)) (lh:held.length<=8) (RE:VR S1 S2 held Ms Mp M)
   (q1:(∀X∈Ms++[Mp]++[M],X.even)->∀R p H',Same H H'->H' R=some (.tup [.non,.ref p])->vU H' p M.pp M.pq->Q (.ref R) H')
   (q2:∀i x ms ns m R u v H',vF (Ms++[Mp]++[M]) i x ms ns m->Same H H'->H' R=some (.tup [.ref u,v])->H' u=some (.tup [.str IO,.int (i:Nat),.str x,.int m,.int (ms.count m:Nat),.int (ns.count m:Nat)])->Q (.ref R) H')
def Bo:Sp:=λvs H Q _=>aN vs H Q
theorem ML (T:Txt K mg t):j7 P w K mg base 2 "_law_rounds" [LT,FM,WF] Bo:=by
 refine T.nr.ok [LT,FM,WF,"_law_mine","_law_theirs",IR,TW,"_law_number","_law_word","_law_marks_here","_law_least_here","_law_more",YH,"_law_same"] ?_;rintro _ H Q E ⟨u1,u2,hl,rs,DB,nn,DH,S1,S2,us,held,Ms,Mp,M,rfl,L1,L2,D1,D2,hh,KA,lh,RE,q1,q2⟩;refine#[rfl,λDF A outer s hr=>#[_,(jf (jt 3 (jq (ae T) (ja (pv 0) (ja (jU (own:=["_law_pair"]) (JW (cl:=[])) (jN<|pv 2) (λ_ _ _ _ _=>jl 14) (λ_ _ _ _ _=>j4) (λ_ _ _ _ _=>(jo jz (pv 14) jg))) jb)))) (jf (jt 4 (jq (ae T) (ja (pv 1) (ja (jU (own:=["_law_pair"]) (JW (cl:=[])) (jN<|pv 2) (λ_ _ _ _ _=>jl 14) (λ_ _ _ _ _=>j4) (λ_ _ _ _ _=>(jo jz (pv 14) jg))) jb)))) (jf (jt 5<|jq (ag T)<|ja (jo jz (pv 3) jg)<|ja (jo jz (pv 4) jg) jb) (jf (jt 6<|jq (ag T)<|ja (jo jz (pv 3) jg)<|ja (jo jz (pv 4) jg) jb) (jf (j0 jR (ub rfl T.uz<|ja jg jb) (jl 7) (jf (j0 jR (jN<|jY<|ja (jL<|ja Jt<|ja (pv 5) jb)<|ja (jL<|ja Jt<|ja (pv 6) jb) jb) (j5<|jr (jl 8)<|jr (jl 9) jV)<|jf (jt 10<|jq (af T)<|ja (jo jz (pv 9) jg)<|ja (jo jz (pv 9) jg) jb)<|jk<|j8 (Kx<|mn<|pv 10) (jk<|jE<|jL<|ja (jB cR (jL<|ja Jt<|ja (pv 7)<|ja (pv 8) jb)<|pv 10)<|ja (pv 5) jb) jP) (jf (jt 3<|jq (bO T)<|ja (pv 0)<|ja (jo jz (pv 5) jg)<|ja (jo jz (pv 6) jg) jb) (jf (jt 4<|jq (bO T)<|ja (pv 1)<|ja (jo jz (pv 5) jg)<|ja (jo jz (pv 6) jg) jb) (jf (jt 11<|jq (ag T)<|ja (jo jz (pv 3) jg)<|ja (jo jz (pv 4) jg) jb) (jf (jt 12<|jq (ag T)<|ja (jo jz (pv 3) jg)<|ja (jo jz (pv 4) jg) jb) (jf (jt 13 (vD uZ (jw vB (by rfl) T.JD JC (ja (jT (uQ rfl) (by rfl) T.Vj Vg<|ja (jB uL (jo jz (pv 11) jg)<|jo jz (pv 11) jg) jb) jb)) (jw vB (by rfl) T.JD JC (ja (jT (uQ rfl) (by rfl) T.Vj Vg<|ja (jB uL (jo jz (pv 5) jg)<|jo jz (pv 5) jg) jb) jb)))) (jf (j8 (zY (ux<|pv 13) (zZ (jF uZ (jw vB (by rfl) T.JD JC (ja (jT (uQ rfl) (by rfl) T.Vj Vg<|ja (jB uL (jo jz (pv 12) jg)<|jo jz (pv 12) jg) jb) jb)) (jw vB (by rfl) T.JD JC (ja (jT (uQ rfl) (by rfl) T.Vj Vg<|ja (jB uL (jo jz (pv 6) jg)<|jo jz (pv 6) jg) jb) jb))))).pt (jk<|jE<|jL<|ja gG<|ja (pv 11) jb) jP)<|jf (jt 5<|pv 11)<|jk<|jt 6<|pv 12))))))))<|jk<|jE<|jL<|ja gG<|ja (pv 5) jb))))),?_]];have WU:=Ut KA;have g1:=D1.g.few;have g2:=D2.g.few;have g3:=D1.g.fewN;have g4:=D2.g.fewN;have few:=RE.few D1 D2;have fits:=RE.rd.fits D1.ok D2.ok;have pr:∀{i:Nat} {v:V} {x:Int×Int} {H':Hp},Same H H'->(us.map V.ref)[i]?=some v->held[i]?=some x->∃u,v=.ref u/\H' u=some (.tup [.int x.1,.int x.2]):=λ{i v x H'} s' hv hx=>by
  obtain⟨u,eu,rfl⟩:=gm hv;exact#[u,rfl,s' _ _ (KA.2 i u (kI x) eu (by rw[ye,hx];rfl))]
 refine#[hl,rfl,#[_,jj.of hh],vX (ms:=held.map (·.1)) rfl hh (by rw[ya,ya,WU]) (by rw[ya];lia) (λi v m hv hm H1 Q' s' q'=>?_) λD H1' s1 hD eD=>#[u1,D,rs,nn,_,rfl,L1.same s1,D1.g,eD,by rw[ya];lia,λX a b bs H1 s' eX ea Na eb=>JO ?_]]
 ·obtain⟨x,ex,rfl⟩:=gm hm;obtain⟨u,rfl,eu⟩:=pr s' hv ex;exact#[_,_,ju.of eu,rfl,q']
 have s1:=Same.trans s1 s';refine#[hl,rfl,#[_,jj.of<|s1 _ _ hh],vX (ms:=held.map (·.2)) rfl (s1 _ _ hh) (by rw[ya,ya,WU]) (by rw[ya];omega) (λi v m hv hm H2 Q' s' q'=>?_) λD H2' s2 hD eD=>#[u2,D,DB,DH,_,rfl,(L2.same s1).same s2,D2.g,eD,by rw[ya];omega,λY c d es H2 s' eY ec Nc ed=>JO ?_]]
 ·obtain⟨x,ex,rfl⟩:=gm hm;obtain⟨u,rfl,eu⟩:=pr (Same.trans s1 s') hv ex;exact#[_,_,ju.of eu,rfl,q']
 have s2:=Same.trans s2 s';have gh:∀k∈Jf rs (held.map (·.1))++Jf DB (held.map (·.2)),JF.good k:=λk hk=>(yB.mp hk).elim Vh Vh;refine ZT (λ(R1) (ms ns)=>[oR u1,oR u2,oR hl,oR X,oR Y,oR R1,none,none,none,none,none,none,none,none]) (λR1 ms ns H'=>A3 _ _ _) (λB hB=>#[_,_,ju.of<|s2 _ _ eX,rfl,_,_,ju.of eY,rfl,.g JF a c bs es _ _ rfl (s2 _ _ ea) ec (Na.mono λ_ _ e=>s2 _ _ e) Nc gh (λx hx y hy=>iG (gh x hx)<|gh y hy) (by rw[JJ,JJ];omega) λR ms ns H' s' r tw=>hB R ms ns H' #[s',tw,r]]) ?_;rintro R1 ms ns H3 ⟨s3,T1,k1⟩;have SF:=Same.trans s2 s3;refine ZT (λ(R2:Addr) (Hc He)=>[oR u1,oR u2,oR hl,oR X,oR Y,oR R1,oR R2,none,none,none,none,none,none,none]) (λR2 Hc He H'=>A3 _ _<|Rk Gw _ _ Hc He) (λB hB=>#[_,_,ju.of<|SF _ _ eX,rfl,_,_,ju.of<|s3 _ _ eY,rfl,.k b d _ _ rfl (SF _ _ eb) (s3 _ _ ed) (by rw[ya,ya];omega) λR ms ns H' s' r tw=>hB R ms ns H' #[s',tw,by rwa [nS D1.k,nS D2.k] at r]]) ?_;rintro R2 Hc He H4 ⟨s4,T2,k2⟩;obtain⟨M0,e0,F0⟩:=RE.rd.at0;have L₁:(#[ms,ns,Hc,He])=M0:=vf.det #[by rw[D1.k.hs,D2.k.hs];exact k1,k2] F0;have DO:=Same.trans s1<|Same.trans SF s4;refine UK [] (λ_=>False) (λB hB=>?_) (λH' h=>h.elim);refine#[40,rfl,by omega,by omega,UM (n:=40) (λi σ H'=>E9 λ(v3 v4 v7 v8 v9 v10 v11 IX Ia)=>E3 λ(R1 R2:Addr) (Z)=>A6 (σ=[oR u1,oR u2,oR hl,v3,v4,oR R1,oR R2,v7,v8,v9,v10,v11,IX,Ia]) (Same H H') (vU H' R1 Z.pp Z.pq/\vU H' R2 Z.np Z.nq) ((Ms++[Mp]++[M])[i]?=some Z) (∀X∈(Ms++[Mp]++[M]).take i,X.even)<|i<=Ms.length) #[_,_,_,_,_,_,_,_,_,R1,R2,M0,rfl,DO,by rw[<-L₁];exact#[T1.same s4,T2],e0,(λX h=>nomatch h),yP _] ?_ ?_]
 ·rintro i σ H5 hi ⟨v3,v4,v7,v8,v9,v10,v11,IX,Ia,R1,R2,Z,rfl,s5,⟨T1,T2⟩,eZ,ev,il⟩;rw[QE];have IY:=fits Z<|yh eZ;have Pp:=IY.len D1.ok D2.ok;refine ZT (λ(v8 v9 v10)=>[oR u1,oR u2,oR hl,v3,v4,oR R1,oR R2,oI<|i,v8,v9,v10,v11,IX,Ia]) (λ_ _ _ H'=>Same H5 H'/\Z.even) (λB hB=>#[JE,λp1 Og=>?_]) ?_
  ·have t1:=jh (o:=.tup [.str EQ,.ref R1]) (Same.refl H5) Og;have f1:upd H5 p1 (.tup [.str EQ,.ref R1]) p1=some (.tup [.str EQ,.ref R1]):=jc;generalize upd H5 p1 (.tup [.str EQ,.ref R1])=H6 at t1 f1;refine#[JE,λp2 EC=>#[JE,λW hW=>?_]];have t2:=jh (o:=.tup [.str FB,.ref R2]) (Same.refl H6) EC;have f2:upd H6 p2 (.tup [.str FB,.ref R2]) p2=some (.tup [.str FB,.ref R2]):=jc;generalize upd H6 p2 (.tup [.str FB,.ref R2])=H7 at t2 f2 hW
   refine Ev hW λH8 t3 f3=>?_
   have WV:=Same.trans t1<|Same.trans t2 t3;have L₂:=t3 _ _<|t2 _ _ f1;have O₁:=t3 _ _ f2;refine#[W,rfl,#[_,jj.of f3],uJ (λj σ H'=>E3 λ(v8 v9 v10)=>A3 (σ=[oR u1,oR u2,oR hl,v3,v4,oR R1,oR R2,oI _,v8,v9,v10,v11,IX,Ia]) (Same H8 H')<|(0<j->ue Z.pp Z.pq)/\(1<j->ue Z.np Z.nq)) #[_,_,_,rfl,Same.refl _,λh=>absurd h ac,λh=>absurd h ac] (λj σ H' _ h=>by obtain⟨_,_,_,_,e,_⟩:=h;exact jj.of<|e _ _ f3) ?_ ?_]
   ·rintro j x σ H9 hx ⟨v8,v9,v10,rfl,s9,OD⟩;have:∃(p R:Addr) (ms ns:List Int) (wd:Str),A6 (x=.ref p/\((wd=EQ/\ms=Z.pp/\ns=Z.pq)\/(wd=FB/\ue Z.pp Z.pq/\ms=Z.np/\ns=Z.nq))) (vU H5 R ms ns) (H8 p=some (.tup [.str wd,.ref R])) (ms.length+ns.length<=60) (ue ms ns->(0<j+1->ue Z.pp Z.pq)/\(1<j+1->ue Z.np Z.nq)) True:=by
     match j,hx with
     | 0,hx=>cases hx;exact#[p1,R1,Z.pp,Z.pq,EQ,#[rfl,.inl #[rfl,rfl,rfl]],T1,L₂,Pp.1,λh=>#[λ_=>h,λz=>absurd z ac],trivial]
     | 1,hx=>cases hx;exact#[p2,R2,Z.np,Z.nq,FB,#[rfl,.inr #[rfl,OD.1 ac,rfl,rfl]],T2,O₁,Pp.2,λh=>#[λ_=>OD.1 ac,λ_=>h],trivial]
    obtain⟨p,R,ms,ns,wd,⟨rfl,hw⟩,TR,ep,ll,kY,_⟩:=this;have Ib:=Same.trans WV s9;obtain⟨a,b,h1,h2,h3⟩:=TR.same Ib;refine#[_,ju.of<|s9 _ _ ep,rfl,vL ?_];refine u7 (λ(v)=>[oR u1,oR u2,oR hl,v3,v4,oR R1,oR R2,oI _,some _,oR R,some v,v11,IX,Ia]) (λv H'=>A3 (Same H9 H') ((v=.non/\ue ms ns)\/∃m u,A3 (v=.ref u) (Zh ms ns m)<|H' u=some (.tup [.int m,.int<|ms.count m,.int<|ns.count m])) True) (λB hB=>#[_,_,ju.of h1,rfl,_,_,ju.of h1,rfl,a,b,ms,ns,rfl,h2,h3,ll,λe H' s'=>hB _ H' #[s',.inl #[rfl,e],trivial],λm u H' o s' e=>hB _ H' #[s',.inr #[m,u,rfl,o,e],trivial]]) ?_;rintro v HV ⟨Ey,hv,_⟩;rcases hv with ⟨rfl,e⟩|⟨m,u,rfl,o,eu⟩
    ·unfold aU tB KF;exact vv #[_,_,_,rfl,Same.trans s9 Ey,kY e]
    ·unfold aU tB KF;refine Jm #[cY,λp5 Ov=>?_]
     refine Ev Ov λHY r1 f5=>?_
     refine#[p5,u,_,_,rfl,rfl,ju.of f5,ju.of<|r1 _ _ eu,(λz=>nomatch z),(by show 6<=sizeLine;decide),(λz=>nomatch z),λ_ u6 IB=>#[JE,λRR Ly=>?_]];have r2:=jh (o:=.tup<|[.str IO,.int (i:Nat),.str wd]++[.int m,.int (ms.count m:Nat),.int (ns.count m:Nat)]) (Same.refl HY) IB;have f6:upd HY u6 (.tup<|[.str IO,.int (i:Nat),.str wd]++[.int m,.int (ms.count m:Nat),.int (ns.count m:Nat)]) u6=some (.tup [.str IO,.int (i:Nat),.str wd,.int m,.int (ms.count m:Nat),.int (ns.count m:Nat)]):=jc;generalize upd HY u6 (.tup<|[.str IO,.int (i:Nat),.str wd]++[.int m,.int (ms.count m:Nat),.int (ns.count m:Nat)])=WW at r2 f6 Ly;have r3:=jh (o:=.tup [.ref u6,.ref R1]) (Same.refl WW) Ly;exact q2 i wd ms ns m RR u6 _ _ #[ev,#[Z,eZ,hw],o] (Same.trans s5<|Same.trans Ib<|Same.trans Ey<|Same.trans r1<|Same.trans r2 r3) jc (r3 _ _ f6)
   ·rintro σ H9 ⟨v8,v9,v10,rfl,s9,OD⟩;exact hB _ _ _ _ #[Same.trans WV s9,OD.1 (by show 0<2;decide),OD.2 (by show 1<2;decide)]
  rintro v8 v9 v10 H6 ⟨s6,WX⟩;obtain⟨a1,b1,x1,x2,x3⟩:=T1;obtain⟨a2,b2,y1,y2,y3⟩:=T2;have Hx:=Same.trans s5 s6;refine#[_,_,ju.of<|s6 _ _ x1,rfl,_,_,ju.of<|s6 _ _ y1,rfl,u1,a1,a2,rs,nn,S1,Z.pp,Z.np,rfl,L1.same Hx,D1.g,#[D1.k,D1.wf],s6 _ _ x2,s6 _ _ y2,#[by rw[IY.pp,D1.k.hs],by rw[IY.np,D1.k.el]],λX a b bs ds H7 s7 eX ea Na eb Nb=>JO ?_];have OE:=Same.trans s6 s7;have EI:=Same.trans s5 OE;refine#[_,_,ju.of<|OE _ _ x1,rfl,_,_,ju.of<|OE _ _ y1,rfl,u2,b1,b2,DB,DH,S2,Z.pq,Z.nq,rfl,L2.same EI,D2.g,#[D2.k,D2.wf],OE _ _ x3,OE _ _ y3,#[by rw[IY.pq,D2.k.hs],by rw[IY.nq,D2.k.el]],λY c d DP O₂ H8 s8 eY ec Nc ed Nd=>JO ?_];have gp:∀k∈Jc Z.pp S1.ws Z.np++Jc Z.pq S2.ws Z.nq,JP.good k:=λk hk=>(yB.mp hk).elim Vk Vk;have gn:∀k∈JA Z.np S1.es Z.pp++JA Z.nq S2.es Z.pq,uv.good k:=λk hk=>(yB.mp hk).elim VD VD;refine ZT (λ(R3) (ms ns)=>[oR u1,oR u2,oR hl,oR X,oR Y,oR R1,oR R2,oI _,v8,v9,v10,oR R3,IX,Ia]) (λR3 ms ns H'=>A3 _ _ _) (λB hB=>#[_,_,ju.of<|s8 _ _ eX,rfl,_,_,ju.of eY,rfl,.g JP a c bs DP _ _ rfl (s8 _ _ ea) ec (Na.mono λ_ _ e=>s8 _ _ e) Nc gp (λx hx y hy=>iH (gp x hx)<|gp y hy) (by unfold Jc;rw[ya,ya,yM,yM];omega) λR ms ns H' s' r tw=>hB R ms ns H' #[s',tw,r]]) ?_;rintro R3 ms ns H9 ⟨s9,T3,k1⟩;have Pq:=Same.trans s8 s9;refine ZT (λ(R4) (ms ns)=>[oR u1,oR u2,oR hl,oR X,oR Y,oR R1,oR R2,oI _,v8,v9,v10,oR R3,oR R4,Ia]) (λR4 ms ns H'=>A3 _ _ _) (λB hB=>#[_,_,ju.of<|Pq _ _ eX,rfl,_,_,ju.of<|s9 _ _ eY,rfl,.g uv b d ds O₂ _ _ rfl (Pq _ _ eb) (s9 _ _ ed) (Nb.mono λ_ _ e=>Pq _ _ e) (Nd.mono λ_ _ e=>s9 _ _ e) gn (λx hx y hy=>p8 (gn x hx)<|gn y hy) (by unfold JA;rw[ya,ya,yM,yM];omega) λR ms ns H' s' r tw=>hB R ms ns H' #[s',tw,r]]) ?_;rintro R4 Hc He HV ⟨Ey,T4,k2⟩;have P':i+1<(Ms++[Mp]++[M]).length:=by rw[yg,yg];show i+1<Ms.length+1+1;omega
  have eN:=yb P';have nx:=RE.rd.nx eZ eN;have eq:(#[ms,ns,Hc,He])=(Ms++[Mp]++[M])[i+1]:=uO.det #[k1,k2] nx;rw[<-eq] at eN nx;have SH:=Same.trans s7<|Same.trans Pq Ey;have IZ:=Same.trans s6 SH;have HK:=vU.same #[a1,b1,x1,x2,x3] IZ;have P₁:=vU.same #[a2,b2,y1,y2,y3] IZ;have SI:=T3.same Ey;have OF:=Same.trans s5 IZ;have P₂:=nx.fits D1.ok D2.ok IY;have WY:=P₂.len D1.ok D2.ok;have Ep:∀X∈(Ms++[Mp]++[M]).take _,X.even:=λX hX=>by
   rw[jA eZ] at hX;rcases yB.mp hX with h|h
   ·exact ev X h
   ·rw[yp.mp h];exact WX
  have last:i=Ms.length->Z=Mp/\(#[ms,ns,Hc,He])=M:=λz=>by
   subst z;rw[yx on,yR<|yj _,aaD] at eZ;rw[yR on] at eN;rw[yg] at eN;have eN:([M])[Ms.length+1 - (Ms.length+1)]?=some _:=eN;rw[aaD] at eN;cases eZ;cases eN;exact#[rfl,rfl]
  have SM:cs Z≠cs #[ms,ns,Hc,He]->i+1<=Ms.length:=λn=>by
   rcases y6 i Ms.length with z|z
   ·exact z
   ·obtain⟨e1,e2⟩:=last<|Y4 il z;rw[e1,e2] at n;exact absurd RE.ec n
  refine UK [oR u1,oR u2,oR hl,oR X,oR Y,oR R1,oR R2,oI<|i,v8,v9,v10,oR R3,oR R4,some<|.bl<|decide (V.int (Jq<|ms++ns)=V.int (Jq<|Z.pp++Z.pq))] (λH'=>Same HV H') (λB hB=>?_) ?_
  ·unfold uV aT ZU;exact gU rfl SI WY.1 λH' s'=>gU rfl (HK.same s') Pp.1 λH2 s2=>#[rfl,hB _<|Same.trans s' s2]
  rintro HY HZ;have done:cs Z=cs #[ms,ns,Hc,He]->∀{H':Hp},Same HY H'->∀RR,H' RR=none->Q (.ref RR) (upd H' RR<|.tup [.non,.ref R3]):=λec {H'} s' RR Ly=>by
   have WZ:i=Ms.length:=by
    rcases y6 i Ms.length with z|z
    ·have l1:(Ms++[Mp]).length=Ms.length+1:=by rw[yg];rfl
     rw[yx (by omega)] at eZ eN;exact absurd ec (RE.st i _ _ eZ eN)
    ·omega
   obtain⟨e1,e2⟩:=last WZ;have t1:=jh (o:=.tup [.non,.ref R3]) (Same.refl H') Ly;have tw:=((SI.same HZ).same s').same t1;refine q1 (λX hX=>?_) RR R3 _ (Same.trans OF<|Same.trans HZ<|Same.trans s' t1) jc (by rw[<-e2];exact tw);rcases yB.mp hX with h|h
   ·refine Ep X ?_;rw[WZ,List.take_append_of_le_length on,YW on];exact h
   ·rw[yp.mp h,<-e2];exact nx.even D1.ok D2.ok IY ec WX
  refine UK [oR u1,oR u2,oR hl,oR X,oR Y,oR R1,oR R2,oI<|i,v8,v9,v10,oR R3,oR R4,some<|.bl<|decide (V.int (Jq<|ms++ns)=V.int (Jq<|Z.pp++Z.pq))] (λH'=>Same HY H'/\cs Z≠cs #[ms,ns,Hc,He]) (λB hB=>?_) ?_
  ·by_cases c1:Jq (ms++ns)=Jq (Z.pp++Z.pq)
   ·refine Gb (by rw[c1]) ?_;unfold fK ZU;refine gU rfl (T4.same HZ) WY.2 λH' s'=>gU rfl ((P₁.same HZ).same s') Pp.2 λH2 s2=>#[rfl,V2 (λe=>?_) λe=>?_]
    ·exact#[JE,λRR Ly=>done (by unfold cs;rw[c1,Yn<|V.int.inj e]) (Same.trans s' s2) RR Ly]
    ·exact hB _ #[Same.trans s' s2,λz=>e (by injection z with _ z;injection z with z;rw[z])]
   ·exact Zv (λe=>c1<|Yn<|V.int.inj e) (vv (hB _ #[Same.refl _,λz=>c1 (by injection z with z _;exact (Yn z).symm)]))
  rintro WW ⟨Q₂,nc⟩;have FU:=Same.trans HZ Q₂;exact#[_,_,_,_,_,_,_,_,_,R3,R4,_,rfl,Same.trans OF FU,#[SI.same FU,T4.same FU],eN,Ep,SM nc]
 ·rintro σ H5 ⟨v3,v4,v7,v8,v9,v10,v11,IX,Ia,R1,R2,Z,rfl,s5,tt,eZ,ev,il⟩;omega
theorem cb:bootBuiltins "range"=some (.type "range"):=by kernel_rfl
theorem oC {ps:List Nat}{ns:List Int}{n:Nat} (pm:ps.Perm (Yc n)) (SN:ns.Perm (ps.map λk=>((k:Nat):Int))) (so:ns.Pairwise (·<=·)):ns=(Yc n).map λi=>((i:Nat):Int) :=
 Y7 (λa b _ _ h1 h2=>aaO h1 h2) so (QB.mpr (List.pairwise_lt_range.imp λh=>by lia)) (SN.trans<|pm.map _)
def Bx:Sp:=λvs H Q _=>E9 λ(u o1 o2:Addr) (rs:List uG) (nn:Pi) (DB:List uG) (DH:Pi) (ps ns:List Nat)=>A7 (vs=[.ref u,.ref o1,.ref o2]) (∃a b:Addr,A3 (H u=some (.tup [.str YA,.ref a,.ref b])) (H a=some (.lst<|ps.map UB))<|H b=some (.lst<|ns.map UB)) (uU H o1 rs nn) (uU H o2 DB DH) (UJ rs nn/\UJ DB DH) (hG rs nn DB DH ps ns) (∀H',Same H H'->Q (.bl true) H')
theorem mi (T:Txt K mg t):j7 P w K mg base 1 "_law_renamed" [WP,LT,FM] Bx:=by
 refine T.Mu.ok [WP,LT,FM,IR,TW,FS,"_law_line"] ?_;rintro _ H Q E ⟨u,o1,o2,rs,nn,DB,DH,ps,ns,rfl,⟨a,b,hu,ha,hb⟩,L1,L2,⟨G1,G2⟩,R,q⟩;refine#[rfl,λDF A outer s hr=>#[_,(jf (j8 (uI (jF vh (jw jW (by rfl) T.JD JC<|ja (pv 0) jb) jg) (uI (uc (ux (jw ug (by rfl) T.Jn Jl (ja (jo jz (pv 0) jg) (ja (uH (v:=.ty "list") (by rfl) T.Uj Ug rfl) jb))))) (uN (uc (ux (jw ug (by rfl) T.Jn Jl (ja (jo jz (pv 0) jg) (ja (uH (v:=.ty "list") (by rfl) T.Uj Ug rfl) jb)))))))).pt (jk<|jE vj) jP) (jf (zc (qy Al (pv 0) (t9 jg) t8)<|j5<|jr (jl 3)<|jr (jl 4) jV) (jf (j8 (uI (jF (VE hr.units0) (jw UD (by rfl) T.JS JR<|ja (pv 3) jb) (jT (kK rfl) (by rfl) T.Uj Ug (ja (jT Go (by rfl) T.uz cb (ja (jw jW (by rfl) T.JD JC<|ja (jo jz (pv 2) jg) jb) jb)) jb))) (uN (jF (VE hr.units0) (jw UD (by rfl) T.JS JR<|ja (pv 4) jb) (jT (kK rfl) (by rfl) T.Uj Ug (ja (jT Go (by rfl) T.uz cb (ja (jw jW (by rfl) T.JD JC<|ja (jo jz (pv 2) jg) jb) jb)) jb))))).pt (jk<|jE vj) jP) (jf (j8 (uI (jF (ml hr.units) (vx (N0:=[WP,LT,FM,IR,TW,YK,"_law_line"]) (own:=[FS]) (JW (cl:=[(FM,_)])) (jN<|pv 3) (λ_ _ _ _ _=>jl 7) (λ_ _ _ _ _=>j4) (λ_ _ _ _ _=>(jo jx (jo jz (pv 2) jg)<|pv 7)))<|jo jz (pv 1) jg) (uN (jF vh (jw jW (by rfl) T.JD JC<|ja (pv 4) jb) (jw jW (by rfl) T.JD JC<|ja (jo jz (pv 1) jg) jb)))).pt (jk<|jE vj) jP) (jf (j0 jR (JT rfl rfl T.Ja<|ja (jo jz (pv 1) jg) jb) (j5<|jr (jl 5)<|jr (jl 6) jV) (jk (j8 (jF (ml hr.units) (jw (UE hr.units) (by rfl) T.JS JR (ja (jU (own:=[T0,YJ]) (JW (cl:=[(IR,_)])) (jN<|pv 6) (λ_ _ _ _ _=>j5 (n:=2)<|jr (jl 7)<|jr (jl 8) jV) (λ_ _ _ _ _=>j4) (λ_ _ _ _ _=>(jL<|ja (jo jx (pv 3)<|pv 7)<|ja (pv 8) jb))) jb)) (jw (UE hr.units) (by rfl) T.JS JR<|ja (jo jx (jo jz (pv 2) jg)<|jo jx (pv 4)<|pv 5) jb)) (jk<|jE vj) jP)))<|jk<|jE vj))))),?_]];obtain⟨R₁,W0,SY,ws1,a1,a2,a3,a4,a5⟩:=L1.ex;obtain⟨R₂,S',Fh,Pt,b1,b2,b3,b4,b5⟩:=L2.ex;have lu1:=Ut a3;have SO:=Ut b3;have g1:=G1.few;have g2:=G2.few;have g3:=G1.fewN;have g4:=G2.fewN;refine#[u,_,rfl,.inr<|ju.of hu,rfl,Uq rfl #[_,_,ju.of hu,rfl,_,_,_,_,true,rfl,.lst ha,.ty _,by kernel_rfl,vv #[_,_,ju.of hu,rfl,_,_,_,_,true,rfl,.lst hb,.ty _,by kernel_rfl,vv<|JO ?_]]];refine UK [oR u,oR o1,oR o2,oR a,oR b,none,none] (λH'=>Same H H') (λB hB=>#[1,rfl,u,_,rfl,ju.of hu,(by intro z;exact absurd (show (1)=0 from z.1) ac),λp hp=>?_]) ?_
 ·have s1:=jh (o:=.tup<|Z8 [.str YA,.ref a,.ref b] (some 1) none) (Same.refl H) hp;have e1:upd H p (.tup<|Z8 [.str YA,.ref a,.ref b] (some 1) none) p=some (.tup [.ref a,.ref b]):=by rw[jc];rfl
  generalize upd H p (.tup<|Z8 [.str YA,.ref a,.ref b] (some 1) none)=H1 at s1 e1;exact#[_,ju.of e1,rfl,hB _ s1]
 rintro H1 s1;have lps:ps.length=DB.length:=by rw[R.pm.length_eq,yL]
 have WM:ns.length=DH.length:=by rw[R.nm.length_eq,yL]
 have num:∀{X:Addr} {ks:List Nat} {n:Nat} {H':Hp},H' X=some _->jj K H' X ((ks.map _).map V.int):=λe=>jj.of (by rw[<-NU];exact e);refine UK [oR u,oR o1,oR o2,oR a,oR b,none,none] (λH'=>Same H H') (λB hB=>#[a,_,rfl,num (n:=0)<|s1 _ _ ha,by rw[ya];lia,λl ms DU SN so=>?_]) ?_
 ·have t1:=jh (o:=.lst<|ms.map V.int) s1 DU;have f1:upd H1 l (.lst<|ms.map V.int) l=some (.lst<|ms.map V.int):=jc;generalize upd H1 l (.lst<|ms.map V.int)=H2 at t1 f1;refine#[_,_,ju.of<|t1 _ _ b1,rfl,R₂,_,rfl,.inl<|jj.of<|t1 _ _ b2,_,rfl,λr Oz=>#[r,_,rfl,jc,by rw[ya];lia,λl2 F1=>?_]];have t2:=jh (o:=.lst ((Yc (Fh.map V.ref).length).map λi=>V.int (i:Nat))) (jh (o:=b9 r (Fh.map V.ref).length) (Same.refl H2) Oz) F1;refine#[l,l2,ms,_,rfl,rfl,jj.of<|t2 _ _ f1,jj.of (by rw[jc,ya,SO,yq];rfl),Uq (oC R.pm SN so) ?_];have SQ:=Same.trans t1 t2;generalize upd (upd H2 r<|b9 r (Fh.map V.ref).length) l2 (.lst ((Yc (Fh.map V.ref).length).map λi=>V.int (i:Nat)))=H3 at SQ;refine#[b,_,rfl,num (n:=0)<|SQ _ _ hb,by rw[ya];lia,λl3 OG SR HI S₁=>?_];have t3:=jh (o:=.lst<|OG.map V.int) SQ SR;have f3:upd H3 l3 (.lst<|OG.map V.int) l3=some (.lst<|OG.map V.int):=jc;generalize upd H3 l3 (.lst<|OG.map V.int)=H4 at t3 f3;refine#[_,_,ju.of<|t3 _ _ b1,rfl,S',_,rfl,.inl<|jj.of<|t3 _ _ b4,_,rfl,λr4 S₂=>#[r4,_,rfl,jc,by rw[ya,b5.1];lia,λl4 T₁=>?_]];have t4:=jh (o:=.lst ((Yc (Pt.map V.ref).length).map λi=>V.int (i:Nat))) (jh (o:=b9 r4 (Pt.map V.ref).length) (Same.refl H4) S₂) T₁;exact#[l3,l4,OG,_,rfl,rfl,jj.of<|t4 _ _ f3,jj.of (by rw[jc,ya,b5.1,yq];rfl),Uq (oC R.nm HI S₁)<|hB _<|Same.trans t3 t4]
 rintro H2 s2;have mp:∀k∈ps,k<DB.length:=λk hk=>yI.mp<|R.pm.mem_iff.mp hk;have T₂:ps.map (λk=>DB.getD k ("",0))=rs:=by
  refine QL λi=>?_;rw[ye];by_cases hi:i<ps.length
  ·have e:=yb hi;have h1:=R.hs i _ e;rw[e,<-h1,some_of<|mp _<|yz hi]
   rfl
  ·rw[QZ gt,QZ (by rw[<-R.pl];lia)]
   rfl
 refine UK [oR u,oR o1,oR o2,oR a,oR b,none,none] (λH'=>Same H H') (λB hB=>?_) ?_
 ·refine#[a,rfl,#[_,jj.of<|s2 _ _ ha],Ux (λ_=>true) (λx=>match x with|.int k=>.ref (Fh.getD k.toNat 0)|_=>.non) (jj.of<|s2 _ _ ha) (by rw[ya,R.pl];exact yk g1 ac) (λx hx H' Qy Qn s' hy _=>?_) λD hD=>?_]
  ·obtain⟨k,hk,rfl⟩:=yi.mp hx;have kl:k<Fh.length:=by rw[SO];exact mp k hk
   have DN:=Same.trans s2 s';exact#[#[_,rfl,rfl],Jm #[_,_,ju.of<|DN _ _ b1,rfl,_,_,jj.of<|DN _ _ b2,jX (by rw[ye,some_of kl];rfl),hy rfl]]
  ·have s3:=jh (o:=.lst (((ps.map UB).filter λ_=>true).map λx=>match x with|.int k=>.ref (Fh.getD k.toNat 0)|_=>.non)) (Same.refl H2) hD;have e3:upd H2 D (.lst (((ps.map UB).filter λ_=>true).map λx=>match x with|.int k=>.ref (Fh.getD k.toNat 0)|_=>.non)) D=some (.lst ((ps.map λk=>Fh.getD k 0).map V.ref)):=by rw[jc,Qw.mpr (λ_ _=>rfl),yq,yq];rfl
   generalize upd H2 D (.lst (((ps.map UB).filter λ_=>true).map λx=>match x with|.int k=>.ref (Fh.getD k.toNat 0)|_=>.non))=H3 at s3 e3;have DC:=Same.trans s2 s3;refine#[_,_,ju.of<|DC _ _ a1,rfl,D,R₁,_,SY,(ps.map λk=>DB.getD k _).map kH,_,rfl,rfl,jj.of e3,jj.of<|DC _ _ a2,#[by rw[ya,ya,ya],λi b k h1 h2=>?_],KeyAt.mono' a3 DC,Uq (by rw[T₂]) #[b,_,rfl,.inl<|jj.of<|DC _ _ hb,_,_,ju.of<|DC _ _ a1,rfl,W0,_,rfl,.inl<|jj.of<|DC _ _ a4,rfl,Uq (by rw[ya,ya,R.nl,a5.1])<|hB _ DC]];rw[ye] at h1;rw[yq,ye] at h2;obtain⟨x,ex,rfl⟩:=yr.mp h1;rw[ex] at h2;cases h2;have xl:=mp x<|yh ex;exact DC _ _ (b3.2 x _ _ (some_of (by rw[SO];exact xl)) (by rw[ye,some_of xl];rfl))
 rintro H3 s3;refine#[_,_,ju.of<|s3 _ _ a1,rfl,W0,rfl,#[_,jj.of<|s3 _ _ a4],ua (λi σ H'=>E2 λ(v5 v6)=>σ=[oR u,oR o1,oR o2,oR a,oR b,v5,v6]/\Same H H') #[_,_,rfl,s3] (λi σ H' _ h=>by obtain⟨_,_,_,e⟩:=h;exact jj.of<|e _ _ a4) ?_ ?_]
 ·rintro i x p σ H4 hx hp ⟨v5,v6,rfl,s4⟩;obtain⟨v,ev,rfl⟩:=gm hx;have hi:i<nn.length:=by rw[<-a5.1];exact (yc.mp ev).1
  have el:=yb hi;have lm:=yz hi;obtain⟨qs,q1,q2⟩:=a5.2 i v _ ev el;generalize nn[i]=l at el lm q2;have IS:=Ut q2;have ll:=(K9 G1 lm).1;have li:i<ns.length:=by rw[R.nl];exact hi
  have ek:=yb li;have kl:=yI.mp<|R.nm.mem_iff.mp<|yz li;generalize ns[i]=k at ek kl;have IJ:=yb kl;have kw:k<Pt.length:=by rw[b5.1];exact kl
  have IU:=yb kw;generalize DH[k]=l2 at IJ;generalize Pt[k]=v2 at IU;obtain⟨WJ,r1,r2⟩:=b5.2 k v2 l2 IU IJ;have pr:=R.es i k l l2 ek el IJ
  refine Ev hp λH5 s5 e5=>?_
  have Ef:=Same.trans s4 s5;refine#[_,ju.of e5,rfl,vL ?_];refine#[v,rfl,#[_,jj.of<|Ef _ _ q1],JV (xs:=qs.map V.ref) (λD j ys H'=>∃Ek:List Addr,A6 (Same H5 H') _ (H' D=some (.lst ys)) (ys=Ek.map V.ref) (Ek.length<=j) (KeyAt H' Ek (((l.take j).map λx=>(ps.getD x.1 0,x.2)).map kE))) (by rw[ya];exact yk (show _<=100 by lia) ac) (λD hD=>#[[],jh (Same.refl H5) hD,hD,jc,rfl,yj _,rfl,λi b k h=>nomatch h]) (λD j ys H' h=>by obtain⟨Ek,h1,h2,h3,h4,h5,_⟩:=h;exact#[h3,by rw[h4,ya];exact h5,jj.of<|h1 _ _<|Ef _ _ q1]) ?_ ?_]
  ·rintro D j y ys H6 Qy Qn W' ⟨Ek,s6,hD,eD,rfl,l8,k8⟩ hy hn;obtain⟨c,ec,rfl⟩:=gm W';obtain⟨x,ex,tb⟩:=cE q2 ec;have xm:=yh ex;obtain⟨r,er,_⟩:=Jv.mp<|G1.pm.mem_iff.mp<|List.mem_flatten.mpr #[l,lm,xm];have EX:x.1<ps.length:=by rw[R.pl];exact (yc.mp er).1
   have Hx:=Same.trans Ef s6;refine#[_,ju.of<|Hx _ _ tb,rfl,#[_,rfl,rfl],Jm #[_,.int _,jj.of<|Hx _ _ ha,jX (by rw[ye,some_of (d:=0) EX];rfl),JE,λu9 IQ=>?_]]
   refine Fa (o:=.tup [.int (ps.getD x.1 0:Nat),kV<|Yh ((x.2:Nat):Int)]) (q:=.tup ((kE (ps.getD x.1 0,x.2)).map kV)) rfl IQ λH9 s9 e9=>?_
   have HW:=s9 _ _ eD;refine hy _ _ HW #[Ek++[u9],jK (Same.trans s6 s9) hD,hD,jc,by rw[yd];rfl,by rw[yg];exact Qt l8,?_];rw[jA ex,yd,yd];exact (JL (KeyAt.mono' k8 s9) e9).wr HW
  ·rintro D ys H6 hD ⟨Ek,s6,_,eD,rfl,l8,k8⟩;rw[ya,jO IS.symm] at k8;have W2:∀(m:List _),∀k∈m.map kE,sd k=[true,true]:=λm k hk=>by obtain⟨x,_,rfl⟩:=yi.mp hk;rfl
   refine#[D,Ek,_,_,rfl,eD,k8,W2 _,(λz=>nomatch z),by rw[ya,ya];lia,λl1 W3 FT Hq W₁ EM W₂=>?_]
   refine Ev Hq λH7 s7 e7=>?_
   have EI:=Same.trans Ef<|Same.trans s6 s7;refine#[_,_,ju.of<|EI _ _ b1,rfl,_,.int _,jj.of<|EI _ _ hb,jX (by rw[ye,ek];rfl),_,_,jj.of<|EI _ _ b4,jX (by rw[ye,IU];rfl),v2,WJ,_,_,rfl,EI _ _ r1,KeyAt.mono' r2 EI,W2 _,(λz=>nomatch z),by rw[ya,<-pr.length_eq,ya];lia,λl3 Oj Ff SR X' Ry Rz=>?_]
   refine Ev SR λH8 s8 e8=>?_
   have X₁:=vE (EM.trans<|(pr.map kE).trans Ry.symm) W₂ Rz;exact#[l1,l3,W3,Oj,FT,Ff,rfl,rfl,jj.of<|s8 _ _ e7,jj.of e8,KeyAt.mono' W₁<|Same.trans s7 s8,KeyAt.mono' X' s8,Uq X₁ #[_,_,rfl,Same.trans EI s8]]
 rintro σ H4 ⟨v5,v6,rfl,s4⟩;exact q _ s4
theorem qT {M:jZ}{m:Int}{ls:List Int} (sh:mB M m) (pm:ls.Perm M.pp) (so:ls.Pairwise (·<=·)):∃r,(ls.filter λx=>decide ((1:Int)<(M.pp.count x:Nat)))=m::r:=by
 have two:=sh.two;have hm:m∈ls.filter λx=>decide ((1:Int)<(M.pp.count x)):=Qx.mpr #[pm.mem_iff.mpr (QK.mp gt),decide_eq_true gt];have W4:=so.sublist (List.filter_sublist (p:=λx=>decide ((1:Int)<(M.pp.count x))));have big:∀k∈ls.filter λx=>decide ((1:Int)<(M.pp.count x)),m<=k:=λk hk=>by
  have h:=of_decide_eq_true (Qx.mp hk).2;refine Int.not_lt.mp λz=>?_;have:=sh.lt k z
  lia
 generalize (ls.filter _)=F at hm W4 big;cases F with
 | nil=>cases hm
 | cons k r =>
  have h1:=big k<|yu ..;rcases yD.mp hm with rfl|h
  ·exact#[r,rfl]
  ·have h2:=(QT.mp W4).1 m h;rw[aaO h1 h2];exact#[r,rfl]
inductive aO (d:Nat) (vs:List V) (H:Hp) (Q:VK):Prop
 | mk (u u1 u2 hl:Addr) (rs DB:List uG) (nn DH:Pi) (S1 S2:uB) (us:Di) (held:Dc) (H0:Hp) (h0:vs=[.ref u,.ref u1,.ref u2,.ref hl]) (L1:uU H u1 rs nn) (L2:uU H u2 DB DH) (D1:Sd rs nn S1) (D2:Sd DB DH S2) (hh:H hl=some (.lst<|us.map V.ref)) (KA:KeyAt H us (held.map kI)) (hd:Hd S1.hs.length held) (lt:S1.hs.length<held.length+d) (an:Jg S1 S2 H0 H held u) (ns:UG H u) (q:∀H',Same H H'->Q (.bl true) H')
def Bu (d:Nat):Sp:=λvs H Q _=>aO d vs H Q
local macro_rules|`(tactic| decide)=>`(tactic| (simp only[Nat.add_eq];omega))
theorem ah (T:Txt K mg t) (d:Nat):j7 P w K mg base (3+d) "_law_paper" [WP,LT,FM,WF] (Bu d):=by
 induction d with
 | zero =>
  refine T.Gk.ok [WP,LT,FM,WF,"_law_told",IR,YQ,T0,FS,"_law_due",YS] ?_;rintro _ H Q E ⟨u,u1,u2,hl,rs,DB,nn,DH,S1,S2,us,held,H0,rfl,L1,L2,D1,D2,hh,KA,hd,lt,an,ns,q⟩;exact absurd hd.le gt
 | succ d DR =>
  refine T.Gk.ok [WP,LT,FM,WF,"_law_told",IR,YQ,T0,FS,"_law_due",YS] ?_;rintro _ H Q E ⟨u,u1,u2,hl,rs,DB,nn,DH,S1,S2,us,held,H0,rfl,L1,L2,D1,D2,hh,KA,hd,lt,an,ns,q⟩;refine#[rfl,λDF A outer s hr=>#[_,(jf (j8 (uI (uc (ux (jw ug (by rfl) T.Jn Jl (ja (pv 0) (ja (uH (v:=.ty "tuple") (by rfl) T.UX UU rfl) jb)))))<|uI (jF (am hr.units) (pv 0)<|jL jb)<|uN<|jF uZ (jo jz (pv 0) jg) Jt).pt (jk<|jE vj) jP) (jf (zc (jq (ML T)<|ja (pv 1)<|ja (pv 2)<|ja (pv 3) jb)<|j5<|jr (jl 4)<|jr (jl 5) jV) (jf (j8 (Kx<|mn<|pv 4) (jk<|jE<|vD (am hr.units) (pv 0)<|pv 4) jP) (jf (jt 6 (jU (own:=["_law_mark"]) (JW (cl:=[(IR,_)])) (jN (jw UD (by rfl) T.JS JR<|ja (jo jz (pv 5) jg) jb)) (λ_ _ _ _ _=>jl 11) (λ_ _ _ _ _=>zb<|jF Ge (j3 Ya Yl Yj uR (jo jz (pv 5) jg)<|ja (pv 11) jb) jg) (λ_ _ _ _ _=>(pv 11)))) (jf (j8 (uI (jF (lR hr.units0) (pv 6)<|jY jb) (uI (jF vh (jw jW (by rfl) T.JD JC<|ja (pv 0) jb) jg)<|uN<|jF vh (jo jz (pv 0) jg) Jt)).pt (jk<|jE vj) jP) (jf (jt 7<|j3 Ya Yk Yi uS (jo jz (pv 5) jg)<|ja (jo jx (pv 6) jg) jb) (jf (vd 9 (N0:=[WP,LT,FM,WF,"_law_told",IR,YQ,T0,YK,"_law_due",YS]) (own:=[FS]) (JW (cl:=[(YQ,_),(IR,_)])) (ub rfl T.uz (ja (jw jW (by rfl) T.JD JC<|ja (jo jz (pv 5) jg) jb) jb)) (λ_ _ _ _ _=>jl 11) (λ_ _ _ _ _=>zb<|jF uZ (jo jx (jo jz (pv 5) jg)<|pv 11)<|jo jx (pv 6) jg) (λ_ _ _ _ _=>(pv 11))) (jf (j8 (uI (jF vh (jo jz (pv 0) jg)<|pv 7) (uI (uc (ux (jw ug (by rfl) T.Jn Jl (ja (jo jz (pv 0) jg) (ja (uH (v:=.ty "list") (by rfl) T.Uj Ug rfl) jb))))) (uN (jF (VE hr.units0) (jU (own:=["_law_row"]) (JW (cl:=[])) (jN<|jo jz (pv 0) jg) (λ_ _ _ _ _=>jl 11) (λ_ _ _ _ _=>j4) (λ_ _ _ _ _=>(jo jz (pv 11) jg)))<|pv 9)))).pt (jk<|jE vj) jP)<|jf (j0 jR (jN<|jo jz (pv 0) jg) (j5<|jr (jl 8)<|jr (jl 10) jV)<|jk<|j8 (uc<|ux<|jq DR<|ja (pv 10)<|ja (pv 1)<|ja (pv 2)<|ja (jB uL (pv 3)<|jY<|ja (jL<|ja (pv 7)<|ja (pv 8) jb) jb) jb) (jk<|jE vj) jP)<|jk<|jE vj)))))))),?_]];have hle:=hd.le;have h5:S1.hs.length<=5:=by rw[D1.k.hs];exact D1.g.few
  have lu:=Ut KA;obtain⟨z,r_,eu,zn⟩:=ns;refine UK [oR u,oR u1,oR u2,oR hl,none,none,none,none,none,none,none] (λH'=>Same H H') (λB hB=>#[_,_,_,_,true,rfl,.tup eu,.ty _,by kernel_rfl,vv #[vR,λe he=>?_]]) ?_
  ·have t1:=jh (o:=.tup []) (Same.refl H) he;exact#[u,e,_,_,rfl,rfl,t1 _ _ eu,jc,.inr rfl,Zv (λz=>nomatch z) #[_,_,ju.of<|t1 _ _ eu,jX rfl,rfl,Zv (λq=>zn<|V.str.inj q)<|hB _ t1]]
  rintro H1 s1;have X₂:Jg S1 S2 H0 H1 held u:=an.keep λb o _ e=>s1 _ _ e;cases X₂ with
  | same r ev nd R hu ha hb ab e ea eb=>exact (Vb #[z,r_,s1 _ _ eu,zn] #[_,_,e]).elim
  | pick r ev sh ks hk EG DK a' sm'=>exact (Vb #[z,r_,s1 _ _ eu,zn] sm').elim
  | marks r o hu e =>
   refine aN.mk u1 u2 hl rs DB nn DH S1 S2 us held _ _ _ rfl (L1.same s1) (L2.same s1) D1 D2 (s1 _ _ hh) (KeyAt.mono' KA s1) gt r (λev=>?_) λi x ms ns m R u' v H2 o' s2 eR W5=>?_
   ·obtain⟨X,e,n⟩:=o.noteven;exact (n<|ev X<|yh e).elim
   ·obtain⟨rfl,rfl,⟨rfl,rfl⟩,rfl⟩:=o.det o';refine#[_,ju.of eR,rfl,vL ?_];dsimp only;unfold uV aU tB KF;exact Jm #[u,u',_,_,rfl,rfl,s2 _ _ e,W5,.inl<|.cons (Jw (.inr _) 0)<|.cons (Jw (.inl _) 0)<|.cons (Jw (.inr _) 0)<|.cons (Jw (.inl _) 0)<|.cons (Jw (.inl _) 0)<|.cons (Jw (.inl _) 0) .nil,q _<|Same.trans s1 s2]
  | @choice _ _ W Ms Mp M m rows r ev sh hu hW e eW ks hr er EG DK =>
   have hM:M∈Ms++[Mp]++[M]:=yA _<|yp.mpr rfl;have ft:=r.rd.fits D1.ok D2.ok M hM;have lp:M.pp.length<=5:=by rw[ft.pp];exact h5
   have lq:M.pq.length<=5:=by rw[ft.pq,D2.k.hs];exact D2.g.few
   obtain⟨pl,pn⟩:=zm r.rd D1.ok D2.ok hM sh.two;have mm:m∈M.pp:=QK.mp (by have:=sh.two;lia);refine u7 (λ(p)=>[oR u,oR u1,oR u2,oR hl,some _,oR p,none,none,none,none,none]) (λp H'=>Same H1 H'/\vU H' p M.pp M.pq) (λB hB=>aN.mk u1 u2 hl rs DB nn DH S1 S2 us held _ _ _ rfl (L1.same s1) (L2.same s1) D1 D2 (s1 _ _ hh) (KeyAt.mono' KA s1) gt r (λ_ R p H2 s2 eR tw=>#[_,ju.of eR,rfl,hB p H2 #[s2,tw]]) λi x ms ns m R u' v H2 o' s2 eR W5=>?_) ?_
   ·obtain⟨X,e,n⟩:=o'.noteven;exact (n<|ev X<|yh e).elim
   rintro p H2 ⟨s2,a,b,f1,f2,f3⟩;refine JO ?_;refine z8 (λ(D) (ls)=>[oR u,oR u1,oR u2,oR hl,some .non,oR p,oR D,none,none,none,none]) (λD ls H'=>A3 (Same H2 H') (H' D=some (.lst<|(m::ls).map V.int)) True) (λB hB=>#[_,_,ju.of f1,rfl,a,M.pp,rfl,jj.of f2,by lia,λl ls DU pm so=>?_]) ?_
   ·have t1:=jh (o:=.lst<|ls.map V.int) (Same.refl H2) DU;have g1:upd H2 l (.lst<|ls.map V.int) l=some (.lst<|ls.map V.int):=jc;generalize upd H2 l (.lst<|ls.map V.int)=H3 at t1 g1;have ll:ls.length<=5:=by rw[pm.length_eq];exact lp
    refine#[l,rfl,#[_,jj.of g1],Ux (λx=>match x with|.int m=>decide ((1:Int)<(M.pp.count m))|_=>false) (λx=>x) (jj.of g1) (by rw[ya];exact yk ll ac) (λx hx H' Qy Qn s' hy hn=>?_) λD hD=>?_]
    ·obtain⟨k,hk,rfl⟩:=yi.mp hx;have SE:=s' _ _<|t1 _ _ f1;have Po:=s' _ _<|t1 _ _ f2;exact#[#[_,rfl,rfl],_,_,ju.of SE,rfl,.inl #[rfl,_,jj.of Po],a,M.pp,k,rfl,rfl,Po,V2 (λh=>hy<|decide_eq_true h) λh=>hn<|decide_eq_false h]
    ·obtain⟨rr,Pg⟩:=qT sh pm so;refine hB D rr _ #[jh t1 hD,?_,trivial];rw[jc,<-Pg,List.map_id',abK]
     rfl
   rintro D rr H3 ⟨s3,eD,_⟩;have Er:=Same.trans s2 s3;have DC:=Same.trans s1 Er;have e3:=Er _ _ e;have O8:=s3 _ _ f1;have O9:=s3 _ _ f2;have Pa:=s3 _ _ f3;refine UK [oR u,oR u1,oR u2,oR hl,some .non,oR p,oR D,none,none,none,none] (λH'=>Same H3 H') (λB hB=>#[vR,λe5 he5=>?_]) ?_
   ·have t1:=jh (o:=.lst []) (Same.refl H3) he5;exact#[D,e5,_,rfl,rfl,jj.of<|t1 _ _ eD,jj.of jc,vv #[u,_,rfl,.inr<|ju.of<|t1 _ _ e3,rfl,Uq rfl #[_,_,ju.of<|t1 _ _ e3,rfl,rfl,Uq rfl<|hB _ t1]]]
   rintro H4 s4;have IK:=Same.trans s3 s4;have SS:=IK _ _ f1;have W6:=IK _ _ f2;have W9:=IK _ _ f3;have IE:=s4 _ _ eD;have e4:=s4 _ _ e3;have d0:vG ((m::rr).map V.int) 0=some _:=jX rfl;refine#[_,_,ju.of SS,rfl,.inl #[rfl,_,jj.of W6],_,_,jj.of IE,d0,a,M.pp,m,rfl,rfl,W6,by lia,mm,JO ?_];refine u7 (λ(U)=>[oR u,oR u1,oR u2,oR hl,some .non,oR p,oR D,some<|.int<|M.pp.idxOf m,none,oR U,none]) (λU H'=>A3 (Same H4 H') (H' U=some (.lst (((Uv M m M.pq.length).map λk=>((k:Nat):Int)).map V.int))) True) (λB hB=>#[_,_,ju.of SS,rfl,b,_,rfl,.inl<|jj.of W9,_,by rw[ya],by lia,by lia,bw (n:=M.pq.length) (λU i ys H'=>A4 (Same H4 H') _ (H' U=some (.lst ys)) (ys=((Uv M m i).map λk=>((k:Nat):Int)).map V.int/\ys.length<=i)) (yk lq ac) (λU hU=>#[jh (Same.refl H4) hU,hU,jc,rfl,yj _]) (λU i ys H' h=>by obtain⟨_,_,h1,h2⟩:=h;exact#[h1,h2.2]) ?_ ?_]) ?_
   ·rintro U i ys H5 Qy Qn hi ⟨s5,hU,eU,ey,ly⟩ hy hn;rw[QE];have eq:=yb hi;refine#[#[_,rfl,rfl],_,_,ju.of<|s5 _ _ SS,rfl,_,_,jj.of<|s5 _ _ W9,jX (by rw[ye,eq];rfl),_,_,jj.of<|s5 _ _ IE,d0,rfl,V2 (λz=>hy _ _ eU #[jK s5 hU,hU,jc,?_,by rw[yg];exact Qt ly]) λz=>hn _ #[s5,hU,eU,?_,abC ly]]
    ·rw[Vl,if_pos (by rw[eq,V.int.inj z]),ey,yd,yd]
     rfl
    ·rw[Vl,if_neg (by rw[eq];exact λy=>z (by rw[Yd y]))];exact ey
   ·rintro U ys H5 hU ⟨s5,_,eU,ey,_⟩;rw[ey] at eU;exact hB U H5 #[s5,eU,trivial]
   rintro U H5 ⟨s5,eU,_⟩;have e5:=s5 _ _ e4;have IV:=Same.trans Er<|Same.trans s4 s5;have Fs:=IV _ _ eW;have lr:rows.length<=5:=by
    have:=congrArg Ys ks;rw[ya] at this;rw[this];exact yk (Q0 _ _) (by rw[yL];exact lq)
   refine UK _ _ (λB hB=>#[_,_,ju.of e5,rfl,rfl,Uq rfl #[_,_,ju.of e5,rfl,_,_,_,_,true,rfl,.lst Fs,.ty _,by kernel_rfl,vv #[_,_,ju.of e5,rfl,W,rfl,#[_,jj.of Fs],vX (ms:=(rows.map _).map _) rfl Fs (by rw[ya,ya,ya]) (by rw[ya];lia) (λi v k hv hk H' Q' s' q'=>?_) λX H6 s6 hX eX=>#[X,U,_,_,rfl,rfl,jj.of eX,jj.of<|s6 _ _ eU,Uq (by rw[ks])<|hB _ s6]]]]) ?_
   ·obtain⟨y,ey,rfl⟩:=gm hv;rw[ye,ye,ey] at hk;cases hk;exact#[_,_,ju.of<|s' _ _<|IV _ _<|er y<|yh ey,rfl,q']
   rintro H6 s6;have Xa:=Same.trans IV s6;have Hx:=Same.trans s1 Xa;have e6:=s6 _ _ e5;have Xb:=s6 _ _ Fs;refine z8 (λ(v8 v10)=>[oR u,oR u1,oR u2,oR hl,some .non,oR p,oR D,some<|.int<|M.pp.idxOf m,v8,oR U,v10]) (λ_ _ H'=>Same H6 H') (λB hB=>#[_,_,ju.of e6,rfl,W,rfl,#[_,jj.of Xb],uJ (λi σ H'=>E2 λ(v8 v10)=>σ=[oR u,oR u1,oR u2,oR hl,some _,oR p,oR D,some _,v8,oR U,v10]/\Same H6 H') #[_,_,rfl,Same.refl _] (λi σ H' _ h=>by obtain⟨_,_,_,e⟩:=h;exact jj.of<|e _ _ Xb) ?_ ?_]) ?_
   ·rintro i x σ H7 hx ⟨v8,v10,rfl,s7⟩;obtain⟨y,ey,rfl⟩:=gm hx;have ym:=yh ey;have SV:=Same.trans Xa s7;have EI:=Same.trans s1 SV;have ey7:=SV _ _<|er y ym;refine#[_,ju.of ey7,rfl,vL ?_];refine#[JE,λu5 Om=>#[oH,λl6 Ox=>?_]];have t1:=jh (o:=.tup [.int (M.pp.idxOf m:Nat),.int (y.1:Nat)]) (Same.refl H7) Om;have g1:upd H7 u5 (.tup [.int (M.pp.idxOf m:Nat),.int (y.1:Nat)]) u5=some (.tup [.int (M.pp.idxOf m:Nat),.int (y.1:Nat)]):=jc;generalize upd H7 u5 (.tup [.int (M.pp.idxOf m:Nat),.int (y.1:Nat)])=H8 at t1 g1 Ox
    refine Ev Ox λH9 t2 g2=>?_
    have Xc:=Same.trans t1 t2;have Lr:=Same.trans EI Xc;refine#[hl,l6,_,_,rfl,rfl,Lr _ _ hh,g2,by rw[ya];exact yk (show us.length+1<=100 by lia) ac,λl7 RX=>?_];have t3:=jh (o:=.lst<|us.map V.ref++[.ref u5]) (Same.refl H9) RX;have g3:upd H9 l7 (.lst<|us.map V.ref++[.ref u5]) l7=some (.lst<|(us++[u5]).map V.ref):=by rw[jc,yd];rfl
    generalize upd H9 l7 (.lst<|us.map V.ref++[.ref u5])=HV at t3 g3;have I0:=Same.trans Xc t3;have I8:=Same.trans EI I0;have OH:=Same.trans SV I0;obtain⟨z',r',en,nz⟩:=DK y ym;refine aO.mk _ u1 u2 l7 rs DB nn DH S1 S2 _ _ H0 rfl (L1.same I8) (L2.same I8) D1 D2 g3 ?_ (hd.snoc pl pn _) (by rw[yg];show _<held.length+1+d;lia) ((EG y ym).keep λb o _ e=>OH _ _ e) #[z',r',OH _ _ en,nz] λH' s'=>vv #[_,_,rfl,Same.trans s7<|Same.trans I0 s'];rw[yd];exact JL (KeyAt.mono' KA I8) (Same.trans t2 t3 _ _ g1)
   ·rintro σ H7 ⟨v8,v10,rfl,s7⟩;exact hB _ _ _ s7
   rintro v8 v10 H7 s7;exact q _ (Same.trans Hx s7)
def By (K:C9):Sp:=λvs H Q _=>E2 λ(a:Addr) (sc:List Int)=>A3 (vs=[.ref a]) (jj K H a<|sc.map V.int) (∀R u1 u2 rs nn DB DH H',Same H H'->H' R=some (.tup [.ref u1,.ref u2])->uU H' u1 rs nn->uU H' u2 DB DH->UJ rs nn->UJ DB DH->(sc.getD 0 0 % 5=0->M8 rs nn DB DH)->Q (.ref R) H')
theorem fz (T:Txt K mg t):j7 P w K mg base 3 "_law_two" [TD] (By K):=by
 refine T.f7.ok [TD,"_law_way_on",LT,FM] ?_;rintro _ H Q E ⟨a,sc,rfl,ha,q⟩;refine#[rfl,λDF A outer s hr=>#[_,(jf (jt 1<|jq (zX T)<|ja (pv 0)<|ja jg jb)<|jf (j8 (jF uZ (jB Jy (pv 1) jg) jg) (jk<|jE<|jL<|ja (jq (bP T)<|ja (jq (zX T)<|ja (pv 0)<|ja jg jb) jb)<|ja (jq (bP T)<|ja (jq (zX T)<|ja (pv 0)<|ja jg jb) jb) jb) jP)<|jf (jt 2<|jq (bQ T)<|ja (jq (zX T)<|ja (pv 0)<|ja jg jb)<|ja (jq (zX T)<|ja (pv 0)<|ja jg jb) jb)<|jf (j8 (jF uZ (jB Jy (pv 1) jg) jg) (jk<|jE<|jL<|ja (pv 2)<|ja (jq (bQ T)<|ja (jq (zX T)<|ja (pv 0)<|ja jg jb)<|ja (jq (zX T)<|ja (pv 0)<|ja jg jb) jb) jb) jP)<|jf (jt 3<|jq (MN T)<|ja (pv 2)<|ja (jq (zX T)<|ja (pv 0)<|ja jg jb) jb)<|jf (j8 (jF Ge (jB Jy (pv 1) jg) jg) (jk<|jt 3<|jq (MM T)<|ja (pv 3)<|ja (jq (zX T)<|ja (pv 0)<|ja jg jb) jb) jP)<|jk<|jE<|jL<|ja (pv 2)<|ja (pv 3) jb),?_]];have p5:(0:Int)<5:=by decide
 refine#[a,sc,0,rfl,ha,JO ?_];generalize sc.getD 0 0=c at q;refine#[p5,rfl,V2 (λz=>#[a,sc,1,rfl,ha,_,rfl,λu1 rs nn H1 s1 L1 G1=>#[a,sc,2,rfl,Same.seq s1 ha,_,rfl,λu2 DB DH H2 s2 L2 G2=>#[JE,λR hR=>?_]]]) λ_=>JO ?_]
 ·have t1:=jh (o:=.tup [.ref u1,.ref u2]) (Same.refl H2) hR;exact q R u1 u2 rs nn DB DH _ (Same.trans s1<|Same.trans s2 t1) jc ((L1.same s2).same t1) (L2.same t1) G1 G2 λe=>by have:=V.int.inj z;lia
 refine#[a,sc,1,rfl,ha,a,sc,2,rfl,ha,_,_,rfl,λu1 rs nn H1 s1 L1 G1=>JO ?_];have EF:=Same.seq s1 ha;refine#[p5,rfl,V2 (λz=>#[a,sc,3,rfl,EF,a,sc,4,rfl,EF,_,_,rfl,λu2 DB DH H2 s2 L2 G2=>#[JE,λR hR=>?_]]) λ_=>JO ?_]
 ·have t1:=jh (o:=.tup [.ref u1,.ref u2]) (Same.refl H2) hR;exact q R u1 u2 rs nn DB DH _ (Same.trans s1<|Same.trans s2 t1) jc ((L1.same s2).same t1) (L2.same t1) G1 G2 λe=>by have:=V.int.inj z;lia
 refine ZT (λ(u2) (DB) (DH)=>[oR a,oI c,oR u1,oR u2]) (λu2 DB DH H'=>A3 _ _<|M8 rs nn DB DH) (λB hB=>#[a,sc,5,rfl,EF,u1,_,rs,nn,rfl,L1,G1,λu' DB DH H' p r s' LN I=>hB u' DB DH H' #[s',LN,p,r,I]]) ?_;rintro u2 HA HB H2 ⟨s2,L2,Xd⟩;have G2:=Xd.good G1;refine ZT (λ(u2) (DB) (DH)=>[oR a,oI c,oR u1,oR u2]) (λu2 DB DH H'=>A4 _ _ _<|c % 5=0->M8 rs nn DB DH) (λB hB=>#[p5,V2 (λz=>#[a,sc,6,rfl,Same.seq s2 EF,H1,u2,_,HA,HB,rfl,s2,L2,G2,λu' DB DH H' s' L G=>hB u' DB DH H' #[s',L,G,λe=>?_]]) λ_=>hB u2 HA HB H2 #[s2,L2.at_,G2,λ_=>Xd]]) ?_
 ·lia
 rintro u3 rs3 nn3 H3 ⟨s3,L3,G3,al⟩;refine#[JE,λR hR=>?_];have t1:=jh (o:=.tup [.ref u1,.ref u3]) (Same.refl H3) hR;have Xe:=Same.trans s3 t1;exact q R u1 u3 rs nn rs3 nn3 _ (Same.trans s1 Xe) jc (L1.same Xe) (L3.same t1) G1 G3 al
theorem xk:("a":Str)∈ZJ:=yu ..
theorem xn:("x":Str)∈ZJ:=yl _ (yu ..)
theorem sB (hh:hd∈ZJ) {nn:Pi} (G:UJ rs nn) {ks:List JM} (sr:uC (UI hd nn) ks):Sd rs nn (UZ (UH hd rs) (UI hd nn) ks):=#[G,Ba hh G sr,aJ (g9 hh G) sr,aK (g9 hh G) sr]
theorem ib {H:Hp}{o1 o2:Addr}{F5 Lv:List Jx}{HR HS:List JG} (D1:Dw H C o1 F5 HR) (D2:Dw H C o2 Lv HS) (q:∀FT Ff u H',Same H H'->uC HR FT->uC HS Ff->Jg (UZ F5 HR FT) (UZ Lv HS Ff) H H' [] u->Q (.ref u) H'):qU C [.ref o1,.ref o2] H Q E:=#[o1,o2,_,_,_,_,rfl,D1,D2,q]
seal qU
def fI (K:C9):Sp:=λvs H Q _=>E2 λ(a:Addr) (sc:List Int)=>A4 (vs=[.ref a]) (jj K H a<|sc.map V.int) (sc.length<=63) (∀H',Q (.bl true) H')
theorem law_fn (T:Txt K mg t):∃fd:FuncData,(∀(s:Shared) (u:Value),BindsTo s fd #[[u],[]] [(TD,u)])/\∀base:Heap,K.In base->base.Ns mainGlobals mg->U1 P w K mg base (XC P w) 17 t.dN fd [TD] (fI K):=by
 obtain⟨fd,F,b⟩:=T.AR;refine#[fd,b,λbase _ _=>?_];have DR:=ah (P:=P) (w:=w) (base:=base) T 6;refine F.okY (N:=[TD,LT,FM,"_law_first_here","_law_second","_law_kept",WP]) ?_;rintro _ H Q E ⟨a,sc,rfl,ha,hsc,q⟩;refine#[rfl,λDF A outer s hr=>#[_,(jf (zc (jq (fz T)<|ja (pv 0) jb)<|j5<|jr (jl 1)<|jr (jl 2) jV) (jf (jt 3<|jq (mh T)<|ja (pv 1)<|ja Jt jb) (jf (jt 4<|jq (mh T)<|ja (pv 2)<|ja Jt jb) (jf (jt 5<|jB uL (jq (bN T)<|ja (pv 3) jb)<|jq (bN T)<|ja (pv 4) jb) (jf (jt 6<|jq (qt T)<|ja (pv 3)<|ja (pv 4) jb) (jf (j8 (uI (jF (lT hr.units) (pv 5)<|jB uL (jq (bN T)<|ja (pv 3) jb)<|jq (bN T)<|ja (pv 4) jb)<|uN<|jF (lT hr.units) (jq (qt T)<|ja (pv 3)<|ja (pv 4) jb)<|pv 6).pt (jk<|jE vj) jP) (jf (j8 (zY (ux (jw ug (by rfl) T.Jn Jl (ja (pv 6) (ja (uH (v:=.ty "tuple") (by rfl) T.UX UU rfl) jb))))<|zY (jF (lV hr.units) (pv 6)<|jL jb)<|zZ<|jF uZ (jo jz (pv 6) jg) Jt).pt (jk<|jE<|jq (mi T)<|ja (pv 6)<|ja (pv 1)<|ja (pv 2) jb) jP)<|jk<|jE<|za (vD Ge (jB Jy (jq (zX T)<|ja (pv 0)<|ja jg jb) jg) jg)<|gH<|jq DR<|ja (pv 6)<|ja (pv 1)<|ja (pv 2)<|ja (jY jb) jb))))))),?_]];refine Mh (λ(u1 u2) (d e)=>[oR a,oR u1,oR u2,none,none,none,none]) (λu1 u2 d e H'=>A6 (Same H H') (uU H' u1 d.1 d.2) (uU H' u2 e.1 e.2) (UJ d.1 d.2) (UJ e.1 e.2)<|sc.getD 0 0 % 5=0->M8 d.1 d.2 e.1 e.2) (λB hB=>#[a,sc,rfl,ha,λR u1 u2 rs nn DB DH H' s' eR L1 L2 G1 G2 al=>#[_,ju.of eR,rfl,hB u1 u2 (rs,nn) (DB,DH) H' #[s',L1,L2,G1,G2,al]]]) ?_;rintro u1 u2 ⟨rs,nn⟩ ⟨HA,HB⟩ H2 ⟨s2,L1,L2,G1,G2,al⟩;have L1:uU H2 u1 rs nn:=L1;have L2:uU H2 u2 HA HB:=L2;have G1:UJ rs nn:=G1;have G2:UJ HA HB:=G2;have al:sc.getD 0 0 % 5=0->M8 rs nn HA HB:=al;refine#[u1,rs,nn,"a",rfl,L1,G1,xk,λo1 H3 s3 D1=>JO ?_];refine#[u2,HA,HB,"x",rfl,L2.same s3,G2,xn,λo2 H4 s4 D2=>JO ?_];have D1:=D1.same s4;have Ex:=Same.trans s3 s4;refine sC (λ(Kp c1 e1 c2 e2)=>[oR a,oR u1,oR u2,oR o1,oR o2,oR Kp,none]) (λKp c1 e1 c2 e2 H'=>A4 _ (H' Kp=some (.lst [.ref c1,.ref e1,.ref c2,.ref e2])) (Ze H' c1 e1 _ _)<|Ze H' c2 e2 _ _) (λB hB=>#[o1,_,_,rfl,D1,λK1 c1 e1 H5 s5 h5 d5=>#[o2,_,_,rfl,D2.same s5,λK2 c2 e2 H6 s6 h6 d6=>#[K1,K2,_,_,rfl,rfl,s6 _ _ h5,h6,by show 4<=sizeLine;decide,λKp hK=>hB Kp c1 e1 c2 e2 _ #[jh (Same.trans s5 s6) hK,jc,(d5.same s6).same<|jh (Same.refl H6) hK,d6.same<|jh (Same.refl H6) hK]]]]) ?_;rintro Kp c1 e1 c2 e2 H5 ⟨s5,eK,P1,P2⟩;have D1:=D1.same s5;have D2:=D2.same s5;refine ib D1 D2 λFT Ff u H6 s6 Lw Lx an=>JO ?_;have E1:=sB xk G1 Lw;have E2:=sB xn G2 Lx;generalize eS1:UZ _ _ FT=S1 at an E1;generalize eS2:UZ _ _ Ff=S2 at an E2;have V0:Hd S1.hs.length []:=#[yZ,λx h=>nomatch h];have h5:S1.hs.length<0+6:=by rw[E1.k.hs];have:=G1.few;lia
 refine UK [oR a,oR u1,oR u2,oR o1,oR o2,oR Kp,oR u] (λH'=>Same H6 H') (λB hB=>#[o1,_,_,rfl,D1.same s6,λK1 c3 e3 H7 s7 h7 d7=>#[o2,_,_,rfl,(D2.same s6).same s7,λK2 c4 e4 H8 s8 h8 d8=>#[K1,K2,_,_,rfl,rfl,s8 _ _ h7,h8,by show 4<=sizeLine;decide,λKq hK=>?_]]]) ?_
 ·have s9:=jh (o:=.lst<|[.ref c3,.ref e3]++[.ref c4,.ref e4]) (Same.refl H8) hK;have e9:upd H8 Kq (.lst<|[.ref c3,.ref e3]++[.ref c4,.ref e4]) Kq=some (.lst [.ref c3,.ref e3,.ref c4,.ref e4]):=jc;generalize upd H8 Kq (.lst<|[.ref c3,.ref e3]++[.ref c4,.ref e4])=H9 at s9 e9;have IL:=Same.trans s7<|Same.trans s8 s9;have Ib:=Same.trans s6 IL;obtain⟨y1,y2⟩:=(P1.same Ib).deep<|(d7.same s8).same s9;obtain⟨y3,y4⟩:=(P2.same Ib).deep<|d8.same s9;refine#[5,by decide,#[Kp,Kq,_,_,rfl,rfl,.inr #[Ib _ _ eK,e9],.cons y1<|.cons y2<|.cons y3<|.cons y4 .nil],vv (ib (D1.same Ib) (D2.same Ib) λks1' ks2' u' HV Ey SW SX EG=>?_)];rw[c5 SW Lw,c5 SX Lx,eS1,eS2] at EG;have OI:=Same.trans IL Ey;exact#[18,by decide,Jg.deep E1.ok E2.ok 6 V0 h5 EG (an.keep λb o _ e=>OI _ _ e),vv<|hB _ OI]
 rintro H7 s7;have Ha:=Same.trans s6 s7;have IF:=Same.trans Ex<|Same.trans s5 Ha;have Hy:Jg S1 S2 H5 H7 _ u:=an.keep λb o _ e=>s7 _ _ e;have L1:=L1.same IF;have L2:=L2.same IF;rcases Hy.head with sm|⟨z,r_,eu,zn⟩
 ·obtain⟨x,y,ps,ns,eu,ex,ey,R⟩:=Hy.right sm;refine UK [] (λ_=>False) (λB hB=>#[_,_,_,_,true,rfl,.tup eu,.ty _,by kernel_rfl,Jm #[vR,λe he=>?_]]) (λ_ h=>h.elim);have t1:=jh (o:=.tup []) (Same.refl H7) he;exact#[u,e,_,rfl,rfl,t1 _ _ eu,jc,Jm #[_,_,ju.of<|t1 _ _ eu,rfl,rfl,Gb rfl #[u,u1,u2,rs,nn,HA,HB,ps,ns,rfl,#[x,y,t1 _ _ eu,t1 _ _ ex,t1 _ _ ey],L1.same t1,L2.same t1,#[G1,G2],i9 E1.k E2.k R,λH' _=>q H']]]
 ·refine UK [oR a,oR u1,oR u2,oR o1,oR o2,oR Kp,oR u] (λH'=>Same H7 H') (λB hB=>#[_,_,_,_,true,rfl,.tup eu,.ty _,by kernel_rfl,Jm #[vR,λe he=>?_]]) ?_
  ·have t1:=jh (o:=.tup []) (Same.refl H7) he;exact#[u,e,_,rfl,rfl,t1 _ _ eu,jc,Jm #[_,_,ju.of<|t1 _ _ eu,jX rfl,rfl,Zv (λq=>zn<|V.str.inj q)<|hB _ t1]]
  rintro H8 s8;have s28:=Same.trans IF s8;have pos:(0)<sc.getD 0 0 % 5:=by
   rcases Int.lt_or_le 0 _ with h|h
   ·exact h
   ·obtain⟨p,r,I⟩:=al gt;exact (Vb #[z,r_,eu,zn] (Hy.iso E1.ok E2.ok E1.wf E2.wf p r (xq E1.k E2.k I) λx h=>nomatch h)).elim
  refine#[a,sc,0,rfl,Same.seq (Same.trans s2 s28) ha,(by show (0)<5;decide),_,rfl,Gb pos #[vR,λl hl=>?_]];have t1:=jh (o:=.lst []) (Same.refl H8) hl;have Pu:=Same.trans s8 t1;exact aO.mk u u1 u2 l rs HA nn HB S1 S2 [] _ H5 rfl (L1.same Pu) (L2.same Pu) E1 E2 jc #[rfl,λi b k h=>nomatch h] V0 h5 (Hy.keep λb o _ e=>Pu _ _ e) #[z,r_,Pu _ _ eu,zn] λH' _=>q H'
theorem walk {l:abl}{q:Dt}{loose:Dm}{XP:(Str->Option Value)->Heap->Prop}{YP:World->Heap->Prop}{d:DefRec}{K:Params->Frag} (hn:l.most=some 63) (LR:d.params.defaults=[])
  (hY:∀(w:World) (h:Heap),YP w h->(K w.params).In h)
  (F:∀(w:World) (mg:Dd) (fa:Addr) (h:Heap),(K w.params).In h->h.Ns mainGlobals mg->mg d.name=some (.ref fa) ->
   ∃fd:FuncData,(∀(s:Shared) (u:Value),BindsTo s fd #[[u],[]] [(TD,u)])/\∀base:Heap,(K w.params).In base->base.Ns mainGlobals mg->U1 l.prog w (K w.params) mg base (XC l.prog w) 17 fa fd [TD] (fI<|K w.params)) :
  abB q loose XP YP l.row.toRowW d [] (λf vs=>abf f vs) :=
 L2.walk_of (n:=63) (k:=17) (x:=TD) (CX:=λw=>XC l.prog w) (sp:=λw=>fI<|K w.params) hn ac LR #[λ_=>rfl,by decide,by decide] hY F (λ_ _ a ns hl _ hS=>#[a,ns,rfl,hS,hl,λ_=>rfl]) λw H s e s' z=>by
  obtain⟨_,_,_,_,_,_,_,_,_,q⟩:=z;exact q
end K52
end
open PySem PySem.W PyProof.Rows
set_option maxRecDepth 100000 in
set_option maxHeartbeats 0 in
theorem PySem.Challenge.cw_copperbook_k52_whole_alike_or_parted_holds : PySem.Challenge.rw_copperbook_k52_whole_alike_or_parted.Holds := by
 w_on;o_law;k_head;(case hw=>w_witness2)
 k_fill
 refine K52.walk (l:=PySem.Challenge.rw_copperbook_k52_whole_alike_or_parted) rfl rfl (fun w h Y=>kIn_of Y) ?F
 case F =>
  intro w mg fa h KX G hmg
  have TT:∃t:K52.Adr,K52.Txt (L2.KOf KX) mg t:=by
   dsimp only [L2.KOf]
   open L2 K52 in refine' ⟨⟨_,_,_,_,_,_,_,_,_,_,_,_,_,_,_,_,_,_,_,_,_,_,_,_,_,_,_,_,_,_,_,_,_,_,_,_,_,_,_,_,_,_,_,_,_,_,_,_,_,_,_,_,_,_,_⟩,⟨mg_of KX G ?_,mg_of KX G ?_,⟨?_,?_,?_,?_⟩,NT ?_,NT ?_,NT ?_,NT ?_,⟨?_,?_,?_,?_⟩,NT ?_,NT ?_,NT ?_,⟨⟨?_,?_,?_,?_⟩,JN ?_ ?_ ?_⟩,⟨mg_of KX G ?_,JN ?_ ?_ ?_⟩,⟨mg_of KX G ?_,JN ?_ ?_ ?_⟩,⟨mg_of KX G ?_,JN ?_ ?_ ?_⟩,⟨mg_of KX G ?_,JN ?_ ?_ ?_⟩,⟨mg_of KX G ?_,JN ?_ ?_ ?_⟩,⟨mg_of KX G ?_,JN ?_ ?_ ?_⟩,⟨mg_of KX G ?_,JN ?_ ?_ ?_⟩,⟨mg_of KX G ?_,JN ?_ ?_ ?_⟩,⟨mg_of KX G ?_,JN ?_ ?_ ?_⟩,⟨mg_of KX G ?_,JN ?_ ?_ ?_⟩,⟨mg_of KX G ?_,JN ?_ ?_ ?_⟩,⟨mg_of KX G ?_,JN ?_ ?_ ?_⟩,⟨mg_of KX G ?_,JN ?_ ?_ ?_⟩,⟨mg_of KX G ?_,JN ?_ ?_ ?_⟩,⟨mg_of KX G ?_,JN ?_ ?_ ?_⟩,⟨mg_of KX G ?_,JN ?_ ?_ ?_⟩,⟨mg_of KX G ?_,JN ?_ ?_ ?_⟩,⟨mg_of KX G ?_,JN ?_ ?_ ?_⟩,⟨mg_of KX G ?_,JN ?_ ?_ ?_⟩,⟨mg_of KX G ?_,JN ?_ ?_ ?_⟩,⟨mg_of KX G ?_,JN ?_ ?_ ?_⟩,⟨mg_of KX G ?_,JN ?_ ?_ ?_⟩,⟨mg_of KX G ?_,JN ?_ ?_ ?_⟩,⟨⟨?_,?_,?_,?_⟩,JN ?_ ?_ ?_⟩,⟨⟨?_,?_,?_⟩,JN ?_ ?_ ?_⟩,⟨⟨?_,?_,?_⟩,JN ?_ ?_ ?_⟩,⟨⟨?_,?_,?_⟩,JN ?_ ?_ ?_⟩,⟨⟨?_,?_,?_⟩,JN ?_ ?_ ?_⟩,⟨mg_of KX G ?_,JN ?_ ?_ ?_⟩,⟨mg_of KX G ?_,JN ?_ ?_ ?_⟩,⟨mg_of KX G ?_,JN ?_ ?_ ?_⟩,⟨mg_of KX G ?_,JN ?_ ?_ ?_⟩,⟨mg_of KX G ?_,JN ?_ ?_ ?_⟩,⟨mg_of KX G ?_,JN ?_ ?_ ?_⟩,⟨mg_of KX G ?_,JN ?_ ?_ ?_⟩,⟨mg_of KX G ?_,JN ?_ ?_ ?_⟩,⟨mg_of KX G ?_,JN ?_ ?_ ?_⟩,⟨mg_of KX G ?_,JN ?_ ?_ ?_⟩,⟨mg_of KX G ?_,JN ?_ ?_ ?_⟩,⟨mg_of KX G ?_,JN ?_ ?_ ?_⟩,⟨mg_of KX G ?_,JN ?_ ?_ ?_⟩,⟨mg_of KX G ?_,JN ?_ ?_ ?_⟩,⟨mg_of KX G ?_,JN ?_ ?_ ?_⟩,⟨mg_of KX G ?_,JN ?_ ?_ ?_⟩,mg_of KX G ?_,⟨_,cw (dV:=.none) ?_ ?_ ?_,fun s u=>.of_eq rfl⟩,mg_none_of KX G ?_,mg_none_of KX G ?_,mg_none_of KX G ?_,mg_none_of KX G ?_,mg_none_of KX G ?_,mg_none_of KX G ?_,mg_none_of KX G ?_,mg_none_of KX G ?_,mg_none_of KX G ?_,mg_none_of KX G ?_,mg_none_of KX G ?_,mg_none_of KX G ?_,mg_none_of KX G ?_,mg_none_of KX G ?_,mg_none_of KX G ?_,mg_of KX G ?_,mg_of KX G ?_,mg_of KX G ?_,mg_of KX G ?_,mg_of KX G ?_,mg_of KX G ?_,mg_of KX G ?_,CU ?_<|.cons ⟨_,rfl⟩<|.cons ⟨_,rfl⟩ .nil⟩⟩
   all_goals
    try dsimp only
    first|k_is|k_exc|exact⟨_,rfl⟩|exact rfl|kernel_rfl|skip
  obtain⟨t,T⟩:=TT
  have e:=hmg.symm.trans T.AW
  cases e
  exact K52.law_fn T
