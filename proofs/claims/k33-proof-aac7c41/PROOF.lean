import PyProof.Rows.All
import Wide.All
import OpenK.AllK
import Wide.FinOn
import PyProof.Seq
import PyProof.RangeIter
import PyProof.TupleIter
import PyProof.StrLoop
import PyProof.WalkInts
import PyProof.StationsW
import PyProof.ZipIter
import PyProof.ListNew
import Lean
import PyProof.EqAt
import PyProof.EqKinds
import PyProof.TupleCall
import PyProof.NeKinds
import KE.IntTextLaws
import KE.KIntText
import PyProof.Draws
import PyProof.EnumMake
import PyProof.EnumFor
import PyProof.NsDelKeeps
import PyProof.Rows.StrFit
import PyProof.Rows.SortShellK
import PyProof.DictKinds
import KE.KDictList
import PyProof.DictWalks
import KE.KEqDict
import PyProof.RaisesDict
import PySem.SetOps
import PyProof.FactsAll.set_1
import PyProof.FactsAll.set_2
import PyProof.LongRange
import PyProof.MaxThree
import KE.KDictOf
import PyProof.AttrMissHeap
import PySem.Challenge.RW_copperbook_k33_whole_all_breaks
set_option Elab.async false
set_option linter.all false
set_option maxRecDepth 100000
section
local macro_rules|`(#[$x,*])=>`(⟨$x,*⟩)
theorem yb:type_of% @List.length_map:=@List.length_map
theorem yc:type_of% @List.getElem?_eq_getElem:=@List.getElem?_eq_getElem
theorem yd:type_of% @PySem.Heap.get?_push_of_some:=@PySem.Heap.get?_push_of_some
theorem ye:type_of% @List.length_append:=@List.length_append
theorem yf:type_of% @List.mem_map:=@List.mem_map
theorem yg:type_of% @Nat.le_refl:=@Nat.le_refl
theorem yi:type_of% @List.getElem?_eq_some_iff:=@List.getElem?_eq_some_iff
theorem yj:type_of% @List.getElem?_map:=@List.getElem?_map
theorem yk:type_of% @List.size_toArray:=@List.size_toArray
theorem yl:type_of% @Option.map_eq_some_iff:=@Option.map_eq_some_iff
theorem ym:type_of% @List.mem_append:=@List.mem_append
theorem yn:type_of% @List.map_append:=@List.map_append
theorem yo:type_of% @Bool.false_ne_true:=@Bool.false_ne_true
theorem yp:type_of% @Nat.le_trans:=@Nat.le_trans
theorem yq:type_of% @PySem.Heap.lt_size:=@PySem.Heap.lt_size
theorem yr:type_of% @Array.length_toList:=@Array.length_toList
theorem yt:type_of% @List.append_assoc:=@List.append_assoc
theorem yu:type_of% @List.getD_eq_getElem?_getD:=@List.getD_eq_getElem?_getD
theorem yv:type_of% @List.mem_append_left:=@List.mem_append_left
theorem yx:type_of% @List.mem_singleton:=@List.mem_singleton
theorem yy:type_of% @List.mem_append_right:=@List.mem_append_right
theorem yz:type_of% @PySem.Heap.get?_push_size:=@PySem.Heap.get?_push_size
theorem yA:type_of% @List.mem_cons_of_mem:=@List.mem_cons_of_mem
theorem yB:type_of% @List.append_nil:=@List.append_nil
theorem yC:type_of% @Nat.lt_or_ge:=@Nat.lt_or_ge
theorem yD:type_of% @List.mem_cons_self:=@List.mem_cons_self
theorem yE:type_of% @Nat.ne_of_lt:=@Nat.ne_of_lt
theorem yF:type_of% @Nat.lt_of_lt_of_le:=@Nat.lt_of_lt_of_le
theorem yG:type_of% @List.take_length:=@List.take_length
theorem yH:type_of% @List.map_cons:=@List.map_cons
theorem yI:type_of% @Array.getElem?_toList:=@Array.getElem?_toList
theorem yJ:type_of% @List.pairwise_append:=@List.pairwise_append
theorem yK:type_of% @List.getElem?_append_left:=@List.getElem?_append_left
theorem yL:type_of% @Nat.lt_of_le_of_lt:=@Nat.lt_of_le_of_lt
theorem yM:type_of% @List.mem_cons:=@List.mem_cons
theorem yN:type_of% @PySem.Heap.get?_update_other:=@PySem.Heap.get?_update_other
theorem yO:type_of% @List.length_take:=@List.length_take
theorem yP:type_of% @Ne.symm:=@Ne.symm
theorem yQ:type_of% @Nat.mul_le_mul:=@Nat.mul_le_mul
theorem yR:type_of% @Bool.eq_iff_iff:=@Bool.eq_iff_iff
theorem yS:type_of% @List.getElem?_append_right:=@List.getElem?_append_right
theorem yT:type_of% @List.mem_of_getElem?:=@List.mem_of_getElem?
theorem yU:type_of% @List.length_cons:=@List.length_cons
theorem yV:type_of% @Nat.zero_le:=@Nat.zero_le
theorem yW:type_of% @List.getElem_toArray:=@List.getElem_toArray
theorem yX:type_of% @List.length_filter_le:=@List.length_filter_le
theorem yY:type_of% @List.getElem_mem:=@List.getElem_mem
theorem yZ:type_of% @List.mem_filter:=@List.mem_filter
theorem y7:type_of% @List.take_succ:=@List.take_succ
theorem y9:type_of% @List.take_append_drop:=@List.take_append_drop
theorem Qa:type_of% @List.mem_range:=@List.mem_range
theorem Qb:type_of% @Bool.false_eq_true:=@Bool.false_eq_true
theorem Qc:type_of% @List.drop_eq_getElem_cons:=@List.drop_eq_getElem_cons
theorem Qd:type_of% @List.getElem_map:=@List.getElem_map
theorem Qe:type_of% @List.range_succ:=@List.range_succ
theorem Qf:type_of% @List.filter_cons_of_neg:=@List.filter_cons_of_neg
theorem Qg:type_of% @List.filter_cons_of_pos:=@List.filter_cons_of_pos
theorem Qh:type_of% @Nat.le_of_ble_eq_true:=@Nat.le_of_ble_eq_true
theorem Qi:type_of% @Array.getElem?_eq_getElem:=@Array.getElem?_eq_getElem
theorem Qj:type_of% @List.getElem_of_mem:=@List.getElem_of_mem
theorem Qk:type_of% @Array.getElem?_eq_some_iff:=@Array.getElem?_eq_some_iff
theorem Ql:type_of% @Nat.succ_pos:=@Nat.succ_pos
theorem Qm:type_of% @List.flatMap_append:=@List.flatMap_append
theorem Qo:type_of% @List.pairwise_map:=@List.pairwise_map
theorem Qp:type_of% @Array.toList_append:=@Array.toList_append
theorem Qq:type_of% @List.perm_ext_iff_of_nodup:=@List.perm_ext_iff_of_nodup
theorem Qr:type_of% @List.map_map:=@List.map_map
theorem Qs:type_of% @Array.toList_extract:=@Array.toList_extract
theorem Qt:type_of% @PySem.Heap.get?_update_self:=@PySem.Heap.get?_update_self
theorem Qu:type_of% @List.nodup_cons:=@List.nodup_cons
theorem Qv:type_of% @List.filter_append:=@List.filter_append
theorem Qw:type_of% @List.length_drop:=@List.length_drop
theorem Qx:type_of% @List.all_eq_true:=@List.all_eq_true
theorem Qz:type_of% @Bool.and_eq_true:=@Bool.and_eq_true
theorem QA:type_of% @List.flatMap_nil:=@List.flatMap_nil
theorem QB:type_of% @List.map_congr_left:=@List.map_congr_left
theorem QC:type_of% @List.nodup_append:=@List.nodup_append
theorem QD:type_of% @List.length_singleton:=@List.length_singleton
theorem QE:type_of% @List.pairwise_singleton:=@List.pairwise_singleton
theorem QF:type_of% @List.mem_of_mem_take:=@List.mem_of_mem_take
theorem QG:type_of% @List.not_mem_nil:=@List.not_mem_nil
theorem QH:type_of% @Nat.mul_assoc:=@Nat.mul_assoc
theorem QI:type_of% @Bool.true_and:=@Bool.true_and
theorem QJ:type_of% @Bool.false_and:=@Bool.false_and
theorem QK:type_of% @List.take_of_length_le:=@List.take_of_length_le
theorem QL:type_of% @List.flatMap_cons:=@List.flatMap_cons
theorem QM:type_of% @List.pairwise_iff_getElem:=@List.pairwise_iff_getElem
theorem QN:type_of% @Nat.pow_succ:=@Nat.pow_succ
theorem QO:type_of% @Nat.mod_eq_of_lt:=@Nat.mod_eq_of_lt
theorem QP:type_of% @Nat.lt_irrefl:=@Nat.lt_irrefl
theorem QQ:type_of% @List.length_range:=@List.length_range
theorem QR:type_of% @Nat.min_eq_left:=@Nat.min_eq_left
theorem QS:type_of% @Nat.not_lt_zero:=@Nat.not_lt_zero
theorem QT:type_of% @List.drop_eq_nil_of_le:=@List.drop_eq_nil_of_le
theorem QU:type_of% @List.mem_reverse:=@List.mem_reverse
theorem QW:type_of% @List.perm_append_comm:=@List.perm_append_comm
theorem QX:type_of% @Int.emod_lt_of_pos:=@Int.emod_lt_of_pos
theorem QY:type_of% @List.getElem?_toArray:=@List.getElem?_toArray
theorem QZ:type_of% @Array.getElem_toList:=@Array.getElem_toList
theorem Q0:type_of% @Int.toNat_natCast:=@Int.toNat_natCast
theorem Q1:type_of% @Bool.and_false:=@Bool.and_false
theorem Q2:type_of% @List.any_eq_true:=@List.any_eq_true
theorem Q3:type_of% @Nat.succ_le_succ:=@Nat.succ_le_succ
theorem Q4:type_of% @Int.emod_nonneg:=@Int.emod_nonneg
theorem Q5:type_of% @List.filter_nil:=@List.filter_nil
theorem Q6:type_of% @List.ext_getElem?:=@List.ext_getElem?
theorem Q7:type_of% @Nat.le_of_lt_succ:=@Nat.le_of_lt_succ
theorem Q8:type_of% @List.mem_iff_getElem:=@List.mem_iff_getElem
theorem Q9:type_of% @List.mem_of_mem_drop:=@List.mem_of_mem_drop
theorem We:type_of% @List.length_eraseIdx:=@List.length_eraseIdx
theorem Wf:type_of% @List.nodup_nil:=@List.nodup_nil
theorem Wg:type_of% @Nat.ne_of_gt:=@Nat.ne_of_gt
theorem Wh:type_of% @List.map_nil:=@List.map_nil
theorem Wj:type_of% @Nat.min_eq_right:=@Nat.min_eq_right
theorem Wl:type_of% @Nat.zero_add:=@Nat.zero_add
theorem Wm:type_of% @Nat.mul_comm:=@Nat.mul_comm
theorem Wn:type_of% @List.mem_flatMap:=@List.mem_flatMap
theorem Wo:type_of% @List.filter_eq_self:=@List.filter_eq_self
theorem Wp:type_of% @Bool.not_true:=@Bool.not_true
theorem Wq:type_of% @List.find?_cons:=@List.find?_cons
open PySem.W (Frag InstAt KdlSrc Looks callWith_K callWith_K0 cellsFrom_some codeIn emptyDict findIn fnOf handedIn hasDictIn hideAll hideAll_get hideAll_none instObj isFn kIn_of kdl_extend keepIn kia_one kitOne kitx_dict kitx_list lookIn makesIn methodCall_KW methodObj mroIn of_hideAll plainGet plainGet_of plainOver takerIn typeIn)
section
open PySem PySem.Spec PyProof.Rows
abbrev AL:=Value->Shared->Prop
abbrev AM:=Unit->Shared->Prop
abbrev AN:=Bool->Shared->Prop
abbrev AO:=Option Value->Shared->Prop
abbrev AQ:=PySem.W.Frag
abbrev AR:=List (Int×Int×Int)
abbrev AS:=List (Int×Int)
abbrev AT:=Str->Option Value
abbrev AU:=List (Addr×Obj)
abbrev AV:=Array Keyed
abbrev AW:=List Value
abbrev AX:=List Addr
abbrev AY:=List (Str×Addr)
abbrev AZ:=Array (Int×Value)
abbrev A0:=Array (Option Value)
abbrev A1:=List Str
abbrev A2:=Array Value
abbrev Ba:=List Expr
abbrev Bb:=Array (Option Nat)
abbrev Bc:=Option Addr
abbrev Be:=Program
abbrev Bf:=@PySem.wpAny_bind
abbrev Bg:=@PySem.wpAny_pure
end
/- These names keep the theorem's opening from writing out equations that only make the build larger: what is built must stay
   below 64 MiB. They say nothing and are used nowhere. -/
namespace PySem.W.Fast
def tw12848264374995187102:=0
def tw1942893845279358999:=0
def tw14801775843201320352:=0
def tw12130282401306781095:=0
def tw18405641307690457370:=0
def tw15789612724405052624:=0
def tw16412211161341762904:=0
def tw5539677214361473666:=0
def tw16284274357550916208:=0
def tw10039963875255646033:=0
def tw17709141781017715621:=0
def tw6306051527424635622:=0
def tw8352464235121708463:=0
def tw379080872978456560:=0
def tw7474237517552101348:=0
def tw16868905212569823534:=0
def tw6904935036660230275:=0
def tw5179072943215190959:=0
def tw8241930106180428960:=0
def tw11845439109088088163:=0
def tw13263460173891013642:=0
def tw6515447897014067566:=0
def tw2607736951186109176:=0
def tw14244930199074672324:=0
def tw11658803110527951571:=0
def tw7773490512025616996:=0
def tw12333989511816084196:=0
def tw15057023632029985650:=0
def tw17188083620468944345:=0
def tw4817218400883504655:=0
def tw14798935394807571459:=0
def tw14002954185245536985:=0
def tw5939779831306846047:=0
def tw2138568697652275808:=0
def tw8021412556183118153:=0
def tw11902376751037031075:=0
def tw17758009423327838106:=0
def tw9914186329433859059:=0
def tw15383534478433786913:=0
def tw18425850604328919301:=0
def tw2557493792972030110:=0
def tw2484460672767361281:=0
def tw5024174780066534471:=0
def tw12390037767456039989:=0
def tw16005079967992385441:=0
def tw14673663711742266380:=0
def tw10761730723288133678:=0
def tw361276188518850083:=0
def tw16023337180262870597:=0
def tw9221059137527052206:=0
def tw11131418983922870987:=0
def tw9212779671978877758:=0
def tw12252204558314490720:=0
def tw6273407861851816880:=0
def tw16464211968465061713:=0
def tw17394887210040988051:=0
def tw3968021532960413641:=0
def tw7663973368658786672:=0
def tw18372906707308887929:=0
def tw4752777347398730729:=0
def tw10547746838956720498:=0
def tw12648146224786659487:=0
def tw5103830014505076894:=0
def tw2419998126817598608:=0
def tw15917495866587040202:=0
def tw9706697629965458537:=0
def tw14185675987097971754:=0
def tw8867302160331455245:=0
def tw7232103756321658670:=0
def tw17619228442459024791:=0
def tw7939082199409007699:=0
def tw14460788345519908670:=0
def tw14131049717375457941:=0
def tw2877677592143232257:=0
def tw8190766730887989983:=0
def tw781118921110600955:=0
def tw5775192058562924911:=0
def tw15189755879133128386:=0
def tw9839431251675615575:=0
def tw4867311869885668292:=0
def tw16098590335122892981:=0
def tw17575411947216072487:=0
def tw16713136532676494049:=0
def tw12207112051688400592:=0
def tw7771641994655267208:=0
def tw11210718546519064665:=0
def tw4507196397304419452:=0
def tw6046509905196456659:=0
def tw2322366304948253017:=0
def tw1350706549204953666:=0
def tw4784665591181786787:=0
def tw8234482096750787817:=0
def tw12110724711205037859:=0
def tw10724578561654919472:=0
def tw11071413692710108674:=0
def tw13388819239538201663:=0
def tw13869042621196743959:=0
def tw15812959006614883298:=0
def tw14976623790393418856:=0
def tw807659854720809901:=0
def tw5435849496387818108:=0
def tw9123773388972345522:=0
def tw419221122485607431:=0
def tw3096461460941628257:=0
def tw8810127732406628321:=0
def tw15354644971118481006:=0
def tw8884847307992728864:=0
def tw11149124448226198056:=0
def tw14017530695692833586:=0
def tw3738255669255800881:=0
def tw3897847074766570582:=0
def tw5757653415967535468:=0
def tw16810603282648482236:=0
def tw14078658697617661923:=0
def tw319918625252894231:=0
def tw4571680473064690105:=0
def tw12664097886245904393:=0
def tw2555230805647936:=0
def tw14877048265665870326:=0
def tw6558632558114430962:=0
def tw13853592868218520956:=0
def tw1071506624427900243:=0
def tw17390052829249471391:=0
def tw1588566983016221542:=0
def tw3765587394251628432:=0
def tw14670402633541819600:=0
def tw2473789883502747106:=0
def tw675833755944022479:=0
def tw14096968176522306366:=0
def tw9424848376363848283:=0
def tw12486101820701631353:=0
def tw13943841781713341540:=0
def tw14154641247356949122:=0
def tw16652257300582472449:=0
def tw11551857360443606269:=0
def tw10728028180900940312:=0
def tw3809837079772329729:=0
def tw1946944130029844140:=0
def tw8284570213074013749:=0
def tw5895151384867969401:=0
def tw12451527816502418330:=0
def tw5424888202126643078:=0
def tw18359585520186561865:=0
def te11863197776498561987:=0
def tw14182473734461591734:=0
def tw10409320909850541894:=0
def tw9880222816248275762:=0
def tw2335172204666303520:=0
def tw6027584354206566129:=0
def tw8372500744502456100:=0
def tw8666062101535246077:=0
def tw15068100659775910211:=0
def tw2614750434799613879:=0
def tw7732727973354593603:=0
def tw13800198480460693394:=0
def tw2911320898304929071:=0
def tw14432289996160157890:=0
def tw14518121158527956684:=0
def tw14314472518651525455:=0
def tw5414503209306924703:=0
def tw1323464259675650731:=0
def tw15705202771871168712:=0
def tw1202052870281336684:=0
def tw16613288562997104477:=0
def tw15537715495364303100:=0
def tw17676171776457342795:=0
end PySem.W.Fast
namespace L2
open PySem
variable {h h':Heap}{D:AX}{v:Value}{A:Around}{it a o b e l:Addr}{ob oe:Obj}{us vs items:A2}{Q:AO}{i:Nat}
inductive zK (h:Heap) (D:AX):Value->Prop
 | nil:zK h D .none
 | cons {b:Addr} {ob:Obj} {us:A2} {c:Value}:b∈D->h.get? b=some ob->ob.data=.fields us->us[2]?=some c->zK h D c->zK h D (.ref b)
theorem zK.kept {D':AX} (n:zK h D v) (k:∀b∈D,∀o,h.get? b=some o->h'.get? b=some o) (d:∀b∈D,b∈D'):zK h' D' v:=by
 induction n with
 | nil=>exact .nil
 | cons q1 q2 q3 q4 _ ih=>exact .cons (d _ q1) (k _ q1 _ q2) q3 q4 ih
theorem zK.small (n:zK h D v):∃D',zK h D' v/\∀b∈D',∃(o:Obj) (us:A2),h.get? b=some o/\o.data=.fields us/\2<us.size:=by
 induction n with
 | nil=>exact#[[],.nil,λb hb=>absurd hb (by simp)]
 | @cons b ob us c q1 q2 q3 q4 _ ih =>
  obtain⟨D',m,l⟩:=ih;refine#[b::D',.cons (by simp) q2 q3 q4 (m.kept (λ_ _ _ e=>e) λd hd=>yA _ hd),λd hd=>?_];rcases yM.mp hd with rfl|hd
  ·exact#[ob,us,q2,q3,(Qk.mp q4).1]
  ·exact l d hd
def kW (A:Around) (h:Heap) (D:AX):Prop:=A.handled=none\/∃ea:Addr,A.handled=some (.ref ea)/\zK h D (.ref ea)
def z5 (A:Around) (h:Heap):Prop:=∃D,kW A h D
theorem kW.keptD (n:kW A h D) (k:∀b∈D,∀o,h.get? b=some o->h'.get? b=some o):kW A h' D:=by
 rcases n with z|⟨ea,h1,h2⟩
 ·exact .inl z
 ·exact .inr #[ea,h1,h2.kept k λ_ q=>q]
theorem z5.small (n:z5 A h):∃D,kW A h D/\∀b∈D,∃(o:Obj) (us:A2),h.get? b=some o/\o.data=.fields us/\2<us.size:=by
 obtain⟨D,n⟩:=n;rcases n with z|⟨ea,h1,h2⟩
 ·exact#[[],.inl z,λb hb=>absurd hb (by simp)]
 ·obtain⟨D',m,l⟩:=h2.small;exact#[D',.inr #[ea,h1,m],l]
theorem z5.but (n:z5 A h) (k:Heap.SameBut it h h') (ne:∃(o:Obj) (us:A2),h.get? it=some o/\o.data=.fields us/\us.size<=2):z5 A h':=by
 obtain⟨D,n,l⟩:=n.small;refine#[D,n.keptD λb hb o e=>(k.2 b λq=>?_).trans e];obtain⟨o1,us1,e1,e2,e3⟩:=l b hb;obtain⟨o2,Xl,f1,f2,f3⟩:=ne;rw[q,f1] at e1;cases e1;rw[f2] at e2;cases e2;omega
theorem K1:entryFor table "proto.unchain"=some Builtin.«proto.unchain»:=entryFor_of_tree (by kernel_rfl)
section
variable {prog:Be}{w:World}{A:Around}{E:AL}{s:Shared}
inductive Z9 (h:Heap):Addr->Addr->Prop
 | refl (a:Addr):Z9 h a a
 | step {a b o:Addr} {ob:Obj} {us:A2}:h.get? a=some ob->ob.data=.fields us->us[2]?=some (.ref b)->Z9 h b o->Z9 h a o
theorem Z9.snoc (p:Z9 h a o) (h1:h.get? o=some ob) (h2:ob.data=.fields us) (h3:us[2]?=some (.ref b)):Z9 h a b:=by
 induction p with
 | refl a=>exact .step h1 h2 h3 (.refl b)
 | step q1 q2 q3 _ ih=>exact .step q1 q2 q3 (ih h1)
def xC (h:Heap) (a o:Addr):Prop:=∃(b:Addr) (ob:Obj) (us:A2),h.get? a=some ob/\ob.data=.fields us/\us[2]?=some (.ref b)/\Z9 h b o
theorem Z9.far (p:Z9 h a o) (h1:h.get? o=some ob) (h2:ob.data=.fields us) (h3:us[2]?=some (.ref b)):xC h a b:=by
 cases p with
 | refl=>exact#[b,ob,us,h1,h2,h3,.refl b]
 | step q1 q2 q3 p=>exact#[_,_,_,q1,q2,q3,p.snoc h1 h2 h3]
theorem dj {R:Result->Shared->Prop} (new:e ∉ D) (h:R (.ok (.ret .none)) s) (n:zK s.heap D v):∀(o Cc:Addr) (tg:Bool),v=.ref o->Z9 s.heap Cc o->(tg=true->xC s.heap Cc o) ->
  codeAny (model prog w) A (.builtin "proto.unchain" #[[.ref e,.ref o,.ref Cc,.bool tg],[]]) R s:=by
 induction n with
 | nil=>intro o Cc tg q;cases q
 | @cons b ob us c q1 q2 q3 q4 m ih =>
  intro o Cc tg q p far;cases q;refine codeAny_builtin K1 ?_;unfold Builtin.«proto.unchain»;dsimp only;refine Bf (wpAny_field q2 q3 (x:=c) q4 ?_);cases m with
  | nil=>exact Bg h
  | @cons b2 ob2 Xl c2 r1 r2 r3 r4 m2 =>
   have Xm:b2≠e:=λq=>new (q▸r1);rw[if_neg (show ¬((Value.ref b2==Value.none)=true) from yo),if_neg (show ¬((Value.ref b2==Value.ref e)=true) by simpa using Xm)];by_cases hs:b2=Cc
   ·subst hs;rw[if_pos (by simp)];exact Bf (wpAny_rule (Bg h))
   ·rw[if_neg (show ¬((Value.ref b2==Value.ref Cc)=true) by simpa using hs)];cases tg with
    | false=>exact Bf (Bg (Bg #[Code.quiet_builtin _ (by decide +kernel),ih b2 Cc true rfl (p.snoc q2 q3 q4) λ_=>p.far q2 q3 q4]))
    | true =>
     obtain⟨b3,ob3,us3,f1,f2,f3,p3⟩:=far rfl;exact Bf (wpAny_field f1 f2 (x:=.ref b3) f3 (Bg #[Code.quiet_builtin _ (by decide +kernel),ih b2 b3 false rfl (p3.snoc q2 q3 q4) λz=>by cases z]))
theorem lO {α:Type}{Q:α->Shared->Prop} (hn:kW A s.heap D) (he:s.heap.get? e=some oe) (hd:oe.data=.fields vs) (h2:2<vs.size)
  (new:e ∉ D)
  (h:∀h',(h'=s.heap/\A.handled=none)\/(∃ea,A.handled=some (.ref ea)/\h'=s.heap.update e (Obj.mapFields (·.setIfInBounds 2 (.ref ea))))->Heap.SameBut e s.heap h'->(∃o,h'.get? e=some o/\o.cls=oe.cls)->E (.ref e) { s with heap:=h' }):wpAny (model prog w) A (raiseNew (.ref e):Sem α) Q E s:=by
 unfold raiseNew;refine Bf (wpAny_handled ?_);rcases hn with z|⟨ea,z,n⟩
 ·rw[z];exact Bf (Bg (wpAny_throw (h s.heap (.inl #[rfl,z]) #[rfl,λ_ _=>rfl] #[oe,he,rfl])))
 ·have ne:ea≠e:=λq=>by cases n with|cons q1=>exact new (q▸q1)
  rw[z];dsimp only;have BA:(Value.ref ea != Value.ref e)=true:=by
   rw[bne_iff_ne];intro q;exact ne (Value.ref.inj q)
  rw[BA];have wf:∀{P:AM},P () { s with heap:=s.heap.update e (Obj.mapFields (·.setIfInBounds 2 (.ref ea))) }->wpAny (model prog w) A (updateField e 2 (.ref ea)) P E s:=λ{P} q=>wpAny_setField he hd h2 q;refine Bf (wpAny_holding (wpAny_runValue (dj new ?_ n ea ea false rfl (.refl ea) λz=>by cases z)));exact Bf (wf (wpAny_throw (h _ (.inr #[ea,z,rfl]) (Heap.SameBut.update ..) #[_,Qt _ he (Obj.isFreed_of_fields (Obj.data_mapFields hd _)),Obj.cls_mapFields ..])))
theorem kP {α:Type}{Q:α->Shared->Prop} (hn:z5 A s.heap) (h:∀h' e,(∀b o,s.heap.get? b=some o->h'.get? b=some o)->(∃o,h'.get? e=some o/\o.cls=.type "StopIteration")->E (.ref e) { s with heap:=h' }) :
  wpAny (model prog w) A (newExc (.type "StopIteration") []>>=λx=>(raiseNew x:Sem α)) Q E s:=by
 refine Bf ?_;unfold newExc newTuple;refine Bf (wpAny_newObj_type ?_ (by show 0<=sizeLine;decide));refine Bf (m:=firstArgMember (.type "StopIteration") []) (wpAny_of_eq (a:=Value.none) rfl (wpAny_newObj_type ?_ (by size_fits)));generalize hp:s.heap.push _=h1;have k1:∀b o,s.heap.get? b=some o->h1.get? b=some o:=λb o e=>hp▸yd _ e;have k2:∀ob b o,h1.get? b=some o->(h1.push ob).get? b=some o:=λob b o e=>yd _ e;obtain⟨D,nD,lD⟩:=hn.small;refine lO (e:=h1.objs.size) (vs:=_) (D:=D) ((nD.keptD λb _ o e=>k1 b o e).keptD λb _ o e=>k2 _ b o e) (yz _ rfl) rfl (by show 2<6;decide) (λq=>?_) λh' _ sb ex=>h h' _ (λb o e=>(sb.2 b ?_).trans (k2 _ b o (k1 b o e))) ex
 ·obtain⟨o,_,eo,_⟩:=lD _ q;exact absurd (yq (k1 _ _ eo)) (QP _)
 ·exact yE (yq (k1 b o e))
theorem kR (ex:∃o,s.heap.get? e=some o/\o.cls=.type "StopIteration") (h:Q none s) :
  wpAny (model prog w) A (do if (<-isInstance (.ref e) (.type "StopIteration"))=true then pure (none:Option Value) else throw (.ref e)) Q E s:=by
 obtain⟨o,h1,h2⟩:=ex;refine Bf (wpAny_isInstance (T:="StopIteration") (b:=true) #[o,h1,h2] isSubtype_stop ?_);exact Bg h
theorem aE (hn:z5 A s.heap) (hit:s.heap.IsListIter it l i) (hl:s.heap.IsList l items) (hx:items[i]?=none)
  (hQ:∀h',Heap.ExtBut it s.heap h'->Q none { s with heap:=h' }):wpAny (model prog w) A (pyNext (.ref it)) Q E s:=by
 obtain⟨o,ho,hc,hd⟩:=id hit;obtain⟨ol,HJ,_,nl,HK⟩:=hl;unfold pyNext;refine Bf (wpAny_attempt (wpAny_callSpecial?_slot (name:=Str.ofString "__next__") hit.typeIs slot_listiter_next (wpAny_call_entry slot_listiter_next hit.typeIs entry_listiter_next ?_ (args_listiter_next _))));refine (show ∀{R:Fin->Shared->Prop} {F:AL},wpAny (model prog w) A.in1 (field (.ref it) 0>>=_) R F s->wpAny (model prog w) A.in1 (Builtin.«list_iterator.__next__» _) R F s from λz=>z) (Bf (wpAny_field ho hd (x:=.ref l) rfl ?_));rw[if_neg (show ¬((Value.ref l==Value.none)=true) from yo)];refine Bf (wpAny_field (i:=1) ho hd (x:=.int i 0) rfl (Bf (wpAny_seqItems HJ HK ?_)));simp only[Q0,hx];refine Bf (wpAny_rule (Bf (wpAny_setField ho hd (by simp) ?_)));have sb:Heap.SameBut it s.heap (s.heap.update it (Obj.mapFields (·.setIfInBounds 0 .none))):=Heap.SameBut.update ..;refine kP (A:=A.in1) (s:={ s with heap:=_ }) (hn.but sb #[o,_,ho,hd,by simp]) λh' e k ex=>kR (s:={ s with heap:=h' }) ex (hQ h' λb o hb q=>k b o ((sb.2 b hb).trans q))
theorem oE (hn:z5 A s.heap) (hit:s.heap.IsTupleIter it l i) (hl:s.heap.IsTuple l items) (hx:items[i]?=none)
  (hQ:∀h',Heap.ExtBut it s.heap h'->Q none { s with heap:=h' }):wpAny (model prog w) A (pyNext (.ref it)) Q E s:=by
 obtain⟨o,ho,hc,hd⟩:=id hit;obtain⟨ol,HJ,_,nl,HK⟩:=hl;unfold pyNext;refine Bf (wpAny_attempt (wpAny_callSpecial?_slot (name:=Str.ofString "__next__") hit.typeIs F.slot_tuple_iterator_next (wpAny_call_entry F.slot_tuple_iterator_next hit.typeIs F.entry_tuple_iterator_next ?_ (F.args_tuple_iterator_next_1 _))));refine (show ∀{R:Fin->Shared->Prop} {F:AL},wpAny (model prog w) A.in1 (field (.ref it) 0>>=_) R F s->wpAny (model prog w) A.in1 (Builtin.«tuple_iterator.__next__» _) R F s from λz=>z) (Bf (wpAny_field ho hd (x:=.ref l) rfl ?_));rw[if_neg (show ¬((Value.ref l==Value.none)=true) from yo)];refine Bf (wpAny_field (i:=1) ho hd (x:=.int i 0) rfl (Bf (wpAny_seqItems HJ HK ?_)));simp only[Q0,hx];refine Bf (wpAny_rule (Bf (wpAny_setField ho hd (by simp) ?_)));have sb:Heap.SameBut it s.heap (s.heap.update it (Obj.mapFields (·.setIfInBounds 0 .none))):=Heap.SameBut.update ..;refine kP (A:=A.in1) (s:={ s with heap:=_ }) (hn.but sb #[o,_,ho,hd,by simp]) λh' e k ex=>kR (s:={ s with heap:=h' }) ex (hQ h' λb o hb q=>k b o ((sb.2 b hb).trans q))
theorem lP {x left step:Int} (hn:z5 A s.heap) (hit:IsRangeIter s.heap it x left step) (ID:left<=0)
  (hQ:∀h',Heap.ExtBut it s.heap h'->Q none { s with heap:=h' }):wpAny (model prog w) A (pyNext (.ref it)) Q E s:=by
 have hT:s.TypeIs (.ref it) "range_iterator":=#[_,hit,rfl];unfold pyNext;refine Bf (wpAny_attempt (wpAny_callSpecial?_slot (name:=Str.ofString "__next__") hT F.slot_range_iterator_next (wpAny_call_entry F.slot_range_iterator_next hT F.entry_range_iterator_next ?_ (F.args_range_iterator_next_1 _))));refine (show ∀{R:Fin->Shared->Prop} {F:AL},wpAny (model prog w) A.in1 (field (.ref it) 0>>=_) R F s->wpAny (model prog w) A.in1 (Builtin.«range_iterator.__next__» _) R F s from λz=>z) (Bf (wpAny_field hit rfl (x:=rawInt x) rfl ?_));refine (show ∀{k:Value->Sem Fin} {R:Fin->Shared->Prop} {F:AL},wpAny (model prog w) A.in1 (k (rawInt left)) R F s->wpAny (model prog w) A.in1 (field (.ref it) 1>>=k) R F s from λz=>Bf (wpAny_field hit rfl (x:=rawInt left) rfl z)) ?_;refine (show ∀{k:Value->Sem Fin} {R:Fin->Shared->Prop} {F:AL},wpAny (model prog w) A.in1 (k (rawInt step)) R F s->wpAny (model prog w) A.in1 (field (.ref it) 2>>=k) R F s from λz=>Bf (wpAny_field hit rfl (x:=rawInt step) rfl z)) ?_;refine (show ∀{a b:Sem Fin} {R:Fin->Shared->Prop} {F:AL},wpAny (model prog w) A.in1 a R F s->wpAny (model prog w) A.in1 (if left<=0 then a else b) R F s from λz=>by rw[if_pos ID];exact z) ?_;refine Bf (wpAny_rule (Bf ?_));exact kP (A:=A.in1) hn λh' e k ex=>kR (s:={ s with heap:=h' }) ex (hQ h' λb o _ q=>k b o q)
theorem oH (I ax:Addr) (BA:ax≠I) (D:AX) (hI:I ∉ D) (items:A2) :
  Walks prog w A I ([I,ax]++D) [I] items.size (λi v=>items[i]?=some v) (λi h=>(h.IsListIter I ax i/\h.IsList ax items)/\kW A h D) where
 sub:=λb hb=>by simp at hb;simp [hb]
 frame:=λi h h' st k=>#[#[st.1.1.at λo e=>k I (by simp) o e,st.1.2.at λo e=>k ax (by simp) o e],st.2.keptD λb hb o e=>k b (by simp [hb]) o e]
 item:=λi s Q E hi st hQ=>by
  refine wpAny_pyNext_list_item st.1.1 st.1.2 (x:=items[i]) (by simp [hi]) λh' Pb sb=>?_;refine hQ _ h' s.toks (by simp [hi]) #[#[Pb,st.1.2.extBut sb.extBut BA],st.2.keptD λb hb o e=>(sb.2 b λq=>hI (q▸hb)).trans e] λb o hb e=>(sb.2 b λq=>hb (by simp [q])).trans e
 done:=λs Q E st hQ=>aE #[D,st.2] st.1.1 st.1.2 (by simp) λh' k=>hQ h' s.toks λb o hb e=>k b o (λq=>hb (by simp [q])) e
 self:=λ_ _ _ _ st hQ=>wpAny_pyIter_listiter st.1.1 hQ
theorem tj {xs:Array (Int×Tok)}{Q:AL} (hn:z5 A s.heap) (hl:s.heap.IsList l (intItems xs)) (BA:0<xs.size)
  (h:∀v h' tk,(intItems xs)[argBest (λi j=>decide (numAt xs i<numAt xs j)) (xs.size - 1)]?=some v->(∀b o,s.heap.get? b=some o->h'.get? b=some o)->Q v { s with heap:=h',toks:=tk }) :
  wpAny (model prog w) A (call (.builtin "min") [.ref l]) Q E s:=by
 obtain⟨D,nD,lD⟩:=hn.small;have Bj:∀b∈D,b<s.heap.objs.size:=λb hb=>let ⟨_,_,e,_⟩:=lD b hb;yq e
 refine call_min_walk (iter_intList hl λs2 e st Xn Xo=>?_);subst e;have nI:s.heap.objs.size ∉ D:=λz=>absurd (Bj _ z) (QP _);refine#[_,_,_,_,_,_,_,rfl,oH (A:=A.in1) s.heap.objs.size l Xo D nI (intItems xs),#[st,kW.keptD (A:=A.in1) nD λb _ o e=>yd _ e],λb hb=>?_,by simpa [intItems] using BA,CmpOf.ints_lt (numAt xs) (λ_ _=>intItems_at),λv h' tk hP hk=>?_]
 ·rcases ym.mp hb with z|z
  ·exact Xn b z
  ·rw[Heap.size_push];exact Nat.lt_succ_of_lt (Bj b z)
 ·exact h v h' tk (by simpa [intItems] using hP) (old_kept hk)
end
def oP (h base:Heap) (e:Addr) (cls:Value) (a0:Value×Value) (fl:Value):Prop :=
 ∃oe vs T oT ts,h.get? e=some oe/\(oe.cls=cls/\vs[0]?=some a0.1/\vs[2]?=some a0.2)/\oe.data=.fields vs/\vs[1]?=some (.ref T)/\base.get? T=none/\T≠e/\h.get? T=some oT/\oT.data=.fields ts/\ts[3]?=some fl
structure Ge (base:Heap) (l:List Env) (e:Addr) (cls:Value) (a0:Value×Value) (fl:Value) (h h':Heap):Prop where
 st:base.StaysIn h'
 ff:h'.FunFrames base l
 tr:oP h' base e cls a0 fl
 up:h.UpToSlots h'
section
variable {M:Model}{A:Around}{E:AL}{s:Shared}{base:Heap}{env:Env}{outer:List Env}{L e:Addr}{cls:Value}{a0:Value×Value}
theorem pS {head:Value}{Eh:Bool}{Q:AM} (FE:A.frames=some (env::outer)) (hl:s.heap.FunFrames base (env::outer)) (hf:env.frame=some L)
  (he:s.heap.get? e=some oe) (FG:base.StaysIn s.heap) (IE:base.get? e=none) (hd:oe.data=.fields vs) (hsz:1<vs.size) (h0:vs[0]?=some a0.1) (h2:vs[2]?=some a0.2)
  (h:∀h',Ge base (env::outer) e oe.cls a0 (rawInt L) s.heap h'->Q () { s with heap:=h' }) :
  wpAny M A (do let a <-frameOf env;let pl <-entryPlaceOf L Eh;let b <-EntryCells.newEntry head a .none (rawInt L) .none pl;setField (.ref e) 1 b) Q E s:=by
 have FH:∀b o,s.heap.get? b=some o->(∀us,o.data≠.fields us)->b≠e:=λb o hb hn q=>by
  subst q;rw[he] at hb;cases hb;exact hn vs hd
 have Xp:e ∉ (env::outer).filterMap (·.frame):=λhm=>by
  obtain⟨_,o,ho,hn⟩:=hl.mem hm;exact FH e o ho hn rfl
 refine Bf (wpAny_frameOf_fun FE hl hf λg hg=>Bf (wpAny_entryPlaceOf λpl Bx=>?_));unfold EntryCells.newEntry newFields;refine Bf (wpAny_newObj_type ?_ (Bx.sizeOk5 _ _ _ _ _));generalize ho:(Obj.mk (.type "traceback") none (.fields ([head,.ref L,.none,rawInt L,.none]++(if pl.isEmpty then List.replicate 6 Value.none else pl)).toArray) (List.toArray []))=ot;have D5:ot.data=.fields ([head,.ref L,.none,rawInt L,.none]++(if pl.isEmpty then List.replicate 6 Value.none else pl)).toArray:=by rw[<-ho]
 have eg:g.get? e=some oe:=(hg.2.1 e Xp).trans he;have bg:base.StaysIn g:=λb o hb=>(hg.2.1 b λhm=>by rw[(hl.mem hm).1] at hb;cases hb).trans (FG b o hb);have nT:g.objs.size≠e:=Wg (yq eg);have e2:(g.push ot).get? e=some oe:=yd _ eg;refine wpAny_setField e2 hd hsz (h _ ?_);have d3:=Obj.data_mapFields hd (·.setIfInBounds 1 (Value.ref g.objs.size));have e3:=Qt (Obj.mapFields (·.setIfInBounds 1 (Value.ref g.objs.size))) e2 (Obj.isFreed_of_fields d3);have keep:∀b o,b≠e->g.get? b=some o->((g.push ot).update e (Obj.mapFields (·.setIfInBounds 1 (Value.ref g.objs.size)))).get? b=some o:=λb o hb q=>by
  rw[yN _ _ (yP hb)];exact yd _ q
 have T3:((g.push ot).update e (Obj.mapFields (·.setIfInBounds 1 (Value.ref g.objs.size)))).get? g.objs.size=some ot:=by
  rw[yN _ _ (yP nT)];exact yz g (by rw[<-ho];rfl)
 refine#[λb o hb=>keep b o (λq=>by rw[q,IE] at hb;cases hb) (bg b o hb),hl.of_keeps λb o hb hn=>?_,#[_,_,g.objs.size,ot,_,e3,#[Obj.cls_mapFields _ _,?_,?_],d3,by simp [hsz],bg.fresh,nT,T3,D5,?_],λb o hb hn=>?_]
 ·obtain⟨sl,q⟩:=hg.2.2 b o hb;exact#[_,keep b _ (FH b o hb hn) q,rfl]
 ·rw[Array.getElem?_setIfInBounds_ne (by decide)];exact h0
 ·rw[Array.getElem?_setIfInBounds_ne (by decide)];exact h2
 ·first|(simp;done)|(rcases Bx with rfl|⟨_,_,_,_,_,_,_,rfl⟩<;>simp)
 ·obtain⟨sl,q⟩:=hg.2.2 b o hb;exact#[sl,keep b _ (FH b o hb hn) q]
theorem iT {l:List Env}{fl:Value}{Q:AM} (FG:base.StaysIn s.heap) (hl:s.heap.FunFrames base l) (ht:oP s.heap base e cls a0 fl)
  (h:∀h',Ge base l e cls a0 .none s.heap h'->(∀b o,s.heap.get? b=some o->(∀us,o.data≠.fields us)->h'.get? b=some o)->Q () { s with heap:=h' }):wpAny M A (setFlight (.ref e) none) Q E s:=by
 obtain⟨oe,vs,T,oT,ts,he,hc,hd,h1,Oj,Ol,hT,EN,h3⟩:=ht;have z3:3<ts.size:=(Qk.mp h3).1;have CV:∀b o,s.heap.get? b=some o->(∀us,o.data≠.fields us)->T≠b:=λb o hb hn q=>by
  subst q;rw[hT] at hb;cases hb;exact hn ts EN
 unfold setFlight;refine Bf (wpAny_field he hd h1 ?_);rw[if_pos (show (Value.ref T != Value.none)=true by simp)];refine wpAny_setField hT EN z3 (h _ #[λb o hb=>?_,hl.of_keeps λb o hb hn=>#[o,?_,rfl],#[oe,vs,T,_,_,?_,hc,hd,h1,Oj,Ol,Qt _ hT (Obj.isFreed_of_fields (Obj.data_mapFields EN _)),Obj.data_mapFields EN _,by simp [z3]],λb o hb hn=>#[o.slots,?_]] λb o hb hn=>?_)
 ·rw[yN _ _ (λq=>by rw[<-q,Oj] at hb;cases hb)];exact FG b o hb
 ·rw[yN _ _ (CV b o hb hn)];exact hb
 ·rw[yN _ _ Ol];exact he
 ·rw[yN _ _ (CV b o hb hn)];exact hb
 ·rw[yN _ _ (CV b o hb hn)];exact hb
theorem fA {Q:AM} (FE:A.frames=some (env::outer)) (hl:s.heap.FunFrames base (env::outer)) (hf:env.frame=some L) (ht:oP s.heap base e cls a0 .none) (FG:base.StaysIn s.heap) (IE:base.get? e=none)
  (h:∀h',Ge base (env::outer) e cls a0 (rawInt L) s.heap h'->Q () { s with heap:=h' }):wpAny M A (noteFrame (.ref e) env) Q E s:=by
 obtain⟨oe,vs,T,oT,ts,he,⟨hc,h0,h2⟩,hd,h1,Oj,Ol,hT,EN,h3⟩:=ht;subst hc;have CV:∀b o,s.heap.get? b=some o->(∀us,o.data≠.fields us)->T≠b:=λb o hb hn q=>by
  subst q;rw[hT] at hb;cases hb;exact hn ts EN
 unfold noteFrame;simp only[hf];refine Bf (wpAny_field he hd h1 ?_);rw[if_pos (show (Value.ref T != Value.none)=true by simp)];refine Bf (wpAny_field hT EN h3 ?_);rw[if_neg (show ¬((Value.none==rawInt L)=true) by simp [rawInt])];refine Bf (wpAny_setField hT EN (Qk.mp h3).1 ?_)
 refine pS (s:={ s with heap:=_ }) FE (hl.of_keeps λb o hb hn=>#[o,by rw[yN _ _ (CV b o hb hn)];exact hb,rfl]) hf (by rw[yN _ _ Ol];exact he) (λb o hb=>by
  rw[yN _ _ (λq=>by rw[<-q,Oj] at hb;cases hb)];exact FG b o hb) IE hd (Qk.mp h1).1 h0 h2 λh' S=>h h' #[S.st,S.ff,S.tr,λb o hb hn=>S.up b o (by rw[yN _ _ (CV b o hb hn)];exact hb) hn]
theorem cA {Q:AM} (FE:A.frames=some (env::outer)) (hl:s.heap.FunFrames base (env::outer)) (hf:env.frame=some L) (ht:oP s.heap base e cls a0 .none) (FG:base.StaysIn s.heap) (IE:base.get? e=none)
  (h:∀h',Ge base (env::outer) e cls a0 .none s.heap h'->Q () { s with heap:=h' }):wpAny M A (leaving env (.ref e)) Q E s:=by
 unfold leaving;refine Bf (fA FE hl hf ht FG IE λh1 S=>iT (s:={ s with heap:=h1 }) S.st S.ff S.tr λh2 S2 _=>h h2 #[S2.st,S2.ff,S2.tr,S.up.trans S2.up])
end
end L2
namespace L2
open PySem PySem.Spec PyProof.Rows
variable {xs vs:List V}{us:AW}{H:Hp}{o:HO}{P:Be}{h:Heap}{l e tg:Expr}{c cm:Bool}{g':Array GenState}{t' k n:Nat}{d':Drawn}{ch fp:AX}{it C dx:Addr}{M:Model}{E Q:AL}{X:Cx}{s:Shared}{ta:TA}{tb:TS}{pins:AU}{σ:St}{R:V->V->Hp->Prop}{y:V}{tc:TT}{es:Ba}{te tl:TE}{g:TG}{body:List Stmt}{lo:Int}{p:Pos}{pl:Sem Bool}{D:za}{r r':R2}{f:Value->Value->Sem Value}{HL:CmpOp}{mA:AT}{kw:List (Str×Value)}{ps:A1}{kindOf:Str->Option NameKind}{CX:Ga}{qual:Str}{scope:Scope}
section
set_option genSizeOf false
set_option genInjectivity false
inductive E2 {α0 α1:Type} (p:α0->α1->Prop):Prop
 | mk (x0:α0) (x1:α1) (h:p x0 x1):E2 p
inductive E3 {α0 α1 α2:Type} (p:α0->α1->α2->Prop):Prop
 | mk (x0:α0) (x1:α1) (x2:α2) (h:p x0 x1 x2):E3 p
inductive E4 {α0 α1 α2 α3:Type} (p:α0->α1->α2->α3->Prop):Prop
 | mk (x0:α0) (x1:α1) (x2:α2) (x3:α3) (h:p x0 x1 x2 x3):E4 p
inductive E5 {α0 α1 α2 α3 α4:Type} (p:α0->α1->α2->α3->α4->Prop):Prop
 | mk (x0:α0) (x1:α1) (x2:α2) (x3:α3) (x4:α4) (h:p x0 x1 x2 x3 x4):E5 p
inductive E6 {α0 α1 α2 α3 α4 α5:Type} (p:α0->α1->α2->α3->α4->α5->Prop):Prop
 | mk (x0:α0) (x1:α1) (x2:α2) (x3:α3) (x4:α4) (x5:α5) (h:p x0 x1 x2 x3 x4 x5):E6 p
inductive E7 {α0 α1 α2 α3 α4 α5 α6:Type} (p:α0->α1->α2->α3->α4->α5->α6->Prop):Prop
 | mk (x0:α0) (x1:α1) (x2:α2) (x3:α3) (x4:α4) (x5:α5) (x6:α6) (h:p x0 x1 x2 x3 x4 x5 x6):E7 p
inductive E8 {α0 α1 α2 α3 α4 α5 α6 α7:Type} (p:α0->α1->α2->α3->α4->α5->α6->α7->Prop):Prop
 | mk (x0:α0) (x1:α1) (x2:α2) (x3:α3) (x4:α4) (x5:α5) (x6:α6) (x7:α7) (h:p x0 x1 x2 x3 x4 x5 x6 x7):E8 p
inductive E9 {α0 α1 α2 α3 α4 α5 α6 α7 α8:Type} (p:α0->α1->α2->α3->α4->α5->α6->α7->α8->Prop):Prop
 | mk (x0:α0) (x1:α1) (x2:α2) (x3:α3) (x4:α4) (x5:α5) (x6:α6) (x7:α7) (x8:α8) (h:p x0 x1 x2 x3 x4 x5 x6 x7 x8):E9 p
inductive Z7 {α0 α1 α2 α3 α4 α5 α6 α7 α8 α9:Type} (p:α0->α1->α2->α3->α4->α5->α6->α7->α8->α9->Prop):Prop
 | mk (x0:α0) (x1:α1) (x2:α2) (x3:α3) (x4:α4) (x5:α5) (x6:α6) (x7:α7) (x8:α8) (x9:α9) (h:p x0 x1 x2 x3 x4 x5 x6 x7 x8 x9):Z7 p
inductive N7 {α0 α1 α2 α3 α4 α5 α6 α7 α8 α9 α10:Type} (p:α0->α1->α2->α3->α4->α5->α6->α7->α8->α9->α10->Prop):Prop
 | mk (x0:α0) (x1:α1) (x2:α2) (x3:α3) (x4:α4) (x5:α5) (x6:α6) (x7:α7) (x8:α8) (x9:α9) (Dy:α10) (h:p x0 x1 x2 x3 x4 x5 x6 x7 x8 x9 Dy):N7 p
inductive xx {α0 α1 α2 α3 α4 α5 α6 α7 α8 α9 α10 α11:Type} (p:α0->α1->α2->α3->α4->α5->α6->α7->α8->α9->α10->α11->Prop):Prop
 | mk (x0:α0) (x1:α1) (x2:α2) (x3:α3) (x4:α4) (x5:α5) (x6:α6) (x7:α7) (x8:α8) (x9:α9) (Dy:α10) (Ei:α11) (h:p x0 x1 x2 x3 x4 x5 x6 x7 x8 x9 Dy Ei):xx p
inductive xy {α0 α1 α2 α3 α4 α5 α6 α7 α8 α9 α10 α11 α12:Type} (p:α0->α1->α2->α3->α4->α5->α6->α7->α8->α9->α10->α11->α12->Prop):Prop
 | mk (x0:α0) (x1:α1) (x2:α2) (x3:α3) (x4:α4) (x5:α5) (x6:α6) (x7:α7) (x8:α8) (x9:α9) (Dy:α10) (Ei:α11) (FI:α12) (h:p x0 x1 x2 x3 x4 x5 x6 x7 x8 x9 Dy Ei FI):xy p
inductive rn {α0 α1 α2 α3 α4 α5 α6 α7 α8 α9 α10 α11 α12 α13 α14 α15 α16 α17:Type} (p:α0->α1->α2->α3->α4->α5->α6->α7->α8->α9->α10->α11->α12->α13->α14->α15->α16->α17->Prop):Prop
 | mk (x0:α0) (x1:α1) (x2:α2) (x3:α3) (x4:α4) (x5:α5) (x6:α6) (x7:α7) (x8:α8) (x9:α9) (Dy:α10) (Ei:α11) (FI:α12) (IF:α13) (IG:α14) (IH:α15) (II:α16) (IJ:α17) (h:p x0 x1 x2 x3 x4 x5 x6 x7 x8 x9 Dy Ei FI IF IG IH II IJ):rn p
inductive xz {α0 α1 α2 α3 α4 α5 α6 α7 α8 α9 α10 α11 α12 α13 α14 α15 α16 α17 α18:Type} (p:α0->α1->α2->α3->α4->α5->α6->α7->α8->α9->α10->α11->α12->α13->α14->α15->α16->α17->α18->Prop):Prop
 | mk (x0:α0) (x1:α1) (x2:α2) (x3:α3) (x4:α4) (x5:α5) (x6:α6) (x7:α7) (x8:α8) (x9:α9) (Dy:α10) (Ei:α11) (FI:α12) (IF:α13) (IG:α14) (IH:α15) (II:α16) (IJ:α17) (Pc:α18) (h:p x0 x1 x2 x3 x4 x5 x6 x7 x8 x9 Dy Ei FI IF IG IH II IJ Pc):xz p
inductive xA {α0 α1 α2 α3 α4 α5 α6 α7 α8 α9 α10 α11 α12 α13 α14 α15 α16 α17 α18 α19 α20:Type} (p:α0->α1->α2->α3->α4->α5->α6->α7->α8->α9->α10->α11->α12->α13->α14->α15->α16->α17->α18->α19->α20->Prop):Prop
 | mk (x0:α0) (x1:α1) (x2:α2) (x3:α3) (x4:α4) (x5:α5) (x6:α6) (x7:α7) (x8:α8) (x9:α9) (Dy:α10) (Ei:α11) (FI:α12) (IF:α13) (IG:α14) (IH:α15) (II:α16) (IJ:α17) (Pc:α18) (Xq:α19) (Xr:α20) (h:p x0 x1 x2 x3 x4 x5 x6 x7 x8 x9 Dy Ei FI IF IG IH II IJ Pc Xq Xr):xA p
structure A3 (a0 a1 a2:Prop):Prop where
 mk ::
 h0:a0
 h1:a1
 h2:a2
structure A4 (a0 a1 a2 a3:Prop):Prop where
 mk ::
 h0:a0
 h1:a1
 h2:a2
 h3:a3
structure A5 (a0 a1 a2 a3 a4:Prop):Prop where
 mk ::
 h0:a0
 h1:a1
 h2:a2
 h3:a3
 h4:a4
structure A6 (a0 a1 a2 a3 a4 a5:Prop):Prop where
 mk ::
 h0:a0
 h1:a1
 h2:a2
 h3:a3
 h4:a4
 h5:a5
structure A7 (a0 a1 a2 a3 a4 a5 a6:Prop):Prop where
 mk ::
 h0:a0
 h1:a1
 h2:a2
 h3:a3
 h4:a4
 h5:a5
 h6:a6
structure A8 (a0 a1 a2 a3 a4 a5 a6 a7:Prop):Prop where
 mk ::
 h0:a0
 h1:a1
 h2:a2
 h3:a3
 h4:a4
 h5:a5
 h6:a6
 h7:a7
structure A9 (a0 a1 a2 a3 a4 a5 a6 a7 a8:Prop):Prop where
 mk ::
 h0:a0
 h1:a1
 h2:a2
 h3:a3
 h4:a4
 h5:a5
 h6:a6
 h7:a7
 h8:a8
structure As (a0 a1 a2 a3 a4 a5 a6 a7 a8 a9:Prop):Prop where
 mk ::
 h0:a0
 h1:a1
 h2:a2
 h3:a3
 h4:a4
 h5:a5
 h6:a6
 h7:a7
 h8:a8
 h9:a9
structure rh (a0 a1 a2 a3 a4 a5 a6 a7 a8 a9 FJ:Prop):Prop where
 mk ::
 h0:a0
 h1:a1
 h2:a2
 h3:a3
 h4:a4
 h5:a5
 h6:a6
 h7:a7
 h8:a8
 h9:a9
 h10:FJ
structure rj (a0 a1 a2 a3 a4 a5 a6 a7 a8 a9 FJ IK:Prop):Prop where
 mk ::
 h0:a0
 h1:a1
 h2:a2
 h3:a3
 h4:a4
 h5:a5
 h6:a6
 h7:a7
 h8:a8
 h9:a9
 h10:FJ
 h11:IK
structure Au (a0 a1 a2 a3 a4 a5 a6 a7 a8 a9 FJ IK Om Pd Pf Pg Ph:Prop):Prop where
 mk ::
 h0:a0
 h1:a1
 h2:a2
 h3:a3
 h4:a4
 h5:a5
 h6:a6
 h7:a7
 h8:a8
 h9:a9
 h10:FJ
 h11:IK
 h12:Om
 h13:Pd
 h14:Pf
 h15:Pg
 h16:Ph
structure Av (a0 a1 a2 a3 a4 a5 a6 a7 a8 a9 FJ IK Om Pd Pf Pg Ph Xs:Prop):Prop where
 mk ::
 h0:a0
 h1:a1
 h2:a2
 h3:a3
 h4:a4
 h5:a5
 h6:a6
 h7:a7
 h8:a8
 h9:a9
 h10:FJ
 h11:IK
 h12:Om
 h13:Pd
 h14:Pf
 h15:Pg
 h16:Ph
 h17:Xs
end
abbrev Key:=Sum Int Str
def ZR:Key->Value->Bool
 | .inl k,v=>Value.isInt k v
 | .inr x,v=>Value.isStrOf x v
def xZ (w:World):Key->Int
 | .inl k=>hashInt k
 | .inr x=>hashStr w x
theorem Jq:∀{k:Key} {v:Value},ZR k v=true->(∃i t,k=Sum.inl i/\v=Value.int i t)\/(∃x t,k=Sum.inr x/\v=Value.str x t)
 | .inl i,v,h=>by
  obtain⟨t,e⟩:=Value.isInt_shape (k:=i) (v:=v) h;exact .inl #[i,t,rfl,e]
 | .inr x,v,h=>by
  obtain⟨t,e⟩:=Value.isStrOf_shape (x:=x) (v:=v) h;exact .inr #[x,t,rfl,e]
theorem eQ (i:Int) (t:Tok):ZR (.inl i) (.int i t)=true:=by simp [ZR,Value.isInt]
theorem eR (x:Str) (t:Tok):ZR (.inr x) (.str x t)=true:=by simp [ZR,Value.isStrOf]
theorem sw (a b:Int):decide ((Sum.inl a:Key)=Sum.inl b)=(a==b):=by
 by_cases e:a=b
 ·subst e;simp
 ·have h:¬(Sum.inl a:Key)=Sum.inl b:=λq=>e (Sum.inl.inj q);rw[decide_eq_false h];exact (beq_eq_false_iff_ne.mpr e).symm
theorem sJ (a b:Str):decide ((Sum.inr a:Key)=Sum.inr b)=decide (a=b):=by
 by_cases e:a=b
 ·subst e;simp
 ·have h:¬(Sum.inr a:Key)=Sum.inr b:=λq=>e (Sum.inr.inj q);rw[decide_eq_false h,decide_eq_false e]
theorem sE (a:Int) (b:Str):decide ((Sum.inl a:Key)=Sum.inr b)=false:=decide_eq_false (λq=>nomatch q)
theorem sI (a:Str) (b:Int):decide ((Sum.inr a:Key)=Sum.inl b)=false:=decide_eq_false (λq=>nomatch q)
def jW (prog:Be) (w:World):PySem.KeyKind prog w Key where
 is:=ZR
 hash:=xZ w
 inj:=λv a b ha hb=>by
  rcases Jq ha with ⟨i,t,rfl,rfl⟩|⟨x,t,rfl,rfl⟩
  ·rcases Jq hb with ⟨j,u,rfl,e⟩|⟨y,u,rfl,e⟩
   ·injection e with e1 _;rw[e1]
   ·exact nomatch e
  ·rcases Jq hb with ⟨j,u,rfl,e⟩|⟨y,u,rfl,e⟩
   ·exact nomatch e
   ·injection e with e1 _;rw[e1]
 byValue:=λk v h=>by
  rcases Jq h with ⟨i,t,rfl,rfl⟩|⟨x,t,rfl,rfl⟩<;>rfl
 pyHash:=λhv h=>by
  rcases Jq hv with ⟨i,t,rfl,rfl⟩|⟨x,t,rfl,rfl⟩
  ·exact wpAny_pyHash_int h
  ·exact wpAny_pyHash_str h
 eqBool:=λhu hv h=>by
  rcases Jq hu with ⟨i,t,rfl,rfl⟩|⟨x,t,rfl,rfl⟩
  ·rcases Jq hv with ⟨j,u,rfl,rfl⟩|⟨y,u,rfl,rfl⟩
   ·rw[sw] at h;exact wpAny_eqBool_int h
   ·rw[sE] at h;exact SeqAt.EqAt.int_str i t y u _ _ _ _ h
  ·rcases Jq hv with ⟨j,u,rfl,rfl⟩|⟨y,u,rfl,rfl⟩
   ·rw[sI] at h;exact SeqAt.EqAt.str_int x t j u _ _ _ _ h
   ·rw[sJ] at h;exact wpAny_eqBool_str h
 «strs»:=λk x t v h=>by
  rcases Jq h with ⟨i,u,rfl,e⟩|⟨y,u,rfl,e⟩
  ·exact nomatch e
  ·injection e with e1 _
   subst e1;cases v<;>rfl
theorem NO (prog:Be) (w:World) (i:Int) (t:Tok):(jW prog w).is (.inl i) (.int i t)=true:=eQ i t
theorem NP (prog:Be) (w:World) (x:Str) (t:Tok):(jW prog w).is (.inr x) (.str x t)=true:=eR x t
inductive V where
 | non|bl (b:Bool)|int (i:Int)|str (x:Str)|byt (b:Array UInt8)|flt (b:UInt64)|ref (a:Addr)|ty (n:String)
 deriving DecidableEq
def jF:V->Value->Prop
 | .non,u=>u=Value.none
 | .bl b,u=>u=Value.bool b
 | .int i,u=>∃t,u=Value.int i t
 | .str x,u=>∃t,u=Value.str x t
 | .byt b,u=>∃t,u=Value.bytes b t
 | .flt b,u=>∃t,u=Value.float b t
 | .ref a,u=>u=Value.ref a
 | .ty n,u=>u=Value.type n
abbrev jA:List V->List Value->Prop:=Paired jF
theorem jA.length (r:jA xs us):xs.length=us.length:=Paired.length r
theorem jA.get:∀{xs:List V} {us:AW} {i:Nat} {x:V},jA xs us->xs[i]?=some x->∃u,us[i]?=some u/\jF x u
 | _,_,_,_,.nil,e=>by simp at e
 | _,_,0,_,.cons r _,e=>by simp at e;subst e;exact#[_,rfl,r]
 | _,_,i+1,x,.cons _ t,e=>by
  obtain⟨u,h1,h2⟩:=jA.get (i:=i) (x:=x) t (by simpa using e);exact#[u,by simpa using h1,h2]
theorem jA.set {x:V}{u:Value} (r:jF x u):∀{xs:List V} {us:AW} (i:Nat),jA xs us->jA (xs.set i x) (us.set i u)
 | _,_,_,.nil=>.nil
 | _,_,0,.cons _ t=>.cons r t
 | _,_,i+1,.cons q t=>.cons q (jA.set r i t)
theorem jA.append:∀{xs ys:List V} {us ws:AW},jA xs us->jA ys ws->jA (xs++ys) (us++ws)
 | _,_,_,_,.nil,s=>s
 | _,_,_,_,.cons r t,s=>.cons r (jA.append t s)
theorem jA.take:∀{xs:List V} {us:AW} (n:Nat),jA xs us->jA (xs.take n) (us.take n)
 | _,_,0,_=>.nil
 | _,_,_+1,.nil=>.nil
 | _,_,n+1,.cons r t=>.cons r (jA.take n t)
theorem jA.drop:∀{xs:List V} {us:AW} (n:Nat),jA xs us->jA (xs.drop n) (us.drop n)
 | _,_,0,r=>r
 | _,_,_+1,.nil=>.nil
 | _,_,n+1,.cons _ t=>jA.drop n t
def Um:Option V->Option Value->Prop
 | some v,some u=>jF v u
 | none,none=>True
 | _,_=>False
def KV {κ:Type}:List (κ×V)->List (κ×Value)->Prop:=Paired λ(p:κ×V) (q:κ×Value)=>p.1=q.1/\jF p.2 q.2
def kV:Key->V
 | .inl i=>.int i
 | .inr x=>.str x
inductive HO where
 | lst (xs:List V)
 | tup (xs:List V)
 | dK (kvs:List (Key×V))|dT (kvs:List (List Key×V))
 | set (S:Int->Bool) (n:Nat)
 | ins (C dx:Addr) (fs:List (Str×V))
 | own (x:Addr)
 | xd (fs:List (Str×V))
 | met (f x:Addr)
 | rng (lo hi:Int)
 | frz (o:Obj) (u:HO)
 | tbl (ps:A2)
 | ext (φ:Heap->Prop)
abbrev Hp:=Addr->Option HO
def upd (H:Hp) (a:Addr) (o:HO):Hp:=λb=>if b=a then some o else H b
theorem jb {a:Addr}:upd H a o a=some o:=by unfold upd;rw[if_pos rfl]
theorem jl {a b:Addr} (h:b≠a):upd H a o b=H b:=by unfold upd;rw[if_neg h]
theorem jw {a b:Addr}{x:Option HO} (n:b≠a) (e:H b=x):upd H a o b=x:=by rw[jl n];exact e
theorem re {a:Addr}{u:HO}:upd (upd H a o) a u=upd H a u:=by
 funext b;unfold upd;split<;>rfl
theorem jq {a b:Addr}{u:HO} (h:H a=some o) (h':H b=some u) (d:o≠u:=by exact λz=>nomatch z):a≠b:=by
 intro e;subst e;rw[h] at h';exact d (Option.some.inj h')
theorem ji {a b:Addr} (h:H a=some o) (h':H b=none):a≠b:=by
 intro e;subst e;rw[h] at h';cases h'
section
variable (P:Be) (w:World)
def j8 (H:Hp) (h:Heap) (a:Addr):HO->Prop
 | .lst xs=>xs.length<=sizeLine/\∃(Bi:AW) (n:Nat),jA xs Bi/\h.get? a=some { cls:=.type "list",data:=.seq Bi.toArray n }
 | .tup xs=>xs.length<=sizeLine/\∃Bi:List Value,jA xs Bi/\IsTup h a Bi.toArray
 | .dK kvs=>kvs.length<=sizeLine/\(a==sysModules)=false/\∃vs,KV kvs vs/\h.DictOf (jW P w) a vs
 | .dT kvs=>kvs.length<=sizeLine/\(a==sysModules)=false/\∃xs:List (List Key×Addr×Value),
   Paired (λ(p:List Key×V) (q:List Key×Addr×Value)=>p.1=q.1/\H q.2.1=some (.tup (p.1.map kV))/\jF p.2 q.2.2) kvs xs /\
   ∃o es ep,h.get? a=some o/\o.ExactDict/\o.data=.dict es ep/\es.toList=xs.map (entryOfKey (tupleKind (jW P w)))/\(xs.map (·.1)).Nodup
 | .set S n=>h.SetOf (intKind P w) a S n
 | .ins C dx fs=>H dx=some (.own a)/\fs.length<=1000/\dx≠a/\h.get? a=some (instObj C dx) /\
   ∃mA,h.Ns1 dx mA/\(∀f,Um (fs.lookup f) (mA f))/\PySem.Within mA (fs.map (·.1))
 | .own _=>∃o,h.get? a=some o
 | .xd fs=>∃mA,h.Ns1 a mA/\∀f,Um (fs.lookup f) (mA f)
 | .rng lo hi=>∃t u v,h.get? a=some { cls:=.type "range",data:=.fields (List.toArray [.int lo t,.int hi u,.int 1 v]) }
 | .frz o u=>h.get? a=some o/\j8 H h a u
 | .tbl ps=>h.get? a=some { cls:=.none,data:=.fields ps }
 | .met f x=>h.get? a=some (methodObj (.ref f) (.ref x))
 | .ext φ=>φ h/\(∃o,h.get? a=some o)/\∀h1 h2:Heap,φ h1->(∀o,h1.get? a=some o->h2.get? a=some o)->φ h2
def Ji (H:Hp) (h:Heap):Prop:=∀a o,H a=some o->j8 P w H h a o
end
section
variable {P:Be}{w:World}{H H':Hp}{h h':Heap}{a:Addr}{o:HO}
theorem j8.lt (x:j8 P w H h a o):a<h.objs.size:=by
 cases o with
 | lst xs=>obtain⟨_,_,_,_,e⟩:=x;exact yq e
 | tup xs=>obtain⟨_,_,_,p⟩:=x;exact p.lt
 | dK kvs=>obtain⟨_,_,_,_,o,_,_,e,_⟩:=x;exact yq e
 | dT kvs=>obtain⟨_,_,_,_,o,_,_,e,_⟩:=x;exact yq e
 | set S n=>obtain⟨o,_,_,_,e,_⟩:=x;exact yq e
 | ins C dx fs=>obtain⟨_,_,_,e,_⟩:=x;exact yq e
 | own y=>obtain⟨_,e⟩:=x;exact yq e
 | xd fs=>obtain⟨_,⟨_,_,_,e,_⟩,_⟩:=x;exact yq e
 | rng lo hi=>obtain⟨_,_,_,e⟩:=x;exact yq e
 | frz ob u=>obtain⟨e,_⟩:=x;exact yq e
 | tbl ps=>exact yq (show h.get? a=some _ from x)
 | met f y=>exact yq (show h.get? a=some _ from x)
 | ext φ=>obtain⟨_,⟨_,e⟩,_⟩:=x;exact yq e
theorem Paired.mapP {α β:Type}{F G:α->β->Prop}:∀{l₁:List α} {l₂:List β},Paired F l₁ l₂->(∀a b,F a b->G a b)->Paired G l₁ l₂
 | _,_,.nil,_=>.nil
 | _,_,.cons r t,f=>.cons (f _ _ r) (Paired.mapP t f)
theorem j8.stay (x:j8 P w H h a o) (k:∀b u,(b=a\/H b=some (.own a))->h.get? b=some u->h'.get? b=some u)
  (ho:∀b,H b=some (.own a)->H' b=some (.own a)) (ht:∀b xs,H b=some (.tup xs)->H' b=some (.tup xs)):j8 P w H' h' a o:=by
 induction o with
 | lst xs=>obtain⟨z,Bi,n,r,e⟩:=x;exact#[z,Bi,n,r,k _ _ (.inl rfl) e]
 | tup xs=>obtain⟨z,Bi,r,ob,e,c⟩:=x;exact#[z,Bi,r,ob,k _ _ (.inl rfl) e,c]
 | dK kvs=>obtain⟨z,y,vs,r,ob,es,ep,e,c⟩:=x;exact#[z,y,vs,r,ob,es,ep,k _ _ (.inl rfl) e,c]
 | dT kvs =>
  obtain⟨z,y,xs,r,ob,es,ep,e,c⟩:=x;exact#[z,y,xs,Paired.mapP r λp q z=>#[z.1,ht _ _ z.2.1,z.2.2],ob,es,ep,k _ _ (.inl rfl) e,c]
 | set S n=>obtain⟨ob,es,ep,t,e,c⟩:=x;exact#[ob,es,ep,t,k _ _ (.inl rfl) e,c]
 | ins C dx fs =>
  obtain⟨d,z,ne,e,mA,⟨od,es,ep,e2,c⟩,r⟩:=x;exact#[ho _ d,z,ne,k _ _ (.inl rfl) e,mA,#[od,es,ep,k _ _ (.inr d) e2,c],r]
 | own y=>obtain⟨ob,e⟩:=x;exact#[ob,k _ _ (.inl rfl) e]
 | xd fs=>obtain⟨mA,⟨od,es,ep,e,c⟩,r⟩:=x;exact#[mA,#[od,es,ep,k _ _ (.inl rfl) e,c],r]
 | rng lo hi=>obtain⟨t,u,v,e⟩:=x;exact#[t,u,v,k _ _ (.inl rfl) e]
 | frz ob u ih=>obtain⟨e,q⟩:=x;exact#[k _ _ (.inl rfl) e,ih q]
 | tbl ps =>
  have e:h.get? a=some { cls:=.none,data:=.fields ps }:=x;show h'.get? a=some { cls:=.none,data:=.fields ps };exact k a _ (.inl rfl) e
 | met f y =>
  have e:h.get? a=some (methodObj (.ref f) (.ref y)):=x;show h'.get? a=some (methodObj (.ref f) (.ref y));exact k a _ (.inl rfl) e
 | ext φ=>obtain⟨p,⟨o,e⟩,st⟩:=x;exact#[st _ _ p λo q=>k _ _ (.inl rfl) q,#[o,k _ _ (.inl rfl) e],st]
theorem Ji.lt (x:Ji P w H h) (e:H a=some o):a<h.objs.size:=(x a o e).lt
theorem Ji.fresh (x:Ji P w H h) (e:h.objs.size<=a):H a=none:=by
 cases q:H a with
 | none=>rfl
 | some u=>exact absurd (yF (x.lt q) e) (QP _)
theorem Ji.kept (x:Ji P w H h) (k:∀b u,h.get? b=some u->h'.get? b=some u):Ji P w H h':=λa o e =>
 (x a o e).stay (λb u _ q=>k b u q) (λ_ q=>q) λ_ _ q=>q
theorem Ji.laid (x:Ji P w H h) (k:∀b u,h.get? b=some u->h'.get? b=some u) (hp:h.objs.size<=a) (new:j8 P w (upd H a o) h' a o):Ji P w (upd H a o) h':=λb u e=>by
 have hn:=x.fresh hp;by_cases hb:b=a
 ·subst hb;rw[jb] at e;cases e;exact new
 ·rw[jl hb] at e;exact (x b u e).stay (λc v _ q=>k c v q) (λc q=>jw (ji q hn) q) λc xs q=>by rw[jl (ji q hn)];exact q
end
def Rd (H:Hp) (a:Addr) (u:HO):Prop:=H a=some u\/∃o,H a=some (.frz o u)
theorem Rd.ok {w:World}{a:Addr}{u:HO} (r:Rd H a u) (x:Ji P w H h):j8 P w H h a u:=by
 rcases r with r|⟨o,r⟩
 ·exact x a u r
 ·obtain⟨_,q⟩:=x a _ r;exact q
def dA:Option HO->Prop
 | some (.lst _)=>True
 | some (.dK _)=>True
 | some (.dT _)=>True
 | some (.set _ _)=>True
 | some (.ins _ _ _)=>True
 | some (.ext _)=>True
 | _=>False
section
variable {P:Be}{w:World}{H:Hp}{h h':Heap}{x e:Addr}{o':HO}
theorem Ji.write (ok:Ji P w H h) (mu:dA (H x)) (he:e=x\/H e=some (.own x)) (k:∀b u,b≠e->h.get? b=some u->h'.get? b=some u) (HM:∃u,h'.get? e=some u)
  (new:j8 P w (upd H x o') h' x o'):Ji P w (upd H x o') h':=λb u q=>by
 have IL:∀c y,H c=some (.own y)->c≠x:=λc y r z=>by subst z;rw[r] at mu;exact mu
 have Pj:∀c xs,H c=some (.tup xs)->c≠x:=λc xs r z=>by subst z;rw[r] at mu;exact mu
 by_cases hb:b=x
 ·subst hb;rw[jb] at q;cases q;exact new
 ·rw[jl hb] at q;by_cases FK:b=e
  ·have q':H b=some (.own x):=by
    rcases he with z|z
    ·exact absurd (FK.trans z) hb
    ·rw[FK];exact z
   rw[q] at q';cases q';obtain⟨v,hv⟩:=HM;exact#[v,by rw[FK];exact hv]
  ·refine (ok b u q).stay (λc v hc r=>k c v ?_ r) (λc r=>jw (IL c b r) r) λc xs r=>by rw[jl (Pj c xs r)];exact r
   rcases hc with rfl|hc
   ·exact FK
   ·rintro rfl;rcases he with z|z
    ·exact IL c b hc z
    ·rw[hc] at z;cases z;exact hb rfl
end
structure Un (fs ex:AX) (H H':Hp) (h h':Heap):Prop where
 keep:∀b o,h.get? b=some o->H b=none->b ∉ fs->b ∉ ex->h'.get? b=some o
 slot:∀b o,h.get? b=some o->H b=none->b∈fs->b ∉ ex->∃sl,h'.get? b=some { o with slots:=sl }
 free:∀b o,h.get? b=some o->H b=none->b ∉ ex->H' b=none
 there:∀b o,h.get? b=some o->b ∉ ex->∃o',h'.get? b=some o'
 tups:∀b xs,H b=some (.tup xs)->H' b=some (.tup xs)
 frzs:∀b o u,H b=some (.frz o u)->H' b=some (.frz o u)
 tbls:∀b ps,H b=some (.tbl ps)->∃more,H' b=some (.tbl (ps++more))
section
variable {fs Xt ex ex':AX}{H H1 H2:Hp}{h h1 h2 h':Heap}{a x e:Addr}{o:HO}
theorem Un.any (u:Un fs ex H H1 h h1) {b:Addr} {ob:Obj} (q:h.get? b=some ob) (n:H b=none) (hx:b ∉ ex):∃sl,h1.get? b=some { ob with slots:=sl }:=by
 by_cases hb:b∈fs
 ·exact u.slot b ob q n hb hx
 ·exact#[ob.slots,u.keep b ob q n hb hx]
theorem Un.kept (k:∀b u,h.get? b=some u->h'.get? b=some u):Un fs ex H H h h' :=
 #[λb ob q _ _ _=>k b ob q,λb ob q _ _ _=>#[ob.slots,k b ob q],λ_ _ _ n _=>n,λb ob q _=>#[ob,k b ob q],λ_ _ q=>q,λ_ _ _ q=>q,λ_ ps q=>#[(List.toArray []),by rw[q];simp]]
theorem Un.refl:Un fs ex H H h h:=Un.kept λ_ _ q=>q
theorem Un.laid (k:∀b u,h.get? b=some u->h'.get? b=some u) (hp:h.objs.size<=a) (hn:H a=none):Un fs ex H (upd H a o) h h' where
 keep:=λb u q _ _ _=>k b u q
 slot:=λb u q _ _ _=>#[u.slots,k b u q]
 free:=λb u q n _=>by rw[jl (yE (yF (yq q) hp))];exact n
 there:=λb u q _=>#[u,k b u q]
 tups:=λb xs q=>by rw[jl (ji q hn)];exact q
 frzs:=λb u xs q=>by rw[jl (ji q hn)];exact q
 tbls:=λb ps q=>#[(List.toArray []),by rw[jl (ji q hn),q];simp]
theorem Un.write (mu:dA (H x)) (he:e=x\/H e=some (.own x)) (k:∀b u,b≠e->h.get? b=some u->h'.get? b=some u) (HM:∃u,h'.get? e=some u):Un fs ex H (upd H x o) h h':=by
 have hx:∀b,H b=none->b≠x:=λb n z=>by subst z;rw[n] at mu;exact mu
 have hb:∀b,H b=none->b≠e:=λb n z=>by
  subst z;rcases he with r|r
  ·exact hx b n r
  ·rw[n] at r;cases r
 have hm:∀b u,H b=some u->¬dA (some u)->b≠x:=λb u q nm z=>by subst z;rw[q] at mu;exact nm mu
 refine#[λb u q n _ _=>k b u (hb b n) q,λb u q n _ _=>#[u.slots,k b u (hb b n) q],λb u q n _=>jw (hx b n) n,λb u q _=>?_,
  λb xs q=>jw (hm b _ q λz=>z) q,λb u xs q=>jw (hm b _ q λz=>z) q,λb ps q=>#[(List.toArray []),by rw[jl (hm b _ q λz=>z),q];simp]]
 by_cases FK:b=e
 ·subst FK;exact HM
 ·exact#[u,k b u FK q]
end
def pI (h:Heap) (H:Hp):List Addr:=(List.range h.objs.size).filter λa=>(H a).isSome
def zm (h:Heap) (H:Hp):Heap:=hideAll h (pI h H)
theorem eE (h:Heap) (H:Hp):(zm h H).objs.size=h.objs.size:=PySem.W.hideAll_size _ _
theorem iY {b:Addr}{o:Obj} (e:h.get? b=some o) (n:H b=none):(zm h H).get? b=some o :=
 hideAll_get _ e λhm=>by
  have q:(H b).isSome=true:=(yZ.mp hm).2;rw[n] at q;simp at q
theorem qj {b:Addr}{o:Obj} (e:(zm h H).get? b=some o):h.get? b=some o/\H b=none:=by
 have e':h.get? b=some o:=of_hideAll (pI h H) e;refine#[e',?_];cases q:H b with
 | none=>rfl
 | some x =>
  have hm:b∈pI h H:=yZ.mpr #[Qa.mpr (yq e'),by simp [q]];have z:(zm h H).get? b=none:=hideAll_none (pI h H) hm;rw[z] at e;cases e
structure Mod (K:AQ) (mg:AT) (base:Heap):Prop where
 kin:K.In base
 glob:base.Ns mainGlobals mg
 blt:∃mb,base.Ns builtinsNs mb/\∀x:Str,x≠"__name__"->mb x=bootBuiltins x
 nolimit:base.NoLimit
structure Cx where
 prog:Program
 w:World
 K:Frag
 mg:Str->Option Value
 base:Heap
 A:Around
 N:List Str
 s₀:Shared
 H₀:Hp
 env:Env
 outer:List Env
 stack:List Env
 ex:List Addr
 fn:Str->Bool
 calm:Bool
 pn:List (Addr×Obj)
 xe:Value->Shared->Prop
theorem mL {l:A1} (h:decide l.Nodup=true):l.Nodup:=of_decide_eq_true h
theorem Vm {a w K mg base A N s₀ H₀ env outer stack ex fn calm pn xe}:(Cx.mk a w K mg base A N s₀ H₀ env outer stack ex fn calm pn xe).K=K:=rfl
def ul (l:List Env):List Addr:=l.filterMap (·.frame)
abbrev Cx.fs (X:Cx):List Addr:=ul X.outer
def rM (sc:Scope) (x:Str):Prop:=sc.names.lookup x=some .local\/sc.names.lookup x=some .cell\/sc.names.lookup x=some .free
def N9 (sc:Scope) (x:Str):Prop:=sc.names.lookup x=some .local\/sc.names.lookup x=some .cell
def xP (env:Env) (h:Heap) (m:AT) (x:Str) (u:Value):Prop :=
 (env.kindOf x=some .local/\m x=some u)\/((env.kindOf x=some .cell\/env.kindOf x=some .free)/\∃c,env.cells.lookup x=some c/\h.IsCell c (some u))
structure Cx.Ok (X:Cx):Prop where
 mod:Mod X.K X.mg X.base
 kind:X.env.scope.kind=.function
 glob:X.env.globals=mainGlobals
 blt:X.env.builtins=builtinsNs
 above:X.s₀.heap.objs.size<=X.env.locals
 inj:∀x y c,X.env.cells.lookup x=some c->X.env.cells.lookup y=some c->x=y
 has:∀x,(X.env.kindOf x=some .cell\/X.env.kindOf x=some .free)->∃c,X.env.cells.lookup x=some c
 cab:∀x c,X.fn x=true->X.env.cells.lookup x=some c->X.s₀.heap.objs.size<=c
 hd:X.calm=true->X.A.handled=none
 frames:X.A.frames=some X.stack
 stk:X.stack=X.outer\/(X.stack=X.env::X.outer/\X.env.frame=some X.env.locals)
 exf:∀b∈X.ex,b≠X.env.locals/\∀x c,X.env.cells.lookup x=some c->c≠b
 bs:∀b o,X.base.get? b=some o->X.s₀.heap.get? b=some o/\X.H₀ b=none
 bsz:X.base.objs.size<=X.s₀.heap.objs.size
 noex:∀b o,X.base.get? b=some o->b ∉ X.ex
 exfs:∀b∈X.ex,b ∉ X.fs
 funs:X.s₀.heap.FunFrames X.base X.outer
 frf:∀b∈X.fs,X.H₀ b=none
inductive zY (H:Hp):Value->Prop
 | nil:zY H .none
 | cons {b:Addr} {ob:Obj} {us:A2} {u:HO} {c:Value}:H b=some (.frz ob u)->ob.data=.fields us->us[2]?=some c->zY H c->zY H (.ref b)
theorem zY.mono {H':Hp}{c:Value} (h:zY H c) (k:∀b o u,H b=some (.frz o u)->H' b=some (.frz o u)):zY H' c:=by
 induction h with
 | nil=>exact .nil
 | cons q1 q2 q3 _ ih=>exact .cons (k _ _ _ q1) q2 q3 ih
theorem zY.chn {w:World}{c:Value} (n:zY H c) (ok:Ji P w H h):∃D,zK h D c/\∀b∈D,∃o u,H b=some (.frz o u):=by
 induction n with
 | nil=>exact#[[],.nil,λb hb=>absurd hb (by simp)]
 | @cons b ob us u c q1 q2 q3 _ ih =>
  obtain⟨D,m,l⟩:=ih;refine#[b::D,.cons (by simp) (ok b _ q1).1 q2 q3 (m.kept (λ_ _ _ e=>e) λd hd=>yA _ hd),λd hd=>?_];rcases yM.mp hd with rfl|hd
  ·exact#[_,_,q1]
  ·exact l d hd
def m8 (A:Around) (H:Hp):Prop:=A.handled=none\/∃ea:Addr,A.handled=some (.ref ea)/\zY H (.ref ea)
theorem m8.mono {A:Around}{H':Hp} (h:m8 A H) (k:∀b o u,H b=some (.frz o u)->H' b=some (.frz o u)):m8 A H':=by
 rcases h with z|⟨ea,h1,h2⟩
 ·exact .inl z
 ·exact .inr #[ea,h1,h2.mono k]
theorem m8.now {w:World}{A:Around} (n:m8 A H) (ok:Ji P w H h):z5 A h:=by
 rcases n with z|⟨ea,h1,h2⟩
 ·exact#[[],.inl z]
 ·obtain⟨D,m,_⟩:=h2.chn ok;exact#[D,.inr #[ea,h1,m]]
structure jn (X:Cx) (pins:AU) (σ:List (Option V)) (H:Hp) (s:Shared):Prop where
 ok:X.Ok
 os:s.os=X.s₀.os
 bare:AllBare s.gens
 base:Un X.fs X.ex X.H₀ H X.s₀.heap s.heap
 loc:∃m,s.heap.Ns X.env.locals m/\∀(i:Nat) (x:Str) (v:V),X.N[i]?=some x->σ[i]?=some (some v)->rM X.env.scope x->∃u,jF v u/\xP X.env s.heap m x u
 cell:∀x c,X.env.cells.lookup x=some c->∃v,s.heap.IsCell c v
 free:H X.env.locals=none
 freeC:∀x c,X.env.cells.lookup x=some c->H c=none
 pin:∀p∈X.pn++pins,s.heap.get? p.1=some p.2/\H p.1=none/\p.1≠X.env.locals/\p.1 ∉ X.fs/\∀v,p.2.data≠.cell v
 hok:Ji X.prog X.w H s.heap
 len:σ.length=X.N.length
 hn:m8 X.A H
section
variable {X:Cx}{pins:AU}{σ:List (Option V)}{H H':Hp}{s:Shared}{h':Heap}
theorem Cx.Ok.nofr (ok:X.Ok) {b:Addr} {o:Obj} (e:X.base.get? b=some o):b ∉ X.fs:=λhb=>by
 have:=(ok.funs.mem hb).1;rw[e] at this;cases this
theorem jn.bs (I:jn X pins σ H s):∀b o,X.base.get? b=some o->s.heap.get? b=some o/\H b=none:=λb o e =>
 #[I.base.keep b o (I.ok.bs b o e).1 (I.ok.bs b o e).2 (I.ok.nofr e) (I.ok.noex b o e),I.base.free b o (I.ok.bs b o e).1 (I.ok.bs b o e).2 (I.ok.noex b o e)]
theorem jn.bk (I:jn X pins σ H s):∀b o,X.base.get? b=some o->s.heap.get? b=some o:=λb o e=>(I.bs b o e).1
theorem jn.mod (I:jn X pins σ H s):Mod X.K X.mg X.base:=I.ok.mod
theorem jn.kIn (I:jn X pins σ H s):X.K.In s.heap:=I.ok.mod.kin.keeps I.bk
theorem jn.fr (I:jn X pins σ H s):∃m,Fr X.base X.env.locals s.heap m :=
 let ⟨m,hn,_⟩:=I.loc
 #[m,hn,I.bk,yp I.ok.bsz I.ok.above]
theorem jn.lt (I:jn X pins σ H s):X.env.locals<s.heap.objs.size:=let ⟨_,hn,_⟩:=I.loc;hn.lt
theorem jn.sz (I:jn X pins σ H s):X.s₀.heap.objs.size<=s.heap.objs.size:=yp I.ok.above (Nat.le_of_lt I.lt)
theorem jn.nofs (I:jn X pins σ H s) {a:Addr} (h:s.heap.objs.size<=a):a ∉ X.fs:=λhb=>by
 obtain⟨_,o,ho,_⟩:=I.ok.funs.mem hb;exact absurd (yF (yq ho) (yp I.sz h)) (QP _)
theorem jn.cne (I:jn X pins σ H s):∀x c,X.env.cells.lookup x=some c->c≠X.env.locals:=λx c e z=>by
 obtain⟨v,o,ho,hd⟩:=I.cell x c e;obtain⟨m,⟨o',es,ep,BP,D7,_⟩,_⟩:=I.loc;rw[z,BP] at ho;cases ho;rw[D7] at hd;cases hd
theorem jn.funs (I:jn X pins σ H s):s.heap.FunFrames X.base X.outer:=by
 have all:∀(l:List Env),(∀b∈ul l,b∈X.fs)->X.s₀.heap.FunFrames X.base l->s.heap.FunFrames X.base l:=by
  intro l
  induction l with
  | nil=>intro _ _;trivial
  | cons env r ih =>
   intro hs hl;obtain⟨hk,⟨L,o,hf,hn,ho,hd⟩,hr⟩:=hl;have hL:L∈X.fs:=hs L (by unfold ul;rw[List.filterMap_cons,hf];exact yD);obtain⟨sl,e⟩:=I.base.slot L o ho (I.ok.frf L hL) hL λz=>I.ok.exfs L z hL;exact#[hk,#[L,_,hf,hn,e,hd],ih (λb hb=>hs b (by unfold ul;rw[List.filterMap_cons,hf];exact yA _ hb)) hr]
 exact all X.outer (λ_ hb=>hb) I.ok.funs
theorem jn.stack (I:jn X pins σ H s):s.heap.FunFrames X.base X.stack:=by
 rcases I.ok.stk with e|⟨e,hf⟩
 ·rw[e];exact I.funs
 ·rw[e];obtain⟨m,hn,_⟩:=I.loc;refine .cons (by rw[I.ok.kind];decide) hf hn ?_ I.funs;exact Heap.get?_none_of_le (yp I.ok.bsz I.ok.above)
theorem jn.stkSub (I:jn X pins σ H s):∀b∈ul X.stack,b∈X.env.locals::X.fs:=λb hb=>by
 rcases I.ok.stk with e|⟨e,hf⟩
 ·rw[e] at hb;exact yA _ hb
 ·rw[e] at hb;unfold ul at hb;rw[List.filterMap_cons,hf] at hb;exact hb
theorem jn.stkFree (I:jn X pins σ H s):∀b∈ul X.stack,H b=none:=λb hb=>by
 rcases yM.mp (I.stkSub b hb) with e|hb
 ·rw[e];exact I.free
 ·obtain⟨_,o,ho,_⟩:=I.ok.funs.mem hb;exact I.base.free b o ho (I.ok.frf b hb) λz=>I.ok.exfs b z hb
theorem jn.step {g':Array GenState}{t':Nat}{d':Drawn}{ch:AX} (I:jn X pins σ H s)
  (Cj:∀b∈ch,(b∈X.ex\/X.s₀.heap.objs.size<=b)/\b≠X.env.locals/\(∀x c,X.env.cells.lookup x=some c->c≠b)/\∀p∈X.pn++pins,p.1≠b)
  (keep:∀b o,b≠X.env.locals->b ∉ X.fs->b ∉ ch->s.heap.get? b=some o->H b=none->h'.get? b=some o)
  (slot:∀b o,b≠X.env.locals->b∈X.fs->b ∉ ch->s.heap.get? b=some o->H b=none->∃sl,h'.get? b=some { o with slots:=sl }) (free:∀b o,b ∉ ch->s.heap.get? b=some o->H b=none->H' b=none)
  (there:∀b o,b ∉ ch->s.heap.get? b=some o->∃o',h'.get? b=some o')
  (tups:∀b xs,H b=some (.tup xs)->H' b=some (.tup xs)) (frzs:∀b o u,H b=some (.frz o u)->H' b=some (.frz o u)) (tbls:∀b ps,H b=some (.tbl ps)->∃more,H' b=some (.tbl (ps++more)))
  (ns:∀m,s.heap.Ns X.env.locals m->h'.Ns X.env.locals m) (hok:Ji X.prog X.w H' h') (hg:AllBare g') :
  jn X pins σ H' { s with heap:=h',gens:=g',drawn:=d',toks:=t' }:=by
 have Tb:∀b o,X.s₀.heap.get? b=some o->b≠X.env.locals:=λb o e=>yE (yF (yq e) I.ok.above);have HN:∀b o,X.s₀.heap.get? b=some o->b ∉ X.ex->b ∉ ch:=λb o e hx hb=>by
  rcases (Cj b hb).1 with z|z
  ·exact hx z
  ·exact absurd (yF (yq e) z) (QP _)
 have cellK:∀x c,X.env.cells.lookup x=some c->∀v,s.heap.IsCell c v->h'.IsCell c v:=λx c e v #[o,ho,hd]=>by
  have EO:c ∉ ch:=λz=>(Cj c z).2.2.1 x c e rfl;by_cases hc:c∈X.fs
  ·obtain⟨sl,q⟩:=slot c o (I.cne x c e) hc EO ho (I.freeC x c e);exact#[_,q,hd]
  ·exact#[o,keep c o (I.cne x c e) hc EO ho (I.freeC x c e),hd]
 refine#[I.ok,I.os,hg,#[λb o e n hb hx=>?_,λb o e n hb hx=>?_,λb o e n hx=>?_,λb o e hx=>?_,λb xs e=>tups b xs (I.base.tups b xs e),λb o xs e=>frzs b o xs (I.base.frzs b o xs e),λb ps e=>?_],?_,λx c e=>?_,?_,λx c e=>?_,λp hp=>?_,hok,I.len,I.hn.mono frzs]
 ·exact keep b o (Tb b o e) hb (HN b o e hx) (I.base.keep b o e n hb hx) (I.base.free b o e n hx)
 ·obtain⟨sl,e1⟩:=I.base.slot b o e n hb hx;obtain⟨Pk,e2⟩:=slot b _ (Tb b o e) hb (HN b o e hx) e1 (I.base.free b o e n hx);exact#[Pk,e2]
 ·obtain⟨o',e1⟩:=I.base.there b o e hx;exact free b o' (HN b o e hx) e1 (I.base.free b o e n hx)
 ·obtain⟨o',e1⟩:=I.base.there b o e hx;exact there b o' (HN b o e hx) e1
 ·obtain⟨m1,e1⟩:=I.base.tbls b ps e;obtain⟨m2,e2⟩:=tbls b _ e1;exact#[m1++m2,by rw[e2,Array.append_assoc]]
 ·obtain⟨m,hn,hl⟩:=I.loc;refine#[m,ns m hn,λi x v e1 e2 e3=>?_];obtain⟨u,r,l⟩:=hl i x v e1 e2 e3;refine#[u,r,?_];rcases l with l|⟨k,c,e,z⟩
  ·exact .inl l
  ·exact .inr #[k,c,e,cellK x c e _ z]
 ·obtain⟨v,z⟩:=I.cell x c e;exact#[v,cellK x c e v z]
 ·obtain⟨m,⟨o,_,_,ho,_⟩,_⟩:=I.loc;exact free _ o (λz=>(Cj _ z).2.1 rfl) ho I.free
 ·obtain⟨v,o,ho,hd⟩:=I.cell x c e;exact free c o (λz=>(Cj c z).2.2.1 x c e rfl) ho (I.freeC x c e)
 ·obtain⟨e,n,ne,nf,d⟩:=I.pin p hp;have EO:p.1 ∉ ch:=λz=>(Cj p.1 z).2.2.2 p hp rfl;exact#[keep p.1 p.2 ne nf EO e n,free p.1 p.2 EO e n,ne,nf,d]
theorem jn.un (I:jn X pins σ H s) (u:Un X.fs [] H H' s.heap h') (hok:Ji X.prog X.w H' h'):jn X pins σ H' { s with heap:=h',toks:=t' }:=by
 obtain⟨m,⟨o,es,ep,ho,r⟩,_⟩:=id I.loc;obtain⟨sl,hL⟩:=u.any ho I.free (by simp)
 exact I.step (g':=s.gens) (d':=s.drawn) (ch:=[]) (λ_ z=>nomatch z) (λb o _ hb _ e n=>u.keep b o e n hb (by simp)) (λb o _ hb _ e n=>u.slot b o e n hb (by simp)) (λb o _ e n=>u.free b o e n (by simp)) (λb o _ e=>u.there b o e (by simp)) u.tups u.frzs u.tbls (λm' hm=>by
  obtain⟨o',CW,Ej,BP,r'⟩:=hm;rw[ho] at BP;cases BP;exact#[_,CW,Ej,hL,r']) hok I.bare
theorem jn.call (I:jn X pins σ H s) (u:Un (ul X.stack) ch H H' s.heap h') (hok:Ji X.prog X.w H' h') (hg:AllBare g')
  (Cj:∀b∈ch,(b∈X.ex\/X.s₀.heap.objs.size<=b)/\b≠X.env.locals/\(∀x c,X.env.cells.lookup x=some c->c≠b)/\∀p∈X.pn++pins,p.1≠b) :
  jn X pins σ H' { s with heap:=h',gens:=g',drawn:=d',toks:=t' }:=by
 obtain⟨m,⟨o,es,ep,ho,r⟩,_⟩:=id I.loc;obtain⟨sl,hL⟩:=u.any ho I.free λz=>(Cj _ z).2.1 rfl;exact I.step (ch:=ch) Cj (λb o hL hb hc e n=>u.keep b o e n (λz=>(yM.mp (I.stkSub b z)).elim hL hb) hc) (λb o _ _ hc e n=>u.any e n hc) (λb o hc e n=>u.free b o e n hc) (λb o hc e=>u.there b o e hc) u.tups u.frzs u.tbls (λm' hm=>by
  obtain⟨o',CW,Ej,BP,r'⟩:=hm;rw[ho] at BP;cases BP;exact#[_,CW,Ej,hL,r']) hok hg
theorem jn.turned (I:jn X pins σ H s) (k:∀b o,b≠it->s.heap.get? b=some o->h'.get? b=some o) (hn:H it=none) (hL:it≠X.env.locals)
  (h1:it∈X.ex\/X.s₀.heap.objs.size<=it) (h2:∀x c,X.env.cells.lookup x=some c->c≠it) (h3:∀p∈X.pn++pins,p.1≠it):jn X pins σ H { s with heap:=h',toks:=t' }:=by
 have Tc:∀b u,H b=some u->b≠it:=λb u e z=>by rw[z,hn] at e;cases e
 refine I.step (g':=s.gens) (d':=s.drawn) (ch:=[it]) (λb hb=>?_) (λb o _ _ hc e _=>k b o (λz=>hc (by simp [z])) e) (λb o _ _ hc e _=>#[o.slots,k b o (λz=>hc (by simp [z])) e]) (λ_ _ _ _ n=>n)
  (λb o hc e=>#[o,k b o (λz=>hc (by simp [z])) e]) (λ_ _ e=>e) (λ_ _ _ e=>e) (λb ps e=>#[(List.toArray []),by rw[e];simp]) (λm hm=>?_) (λb u e=>?_) I.bare
 ·have e:b=it:=by simpa using hb
  subst e;exact#[h1,hL,h2,h3]
 ·obtain⟨o,es,ep,ho,r⟩:=hm;exact#[o,es,ep,k _ o (yP hL) ho,r]
 ·refine (I.hok b u e).stay (λc v hc q=>k c v ?_ q) (λ_ q=>q) λ_ _ q=>q;rcases hc with z|z
  ·rw[z];exact Tc b u e
  ·exact Tc c _ z
theorem jn.tok (I:jn X pins σ H s) (t:Nat):jn X pins σ H { s with toks:=t }:=I.un (h':=s.heap) (t':=t) Un.refl I.hok
theorem jn.kept (I:jn X pins σ H s) (k:∀b u,s.heap.get? b=some u->h'.get? b=some u):jn X pins σ H { s with heap:=h',toks:=t' }:=I.un (Un.kept k) (I.hok.kept k)
theorem jn.laid {a:Addr} (I:jn X pins σ H s) (k:∀b u,s.heap.get? b=some u->h'.get? b=some u) (hp:s.heap.objs.size<=a) (new:j8 X.prog X.w (upd H a o) h' a o) :
  jn X pins σ (upd H a o) { s with heap:=h',toks:=t' }:=I.un (Un.laid k hp (I.hok.fresh hp)) (I.hok.laid k hp new)
theorem jn.write {x e:Addr} (I:jn X pins σ H s) (mu:dA (H x)) (he:e=x\/H e=some (.own x)) (k:∀b u,b≠e->s.heap.get? b=some u->h'.get? b=some u) (HM:∃u,h'.get? e=some u)
  (new:j8 X.prog X.w (upd H x o) h' x o):jn X pins σ (upd H x o) { s with heap:=h',toks:=t' }:=I.un (Un.write mu he k HM) (I.hok.write mu he k HM new)
theorem jn.weak {σ':List (Option V)} (I:jn X pins σ H s) (hl:σ'.length=σ.length) (w:∀(i:Nat) v,σ'[i]?=some (some v)->σ[i]?=some (some v)):jn X pins σ' H s :=
 #[I.ok,I.os,I.bare,I.base,let ⟨m,hn,Ck⟩:=I.loc;#[m,hn,λi x v e1 e2 e3=>Ck i x v e1 (w i v e2) e3],I.cell,I.free,I.freeC,I.pin,I.hok,hl.trans I.len,I.hn]
theorem jn.pins_of {ER:AU} (I:jn X pins σ H s) (h:∀p∈ER,s.heap.get? p.1=some p.2/\H p.1=none/\p.1≠X.env.locals/\p.1 ∉ X.fs/\∀v,p.2.data≠.cell v):jn X ER σ H s :=
 #[I.ok,I.os,I.bare,I.base,I.loc,I.cell,I.free,I.freeC,λp hp=>(ym.mp hp).elim (λz=>I.pin p (yv _ z)) (h p),I.hok,I.len,I.hn]
theorem M6 {N:A1} (hN:N.Nodup) {i j:Nat} {x:Str} (a:N[i]?=some x) (b:N[j]?=some x):i=j:=by
 obtain⟨h1,e1⟩:=yi.mp a;obtain⟨h2,e2⟩:=yi.mp b;exact (List.getElem_inj hN).mp (e1.trans e2.symm)
theorem KF {A:Around}{i:Nat}{x:Str}{v:V}{u:Value}{Q:AM} (I:jn X pins σ H s) (hN:X.N.Nodup) (hi:X.N[i]?=some x) (hx:N9 X.env.scope x) (r:jF v u)
  (h:∀s',jn X pins (σ.set i (some v)) H s'->(∃a,Heap.SameBut a s.heap s'.heap/\(a=X.env.locals\/X.env.cells.lookup x=some a))->Q () s') (hf:X.fn x=true\/X.env.scope.names.lookup x=some .local:=by first|exact .inl rfl|exact .inr rfl|assumption):wpAny M A (storeName X.env x u) Q E s:=by
 obtain⟨m,hn,hl⟩:=id I.loc;have Pl:(X.env.scope.kind==.class||(X.env.scope.kind==.module&&X.env.locals != X.env.globals))=false:=by rw[I.ok.kind];rfl
 have Td:i<σ.length:=by rw[I.len];exact (yi.mp hi).1
 have cne:=I.cne;have tracked:∀{a:Addr} {h':Heap},(∃o,s.heap.get? a=some o/\H a=none)->Heap.SameBut a s.heap h'->Ji X.prog X.w H h':=λ{a h'} ha hs b ob e=>by
  obtain⟨_,_,CC⟩:=ha;refine (I.hok b ob e).stay (λc w' hc q=>(hs.2 c ?_).trans q) (λ_ q=>q) λ_ _ q=>q;rintro rfl;rcases hc with rfl|hc
  ·rw[CC] at e;cases e
  ·rw[CC] at hc;cases hc
 rcases hx with hk|hk
 ·refine wpAny_storeName_local hk hn (λh' FL hs=>?_) Pl;obtain⟨oL,_,_,Xu,_⟩:=id hn;refine h _ #[I.ok,I.os,I.bare,#[λb o e n hb hx=>?_,λb o e n hb hx=>?_,I.base.free,λb o e hx=>?_,I.base.tups,I.base.frzs,I.base.tbls],#[_,FL,λj y v' e1 e2 e3=>?_],λy c e=>?_,I.free,I.freeC,λp hp=>?_,tracked #[oL,Xu,I.free] hs,by simpa using I.len,I.hn] #[_,hs,.inl rfl]
  ·exact (hs.2 b (yE (yF (yq e) I.ok.above))).trans (I.base.keep b o e n hb hx)
  ·obtain⟨sl,e1⟩:=I.base.slot b o e n hb hx;exact#[sl,(hs.2 b (yE (yF (yq e) I.ok.above))).trans e1]
  ·obtain⟨o',e1⟩:=I.base.there b o e hx;exact#[o',(hs.2 b (yE (yF (yq e) I.ok.above))).trans e1]
  ·by_cases hj:j=i
   ·subst hj;rw[hi] at e1;cases e1;rw[List.getElem?_set_self Td] at e2;cases e2;exact#[u,r,.inl #[hk,by simp]]
   ·rw[List.getElem?_set_ne (yP hj)] at e2;obtain⟨u',r',q⟩:=hl j y v' e1 e2 e3;refine#[u',r',?_];rcases q with ⟨k,e⟩|⟨k,c,e,z⟩
    ·refine .inl #[k,?_];have:y≠x:=λe=>hj (M6 hN e1 (e▸hi));simp [this,e]
    ·exact .inr #[k,c,e,z.sameBut hs (cne y c e)]
  ·obtain⟨w',z⟩:=I.cell y c e;exact#[w',z.sameBut hs (cne y c e)]
  ·obtain⟨e,n,ne,nf,d⟩:=I.pin p hp;exact#[(hs.2 p.1 ne).trans e,n,ne,nf,d]
 ·have Pm:X.fn x=true:=by
   rcases hf with z|z
   ·exact z
   ·rw[z] at hk;cases hk
  obtain⟨c,hc⟩:=I.ok.has x (.inl hk);obtain⟨w',z⟩:=I.cell x c hc;refine wpAny_storeName_cell I.ok.kind hk hc z (λh' Dq hs=>?_);obtain⟨oc,D5,Pn⟩:=id z;refine h { s with heap:=h' } #[I.ok,I.os,I.bare,#[λb o e n hb hx=>?_,λb o e n hb hx=>?_,I.base.free,λb o e hx=>?_,I.base.tups,I.base.frzs,I.base.tbls],#[m,hn.sameBut hs (yP (cne x c hc)),λj y v' e1 e2 e3=>?_],λy c' e=>?_,I.free,I.freeC,λp hp=>?_,tracked #[oc,D5,I.freeC x c hc] hs,by simpa using I.len,I.hn] #[c,hs,.inr hc]
  ·exact (hs.2 b (yE (yF (yq e) (I.ok.cab x c Pm hc)))).trans (I.base.keep b o e n hb hx)
  ·obtain⟨sl,e1⟩:=I.base.slot b o e n hb hx;exact#[sl,(hs.2 b (yE (yF (yq e) (I.ok.cab x c Pm hc)))).trans e1]
  ·obtain⟨o',e1⟩:=I.base.there b o e hx;exact#[o',(hs.2 b (yE (yF (yq e) (I.ok.cab x c Pm hc)))).trans e1]
  ·by_cases hj:j=i
   ·subst hj;rw[hi] at e1;cases e1;rw[List.getElem?_set_self Td] at e2;cases e2;exact#[u,r,.inr #[.inl hk,c,hc,Dq]]
   ·rw[List.getElem?_set_ne (yP hj)] at e2;obtain⟨u',r',q⟩:=hl j y v' e1 e2 e3;refine#[u',r',?_];rcases q with q|⟨k,c',e,z'⟩
    ·exact .inl q
    ·refine .inr #[k,c',e,z'.sameBut hs ?_];rintro rfl;exact hj (M6 hN e1 (I.ok.inj _ _ _ e hc▸hi))
  ·by_cases Dr:c'=c
   ·subst Dr;exact#[_,Dq]
   ·obtain⟨w2,z2⟩:=I.cell y c' e;exact#[w2,z2.sameBut hs Dr]
  ·obtain⟨e,n,ne,nf,d⟩:=I.pin p hp;refine#[(hs.2 p.1 ?_).trans e,n,ne,nf,d];intro q;rw[q,D5] at e;have q':oc=p.2:=Option.some.inj e;exact d w' (by rw[<-q'];exact Pn)
theorem n8 {A:Around}{i:Nat}{x:Str}{v:V}{u:Value}{Q:AM} (I:jn X pins σ H s) (hN:X.N.Nodup) (hi:X.N[i]?=some x) (hx:N9 X.env.scope x) (r:jF v u)
  (h:∀s',jn X pins (σ.set i (some v)) H s'->Q () s') (hf:X.fn x=true\/X.env.scope.names.lookup x=some .local:=by first|exact .inl rfl|exact .inr rfl|assumption):wpAny M A (storeName X.env x u) Q E s :=
 KF I hN hi hx r (λs' I' _=>h s' I') hf
theorem jn.call' {s':Shared} (I:jn X pins σ H s) (ho:s'.os=s.os) (u:Un (ul X.stack) ch H H' s.heap s'.heap) (hok:Ji X.prog X.w H' s'.heap) (hg:AllBare s'.gens)
  (Cj:∀b∈ch,(b∈X.ex\/X.s₀.heap.objs.size<=b)/\b≠X.env.locals/\(∀x c,X.env.cells.lookup x=some c->c≠b)/\∀p∈X.pn++pins,p.1≠b):jn X pins σ H' s':=by
 obtain⟨h',g',d',t',o'⟩:=s';have e:o'=s.os:=ho;subst e;exact I.call (g':=g') (t':=t') (d':=d') u hok hg Cj
end
abbrev XK:=Value->Option Addr->Hp->Prop
abbrev St:=List (Option V)
abbrev VK:=V->Hp->Prop
abbrev TE:=St->Hp->VK->Prop
abbrev TT:=St->Hp->(Bool->Hp->Prop)->Prop
abbrev TA:=St->Hp->(List V->Hp->Prop)->Prop
structure za where
 nx:St->Hp->Prop
 rt:VK
 bk:St->Hp->Prop:=λ_ _=>False
 ct:St->Hp->Prop:=λ_ _=>False
abbrev TS:=za->St->Hp->Prop
inductive xB (X:Cx) (pins:AU) (σ:St) (Q:VK) (u:Value) (s':Shared):Prop
 | mk (v:_) (H':_) (h0:jn X pins σ H' s') (h1:jF v u) (h2:Q v H'):xB X pins σ Q u s'
def EP (X:Cx) (pins:AU) (σ:St) (Q:VK) (u:Value) (s':Shared):Prop:=xB X pins σ Q u s'
inductive xF (X:Cx) (pins:AU) (σ:St) (Q:Bool->Hp->Prop) (b:Bool) (s':Shared):Prop
 | mk (H':_) (h0:jn X pins σ H' s') (h1:Q b H'):xF X pins σ Q b s'
def TP (X:Cx) (pins:AU) (σ:St) (Q:Bool->Hp->Prop) (b:Bool) (s':Shared):Prop:=xF X pins σ Q b s'
inductive xv (X:Cx) (pins:AU) (σ:St) (Q:List V->Hp->Prop) (us:AW) (s':Shared):Prop
 | mk (vs:_) (H':_) (h0:jn X pins σ H' s') (h1:jA vs us) (h2:Q vs H'):xv X pins σ Q us s'
def AP (X:Cx) (pins:AU) (σ:St) (Q:List V->Hp->Prop) (us:AW) (s':Shared):Prop:=xv X pins σ Q us s'
def SP (X:Cx) (pins:AU) (D:za) (f:Flow) (s':Shared):Prop :=
 match f with
 | .next=>∃σ' H',jn X pins σ' H' s'/\D.nx σ' H'
 | .brk=>∃σ' H',jn X pins σ' H' s'/\D.bk σ' H'
 | .cont=>∃σ' H',jn X pins σ' H' s'/\D.ct σ' H'
 | .ret u=>∃v σ' H',jn X pins σ' H' s'/\jF v u/\D.rt v H'
def PE (X:Cx) (e:Expr) (t:TE):Prop :=
 ∀(pins:AU) (s:Shared) (σ:St) (H:Hp) (Q:VK),jn X pins σ H s->t σ H Q->wpAny (model X.prog X.w) X.A (eval e X.env) (EP X pins σ Q) X.xe s
def PT (X:Cx) (e:Expr) (t:TT):Prop :=
 ∀(pins:AU) (s:Shared) (σ:St) (H:Hp) (Q:Bool->Hp->Prop),jn X pins σ H s->t σ H Q->wpAny (model X.prog X.w) X.A (isTrue e X.env (eval e X.env)) (TP X pins σ Q) X.xe s
def PW (X:Cx) (e:Expr) (t:TT):Prop :=
 ∀(whole:Sem Value) (pins:AU) (s:Shared) (σ:St) (H:Hp) (Q:Bool->Hp->Prop),jn X pins σ H s->t σ H Q->wpAny (model X.prog X.w) X.A (isTrue e X.env whole) (TP X pins σ Q) X.xe s
theorem PW.pt {t:TT} (h:PW X e t):PT X e t:=h _
def PA (X:Cx) (es:Ba) (t:TA):Prop :=
 ∀(pos:Pos) (pins:AU) (s:Shared) (σ:St) (H:Hp) (Q:List V->Hp->Prop),jn X pins σ H s->t σ H Q->wpAny (model X.prog X.w) X.A (spliced (backTo pos (starEach es X.env))) (AP X pins σ Q) X.xe s
def PS (X:Cx) (st:Stmt) (t:TS):Prop :=
 ∀(pins:AU) (s:Shared) (σ:St) (H:Hp) (D:za),jn X pins σ H s->t D σ H->wpAny (model X.prog X.w) X.A (exec st X.env) (SP X pins D) X.xe s
def z6 (X:Cx) (st:List Stmt) (t:TS):Prop :=
 ∀(pins:AU) (s:Shared) (σ:St) (H:Hp) (D:za),jn X pins σ H s->t D σ H->wpAny (model X.prog X.w) X.A (execs st X.env) (SP X pins D) X.xe s
theorem jC {α:Type}{t:Sem α}{Q Q':α->Shared->Prop}{A:Around} (h:wpAny M A t Q E s) (hQ:∀a s,Q a s->Q' a s):wpAny M A t Q' E s:=wpAny_mono h hQ λ_ _ x=>x
section
variable {X:Cx}
theorem AK {a b:Expr}{ta tb:TE} (ha:PE X a ta) (hb:PE X b tb) (I:jn X pins σ H s) (h:ta σ H λx H1=>tb σ H1 λy H2=>R x y H2)
  {α:Type} {Q:α->Shared->Prop} {f:Value->Value->Sem α}
  (hf:∀v u s2 x y H2,jn X pins σ H2 s2->jF x v->jF y u->R x y H2->wpAny (model X.prog X.w) X.A (f v u) Q X.xe s2) :
  wpAny (model X.prog X.w) X.A (eval a X.env) (λv s₁=>wpAny (model X.prog X.w) X.A (eval b X.env) (λu s₂=>wpAny (model X.prog X.w) X.A (f v u) Q X.xe s₂) X.xe s₁) X.xe s:=by
 refine jC (ha pins s σ H _ I h) λv s1 #[x,H1,I1,r1,q1]=>?_;refine jC (hb pins s1 σ H1 _ I1 q1) λu s2 #[y,H2,I2,r2,q2]=>?_;exact hf v u s2 x y H2 I2 r1 r2 q2
inductive pH (i:Nat) (σ:St) (H:Hp) (Q:VK):Prop
 | mk (v:_) (h0:σ[i]?=some (some v)) (h1:Q v H):pH i σ H Q
def kT (i:Nat):TE:=λσ H Q=>pH i σ H Q
def tC (v:V):TE:=λ_ H Q=>Q v H
theorem tH {i:Nat}{x:Str}{pos:Pos} (hN:X.N[i]?=some x) (hv:rM X.env.scope x) (hd:(x==("__debug__":Str))=false:=by decide) (BD:(x==("__classdict__":Str))=false:=by decide):PE X (.Name x pos) (kT i):=by
 intro pins s σ H Q I h;obtain⟨v,e,h⟩:=h;obtain⟨m,hn,hl⟩:=I.loc;obtain⟨u,r,l⟩:=hl i x v hN e hv;have fin:EP X pins σ Q u s:=#[v,H,I,r,h];rcases l with ⟨hk,hm⟩|⟨hk,c,hc,ES⟩
 ·exact wpAny_Name (wpAny_loadName_local I.ok.kind hk hn hm fin) hd
 ·rcases hk with hk|hk
  ·exact wpAny_Name (wpAny_loadName_cell I.ok.kind hk hc ES fin) hd
  ·exact wpAny_Name (wpAny_loadName_free I.ok.kind hk hc ES fin BD) hd
theorem jg {i j pos}:PE X (.Constant (.int i) j pos) (tC (.int i)):=λ_ _ _ H _ I h=>wpAny_Constant_int #[.int i,H,I.tok _,#[_,rfl],h]
theorem Uk {b j pos}:PE X (.Constant (.bool b) j pos) (tC (.bl b)):=λ_ _ _ H _ I h=>Constant_bool #[.bl b,H,I,rfl,h]
theorem nB {j pos}:PE X (.Constant .none j pos) (tC .non):=λ_ _ _ H _ I h=>Constant_none #[.non,H,I,rfl,h]
theorem vH {x j pos}:PE X (.Constant (.str x) j pos) (tC (.str x)):=λ_ _ _ H _ I h=>Calls.Constant_str #[.str x,H,I.tok _,#[_,rfl],h]
def Gl (X:Cx) (x:Str):Prop:=X.env.kindOf x=some .globalImplicit
theorem kB {x:Str}{u:Value}{pos:Pos} (I:jn X pins σ H s) (hg:Gl X x) (hm:X.mg x=some u) (h:Q u s)
  (hd:(x==("__debug__":Str))=false:=by decide):wpAny (model X.prog X.w) X.A (eval (.Name x pos) X.env) Q E s :=
 Calls.Name_function_global I.ok.kind hg (Calls.loadGlobal_global (by rw[I.ok.glob];exact I.mod.glob.keeps I.bk) hm h) hd
theorem VY {x:Str}{u:Value}{pos:Pos} (I:jn X pins σ H s) (hg:Gl X x) (hm:X.mg x=none) (hv:bootBuiltins x=some u) (h:Q u s)
  (hn:x≠"__name__":=by decide) (hd:(x==("__debug__":Str))=false:=by decide):wpAny (model X.prog X.w) X.A (eval (.Name x pos) X.env) Q E s:=by
 obtain⟨mb,h1,h2⟩:=I.mod.blt;exact Calls.Name_function_global I.ok.kind hg (Calls.loadGlobal_builtin (by rw[I.ok.glob];exact I.mod.glob.keeps I.bk) hm (by rw[I.ok.blt];exact h1.keeps I.bk) ((h2 x hn).trans hv) h) hd
theorem vx {x:Str}{v:V}{u:Value}{pos:Pos} (hg:Gl X x) (hm:X.mg x=some u) (r:jF v u) (hd:(x==("__debug__":Str))=false:=by decide):PE X (.Name x pos) (tC v) :=
 λ_ _ _ H _ I h=>kB I hg hm #[v,H,I,r,h] hd
theorem U6 {x:Str}{v:V}{u:Value}{pos:Pos} (hg:Gl X x) (hm:X.mg x=none) (hv:bootBuiltins x=some u) (r:jF v u) (hn:x≠"__name__":=by decide) (hd:(x==("__debug__":Str))=false:=by decide):PE X (.Name x pos) (tC v) :=
 λ_ _ _ H _ I h=>VY I hg hm hv #[v,H,I,r,h] hn hd
variable {a b:Expr}{ta tb:TE}{pos:Pos}
def PC (X:Cx) (op:CmpOp) (a b:Expr) (t:TE):Prop :=
 ∀(pins:AU) (s:Shared) (σ:St) (H:Hp) (Q:VK),jn X pins σ H s->t σ H Q ->
  wpAny (model X.prog X.w) X.A (eval a X.env) (λv s₁=>wpAny (model X.prog X.w) X.A (eval b X.env) (λu s₂=>wpAny (model X.prog X.w) X.A (compareOp op v u) (EP X pins σ Q) X.xe s₂) X.xe s₁) X.xe s
theorem M5 (b:Expr) {op:CmpOp} (h:op≠.In) (h2:op≠.NotIn):behindInMarks op b=false:=by
 have e1:(op==CmpOp.In)=false:=by cases op<;>first|rfl|exact absurd rfl h
 have e2:(op==CmpOp.NotIn)=false:=by cases op<;>first|rfl|exact absurd rfl h2
 cases b<;>simp [behindInMarks,e1,e2]
def Ak (ta:TE):TE:=λσ H Q=>ta σ H λx H1=>Q (.bl (decide (x=.non))) H1
theorem jF.none_iff {x:V}{v:Value} (r:jF x v):(v==Value.none)=decide (x=.non):=by
 cases x with
 | non=>cases r;rfl
 | bl _=>cases r;rfl
 | int _=>obtain⟨t,rfl⟩:=r;rfl
 | str _=>obtain⟨t,rfl⟩:=r;rfl
 | byt _=>obtain⟨t,rfl⟩:=r;rfl
 | flt _=>obtain⟨t,rfl⟩:=r;rfl
 | ref _=>cases r;rfl
 | ty _=>cases r;rfl
theorem tF {j pos'} (ha:PE X a ta):PC X .Is a (.Constant .none j pos') (Ak ta):=by
 intro pins s σ H Q I h;refine jC (ha pins s σ H _ I h) λv s1 #[x,H1,I1,r1,q1]=>?_;exact Constant_none (is_none_gen #[.bl _,H1,I1,by rw[r1.none_iff];rfl,q1])
inductive xK (Q:Bool->Hp->Prop) (x:V) (H1:Hp):Prop
 | mk (c:_) (h0:x=.bl c) (h1:Q c H1):xK Q x H1
def tB (t:TE):TT:=λσ H Q=>t σ H λx H1=>xK Q x H1
theorem ny {op:CmpOp}{t:TE} (h:PC X op a b t) (h1:behindInMarks op b=false:=by first|exact M5 _ (by decide) (by decide)|rfl):PE X (.Compare a [op] [b] pos) t:=λpins s σ H Q I hw=>wpAny_Compare1 (h pins s σ H Q I hw) h1
theorem uh {op:CmpOp}{t:TE} (h:PC X op a b t) (h1:behindInMarks op b=false:=by first|exact M5 _ (by decide) (by decide)|rfl):PT X (.Compare a [op] [b] pos) (tB t):=by
 intro pins s σ H Q I hw;refine wpAny_isTrue_Compare1 (jC (h pins s σ H _ I hw) λv s1 h1=>jC h1 λu s2 h2=>jC h2 λc s3 #[x,H1,I1,r1,q1]=>?_) h1;obtain⟨d,rfl,q⟩:=q1;cases r1;exact wpAny_truthy_bool #[H1,I1,q]
theorem Jr {t:TE} (h:PE X e t) (he:∀whole,isTrue e X.env whole=(do let v <-whole;standAt e.pos;holding [v] (truthy v)):=by intro _;rfl):PT X e (tB t):=by
 intro pins s σ H Q I hw;refine isTrue_plain (jC (h pins s σ H _ I hw) λv s1 #[x,H1,I1,r1,q1]=>?_) (he _);obtain⟨d,rfl,q⟩:=q1;cases r1;exact wpAny_truthy_bool #[H1,I1,q]
variable {tA Oo:TT}{rest:Ba}
def Af (t u:TT):TT:=λσ H Q=>t σ H λc H1=>if c=true then u σ H1 Q else Q false H1
def AH (t u:TT):TT:=λσ H Q=>t σ H λc H1=>if c=true then Q true H1 else u σ H1 Q
def An (t:TT):TT:=λσ H Q=>t σ H λc H1=>Q (!c) H1
theorem V8 (ha:PT X a tA):PW X (.BoolOp .And [a] pos) tA:=by
 intro wh pins s σ H Q I h;refine isTrue_and (jC (ha pins s σ H Q I h) λc s1 e=>?_);cases c with
 | true=>exact isTrue_and_nil e
 | false=>exact e
theorem US (ha:PT X a tA):PW X (.BoolOp .Or [a] pos) tA:=by
 intro wh pins s σ H Q I h;refine isTrue_or (jC (ha pins s σ H Q I h) λc s1 e=>?_);cases c with
 | false=>exact isTrue_or_nil e
 | true=>exact e
theorem vK (ha:PT X a tA) (hb:PW X (.BoolOp .And (b::rest) pos) Oo):PW X (.BoolOp .And (a::b::rest) pos) (Af tA Oo):=by
 intro wh pins s σ H Q I h;refine isTrue_and (jC (ha pins s σ H _ I h) λc s1 #[H1,I1,q1]=>?_);cases c with
 | true=>exact hb wh pins s1 σ H1 Q I1 q1
 | false=>exact#[H1,I1,q1]
theorem UU (ha:PT X a tA) (hb:PW X (.BoolOp .Or (b::rest) pos) Oo):PW X (.BoolOp .Or (a::b::rest) pos) (AH tA Oo):=by
 intro wh pins s σ H Q I h;refine isTrue_or (jC (ha pins s σ H _ I h) λc s1 #[H1,I1,q1]=>?_);cases c with
 | true=>exact#[H1,I1,q1]
 | false=>exact hb wh pins s1 σ H1 Q I1 q1
theorem JF (ha:PT X a tA):PT X (.UnaryOp .Not a pos) (An tA):=by
 intro pins s σ H Q I h;exact isTrue_not (jC (ha pins s σ H (λc H1=>Q (!c) H1) I h) λc s1 #[H1,I1,q1]=>#[H1,I1,q1])
inductive ic (tb:TE) (σ:St) (Q:VK) (x:V) (H1:Hp):Prop
 | mk (c:_) (h0:x=.bl c) (h1:if c=true then tb σ H1 Q else Q (.bl false) H1):ic tb σ Q x H1
def xk (ta tb:TE):TE:=λσ H Q=>ta σ H λx H1=>ic tb σ Q x H1
inductive ii (Q:VK) (x:V) (H1:Hp):Prop
 | mk (c:_) (h0:x=.bl c) (h1:Q (.bl (!c)) H1):ii Q x H1
def xp (ta:TE):TE:=λσ H Q=>ta σ H λx H1=>ii Q x H1
theorem Vx {op}{t:TE} (h:PE X a t):PE X (.BoolOp op [a] pos) t:=λpins s σ H Q I hw=>BoolOp_one (h pins s σ H Q I hw)
theorem UR (ha:PE X a ta) (hb:PE X (.BoolOp .And (b::rest) pos) tb):PE X (.BoolOp .And (a::b::rest) pos) (xk ta tb):=by
 intro pins s σ H Q I h;refine BoolOp_and (jC (ha pins s σ H _ I h) λv s1 #[x,H1,I1,r1,q1]=>?_);obtain⟨c,rfl,q1⟩:=q1;cases r1;refine wpAny_truthy_bool ?_;cases c with
 | true=>exact hb pins s1 σ H1 Q I1 q1
 | false=>exact#[.bl false,H1,I1,rfl,q1]
theorem tG (ha:PE X a ta):PE X (.UnaryOp .Not a pos) (xp ta):=by
 intro pins s σ H Q I h;refine UnaryOp_ (jC (ha pins s σ H _ I h) λv s1 #[x,H1,I1,r1,q1]=>?_);obtain⟨c,rfl,q1⟩:=q1;cases r1;exact not_of (wpAny_truthy_bool #[.bl (!c),H1,I1,rfl,q1])
end
def jo (K:AQ) (H:Hp) (a:Addr) (xs:List V):Prop :=
 Rd H a (.lst xs) \/
  ∃(o:Obj) (Bi:A2) (n:Nat),K.lookup a=some o/\o.cls=.type "list"/\o.dict=none/\o.data=.seq Bi n/\Bi.size<=sizeLine/\jA xs Bi.toList
def jD (K:AQ) (H:Hp) (a:Addr) (xs:List V):Prop :=
 Rd H a (.tup xs) \/
  ∃(o:Obj) (Bi:A2) (n:Nat),K.lookup a=some o/\o.cls=.type "tuple"/\o.data=.seq Bi n/\Bi.size<=sizeLine/\jA xs Bi.toList
def xR:Value->Option V
 | .none=>some .non
 | .bool b=>some (.bl b)
 | .int i _=>some (.int i)
 | .str x _=>some (.str x)
 | .bytes b _=>some (.byt b)
 | .float b _=>some (.flt b)
 | .ref a=>some (.ref a)
 | .type n=>some (.ty n)
 | _=>none
theorem jF.abs {x:V}{u:Value} (r:jF x u):xR u=some x:=by
 cases x with
 | non=>cases r;rfl
 | bl _=>cases r;rfl
 | int _=>obtain⟨t,rfl⟩:=r;rfl
 | str _=>obtain⟨t,rfl⟩:=r;rfl
 | byt _=>obtain⟨t,rfl⟩:=r;rfl
 | flt _=>obtain⟨t,rfl⟩:=r;rfl
 | ref _=>cases r;rfl
 | ty _=>cases r;rfl
theorem jF.inj {x:V}{u:Value} (r:jF x u) (q:jF y u):x=y:=Option.some.inj (r.abs.symm.trans q.abs)
theorem jA.inj:∀{xs ys:List V} {us:AW},jA xs us->jA ys us->xs=ys
 | _,_,_,.nil,.nil=>rfl
 | _,_,_,.cons r t,.cons r' t'=>by rw[r.inj r',jA.inj t t']
section
variable {X:Cx}{pins:AU}{σ:St}{H:Hp}{s:Shared}{a:Addr}{xs ys:List V}
theorem jo.of {K:AQ} (h:H a=some (.lst xs)):jo K H a xs:=.inl (.inl h)
theorem jD.of {K:AQ} (h:H a=some (.tup xs)):jD K H a xs:=.inl (.inl h)
theorem jn.list (I:jn X pins σ H s) (h:jo X.K H a xs):∃Bi:List Value,jA xs Bi/\PlainL s.heap a Bi.toArray/\xs.length<=sizeLine:=by
 rcases h with h|⟨o,Bi,n,hk,hc,hd,hs,hz,r⟩
 ·obtain⟨z,Bi,n,r,e⟩:=h.ok I.hok;exact#[Bi,r,#[_,n,e,rfl,rfl,rfl],z]
 ·refine#[Bi.toList,r,#[o,n,I.kIn a o hk,hc,hd,by simpa using hs],?_];have e:=r.length;simp only[yr] at e;omega
theorem jn.tuple (I:jn X pins σ H s) (h:jD X.K H a xs):∃Bi:List Value,jA xs Bi/\IsTup s.heap a Bi.toArray/\xs.length<=sizeLine:=by
 rcases h with h|⟨o,Bi,n,hk,hc,hs,hz,r⟩
 ·obtain⟨z,Bi,r,p⟩:=h.ok I.hok;exact#[Bi,r,p,z]
 ·refine#[Bi.toList,r,#[o,I.kIn a o hk,hc,n,by simpa using hs],?_];have e:=r.length;simp only[yr] at e;omega
theorem jn.list_inj (I:jn X pins σ H s) (h:jo X.K H a xs) (h':jo X.K H a ys):xs=ys:=by
 obtain⟨Bi,r,⟨o,n,e,_,_,d⟩,_⟩:=I.list h;obtain⟨its',r',⟨o',n',e',_,_,d'⟩,_⟩:=I.list h';rw[e] at e';cases e';rw[d] at d';injection d' with d1 _
 have:Bi=its':=by simpa using congrArg Array.toList d1
 subst this;exact r.inj r'
theorem jn.tuple_inj (I:jn X pins σ H s) (h:jD X.K H a xs) (h':jD X.K H a ys):xs=ys:=by
 obtain⟨Bi,r,⟨o,e,_,n,d⟩,_⟩:=I.tuple h;obtain⟨its',r',⟨o',e',_,n',d'⟩,_⟩:=I.tuple h';rw[e] at e';cases e';rw[d] at d';injection d' with d1 _
 have:Bi=its':=by simpa using congrArg Array.toList d1
 subst this;exact r.inj r'
end
section
variable {X:Cx}{st:Stmt}{rest:List Stmt}{t u:TS}{e:Expr}{te:TE}{pos:Pos}
def xo:TS:=λD σ H=>D.nx σ H
def UZ (t u:TS):TS:=λD σ H=>t { D with nx:=u D } σ H
theorem jL:z6 X [] xo:=λ_ _ σ H _ I h=>wpAny_execs_nil #[σ,H,I,h]
theorem jh (h1:PS X st t) (h2:z6 X rest u):z6 X (st::rest) (UZ t u):=by
 intro pins s σ H D I h;refine wpAny_execs_cons (jC (h1 pins s σ H { D with nx:=u D } I h) λf s1 q=>?_);cases f with
 | next =>
  obtain⟨σ',H',I',q⟩:=q;exact h2 pins s1 σ' H' D I' q
 | ret v=>exact q
 | brk=>exact q
 | cont=>exact q
theorem jj (h1:PS X st t):z6 X [st] t:=by
 intro pins s σ H D I h;refine wpAny_execs_cons (jC (h1 pins s σ H D I h) λf s1 q=>?_);cases f with
 | next=>exact wpAny_execs_nil q
 | ret v=>exact q
 | brk=>exact q
 | cont=>exact q
theorem jn.quiet (I:jn X pins σ H s):interactive X.env=false:=by simp [interactive,I.ok.kind]
def xn (te:TE):TS:=λD σ H=>te σ H λ_ H1=>D.nx σ H1
theorem jE (he:PE X e te) (hs:swapsWith e none pos.line X.env=pure false:=by rfl):PS X (.Expr e pos) (xn te):=by
 intro pins s σ H D I h;exact wpAny_Expr_any (jC (he pins s σ H _ I h) λv s1 #[x,H1,I1,r1,q1]=>#[σ,H1,I1,q1]) I.quiet hs
def Ao (te:TE):TS:=λD σ H=>te σ H D.rt
theorem jB (he:PE X e te):PS X (.Return (some e) pos) (Ao te):=by
 intro pins s σ H D I h;exact wpAny_Return_some (jC (he pins s σ H _ I h) λv s1 #[x,H1,I1,r1,q1]=>#[x,σ,H1,I1,r1,q1])
def Aj (c:TT) (t u:TS):TS:=λD σ H=>c σ H λb H1=>if b=true then t D σ H1 else u D σ H1
theorem jX {c:Expr}{a b:List Stmt} (hc:PT X c tc) (ha:z6 X a t) (hb:z6 X b u):PS X (.If c a b pos) (Aj tc t u):=by
 intro pins s σ H D I h;refine wpAny_If (jC (hc pins s σ H _ I h) λd s1 #[H1,I1,q1]=>?_);cases d with
 | true=>exact ha pins s1 σ H1 D I1 q1
 | false=>exact hb pins s1 σ H1 D I1 q1
def wq:TS:=λ_ _ _=>False
theorem JX:PS X st wq:=λ_ _ _ _ _ _ h=>h.elim
end
abbrev TG:=V->St->Hp->(St->Hp->Prop)->Prop
abbrev kX:=List V->St->Hp->(St->Hp->Prop)->Prop
def PG (X:Cx) (target:Expr) (t:TG):Prop :=
 ∀(pins:AU) (s:Shared) (σ:St) (H:Hp) (v:V) (u:Value) (Q:St->Hp->Prop),jn X pins σ H s->jF v u->t v σ H Q ->
  wpAny (model X.prog X.w) X.A (assign target X.env u) (λ_ s'=>∃σ' H',jn X pins σ' H' s'/\Q σ' H') X.xe s
def oO (X:Cx) (ts:Ba) (t:kX):Prop :=
 ∀(pins:AU) (s:Shared) (σ:St) (H:Hp) (vs:List V) (us:AW) (Q:St->Hp->Prop),jn X pins σ H s->jA vs us->t vs σ H Q ->
  wpAny (model X.prog X.w) X.A (assignInOrder ((assignEach ts X.env).map (·.2)) us) (λ_ s'=>∃σ' H',jn X pins σ' H' s'/\Q σ' H') X.xe s
abbrev iG:=V->V->V->Hp->(Hp->Prop)->Prop
def rH (X:Cx) (t:iG):Prop :=
 ∀(pins:AU) (s:Shared) (σ:St) (H:Hp) (o i v:V) (ov iv u:Value) (Q:Hp->Prop),jn X pins σ H s->jF o ov->jF i iv->jF v u->t o i v H Q ->
  wpAny (model X.prog X.w) X.A (setItem ov iv u) (λ_ s'=>∃H',jn X pins σ H' s'/\Q H') X.xe s
section
variable {X:Cx}{pos:Pos}
def Gw (i:Nat):TG:=λv σ H Q=>Q (σ.set i (some v)) H
theorem js (i:Nat) {x:Str} (hN:X.N.Nodup:=by exact mL (by kernel_rfl)) (hi:X.N[i]?=some x:=by rfl) (hx:N9 X.env.scope x:=by first|exact .inl rfl|exact .inr rfl) (hf:X.fn x=true\/X.env.scope.names.lookup x=some .local:=by first|exact .inl rfl|exact .inr rfl|assumption):PG X (.Name x pos) (Gw i):=by
 intro pins s σ H v u Q I r h;exact wpAny_assign_Name (n8 I hN hi hx r (λs' I'=>#[_,H,I',h]) hf)
def xV:kX:=λvs σ H Q=>vs=[]/\Q σ H
def wP (t:TG) (u:kX):kX:=λvs σ H Q=>∃v r,vs=v::r/\t v σ H λσ' H'=>u r σ' H' Q
theorem vy:oO X [] xV:=by
 intro pins s σ H vs us Q I r h;obtain⟨e,h⟩:=h;subst e;cases r;exact assignInOrder_nil #[σ,H,I,h]
theorem Jc {t:TG}{u:kX} (h1:PG X e t) (h2:oO X es u)
  (hs:(assignEach (e::es) X.env).map (·.2)=assign e X.env::(assignEach es X.env).map (·.2):=by rfl):oO X (e::es) (wP t u):=by
 intro pins s σ H vs us Q I r h;obtain⟨v,vr,e1,h⟩:=h;subst e1;cases r with
 | cons r rr =>
  rw[hs];refine assignInOrder_cons (jC (h1 pins s σ H _ _ _ I r h) λ_ s1 #[σ1,H1,I1,q1]=>?_);exact h2 pins s1 σ1 H1 _ _ Q I1 rr q1
inductive oQ (K:AQ) (n:Nat) (t:kX) (v:V) (σ:St) (H:Hp) (Q:St->Hp->Prop):Prop
 | mk (a:_) (xs:_) (h0:v=.ref a) (h1:jD K H a xs) (h2:xs.length=n) (h3:t xs σ H Q):oQ K n t v σ H Q
def xX (K:AQ) (n:Nat) (t:kX):TG:=λv σ H Q=>oQ K n t v σ H Q
theorem Vy {K:AQ}{t:kX} (h:oO X es t) (hc:X.calm=true:=by rfl)
  (hn:(assignEach es X.env).length=n:=by rfl) (BK:(assignEach es X.env).findIdx? (·.1)=none:=by rfl) (hK:X.K=K:=by first|exact Vm|exact rfl):PG X (.Tuple es k pos) (xX K n t):=by
 subst hK;intro pins s σ H v u Q I r hw;obtain⟨a,xs,e1,hq,hl,hw⟩:=hw;subst e1;cases r;obtain⟨Bi,rv,ht,hz⟩:=I.tuple hq;refine assign_Tuple_tuple (I.ok.hd hc) ht (by simp [hn,<-hl,rv.length]) BK λh' hx=>?_;have I1:jn X pins σ H { s with heap:=h' }:=I.kept (t':=s.toks) λb o e=>hx b o (yE (yq e)) e;exact h pins _ σ H xs _ Q I1 (by simpa using rv) hw
def xW (to ti:TE) (t:iG):TG:=λv σ H Q=>to σ H λo H1=>ti σ H1 λi H2=>t o i v H2 λH3=>Q σ H3
theorem nF {o i:Expr}{to ti:TE}{t:iG} (ho:PE X o to) (hi:PE X i ti) (hs:rH X t)
  (ha:∀v,assign (.Subscript o i pos) X.env v=(do
   let ov <-holding [v] (eval o X.env)
   let iv <-holding [v,ov] (eval i X.env)
   standAt pos
   holding [v,ov,iv] (setItem ov iv v)
   release [v,ov,iv] []):=by intro _;rfl):PG X (.Subscript o i pos) (xW to ti t):=by
 intro pins s σ H v u Q I r h;rw[ha];refine Bf (wpAny_holding (jC (ho pins s σ H _ I h) λov s1 #[x,H1,I1,r1,q1]=>?_));refine Bf (wpAny_holding (jC (hi pins s1 σ H1 _ I1 q1) λiv s2 #[y,H2,I2,r2,q2]=>?_));refine Bf (wpAny_standAt (Bf (wpAny_holding (jC (hs pins s2 σ H2 x y v ov iv u _ I2 r1 r2 r q2) λ_ s3 #[H3,I3,q3]=>?_))));exact wpAny_release #[σ,H3,I3,q3]
def c8 (te:TE) (g:TG):TS:=λD σ H=>te σ H λx H1=>g x σ H1 D.nx
theorem GX (he:PE X e te) (hg:PG X tg g) (hs:swapsWithSole [tg] e pos.line X.env=pure false:=by rfl) (hw:swappedStores [tg] e X.env=pure none:=by rfl)
  (h1:(assignEach [tg] X.env).map (·.2)=[assign tg X.env]:=by rfl):PS X (.Assign [tg] e pos) (c8 te g):=by
 intro pins s σ H D I h;refine wpAny_Assign_stores (jC (he pins s σ H _ I h) λv s1 #[x,H1,I1,r1,q1]=>?_) hs hw;rw[h1];exact jC (hg pins s1 σ H1 x v _ I1 r1 q1) λ_ s2 q=>q
theorem jz (i:Nat) {x:Str} {pos':Pos} (he:PE X e te) (hN:X.N.Nodup:=by exact mL (by kernel_rfl)) (hi:X.N[i]?=some x:=by rfl) (hx:N9 X.env.scope x:=by first|exact .inl rfl|exact .inr rfl) (hs:swapsWith e (some (.Name x pos')) pos.line X.env=pure false:=by rfl) (hf:X.fn x=true\/X.env.scope.names.lookup x=some .local:=by first|exact .inl rfl|exact .inr rfl|assumption) :
  PS X (.Assign [.Name x pos'] e pos) (c8 te (Gw i)):=by
 intro pins s σ H D I h;refine wpAny_Assign_Name (jC (he pins s σ H _ I h) λv s1 #[y,H1,I1,r1,q1]=>?_) hs;exact n8 I1 hN hi hx r1 (λs2 I2=>#[_,H1,I2,q1]) hf
end
section
variable {X:Cx}{pos:Pos}
def wu (c:TT) (tb:TS):TS:=λD σ H=>∃W:Nat->St->Hp->Prop,(∃m,W m σ H)/\∀m σ H,W m σ H ->
 c σ H λb H1=>if b=true then ∃N:St->Hp->Prop,(∀σ' H',N σ' H'->∃m',m'<m/\W m' σ' H')/\tb { D with nx:=N,ct:=N,bk:=D.nx } σ H1 else D.nx σ H1
theorem nK {c:Expr} (hp:PassesOwn (model X.prog X.w) X.A X.env X.xe) (hc:PT X c tc) (hb:z6 X body tb):PS X (.While c body [] pos) (wu tc tb):=by
 intro pins s σ H D I h;obtain⟨W,⟨m0,w0⟩,turn⟩:=h;refine wpAny_While (codeAny_whileLoop (λn s'=>∃σ' H',jn X pins σ' H' s'/\W n σ' H') ?_ m0 #[σ,H,I,w0]);rintro n s1 ⟨σ1,H1,I1,w1⟩;refine wpAny_passesOwn hp (jC (hc pins s1 σ1 H1 _ I1 (turn n σ1 H1 w1)) λb s2 #[H2,I2,q2]=>?_);cases b with
 | true =>
  obtain⟨N,hN,q2⟩:=q2;rw[if_pos rfl];refine wpAny_passesOwn hp (jC (hb pins s2 σ1 H2 _ I2 q2) λf s3 q3=>?_);cases f with
  | next =>
   obtain⟨σ3,H3,I3,n3⟩:=q3;obtain⟨m',hm,w3⟩:=hN σ3 H3 n3;exact#[m',hm,σ3,H3,I3,w3]
  | cont =>
   obtain⟨σ3,H3,I3,n3⟩:=q3;obtain⟨m',hm,w3⟩:=hN σ3 H3 n3;exact#[m',hm,σ3,H3,I3,w3]
  | brk=>exact q3
  | ret v=>exact q3
 | false =>
  rw[if_neg yo];exact wpAny_execs_nil #[σ1,H2,I2,q2]
end
structure It where
 go:Nat->Hp->Prop
 yld:Nat->Hp->V->Hp->Prop
 stop:Nat->Hp->Prop
def zb (X:Cx) (pins:AU) (H:Hp) (b:Addr):Prop :=
 H b=none/\b≠X.env.locals/\b ∉ X.fs/\(b∈X.ex\/X.s₀.heap.objs.size<=b)/\(∀x c,X.env.cells.lookup x=some c->c≠b)/\∀p∈X.pn++pins,p.1≠b
theorem jn.fpOk {H':Hp}{b:Addr} (I:jn X pins σ H s) (hb:s.heap.objs.size<=b) (hn:H' b=none):zb X pins H' b:=by
 refine#[hn,Wg (yF I.lt hb),I.nofs hb,.inr (yp I.sz hb),λx c e z=>?_,λp hp z=>?_]
 ·obtain⟨v,q⟩:=I.cell x c e;exact absurd (yF q.lt (by rw[z];exact hb)) (QP _)
 ·exact absurd (yF (yq (I.pin p hp).1) (by rw[z];exact hb)) (QP _)
structure gD (P:Be) (w:World) (K:AQ) (tg:Expr) (J:It) (fp:AX) (it:Addr) (tn:Nat->Heap->Prop) (nm:Bool):Prop where
 mem:it∈fp
 obj:∀i h,tn i h->∀b∈fp,∃o,h.get? b=some o/\∀v,o.data≠.cell v
 keep:∀i h h',tn i h->(∀b∈fp,∀o,h.get? b=some o->h'.get? b=some o)->tn i h'
 item:∀(X:Cx),X.prog=P->X.w=w->X.K=K->(nm=true->X.calm=true)->∀(i:Nat) (pins:AU) (s:Shared) (σ:St) (H:Hp) (E:AL),jn X pins σ H s->(∀b∈fp,zb X pins H b)->tn i s.heap->J.go i H ->
  wpAny (model P w) X.A (pyNext (.ref it)) (λr s1=>∃u,r=some u /\
   wpAny (model P w) X.A (letOwnedTupleGo tg (.ref it) u) (λ_ s2=>∃x H',jn X pins σ H' s2/\jF x u/\J.yld i H x H'/\tn (i+1) s2.heap/\∀b∈fp,H' b=none) E s1) E s
 done:∀(X:Cx),X.prog=P->X.w=w->X.K=K->(nm=true->X.calm=true)->∀(i:Nat) (pins:AU) (s:Shared) (σ:St) (H:Hp) (E:AL),jn X pins σ H s->(∀b∈fp,zb X pins H b)->tn i s.heap->J.stop i H ->
  wpAny (model P w) X.A (pyNext (.ref it)) (λr s1=>r=none/\jn X pins σ H s1) E s
 self:∀(A:Around) (i:Nat) (s:Shared) (Q:AL) (E:AL),tn i s.heap->Q (.ref it) s->wpAny (model P w) A (pyIter (.ref it)) Q E s
def ze (X:Cx) (tg:Expr) (J:It) (fp:AX) (it:Addr) (tn:Nat->Heap->Prop):Prop:=∃nm,gD X.prog X.w X.K tg J fp it tn nm/\(nm=true->X.calm=true)
theorem ze.of {J:It}{tn:Nat->Heap->Prop} (T:gD X.prog X.w X.K tg J fp it tn false):ze X tg J fp it tn:=#[false,T,λz=>by cases z]
abbrev TI:=St->Hp->(It->Hp->Prop)->Prop
def rG (X:Cx) (pins:AU) (σ:St) (tg:Expr) (R:It->Hp->Prop) (Po:Value) (s2:Shared):Prop :=
 ∃(it:Addr) (fp:AX) (tn:Nat->Heap->Prop) (J:It) (H':Hp),Po=.ref it/\jn X pins σ H' s2/\ze X tg J fp it tn/\tn 0 s2.heap/\(∀b∈fp,zb X pins H' b)/\R J H'
def PI (X:Cx) (tg iter:Expr) (wi:TI):Prop :=
 ∀(pins:AU) (s:Shared) (σ:St) (H:Hp) (R:It->Hp->Prop),jn X pins σ H s->wi σ H R ->
  wpAny (model X.prog X.w) X.A (eval iter X.env) (λv s1=>wpAny (model X.prog X.w) X.A (pyIter v) (rG X pins σ tg R) X.xe s1) X.xe s
theorem Gy {A:Around}{u:Value}{o:Obj}{n:String}{vs:A2}{Q:AM} (ho:s.heap.get? it=some o) (hc:o.cls=.type n) (hd:o.data=.fields vs)
  (hn:["enumerate","zip","dict_itemiterator","dict_reverseitemiterator","odict_iterator","itertools.zip_longest","itertools.pairwise"].contains n=false) (hQ:Q () s):wpAny M A (letOwnedTupleGo tg (.ref it) u) Q E s:=by
 unfold letOwnedTupleGo;cases tg<;>first
  | exact Bg hQ
  | (cases u<;>first
    | exact Bg hQ
    | (refine Bf (wpAny_load ho ?_)
       rw[hc,hd];show wpAny M A (if (["enumerate","zip","dict_itemiterator","dict_reverseitemiterator","odict_iterator","itertools.zip_longest","itertools.pairwise"].contains n&&vs[0]?==some (rawInt _))=true then _ else _) Q E s;rw[if_neg (by intro h;rw[hn,QJ] at h;cases h)];exact Bg hQ))
def Z8 (K:AQ) (a:Addr):It :=
 #[λi H=>∃xs x,jo K H a xs/\xs[i]?=some x,λi H x H'=>H'=H/\∀xs,jo K H a xs->xs[i]?=some x,λi H=>∃xs,jo K H a xs/\xs.length<=i]
def N8 (K:AQ) (a:Addr):It :=
 #[λi H=>∃xs x,jD K H a xs/\xs[i]?=some x,λi H x H'=>H'=H/\∀xs,jD K H a xs->xs[i]?=some x,λi H=>∃xs,jD K H a xs/\xs.length<=i]
def zL (lo:Int) (n:Nat):It:=#[λi _=>i<n,λi H x H'=>H'=H/\x=.int (lo+i),λi _=>n<=i]
theorem ip {w:World}{K:AQ} (a it:Addr):gD P w K tg (Z8 K a) [it] it (λi h=>h.IsListIter it a i) false where
 mem:=by simp
 obj:=λi h st b hb=>by
  have e:b=it:=by simpa using hb
  subst e;obtain⟨o,e,c,d⟩:=st;exact#[o,e,λv z=>by rw[d] at z;cases z]
 keep:=λi h h' st k=>st.at λo e=>k it (by simp) o e
 item:=by
  intro X hP hw hK hc i pins s σ H E I hf st hg;subst hP hw hK;obtain⟨xs,x,hq,hx⟩:=hg;obtain⟨Bi,rv,p,hz⟩:=I.list hq;obtain⟨u,hu,ru⟩:=rv.get hx;obtain⟨f0,f1,f2,f3,f4,f5⟩:=hf it (by simp);refine wpAny_pyNext_list_item st p.isList (x:=u) (by simpa using hu) λh' Ca sb=>?_;have I1:jn X pins σ H { s with heap:=h' }:=I.turned (t':=s.toks) (λb o hb e=>(sb.2 b hb).trans e) f0 f1 f3 f4 f5;obtain⟨o,e,c,d⟩:=id Ca;exact#[u,rfl,Gy (s:={ s with heap:=h' }) e c d (by decide) #[x,H,I1,ru,#[rfl,λys hy=>by rw[I.list_inj hy hq];exact hx],Ca,λb hb=>(hf b hb).1]]
 done:=by
  intro X hP hw hK hc i pins s σ H E I hf st hg;subst hP hw hK;obtain⟨xs,hq,hx⟩:=hg;obtain⟨Bi,rv,p,hz⟩:=I.list hq;obtain⟨f0,f1,f2,f3,f4,f5⟩:=hf it (by simp);have hl:=rv.length;exact aE (I.hn.now I.hok) st p.isList (by simp;omega) λh' eb=>#[rfl,I.turned (t':=s.toks) (λb o hb e=>eb b o hb e) f0 f1 f3 f4 f5]
 self:=λ_ _ _ _ _ st h=>wpAny_pyIter_listiter st h
theorem di {w:World}{K:AQ} (a it:Addr):gD P w K tg (N8 K a) [it] it (λi h=>h.IsTupleIter it a i) false where
 mem:=by simp
 obj:=λi h st b hb=>by
  have e:b=it:=by simpa using hb
  subst e;obtain⟨o,e,c,d⟩:=st;exact#[o,e,λv z=>by rw[d] at z;cases z]
 keep:=λi h h' st k=>st.at λo e=>k it (by simp) o e
 item:=by
  intro X hP hw hK hc i pins s σ H E I hf st hg;subst hP hw hK;obtain⟨xs,x,hq,hx⟩:=hg;obtain⟨Bi,rv,p,hz⟩:=I.tuple hq;obtain⟨u,hu,ru⟩:=rv.get hx;obtain⟨f0,f1,f2,f3,f4,f5⟩:=hf it (by simp);refine wpAny_pyNext_tuple_item st (show s.heap.IsTuple a Bi.toArray from p) (x:=u) (by simpa using hu) λh' Ca sb=>?_;have I1:jn X pins σ H { s with heap:=h' }:=I.turned (t':=s.toks) (λb o hb e=>(sb.2 b hb).trans e) f0 f1 f3 f4 f5;obtain⟨o,e,c,d⟩:=id Ca;exact#[u,rfl,Gy (s:={ s with heap:=h' }) e c d (by decide) #[x,H,I1,ru,#[rfl,λys hy=>by rw[I.tuple_inj hy hq];exact hx],Ca,λb hb=>(hf b hb).1]]
 done:=by
  intro X hP hw hK hc i pins s σ H E I hf st hg;subst hP hw hK;obtain⟨xs,hq,hx⟩:=hg;obtain⟨Bi,rv,p,hz⟩:=I.tuple hq;obtain⟨f0,f1,f2,f3,f4,f5⟩:=hf it (by simp);have hl:=rv.length;exact oE (I.hn.now I.hok) st (show s.heap.IsTuple a Bi.toArray from p) (by simp;omega) λh' eb=>#[rfl,I.turned (t':=s.toks) (λb o hb e=>eb b o hb e) f0 f1 f3 f4 f5]
 self:=λ_ _ _ _ _ st h=>wpAny_pyIter_tupleiter st h
theorem G6 {w:World}{K:AQ} (it:Addr) (lo:Int) (n:Nat):gD P w K tg (zL lo n) [it] it (λi h=>IsRangeIter h it (lo+(i:Nat)*1) ((n:Int) - (i:Nat)) 1) false where
 mem:=by simp
 obj:=λi h st b hb=>by
  have e:b=it:=by simpa using hb
  subst e;exact#[_,st,λv z=>by
   have z':Data.fields _=Data.cell v:=z;cases z']
 keep:=λi h h' st k=>k it (by simp) _ st
 item:=by
  intro X hP hw hK hc i pins s σ H E I hf st hg;subst hP hw hK;obtain⟨f0,f1,f2,f3,f4,f5⟩:=hf it (by simp);refine wpAny_pyNext_range_item st (by have:i<n:=hg;omega) λh' Ca sb=>?_;obtain⟨tk,HP⟩:∃tk,tk=s.toks+1:=#[_,rfl];rw[<-HP];have I1:jn X pins σ H { s with heap:=h',toks:=tk }:=I.turned (λb o hb e=>(sb.2 b hb).trans e) f0 f1 f3 f4 f5;have CG:IsRangeIter h' it (lo+((i+1:Nat):Int)*1) ((n:Int) - ((i+1:Nat):Int)) 1:=by
   rw[show lo+((i+1:Nat):Int)*1=lo+(i:Int)*1+1 by omega,show (n:Int) - ((i+1:Nat):Int)=(n:Int) - (i:Int) - 1 by omega];exact Ca
  refine#[_,rfl,Gy (s:={ s with heap:=h',toks:=tk }) (n:="range_iterator") Ca rfl rfl (by decide) #[.int (lo+i),H,I1,#[s.toks,?_],#[rfl,rfl],CG,λb hb=>(hf b hb).1]];rw[Int.mul_one]
 done:=by
  intro X hP hw hK hc i pins s σ H E I hf st hg;subst hP hw hK;obtain⟨f0,f1,f2,f3,f4,f5⟩:=hf it (by simp);exact lP (I.hn.now I.hok) st (by have:n<=i:=hg;omega) λh' eb=>#[rfl,I.turned (t':=s.toks) (λb o hb e=>eb b o hb e) f0 f1 f3 f4 f5]
 self:=λ_ _ _ _ _ st h=>wpAny_pyIter_rangeiter st h
section
variable {X:Cx}{tg:Expr}
inductive eI (K:AQ) (R:It->Hp->Prop) (x:V) (H1:Hp):Prop
 | mk (a:_) (h0:x=.ref a) (h1:(∃xs,jo K H1 a xs)) (h2:R (Z8 K a) H1):eI K R x H1
def wS (K:AQ) (tl:TE):TI:=λσ H R=>tl σ H λx H1=>eI K R x H1
inductive oS (K:AQ) (R:It->Hp->Prop) (x:V) (H1:Hp):Prop
 | mk (a:_) (h0:x=.ref a) (h1:(∃xs,jD K H1 a xs)) (h2:R (N8 K a) H1):oS K R x H1
def xY (K:AQ) (tl:TE):TI:=λσ H R=>tl σ H λx H1=>oS K R x H1
theorem jN {K:AQ} (hl:PE X l tl) (hK:X.K=K:=by first|exact Vm|exact rfl):PI X tg l (wS K tl):=by
 subst hK;intro pins s σ H R I h;refine jC (hl pins s σ H _ I h) λv s1 #[x,H1,I1,r1,q1]=>?_;obtain⟨a,e,⟨xs,hq⟩,q⟩:=q1;subst e;cases r1;obtain⟨Bi,rv,p,hz⟩:=I1.list hq;refine wpAny_pyIter_list p.isList ?_;refine#[s1.heap.objs.size,[s1.heap.objs.size],_,_,H1,rfl,I1.kept (t':=s1.toks) λb o e=>yd _ e,ze.of (ip a _),#[_,yz _ rfl,rfl,rfl],λb hb=>?_,q];have e:b=s1.heap.objs.size:=by simpa using hb
 subst e;exact I1.fpOk (yg _) (I1.hok.fresh (yg _))
theorem fS {K:AQ} (hl:PE X l tl) (hK:X.K=K:=by first|exact Vm|exact rfl):PI X tg l (xY K tl):=by
 subst hK;intro pins s σ H R I h;refine jC (hl pins s σ H _ I h) λv s1 #[x,H1,I1,r1,q1]=>?_;obtain⟨a,e,⟨xs,hq⟩,q⟩:=q1;subst e;cases r1;obtain⟨Bi,rv,p,hz⟩:=I1.tuple hq;refine wpAny_pyIter_tuple (show s1.heap.IsTuple a Bi.toArray from p) ?_;refine#[s1.heap.objs.size,[s1.heap.objs.size],_,_,H1,rfl,I1.kept (t':=s1.toks) λb o e=>yd _ e,ze.of (di a _),#[_,yz _ rfl,rfl,rfl],λb hb=>?_,q];have e:b=s1.heap.objs.size:=by simpa using hb
 subst e;exact I1.fpOk (yg _) (I1.hok.fresh (yg _))
theorem nR {R:It->Hp->Prop}{hi:Int}{t u v:Tok}{tk:Nat} (I:jn X pins σ H s) (h1:-(2^62)<=lo) (h2:lo<2^62) (h3:-(2^62)<=hi) (h4:hi<2^62)
  (q:R (zL lo (hi - lo).toNat) H):wpAny (model X.prog X.w) X.A (pyIter (.ref s.heap.objs.size)) (rG X pins σ tg R) E { s with heap:=s.heap.push { cls:=.type "range",data:=.fields (List.toArray [.int lo t,.int hi u,.int 1 v]) },toks:=tk }:=by
 refine wpAny_pyIter_range (IsRange.new ..) (small_one h1 h2 h3 h4) ?_;have I1:jn X pins σ H { s with heap:=s.heap.push { cls:=.type "range",data:=.fields (List.toArray [.int lo t,.int hi u,.int 1 v]) },toks:=tk }:=I.kept λb o e=>yd _ e;refine#[(s.heap.push { cls:=.type "range",data:=.fields (List.toArray [.int lo t,.int hi u,.int 1 v]) }).objs.size,[(s.heap.push { cls:=.type "range",data:=.fields (List.toArray [.int lo t,.int hi u,.int 1 v]) }).objs.size],_,_,H,rfl,
  I1.kept (t':=tk) λb o e=>yd _ e,ze.of (G6 _ lo (hi - lo).toNat),?_,λb hb=>?_,q]
 ·have e1:lo+((0:Nat):Int)*1=lo:=by simp
  have e2:(((hi - lo).toNat:Nat):Int) - ((0:Nat):Int)=Builtin.Range.rangeSize lo hi 1:=by rw[rangeSize_one];split<;>omega
  show IsRangeIter _ _ (lo+((0:Nat):Int)*1) ((((hi - lo).toNat:Nat):Int) - ((0:Nat):Int)) 1;rw[e1,e2];exact yz _ rfl
 ·have e:b=(s.heap.push { cls:=.type "range",data:=.fields (List.toArray [.int lo t,.int hi u,.int 1 v]) }).objs.size:=by simpa using hb
  subst e;exact I1.fpOk (yg _) (I1.hok.fresh (yg _))
inductive eJ (R:It->Hp->Prop) (vs:List V) (H1:Hp):Prop
 | mk (j:Int) (h0:vs=[.int j]) (h1:-(2^62)<=j) (h2:j<2^62) (h3:R (zL 0 j.toNat) H1):eJ R vs H1
def wT (ta:TA):TI:=λσ H R=>ta σ H λvs H1=>eJ R vs H1
inductive eK (R:It->Hp->Prop) (vs:List V) (H1:Hp):Prop
 | mk (i:Int) (j:Int) (h0:vs=[.int i,.int j]) (h1:(-(2^62)<=i/\i<2^62/\-(2^62)<=j/\j<2^62)) (h2:R (zL i (j - i).toNat) H1):eK R vs H1
def wU (ta:TA):TI:=λσ H R=>ta σ H λvs H1=>eK R vs H1
theorem JV {a:Expr}{pos:Pos} (hg:Gl X "range") (hm:X.mg "range"=none) (ha:PA X [a] ta) (hs:starEach [a] X.env=[(false,eval a X.env)]:=by rfl):PI X tg (.Call (.Name "range" p) [a] [] pos) (wT ta):=by
 intro pins s σ H R I h;refine Call_ (VY I hg hm boot_range (PyProof.Rows.callWith_type1 (jC (ha pos pins s σ H _ I h) λus s1 #[vs,H1,I1,r1,q1]=>?_) hs rfl));obtain⟨j,e,q1,q2,q⟩:=q1;subst e;cases r1 with
 | cons r rr =>
  cases rr;obtain⟨t,rfl⟩:=r;exact call_range_1 (nR I1 (by omega) (by omega) q1 q2 (by simpa using q))
theorem VH {a b:Expr}{p pos:Pos} (hg:Gl X "range") (hm:X.mg "range"=none) (ha:PA X [a,b] ta) (hs:starEach [a,b] X.env=[(false,eval a X.env),(false,eval b X.env)]:=by rfl) (Dz:starEach [b] X.env=[(false,eval b X.env)]:=by rfl) :
  PI X tg (.Call (.Name "range" p) [a,b] [] pos) (wU ta):=by
 intro pins s σ H R I h;refine Call_ (VY I hg hm boot_range (PyProof.Rows.callWith_type1 (jC (ha pos pins s σ H _ I h) λus s1 #[vs,H1,I1,r1,q1]=>?_) (by rw[hs,Dz]) (by rw[Dz];rfl)));obtain⟨i,j,e,⟨q1,q2,q3,q4⟩,q⟩:=q1;subst e;cases r1 with
 | cons r rr =>
  cases rr with
  | cons r' rr =>
   cases rr;obtain⟨t,rfl⟩:=r;obtain⟨t',rfl⟩:=r';exact call_range_2 (nR I1 q1 q2 q3 q4 q)
def Ai (wi:TI) (g:TG) (tb:TS):TS:=λD σ H=>wi σ H λJ H1=>∃W:Nat->Nat->St->Hp->Prop,(∃m,W 0 m σ H1)/\∀i m σ H,W i m σ H ->
 (J.stop i H/\D.nx σ H)\/(J.go i H/\∃N:St->Hp->Prop,(∀σ' H',N σ' H'->∃m',m'<m/\W (i+1) m' σ' H')/\∀x H',J.yld i H x H'->g x σ H' λσ2 H2=>tb { D with nx:=N,ct:=N,bk:=D.nx } σ2 H2)
def ZA (fp:AX) (h:Heap):List (Addr×Obj):=fp.filterMap λb=>(h.get? b).map λo=>(b,o)
theorem vZ {b:Addr}{o:Obj} (hb:b∈fp) (e:h.get? b=some o):(b,o)∈ZA fp h:=List.mem_filterMap.mpr #[b,hb,by rw[e];rfl]
theorem fC {p:Addr×Obj} (hp:p∈ZA fp h):p.1∈fp/\h.get? p.1=some p.2:=by
 obtain⟨b,hb,e⟩:=List.mem_filterMap.mp hp;cases q:h.get? b with
 | none=>rw[q] at e;cases e
 | some o =>
  rw[q] at e;have e':(b,o)=p:=Option.some.inj e;subst e';exact#[hb,q]
theorem jn.pinned (I:jn X pins σ H s) (hf:∀b∈fp,zb X pins H b) (ho:∀b∈fp,∃o,s.heap.get? b=some o/\∀v,o.data≠.cell v):jn X (pins++ZA fp s.heap) σ H s :=
 I.pins_of λp hp=>(ym.mp hp).elim (λz=>I.pin p (yy _ z)) λz=>by
  obtain⟨hb,e⟩:=fC z;obtain⟨f0,f1,f2,_⟩:=hf p.1 hb;obtain⟨o,e',d⟩:=ho p.1 hb;rw[e] at e';cases e';exact#[e,f0,f1,f2,d]
theorem jn.unpinned {pl:AU} (I:jn X (pins++pl) σ H s):jn X pins σ H s:=I.pins_of λp hp=>I.pin p (yy _ (yv _ hp))
theorem jS {iter:Expr}{wi:TI}{pos:Pos} (hp:PassesOwn (model X.prog X.w) X.A X.env X.xe) (hi:PI X tg iter wi) (hg:PG X tg g) (hb:z6 X body tb)
  (hs:∀x,foldedSetIterable iter X.env x=pure x:=by intro _;rfl):PS X (.For tg iter body [] pos) (Ai wi g tb):=by
 intro pins s σ H D I h;refine wpAny_For (jC (hi pins s σ H _ I h) λv s1 h1=>jC h1 λPo s2 h2=>?_) hs;obtain⟨it,fp,tn,J,H2,e,I2,T,CG,f2,W,⟨m0,w0⟩,turn⟩:=h2;subst e;obtain⟨nm,T,hc⟩:=T;have Cr:∀{H':Hp},(∀b∈fp,H' b=none)->∀b∈fp,zb X pins H' b:=λhn b hb=>#[hn b hb,(f2 b hb).2];refine codeAny_forLoop_any (λn s'=>∃i σ' H',jn X pins σ' H' s'/\tn i s'.heap/\(∀b∈fp,H' b=none)/\W i n σ' H') ?_ m0 #[0,σ,H2,I2,CG,λb hb=>(f2 b hb).1,w0];rintro n s3 ⟨i,σ3,H3,I3,IM,IP,w3⟩;rcases turn i n σ3 H3 w3 with ⟨stop,qn⟩|⟨go,N,hN,step⟩
 ·refine wpAny_passesOwn hp (jC (T.done X rfl rfl rfl hc i pins s3 σ3 H3 X.xe I3 (Cr IP) IM stop) λr s4 #[hr,I4]=>?_);subst hr;exact wpAny_execs_nil #[σ3,H3,I4,qn]
 ·refine wpAny_passesOwn hp (jC (T.item X rfl rfl rfl hc i pins s3 σ3 H3 X.xe I3 (Cr IP) IM go) λr s4 #[u,hr,h4]=>?_);subst hr;refine wpAny_passesOwn hp (jC h4 λ_ s5 hh=>?_);obtain⟨x,H5,I5,r5,y5,FN,Pp⟩:=hh;have Xv:=I5.pinned (Cr Pp) (T.obj _ _ FN);refine wpAny_passesOwn hp (jC (hg _ s5 σ3 H5 x u _ Xv r5 (step x H5 y5)) λ_ s6 #[σ6,H6,I6,q6]=>?_);refine wpAny_passesOwn hp (jC (hb _ s6 σ6 H6 _ I6 q6) λf s7 q7=>?_);have again:∀{σ7:St} {H7:Hp},jn X (pins++ZA fp s5.heap) σ7 H7 s7->N σ7 H7->∃m,m<n/\∃i σ' H',jn X pins σ' H' s7/\tn i s7.heap/\(∀b∈fp,H' b=none)/\W i m σ' H':=λ{σ7 H7} I7 n7=>by
   obtain⟨m',hm,w7⟩:=hN σ7 H7 n7;refine#[m',hm,i+1,σ7,H7,I7.unpinned,T.keep _ _ _ FN λb hb o e=>(I7.pin (b,o) (yy _ (yy _ (vZ hb e)))).1,λb hb=>?_,w7];obtain⟨o,e,d⟩:=T.obj _ _ FN b hb;exact (I7.pin (b,o) (yy _ (yy _ (vZ hb e)))).2.1
  cases f with
  | next=>obtain⟨σ7,H7,I7,n7⟩:=q7;exact again I7 n7
  | cont=>obtain⟨σ7,H7,I7,n7⟩:=q7;exact again I7 n7
  | brk=>obtain⟨σ7,H7,I7,q7⟩:=q7;exact#[σ7,H7,I7.unpinned,q7]
  | ret v=>obtain⟨x7,σ7,H7,I7,r7,q7⟩:=q7;exact#[x7,σ7,H7,I7.unpinned,r7,q7]
end
theorem jY {K:AQ}{a:Addr} (Pv:Nat->St->Hp->Prop) (h0:Pv 0 σ H) (hl:∀i σ H,i<=xs.length->Pv i σ H->jo K H a xs)
  (hs:∀i x σ H,xs[i]?=some x->Pv i σ H->g x σ H λσ2 H2=>tb { D with nx:=Pv (i+1),ct:=Pv (i+1),bk:=D.nx } σ2 H2) (hd:∀σ H,Pv xs.length σ H->D.nx σ H) :
  ∃W:Nat->Nat->St->Hp->Prop,(∃m,W 0 m σ H)/\∀i m σ H,W i m σ H ->
   ((Z8 K a).stop i H/\D.nx σ H)\/((Z8 K a).go i H/\∃N:St->Hp->Prop,(∀σ' H',N σ' H'->∃m',m'<m/\W (i+1) m' σ' H')/\∀x H',(Z8 K a).yld i H x H'->g x σ H' λσ2 H2=>tb { D with nx:=N,ct:=N,bk:=D.nx } σ2 H2):=by
 refine#[λi m σ H=>m=xs.length - i/\i<=xs.length/\Pv i σ H,#[xs.length,by simp,yV _,h0],?_];rintro i m σ H ⟨rfl,hi,p⟩;have q:=hl i σ H hi p;by_cases Bj:i<xs.length
 ·refine .inr #[#[xs,xs[i],q,by simp [Bj]],Pv (i+1),λσ' H' p'=>#[xs.length - (i+1),by omega,rfl,Bj,p'],λx H' y=>?_];obtain⟨e,y⟩:=y;subst e;exact hs i x σ _ (y xs q) p
 ·have e:i=xs.length:=by omega
  subst e;exact .inl #[#[xs,q,yg _],hd σ H p]
theorem pU {K:AQ}{a:Addr} (Pv:Nat->St->Hp->Prop) (h0:Pv 0 σ H) (hl:∀i σ H,i<=xs.length->Pv i σ H->jD K H a xs)
  (hs:∀i x σ H,xs[i]?=some x->Pv i σ H->g x σ H λσ2 H2=>tb { D with nx:=Pv (i+1),ct:=Pv (i+1),bk:=D.nx } σ2 H2) (hd:∀σ H,Pv xs.length σ H->D.nx σ H) :
  ∃W:Nat->Nat->St->Hp->Prop,(∃m,W 0 m σ H)/\∀i m σ H,W i m σ H ->
   ((N8 K a).stop i H/\D.nx σ H)\/((N8 K a).go i H/\∃N:St->Hp->Prop,(∀σ' H',N σ' H'->∃m',m'<m/\W (i+1) m' σ' H')/\∀x H',(N8 K a).yld i H x H'->g x σ H' λσ2 H2=>tb { D with nx:=N,ct:=N,bk:=D.nx } σ2 H2):=by
 refine#[λi m σ H=>m=xs.length - i/\i<=xs.length/\Pv i σ H,#[xs.length,by simp,yV _,h0],?_];rintro i m σ H ⟨rfl,hi,p⟩;have q:=hl i σ H hi p;by_cases Bj:i<xs.length
 ·refine .inr #[#[xs,xs[i],q,by simp [Bj]],Pv (i+1),λσ' H' p'=>#[xs.length - (i+1),by omega,rfl,Bj,p'],λx H' y=>?_];obtain⟨e,y⟩:=y;subst e;exact hs i x σ _ (y xs q) p
 ·have e:i=xs.length:=by omega
  subst e;exact .inl #[#[xs,q,yg _],hd σ H p]
theorem JR (Pv:Nat->St->Hp->Prop) (h0:Pv 0 σ H)
  (hs:∀i σ H,i<n->Pv i σ H->g (.int (lo+i)) σ H λσ2 H2=>tb { D with nx:=Pv (i+1),ct:=Pv (i+1),bk:=D.nx } σ2 H2) (hd:∀σ H,Pv n σ H->D.nx σ H) :
  ∃W:Nat->Nat->St->Hp->Prop,(∃m,W 0 m σ H)/\∀i m σ H,W i m σ H ->
   ((zL lo n).stop i H/\D.nx σ H)\/((zL lo n).go i H/\∃N:St->Hp->Prop,(∀σ' H',N σ' H'->∃m',m'<m/\W (i+1) m' σ' H')/\∀x H',(zL lo n).yld i H x H'->g x σ H' λσ2 H2=>tb { D with nx:=N,ct:=N,bk:=D.nx } σ2 H2):=by
 refine#[λi m σ H=>m=n - i/\i<=n/\Pv i σ H,#[n,by simp,yV _,h0],?_];rintro i m σ H ⟨rfl,hi,p⟩;by_cases Bj:i<n
 ·refine .inr #[Bj,Pv (i+1),λσ' H' p'=>#[n - (i+1),by omega,rfl,Bj,p'],λx H' y=>?_];obtain⟨e,y⟩:=y;subst e y;exact hs i σ _ Bj p
 ·have e:i=n:=by omega
  subst e;exact .inl #[yg _,hd σ H p]
abbrev R2:=V->V->Hp->VK->Prop
def JZ (X:Cx) (f:Value->Value->Sem Value) (r:R2):Prop :=
 ∀(pins:AU) (s:Shared) (σ:St) (H:Hp) (x y:V) (v u:Value) (Q:VK),jn X pins σ H s->jF x v->jF y u->r x y H Q ->
  wpAny (model X.prog X.w) X.A (f v u) (EP X pins σ Q) X.xe s
def uH (X:Cx) (f:Value) (r:List V->Hp->VK->Prop):Prop :=
 ∀(pins:AU) (s:Shared) (σ:St) (H:Hp) (xs:List V) (us:AW) (Q:VK),jn X pins σ H s->jA xs us->r xs H Q ->
  wpAny (model X.prog X.w) X.A (call f us) (EP X pins σ Q) X.xe s
def xQ (X:Cx) (r:V->Hp->(Bool->Hp->Prop)->Prop):Prop :=
 ∀(pins:AU) (s:Shared) (σ:St) (H:Hp) (x:V) (v:Value) (Q:Bool->Hp->Prop),jn X pins σ H s->jF x v->r x H Q ->
  wpAny (model X.prog X.w) X.A (truthy v) (TP X pins σ Q) X.xe s
def bi (r:R2) (ta tb:TE):TE:=λσ H Q=>ta σ H λx H1=>tb σ H1 λy H2=>r x y H2 Q
inductive xJ (C:Int->Int->Prop) (g:Int->Int->V) (x:V) (y:V) (H:Hp) (Q:VK):Prop
 | mk (i:_) (j:_) (h0:x=.int i) (h1:y=.int j) (h2:C i j) (h3:Q (g i j) H):xJ C g x y H Q
def rI (C:Int->Int->Prop) (g:Int->Int->V):R2:=λx y H Q=>xJ C g x y H Q
inductive tL (g:Int->Int->V) (x:V) (y:V) (H:Hp) (Q:VK):Prop
 | mk (i:_) (j:_) (h0:x=.int i) (h1:y=.int j) (h2:Q (g i j) H):tL g x y H Q
def nQ (g:Int->Int->V):R2:=λx y H Q=>tL g x y H Q
section
variable {X:Cx}{a b c:Expr}{ta tb tc:TE}{pos:Pos}
theorem iI (ha:PE X a ta) (hb:PE X b tb) (I:jn X pins σ H s)
  (h:ta σ H λx H1=>tb σ H1 λy H2=>R x y H2) {Q:AL} {f:Value->Value->Sem Value}
  (hf:∀v u s2 x y H2,jn X pins σ H2 s2->jF x v->jF y u->R x y H2->wpAny (model X.prog X.w) X.A (f v u) Q X.xe s2) :
  wpAny (model X.prog X.w) X.A (eval a X.env) (λv s₁=>wpAny (model X.prog X.w) X.A (eval b X.env) (λu s₂=>wpAny (model X.prog X.w) X.A (f v u) Q X.xe s₂) X.xe s₁) X.xe s:=by
 refine jC (ha pins s σ H _ I h) λv s1 #[x,H1,I1,r1,q1]=>?_;refine jC (hb pins s1 σ H1 _ I1 q1) λu s2 #[y,H2,I2,r2,q2]=>?_;exact hf v u s2 x y H2 I2 r1 r2 q2
theorem ju {op:Operator} (ho:JZ X (binaryOp op) r) (ha:PE X a ta) (hb:PE X b tb):PE X (.BinOp a op b pos) (bi r ta tb):=by
 intro pins s σ H Q I h;exact wpAny_BinOp (iI ha hb I h λv u s2 x y H2 I2 rx ry q=>ho pins s2 σ H2 x y v u Q I2 rx ry q)
theorem oX {C:Int->Int->Prop}{g:Int->Int->Int}
  (rule:∀(i j:Int) (t u:Tok) (s:Shared) (Q:AL) (E:AL),C i j->Q (.int (g i j) s.toks) { s with toks:=s.toks+1 }->wpAny (model X.prog X.w) X.A (f (.int i t) (.int j u)) Q E s) :
  JZ X f (rI C λi j=>.int (g i j)):=by
 intro pins s σ H x y v u Q I rx ry h;obtain⟨i,j,rfl,rfl,hc,q⟩:=h;obtain⟨t,rfl⟩:=rx;obtain⟨t',rfl⟩:=ry;exact rule i j t t' s _ _ hc #[.int (g i j),H,I.tok _,#[_,rfl],q]
theorem tz {g:Int->Int->Int}
  (rule:∀(i j:Int) (t u:Tok) (s:Shared) (Q:AL) (E:AL),Q (.int (g i j) s.toks) { s with toks:=s.toks+1 }->wpAny (model X.prog X.w) X.A (f (.int i t) (.int j u)) Q E s) :
  JZ X f (nQ λi j=>.int (g i j)):=by
 intro pins s σ H x y v u Q I rx ry h;obtain⟨i,j,rfl,rfl,q⟩:=h;obtain⟨t,rfl⟩:=rx;obtain⟨t',rfl⟩:=ry;exact rule i j t t' s _ _ #[.int (g i j),H,I.tok _,#[_,rfl],q]
theorem lH {g:Int->Int->Bool}
  (rule:∀(i j:Int) (t u:Tok) (s:Shared) (Q:AL) (E:AL),Q (.bool (g i j)) s->wpAny (model X.prog X.w) X.A (f (.int i t) (.int j u)) Q E s) :
  JZ X f (nQ λi j=>.bl (g i j)):=by
 intro pins s σ H x y v u Q I rx ry h;obtain⟨i,j,rfl,rfl,q⟩:=h;obtain⟨t,rfl⟩:=rx;obtain⟨t',rfl⟩:=ry;exact rule i j t t' s _ _ #[.bl (g i j),H,I,rfl,q]
def xM (i j:Int):Prop:=0<j/\j<1073741824
def xN (i j:Int):Prop:=0<=j/\j<=1000000/\i.natAbs<2^64
def iz (i j:Int):Prop:=(-(2^64)<i/\i<2^64)\/(-(2^64)<j/\j<2^64)
theorem iz.ok {i j:Int} (h:iz i j):IntMulOk i j:=by
 rcases h with ⟨h1,h2⟩|⟨h1,h2⟩
 ·exact .of_left (intBits_le_64 h1 h2)
 ·exact .of_right (intBits_le_64 h1 h2)
theorem jP:JZ X (binaryOp .Add) (nQ λi j=>.int (i+j)):=tz λ_ _ _ _ _ _ _ q=>add_int q
theorem uA:JZ X (binaryOp .Sub) (nQ λi j=>.int (i - j)):=tz λ_ _ _ _ _ _ _ q=>sub_int q
theorem UQ:JZ X (binaryOp .Mult) (rI iz λi j=>.int (i*j)):=oX λ_ _ _ _ _ _ _ hc q=>mul_int q hc.ok
theorem Vh:JZ X (binaryOp .FloorDiv) (rI xM λi j=>.int (i / j)):=oX λi j _ _ _ _ _ hc q=>by
 have h1:(0:Int)<j:=hc.1;have h2:j<1073741824:=hc.2;exact floordiv_int (by omega) (by rw[Int.fdiv_eq_ediv_of_nonneg i (by omega)];exact q) (.inl (PyProof.noPylong_small (by omega)))
theorem vD:JZ X (binaryOp .Mod) (rI (λ_ j=>0<j) λi j=>.int (i % j)):=oX λi j _ _ _ _ _ hc q=>by
 have h1:(0:Int)<j:=hc;exact mod_int' (by omega) (by rw[Int.fmod_eq_emod_of_nonneg i (by omega)];exact q)
theorem fP:JZ X (binaryOp .Pow) (rI xN λi j=>.int (i^j.toNat)):=oX λ_ _ _ _ _ _ _ hc q=>pow_int_small hc.1 hc.2.1 hc.2.2 q
end
def tR:V->V->Bool
 | .non,.non=>true|.non,.int _=>true|.int _,.non=>true|.non,.bl _=>true|.bl _,.non=>true|.non,.str _=>true|.str _,.non=>true
 | .int _,.int _=>true|.bl _,.bl _=>true|.str _,.str _=>true|.byt _,.byt _=>true
 | .int _,.str _=>true|.str _,.int _=>true|.bl _,.str _=>true|.str _,.bl _=>true
 | _,_=>false
inductive tK (x:V) (y:V) (H:Hp) (Q:VK):Prop
 | mk  (h0:tR x y=true) (h1:Q (.bl (decide (x=y))) H):tK x y H Q
def AC:R2:=λx y H Q=>tK x y H Q
inductive tQ (x:V) (y:V) (H:Hp) (Q:VK):Prop
 | mk  (h0:tR x y=true) (h1:Q (.bl (!decide (x=y))) H):tQ x y H Q
def AD:R2:=λx y H Q=>tQ x y H Q
theorem aj {i j:Int}:decide (V.int i=V.int j)=(i==j):=by
 rw[yR];simp
theorem dJ {i j:Bool}:decide (V.bl i=V.bl j)=(i==j):=by
 rw[yR];simp
theorem ak {i j:Str}:decide (V.str i=V.str j)=(i==j):=by
 rw[yR];simp
theorem ai {i j:Array UInt8}:decide (V.byt i=V.byt j)=(i.toList==j.toList):=by
 rw[yR];cases i;cases j;simp
section
variable {X:Cx}{a b c:Expr}{ta tb tc:TE}{pos:Pos}
theorem j3 {Q:VK}{k k':Bool} (I:jn X pins σ H s) (q:Q (.bl k) H) (e:k=k'):EP X pins σ Q (.bool k') s:=by
 subst e;exact#[.bl k,H,I,rfl,q]
theorem GT:JZ X (compareOp .Eq) AC:=by
 intro pins s σ H x y v u Q I rx ry h;obtain⟨hs,q⟩:=h;cases x with
 | non =>
  cases rx;cases y with
  | non=>cases ry;exact PySem.EqNone.eq_none_none (j3 I q (by simp))
  | bl j=>cases ry;exact PySem.EqNone.eq_none_bool (j3 I q (by simp))
  | int j=>obtain⟨t',rfl⟩:=ry;exact PySem.EqNone.eq_none_int (j3 I q (by simp))
  | str j=>obtain⟨t',rfl⟩:=ry;exact PySem.EqNone.eq_none_str (j3 I q (by simp))
  | _=>exact absurd (show false=true from hs) yo
 | bl i =>
  cases rx;cases y with
  | non=>cases ry;exact PySem.EqNone.eq_bool_none (j3 I q (by simp))
  | bl j=>cases ry;exact eq_bool (j3 I q dJ)
  | str j=>obtain⟨t',rfl⟩:=ry;exact PySem.EqMixed.eq_bool_str (j3 I q (by simp))
  | _=>exact absurd (show false=true from hs) yo
 | int i =>
  obtain⟨t,rfl⟩:=rx;cases y with
  | non=>cases ry;exact PySem.EqNone.eq_int_none (j3 I q (by simp))
  | int j=>obtain⟨t',rfl⟩:=ry;exact eq_int (j3 I q aj)
  | str j=>obtain⟨t',rfl⟩:=ry;exact PySem.EqMixed.eq_int_str (j3 I q (by simp))
  | _=>exact absurd (show false=true from hs) yo
 | str i =>
  obtain⟨t,rfl⟩:=rx;cases y with
  | non=>cases ry;exact PySem.EqNone.eq_str_none (j3 I q (by simp))
  | bl j=>cases ry;exact PySem.EqMixed.eq_str_bool (j3 I q (by simp))
  | int j=>obtain⟨t',rfl⟩:=ry;exact PySem.EqMixed.eq_str_int (j3 I q (by simp))
  | str j=>obtain⟨t',rfl⟩:=ry;exact eq_str (j3 I q ak)
  | _=>exact absurd (show false=true from hs) yo
 | byt i =>
  obtain⟨t,rfl⟩:=rx;cases y with
  | byt j=>obtain⟨t',rfl⟩:=ry;exact PySem.W.eq_bytes (j3 I q ai)
  | _=>exact absurd (show false=true from hs) yo
 | _=>cases y<;>exact absurd (show false=true from hs) yo
theorem mM:JZ X (compareOp .NotEq) AD:=by
 intro pins s σ H x y v u Q I rx ry h;obtain⟨hs,q⟩:=h;cases x with
 | non =>
  cases rx;cases y with
  | non=>cases ry;exact PySem.EqNone.ne_none_none (j3 I q (by simp))
  | bl j=>cases ry;exact PySem.EqNone.ne_none_bool (j3 I q (by simp))
  | int j=>obtain⟨t',rfl⟩:=ry;exact PySem.EqNone.ne_none_int (j3 I q (by simp))
  | str j=>obtain⟨t',rfl⟩:=ry;exact PySem.EqNone.ne_none_str (j3 I q (by simp))
  | _=>exact absurd (show false=true from hs) yo
 | bl i =>
  cases rx;cases y with
  | non=>cases ry;exact PySem.EqNone.ne_bool_none (j3 I q (by simp))
  | bl j=>cases ry;exact ne_bool (j3 I q (congrArg not dJ))
  | str j=>obtain⟨t',rfl⟩:=ry;exact PySem.EqMixed.ne_bool_str (j3 I q (by simp))
  | _=>exact absurd (show false=true from hs) yo
 | int i =>
  obtain⟨t,rfl⟩:=rx;cases y with
  | non=>cases ry;exact PySem.EqNone.ne_int_none (j3 I q (by simp))
  | int j=>obtain⟨t',rfl⟩:=ry;exact ne_int (j3 I q (congrArg not aj))
  | str j=>obtain⟨t',rfl⟩:=ry;exact PySem.EqMixed.ne_int_str (j3 I q (by simp))
  | _=>exact absurd (show false=true from hs) yo
 | str i =>
  obtain⟨t,rfl⟩:=rx;cases y with
  | non=>cases ry;exact PySem.EqNone.ne_str_none (j3 I q (by simp))
  | bl j=>cases ry;exact PySem.EqMixed.ne_str_bool (j3 I q (by simp))
  | int j=>obtain⟨t',rfl⟩:=ry;exact PySem.EqMixed.ne_str_int (j3 I q (by simp))
  | str j=>obtain⟨t',rfl⟩:=ry;exact ne_str (j3 I q (congrArg not ak))
  | _=>exact absurd (show false=true from hs) yo
 | byt i =>
  obtain⟨t,rfl⟩:=rx;cases y with
  | byt j=>obtain⟨t',rfl⟩:=ry;exact PySem.W.ne_bytes (j3 I q (congrArg not ai))
  | _=>exact absurd (show false=true from hs) yo
 | _=>cases y<;>exact absurd (show false=true from hs) yo
theorem Uj:JZ X (compareOp .Lt) (nQ λi j=>.bl (decide (i<j))):=lH λ_ _ _ _ _ _ _ q=>lt_int q
theorem vg:JZ X (compareOp .LtE) (nQ λi j=>.bl (decide (i<=j))):=lH λ_ _ _ _ _ _ _ q=>le_int q
theorem xb:JZ X (compareOp .Gt) (nQ λi j=>.bl (decide (j<i))):=lH λ_ _ _ _ _ _ _ q=>gt_int q
theorem fz (b:Expr) {op:CmpOp} (h:op≠.In:=by decide) (h2:op≠.NotIn:=by decide):behindInMarks op b=false:=by
 have e1:(op==CmpOp.In)=false:=by cases op<;>first|rfl|exact absurd rfl h
 have e2:(op==CmpOp.NotIn)=false:=by cases op<;>first|rfl|exact absurd rfl h2
 cases b<;>simp [behindInMarks,e1,e2]
theorem kJ {op:CmpOp} (ho:JZ X (compareOp op) r) (ha:PE X a ta) (hb:PE X b tb) (hm:behindInMarks op b=false:=by first|exact fz _|with_unfolding_all rfl):PE X (.Compare a [op] [b] pos) (bi r ta tb):=by
 intro pins s σ H Q I h;exact wpAny_Compare1 (iI ha hb I h λv u s2 x y H2 I2 rx ry q=>ho pins s2 σ H2 x y v u Q I2 rx ry q) hm
inductive ik (Q:Bool->Hp->Prop) (x:V) (H':Hp):Prop
 | mk (k:_) (h0:x=.bl k) (h1:Q k H'):ik Q x H'
def pG (t:TE):TT:=λσ H Q=>t σ H λx H'=>ik Q x H'
theorem jQ {op:CmpOp} (ho:JZ X (compareOp op) r) (ha:PE X a ta) (hb:PE X b tb) (hm:behindInMarks op b=false:=by first|exact fz _|with_unfolding_all rfl):PT X (.Compare a [op] [b] pos) (pG (bi r ta tb)):=by
 intro pins s σ H Q I h;refine wpAny_isTrue_Compare1 (jC (ha pins s σ H _ I h) λv s1 #[x,H1,I1,r1,q1]=>jC (hb pins s1 σ H1 _ I1 q1) λu s2 #[y,H2,I2,r2,q2] =>
  jC (ho pins s2 σ H2 x y v u _ I2 r1 r2 q2) λc s3 #[z,H3,I3,r3,k,e,q3]=>?_) hm
 subst e;cases r3;exact wpAny_truthy_bool #[H3,I3,q3]
inductive be (r':R2) (tc:TE) (σ:St) (Q:VK) (y:V) (z:V) (H3:Hp):Prop
 | mk (k:_) (h0:z=.bl k) (h1:(if k=true then tc σ H3 λw' H4=>r' y w' H4 Q else Q (.bl false) H3)):be r' tc σ Q y z H3
def ie (r r':R2) (ta tb tc:TE):TE:=λσ H Q=>ta σ H λx H1=>tb σ H1 λy H2=>r x y H2 λz H3=>be r' tc σ Q y z H3
theorem Vw {op:CmpOp} (ho:JZ X (compareOp op) r) (BP:JZ X (compareOp HL) r') (ha:PE X a ta) (hb:PE X b tb) (hc:PE X c tc)
  (hm:lastMarks [op,HL] [b,c]=false:=by with_unfolding_all rfl):PE X (.Compare a [op,HL] [b,c] pos) (ie r r' ta tb tc):=by
 intro pins s σ H Q I h;refine Compare_chain (jC (ha pins s σ H _ I h) λv s1 #[x,H1,I1,r1,q1]=>chain_link (jC (hb pins s1 σ H1 _ I1 q1) λu s2 #[y,H2,I2,r2,q2] =>
  jC (ho pins s2 σ H2 x y v u _ I2 r1 r2 q2) λd s3 #[z,H3,I3,r3,k,e,q3]=>?_)) hm
 subst e;cases r3;refine wpAny_truthy_bool ?_;cases k with
 | false=>exact ite_ff #[.bl false,H3,I3,rfl,q3]
 | true=>exact ite_tt (chain_last (jC (hc pins s3 σ H3 _ I3 q3) λw' s4 #[z',H4,I4,r4,q4]=>BP pins s4 σ H4 y z' u w' Q I4 r2 r4 q4))
theorem nL {op:CmpOp} (ho:JZ X (compareOp op) r) (BP:JZ X (compareOp HL) r') (ha:PE X a ta) (hb:PE X b tb) (hc:PE X c tc)
  (hm:lastMarks [op,HL] [b,c]=false:=by with_unfolding_all rfl):PT X (.Compare a [op,HL] [b,c] pos) (pG (ie r r' ta tb tc)):=by
 intro pins s σ H Q I h;refine isTrue_chain (jC (ha pins s σ H _ I h) λv s1 #[x,H1,I1,r1,q1]=>test_link (jC (hb pins s1 σ H1 _ I1 q1) λu s2 #[y,H2,I2,r2,q2] =>
  jC (ho pins s2 σ H2 x y v u _ I2 r1 r2 q2) λd s3 #[z,H3,I3,r3,k,e,q3]=>?_)) hm
 subst e;cases r3;refine wpAny_truthy_bool ?_;cases k with
 | false =>
  obtain⟨k',e',q'⟩:=q3;cases e';exact ite_ff #[H3,I3,q']
 | true =>
  refine ite_tt (test_last (jC (hc pins s3 σ H3 _ I3 q3) λw' s4 #[z',H4,I4,r4,q4]=>jC (BP pins s4 σ H4 y z' u w' _ I4 r2 r4 q4) λd' s5 hh=>?_));obtain⟨z2,H5,I5,r5,k2,e2,q5⟩:=hh;subst e2;cases r5;exact wpAny_truthy_bool #[H5,I5,q5]
def rL (K:AQ) (x:V) (H:Hp) (k:Bool):Prop :=
 match x with
 | .non=>k=false
 | .bl b=>k=b
 | .int i=>k=(i != 0)
 | .str y=>y.length<=sizeLine/\k=((y.length:Int) != 0)
 | .byt y=>y.size<=sizeLine/\k=((y.size:Int) != 0)
 | .ref p=>(∃xs,jo K H p xs/\k=!xs.isEmpty)\/(∃xs,jD K H p xs/\k=!xs.isEmpty)\/∃kvs,H p=some (.dK kvs)/\k=!kvs.isEmpty
 | _=>False
theorem cp {κ:Type}{kvs:List (κ×V)}{vs:List (κ×Value)} (r:KV kvs vs):(!vs.isEmpty)=!kvs.isEmpty:=by
 cases r<;>rfl
theorem GA {Bi:AW} (r:jA xs Bi):(!Bi.toArray.isEmpty)=!xs.isEmpty:=by
 cases r<;>simp
theorem Zq:(sizeLine:Nat)<2^63:=by rw[sizeLine_eq];decide
theorem wx:xQ X (λx H Q=>∃k,rL X.K x H k/\Q k H):=by
 intro pins s σ H x v Q I rx h;obtain⟨k,e,q⟩:=h;have hl:=Zq;have hs:sizeLine=16777216:=sizeLine_eq;cases x with
 | non =>
  cases rx;have e':k=false:=e;subst e';exact truthy_none #[H,I,q]
 | bl b =>
  cases rx;have e':k=b:=e;subst e';exact wpAny_truthy_bool #[H,I,q]
 | int i =>
  obtain⟨t,rfl⟩:=rx;have e':k=(i != 0):=e;subst e';exact PySem.P.truthy_int #[H,I,q]
 | str y =>
  obtain⟨t,rfl⟩:=rx;obtain⟨hy,e'⟩:y.length<=sizeLine/\k=((y.length:Int) != 0):=e;subst e';exact PySem.P.truthy_str (by omega) #[H,I.tok _,q]
 | byt y =>
  obtain⟨t,rfl⟩:=rx;obtain⟨hy,e'⟩:y.size<=sizeLine/\k=((y.size:Int) != 0):=e;subst e';exact PySem.W.truthy_bytes (by omega) #[H,I.tok _,q]
 | ref p =>
  cases rx;have e':(∃xs,jo X.K H p xs/\k=!xs.isEmpty)\/(∃xs,jD X.K H p xs/\k=!xs.isEmpty)\/∃kvs,H p=some (.dK kvs)/\k=!kvs.isEmpty:=e;rcases e' with ⟨xs,hx,e'⟩|⟨xs,hx,e'⟩|⟨kvs,hx,e'⟩
  ·subst e';obtain⟨Bi,r,pl,hz⟩:=I.list hx;have hlen:=r.length;exact wpAny_truthy_list pl.isList (by simp only[yk];omega) #[H,I.tok _,by rw[GA r];exact q]
  ·subst e';obtain⟨Bi,r,pl,hz⟩:=I.tuple hx;have hlen:=r.length;exact truthy_tuple pl (by simp only[yk];omega) #[H,I.tok _,by rw[GA r];exact q]
  ·subst e';obtain⟨hz,hS,vs,r,m⟩:kvs.length<=sizeLine/\(p==sysModules)=false/\∃vs,KV kvs vs/\s.heap.DictOf (jW X.prog X.w) p vs:=I.hok p _ hx;have hlen:kvs.length=vs.length:=Paired.length r;exact wpAny_truthy_dict hS m (by omega) #[H,I.tok _,by rw[cp r];exact q]
 | _=>exact (show False from e).elim
theorem lM (ha:PE X a ta) (he:∀whole,isTrue a X.env whole=(do let v <-whole;standAt a.pos;holding [v] (truthy v))) :
  PT X a (λσ H Q=>ta σ H λx H'=>∃k,rL X.K x H' k/\Q k H'):=by
 intro pins s σ H Q I h;exact isTrue_plain (jC (ha pins s σ H _ I h) λv s1 #[x,H1,I1,r1,q1]=>wx pins s1 σ H1 x v Q I1 r1 q1) (he _)
theorem UB {x:V} (r:jA [x] us):∃u,us=[u]/\jF x u:=by
 cases r with
 | cons r1 r2=>cases r2;exact#[_,rfl,r1]
theorem xt {x:V} (r:jA [x,y] us):∃u w',us=[u,w']/\jF x u/\jF y w':=by
 cases r with
 | cons r1 r2 =>
  cases r2 with
  | cons r3 r4=>cases r4;exact#[_,_,rfl,r1,r3]
theorem iM:uH X (.builtin "abs") (λxs H Q=>∃i,xs=[.int i]/\Q (.int (if i<0 then -i else i)) H):=by
 intro pins s σ H xs us Q I r h;obtain⟨i,rfl,q⟩:=h;obtain⟨u,rfl,t,rfl⟩:=UB r;exact call_abs_int λu tk=>#[.int (if i<0 then -i else i),H,I.tok _,#[_,rfl],q]
end
structure gC (h:Heap) (x dx C:Addr) (mA:AT):Prop where
 obj:h.get? x=some (instObj C dx)
 ns:h.Ns1 dx mA
 ne:dx≠x
theorem fe (n:h.Ns1 dx mA):∃od,h.get? dx=some od/\∀name,lookIn name od=some (mA name):=by
 obtain⟨o,es,ep,ho,hd,hk,_,hm⟩:=n;refine#[o,ho,λname=>?_];have e:=hm name;unfold nsFind findBy at e;rw[<-Array.find?_toList] at e;unfold lookIn;rw[hd];dsimp only;split
 ·rename_i y q;rw[q] at e;exact congrArg some e
 ·rename_i q;rw[q] at e;have a:es.toList.any (·.refKey)=false:=by
   rw[List.any_eq_false];intro y hy;obtain⟨z,t,Ek⟩:=hk y (Array.mem_toList_iff.mp hy);simp [DictEntry.refKey,Ek]
  have a':¬es.toList.any (·.refKey)=true:=by rw[a];exact yo
  rw[if_neg a'];exact congrArg some e
theorem gC.look {x:Addr} (I:gC h x dx C mA):∃od,InstAt h x (instObj C dx) C (some od)/\∀name,lookIn name od=some (mA name) :=
 let ⟨od,ho,hl⟩:=fe I.ns
 #[od,#[I.obj,rfl,rfl,ho],hl]
section
variable {prog:Be}{w:World}{A:Around}{E:AL}{s:Shared}{K:AQ}{x dx C f:Addr}{mA:AT}{name:Str}{v:Value}
theorem qb {expr:Bool} (X:K.In s.heap) (I:gC s.heap x dx C mA) (hg:plainGet K C name=true) (hh:hasDictIn K C=true)
  (ha:findIn K (.ref C) name=some none) (hv:mA name=some v) (CY:handedIn v=true) (h:Q v { s with toks:=s.toks+1 }) :
  wpAny (model prog w) A (getAttr (.ref x) name expr) Q E s:=by
 obtain⟨od,J,hl⟩:=I.look;exact PySem.W.get_value X J (plainGet_of hg).1 (PySem.W.findObj_own hh ha rfl (by rw[hl,hv])) CY h
theorem iV {Q:Value×List Value->Shared->Prop} (X:K.In s.heap) (I:gC s.heap x dx C mA) (hg:plainGet K C name=true)
  (hf:findIn K (.ref C) name=some (some (.ref f))) (ht:isFn K (.ref f)=true) (hv:mA name=none) (h:Q (.ref f,[.ref x]) s) :
  wpAny (model prog w) A (getMethod (.ref x) name pl) Q E s:=by
 obtain⟨od,J,hl⟩:=I.look;exact PySem.W.method_fn X J (plainGet_of hg).1 (plainGet_of hg).2 hf (beq_iff_eq.mp ht) (by show (lookIn name od).map (·.isSome)=some false;rw[hl,hv];rfl) h
theorem qH {ns:A1}{Q:AM} (X:K.In s.heap) (I:gC s.heap x dx C mA)
  (hs:findIn K (.ref C) "__setattr__"=some (some (.builtin "object.__setattr__"))) (hp:plainOver K C=true) (ht:takerIn K C name=some none) (hh:hasDictIn K C=true)
  (hw:PySem.Within mA ns) (hsz:ns.length<=sizeLine)
  (h:∀h',gC h' x dx C (λy=>if y=name then some v else mA y)->Heap.SameBut dx s.heap h'->Q () { s with heap:=h',toks:=s.toks+2 }) :
  wpAny (model prog w) A (setAttr (.ref x) name v) Q E s:=by
 obtain⟨od,J,hl⟩:=I.look;refine PySem.W.set_plain X J hs (PySem.W.osa_open (s:={ s with toks:=s.toks+1 }) (r:=none) X J hp ht λb=>?_);obtain⟨cd,hc,D7⟩:=PySem.W.any_some hh;have hx:s.heap.get? x=some #[.ref C,some dx,.plain,(List.toArray [])]:=I.obj;refine Bf (Bg (Bf (Bf (wpAny_loadPart hx (Bf (Looks.here (s:={ s with toks:=s.toks+1 }) (PySem.W.looks_clsIn X hc) ?_))))));rw[D7];refine Bg (a:=some dx) (Bf (Bg (Bf ?_)));refine wpAny_nsSet1 (s:={ s with toks:=s.toks+1 }) I.ns λh' ET Dz=>?_;obtain⟨oD,esD,epD,Xw,Xx,Xy⟩:=ET.count (PySem.Within.cons name v hw);refine Bf (wpAny_lookBehind Xw (by rw[Xx];exact pastItsLine_dict (yp Xy (by rw[yU];omega))) ?_);exact Bg (h _ #[(Dz.2 _ (yP I.ne)).trans I.obj,ET,I.ne] Dz)
theorem lu {R:Result->Shared->Prop}{vs:AW} (X:K.In s.heap) (hm:makesIn K C=true)
  (hi:findIn K (.ref C) "__init__"=some (some (.ref f))) (hf:typeIn K (.ref f)=some (.type "function"))
  (h:codeAny (model prog w) (A.under (.builtin "type.__call__" #[.ref C::vs,kw])) (.call (.ref f) #[.ref (s.heap.objs.size+1)::vs,kw]) (PySem.W.InitBack (s.heap.objs.size+1) R)
   { s with heap:=(s.heap.push emptyDict).push (instObj C s.heap.objs.size) }) :
  codeAny (model prog w) A (.call (.ref C) #[vs,kw]) R s:=by
 obtain⟨hh,g,d,t,os⟩:=s;exact PySem.W.make_core (PySem.W.makes_of X hm) (PySem.W.looks_findIn X hi) (λself=>PySem.W.bind_fn X self hf) (.inl rfl) h
end
def Jy (f:Str) (v:V):List (Str×V)->List (Str×V)
 | []=>[(f,v)]
 | (g,x)::r=>if g=f then (g,v)::r else (g,x)::Jy f v r
theorem gj (f g:Str) (v:V):∀fs:List (Str×V),(Jy f v fs).lookup g=if g=f then some v else fs.lookup g
 | []=>by
  show List.lookup g [(f,v)]=_;by_cases h:g=f
  ·have hb:(g==f)=true:=beq_iff_eq.mpr h;simp only[List.lookup,hb,if_pos h]
  ·have hb:(g==f)=false:=beq_eq_false_iff_ne.mpr h;simp only[List.lookup,hb,if_neg h]
 | (k,x)::r=>by
  have ih:=gj f g v r;rw[show Jy f v ((k,x)::r)=(if k=f then (k,v)::r else (k,x)::Jy f v r) from rfl];by_cases hk:k=f
  ·rw[if_pos hk];by_cases h:g=k
   ·have hb:(g==k)=true:=beq_iff_eq.mpr h;simp only[List.lookup,hb,if_pos (h.trans hk)]
   ·have hb:(g==k)=false:=beq_eq_false_iff_ne.mpr h;simp only[List.lookup,hb,if_neg (λe:g=f=>h (e.trans hk.symm))]
  ·rw[if_neg hk];by_cases h:g=k
   ·have hb:(g==k)=true:=beq_iff_eq.mpr h;simp only[List.lookup,hb,if_neg (λe:g=f=>hk (h.symm.trans e))]
   ·have hb:(g==k)=false:=beq_eq_false_iff_ne.mpr h;simp only[List.lookup,hb];exact ih
theorem Zp (f:Str) (v:V):∀fs:List (Str×V),f∈(Jy f v fs).map (·.1)/\∀g,g∈fs.map (·.1)->g∈(Jy f v fs).map (·.1)
 | []=>#[by simp [Jy],λg h=>by simp at h]
 | (k,x)::r=>by
  obtain⟨i1,i2⟩:=Zp f v r;rw[show Jy f v ((k,x)::r)=(if k=f then (k,v)::r else (k,x)::Jy f v r) from rfl];by_cases hk:k=f
  ·rw[if_pos hk];subst hk;exact#[by simp,λg h=>by simpa using h]
  ·rw[if_neg hk];refine#[?_,λg h=>?_]
   ·rw[yH];exact yA _ i1
   ·rw[yH] at h ⊢;rcases yM.mp h with e|e
    ·exact yM.mpr (.inl e)
    ·exact yA _ (i2 g e)
theorem gi (f:Str) (v:V):∀fs:List (Str×V),(Jy f v fs).length<=fs.length+1
 | []=>by simp [Jy]
 | (k,x)::r=>by
  have ih:=gi f v r;rw[show Jy f v ((k,x)::r)=(if k=f then (k,v)::r else (k,x)::Jy f v r) from rfl];by_cases hk:k=f
  ·rw[if_pos hk,yU,yU];omega
  ·rw[if_neg hk,yU,yU];omega
theorem Um.some_of {v:V}{o:Option Value} (r:Um (some v) o):∃u,o=some u/\jF v u:=by
 cases o with
 | none=>exact (show False from r).elim
 | some u=>exact#[u,rfl,r]
theorem Um.none_of {o:Option Value} (r:Um none o):o=none:=by
 cases o with
 | none=>rfl
 | some u=>exact (show False from r).elim
theorem d0 {v:V}{u:Value} (r:jF v u):handedIn u=true:=by
 cases v with
 | non=>cases (show u=Value.none from r);rfl
 | bl b=>cases (show u=Value.bool b from r);rfl
 | int i=>obtain⟨t,e⟩:=(show ∃t,u=Value.int i t from r);cases e;rfl
 | str x=>obtain⟨t,e⟩:=(show ∃t,u=Value.str x t from r);cases e;rfl
 | byt b=>obtain⟨t,e⟩:=(show ∃t,u=Value.bytes b t from r);cases e;rfl
 | flt b=>obtain⟨t,e⟩:=(show ∃t,u=Value.float b t from r);cases e;rfl
 | ref a=>cases (show u=Value.ref a from r);rfl
 | ty n=>cases (show u=Value.type n from r);rfl
section
variable {P:Be}{w:World}{H H':Hp}{h h':Heap}{a C dx:Addr}{fs Xt:List (Str×V)}
theorem ZQ (hok:Ji P w H h) (e:H a=some (.ins C dx fs)):∃mA,gC h a dx C mA/\(∀f,Um (fs.lookup f) (mA f))/\PySem.Within mA (fs.map (·.1))/\fs.length<=1000/\H dx=some (.own a):=by
 obtain⟨d,z,ne,ob,mA,n,r,q⟩:=(show j8 P w H h a (.ins C dx fs) from hok a _ e);exact#[mA,#[ob,n,ne],r,q,z,d]
end
structure vi (K:AQ) (C:Addr):Prop where
 pg:plainGet K C Str.empty=true
 hd:hasDictIn K C=true
 po:plainOver K C=true
 sa:findIn K (.ref C) "__setattr__"=some (some (.builtin "object.__setattr__"))
theorem vi.get {K:AQ} (c:vi K C) (f:Str):plainGet K C f=true:=c.pg
def Jm (K:AQ) (C:Addr) (f:Str):Prop:=findIn K (.ref C) f=some none
theorem Jm.taker {K:AQ}{f:Str} (n:Jm K C f):takerIn K C f=some none:=by
 unfold takerIn;rw[show findIn K (.ref C) f=some none from n]
 rfl
structure ke (K:AQ) (C:Addr) (m:Str) (f:Addr):Prop where
 at_:findIn K (.ref C) m=some (some (.ref f))
 fn:isFn K (.ref f)=true
 kp:keepIn K (.ref f)=true
section
variable {X:Cx}{pins:AU}{σ:St}{H:Hp}{s:Shared}{a C dx:Addr}{fs:List (Str×V)}{f:Str}{v:V}{A:Around}{E:AL}
theorem ck {b:Bool} (I:jn X pins σ H s) (e:H a=some (.ins C dx fs)) (c:vi X.K C) (n:Jm X.K C f) (l:fs.lookup f=some v)
  (h:∀u s',jn X pins σ H s'->jF v u->Q u s'):wpAny (model X.prog X.w) A (getAttr (.ref a) f b) Q E s:=by
 obtain⟨mA,O,r,_,_,_⟩:=ZQ I.hok e;obtain⟨u,hu,ru⟩:=Um.some_of (v:=v) (o:=mA f) (by rw[<-l];exact r f);exact qb I.kIn O (c.get f) c.hd n hu (d0 ru) (h u _ (I.tok _) ru)
theorem vX {m:Str}{g:Addr}{Q:Value×List Value->Shared->Prop} (I:jn X pins σ H s) (e:H a=some (.ins C dx fs)) (c:vi X.K C) (k:ke X.K C m g) (l:fs.lookup m=none)
  (h:Q (.ref g,[.ref a]) s):wpAny (model X.prog X.w) A (getMethod (.ref a) m pl) Q E s:=by
 obtain⟨mA,O,r,_,_,_⟩:=ZQ I.hok e;have hn:mA m=none:=Um.none_of (by rw[<-l];exact r m);exact iV I.kIn O (c.get m) k.at_ k.fn hn h
theorem cV {u:Value}{Q:AM} (I:jn X pins σ H s) (e:H a=some (.ins C dx fs)) (c:vi X.K C) (n:Jm X.K C f) (hl:fs.length<1000) (ry:jF y u)
  (h:∀s',jn X pins σ (upd H a (.ins C dx (Jy f y fs))) s'->Q () s'):wpAny (model X.prog X.w) A (setAttr (.ref a) f u) Q E s:=by
 obtain⟨mA,O,r,wi,_,ho⟩:=ZQ I.hok e;have hz:(fs.map (·.1)).length<=sizeLine:=by rw[yb,sizeLine_eq];omega
 refine qH I.kIn O c.sa c.po n.taker c.hd wi hz λh' O' sb=>h _ ?_;have hd:∃o,h'.get? dx=some o:=let ⟨o,_,_,e',_⟩:=O'.ns;#[o,e']
 refine I.write (x:=a) (e:=dx) (by rw[e];exact True.intro) (.inr ho) (λb q hb z=>(sb.2 b hb).trans z) hd ?_;refine#[jw O.ne ho,?_,O.ne,O'.obj,_,O'.ns,λg=>?_,λg hg=>?_]
 ·have:=gi f y fs;omega
 ·show Um ((Jy f y fs).lookup g) (if g=f then some u else mA g);rw[gj];by_cases q:g=f
  ·rw[if_pos q,if_pos q];exact ry
  ·rw[if_neg q,if_neg q];exact r g
 ·by_cases q:g=f
  ·rw[q];exact (Zp f y fs).1
  ·refine (Zp f y fs).2 g (wi g λz=>hg ?_);show (if g=f then some u else mA g)=none;rw[if_neg q];exact z
theorem jn.made (I:jn X pins σ H s):jn X pins σ (upd (upd H s.heap.objs.size (.own (s.heap.objs.size+1))) (s.heap.objs.size+1) (.ins C s.heap.objs.size []))
  { s with heap:=(s.heap.push emptyDict).push (instObj C s.heap.objs.size) }:=by
 have e1:(s.heap.push emptyDict).get? s.heap.objs.size=some emptyDict:=yz s.heap rfl;have e2:((s.heap.push emptyDict).push (instObj C s.heap.objs.size)).get? (s.heap.objs.size+1)=some (instObj C s.heap.objs.size):=by
  have:=yz (s.heap.push emptyDict) (o:=instObj C s.heap.objs.size) rfl;rwa [Heap.size_push] at this
 have e3:(s.heap.push emptyDict).Ns s.heap.objs.size (λ_=>none):=#[emptyDict,(List.toArray []),_,e1,rfl,(λe he=>absurd he (by simp)),λ_=>rfl];have I1:=I.laid (a:=s.heap.objs.size) (o:=.own (s.heap.objs.size+1)) (h':=s.heap.push emptyDict) (t':=s.toks) (λb u q=>yd _ q) (yg _) #[_,e1];refine I1.laid (a:=s.heap.objs.size+1) (o:=.ins C s.heap.objs.size []) (t':=s.toks) (λb u q=>yd _ q) (Nat.le_of_eq (Heap.size_push _ _)) ?_;have ne:s.heap.objs.size≠s.heap.objs.size+1:=yE (Nat.lt_succ_self _);refine#[by rw[jl ne,jb],yV _,ne,e2,λ_=>none,(Heap.Ns1.of_empty e3).at λo q=>yd _ q,λ_=>True.intro,λy hy=>absurd rfl hy]
theorem pO {prog:Be}{w:World}{env:Env}{pos:Pos} (hb:attributeBase e f env (eval e env)=eval e env)
  (h:wpAny (model prog w) A (eval e env) (λo s₁=>wpAny (model prog w) A (getAttr o f true) Q E s₁) E s):wpAny (model prog w) A (eval (.Attribute e f pos) env) Q E s :=
 Attribute_any_ h (by rw[arm_eval_Attribute,hb])
end
inductive pD (K:AQ) (f:Str) (Q:VK) (x:V) (H1:Hp):Prop
 | mk (a:_) (C:_) (dx:_) (fs:_) (v:_) (h0:x=.ref a) (h1:H1 a=some (.ins C dx fs)) (h2:vi K C) (h3:Jm K C f) (h4:fs.lookup f=some v) (h5:Q v H1):pD K f Q x H1
def wp (K:AQ) (ta:TE) (f:Str):TE:=λσ H Q=>ta σ H λx H1=>pD K f Q x H1
inductive pi (K:AQ) (f:Str) (D:za) (σ:St) (y:V) (x:V) (H2:Hp):Prop
 | mk (a:_) (C:_) (dx:_) (fs:_) (h0:x=.ref a) (h1:H2 a=some (.ins C dx fs)) (h2:vi K C) (h3:Jm K C f) (h4:fs.length<1000) (h5:D.nx σ (upd H2 a (.ins C dx (Jy f y fs)))):pi K f D σ y x H2
def Ae (K:AQ) (ta tv:TE) (f:Str):TS:=λD σ H=>tv σ H λy H1=>ta σ H1 λx H2=>pi K f D σ y x H2
section
variable {X:Cx}{o e value:Expr}{f:Str}{pos pos' IQ:Pos}{ta tv:TE}
theorem Jd {K:AQ} (he:PE X e ta) (hb:attributeBase e f X.env (eval e X.env)=eval e X.env:=by rfl) (hK:X.K=K:=by first|exact Vm|exact rfl):PE X (.Attribute e f pos) (wp K ta f):=by
 subst hK;intro pins s σ H Q I h;refine pO hb (jC (he pins s σ H _ I h) λu s1 hh=>?_);obtain⟨x,H1,I1,rx,a,C,dx,fs,v,ex,ea,c,n,l,q⟩:=hh;subst ex;obtain rfl:u=Value.ref a:=rx;exact ck I1 ea c n l λu' s2 I2 ru=>#[v,H1,I2,ru,q]
theorem uC (ha:PE X o ta) (hv:PE X value tv) (hs:swapsWith value (some (.Attribute o f pos')) pos.line X.env=pure false):PS X (.Assign [.Attribute o f pos'] value pos) (Ae X.K ta tv f):=by
 intro pins s σ H D I h;refine plainObj_wpAny_Assign_Attribute (jC (hv pins s σ H _ I h) λu s1 #[y,H1,I1,ry,q]=>jC (ha pins s1 σ H1 _ I1 q) λov s2 hh=>?_) hs;obtain⟨x,H2,I2,rx,a,C,dx,fs,ex,ea,c,n,l,q2⟩:=hh;subst ex;obtain rfl:ov=Value.ref a:=rx;exact cV I2 ea c n l ry λs3 I3=>#[σ,_,I3,q2]
theorem wC {m:Str}{apos:Pos}{args:Ba} (he:PE X e te) (I:jn X pins σ H s)
  (h:te σ H λx H1=>∃a C dx fs g,x=.ref a/\H1 a=some (.ins C dx fs)/\vi X.K C/\ke X.K C m g/\fs.lookup m=none /\
   ∀s1,jn X pins σ H1 s1->wpAny (model X.prog X.w) X.A (callWith pos (.ref g) [.ref a] (backTo pos (starEach args X.env)) (backToKw pos (keywordEach [] X.env))) Q X.xe s1)
  (ht:eval (.Call (.Attribute e m apos) args [] pos) X.env=(do
   let ov <-eval e X.env
   standAt apos.atName
   let (f,first) <-holding [ov] (getMethod ov m pl)
   callWith pos f first (backTo pos (starEach args X.env)) (backToKw pos (keywordEach [] X.env)))) :
  wpAny (model X.prog X.w) X.A (eval (.Call (.Attribute e m apos) args [] pos) X.env) Q X.xe s:=by
 refine methodCall_KW (pl:=pl) (jC (he pins s σ H _ I h) λu s1 hh=>?_) ht;obtain⟨x,H1,I1,rx,a,C,dx,fs,g,ex,ea,c,k,l,q⟩:=hh;subst ex;obtain rfl:u=Value.ref a:=rx;exact vX I1 ea c k l (q s1 I1)
end
section
variable {X:Cx}{pins:AU}{σ:St}{H:Hp}{s:Shared}{A:Around}{E:AL}{Q:AL}{c:Value}{b:Bool}
inductive vo (K:AQ) (H:Hp):V->Value->Prop where
 | non:vo K H .non (.type "NoneType")
 | bl (x:Bool):vo K H (.bl x) (.type "bool")
 | int (i:Int):vo K H (.int i) (.type "int")
 | str (x:Str):vo K H (.str x) (.type "str")
 | flt (x:UInt64):vo K H (.flt x) (.type "float")
 | lst {a:Addr} {xs:List V} (e:H a=some (.lst xs)):vo K H (.ref a) (.type "list")
 | frz {a:Addr} {o:Obj} {xs:List V} (e:H a=some (.frz o (.lst xs))):vo K H (.ref a) (.type "list")
 | tup {a:Addr} {xs:List V} (e:H a=some (.tup xs)):vo K H (.ref a) (.type "tuple")
 | dK {a:Addr} {kvs:List (Key×V)} (e:H a=some (.dK kvs)):vo K H (.ref a) (.type "dict")
 | dT {a:Addr} {kvs:List (List Key×V)} (e:H a=some (.dT kvs)):vo K H (.ref a) (.type "dict")
 | ins {a C dx:Addr} {fs:List (Str×V)} (e:H a=some (.ins C dx fs)) (cl:vi K C) (ha:findIn K (.ref C) "__class__"=some (some (.builtin "object.__class__")))
   (hn:PySem.W.specialIn K (.builtin "object.__class__") "__get__"=some (some (.builtin "getset_descriptor.__get__"))) (HP:PySem.W.takesIn K (.builtin "object.__class__")=some true)
   (hm:mroIn K C (.type "object")=some true):vo K H (.ref a) (.ref C)
theorem eM {x:V}{u t:Value} (I:jn X pins σ H s) (rx:jF x u) (ty:vo X.K H x t) (e:kitOne X.K t c=some b) (h:∀tk,Q (.bool b) { s with toks:=tk }) :
  wpAny (model X.prog X.w) A (call (.builtin "isinstance") [u,c]) Q E s:=by
 cases ty with
 | non=>cases (show u=Value.none from rx);exact kia_one PySem.W.kitx_none I.kIn True.intro e (λz=>nomatch z) h
 | bl y=>cases (show u=Value.bool y from rx);exact kia_one PySem.W.kitx_bool I.kIn True.intro e (λz=>nomatch z) h
 | int i=>obtain⟨t,q⟩:=(show ∃t,u=Value.int i t from rx);cases q;exact kia_one PySem.W.kitx_int I.kIn True.intro e (λz=>nomatch z) h
 | str y=>obtain⟨t,q⟩:=(show ∃t,u=Value.str y t from rx);cases q;exact kia_one PySem.W.kitx_str I.kIn True.intro e (λz=>nomatch z) h
 | flt y=>obtain⟨t,q⟩:=(show ∃t,u=Value.float y t from rx);cases q;exact kia_one PySem.W.kitx_float I.kIn True.intro e (λz=>nomatch z) h
 | @lst a xs ea =>
  cases (show u=Value.ref a from rx);obtain⟨_,_,n,_,h1⟩:=(show j8 X.prog X.w H s.heap a (.lst xs) from I.hok a _ ea);exact kia_one kitx_list I.kIn #[_,h1,rfl] e (λz=>nomatch z) h
 | @frz a ob xs ea =>
  cases (show u=Value.ref a from rx);obtain⟨_,_,_,n,_,h1⟩:=(show j8 X.prog X.w H s.heap a (.frz ob (.lst xs)) from I.hok a _ ea);exact kia_one kitx_list I.kIn #[_,h1,rfl] e (λz=>nomatch z) h
 | @tup a xs ea =>
  cases (show u=Value.ref a from rx);obtain⟨_,_,_,p⟩:=(show j8 X.prog X.w H s.heap a (.tup xs) from I.hok a _ ea);obtain⟨o,h1,h2,_⟩:=p;exact kia_one PySem.W.kitx_tuple I.kIn #[o,h1,h2] e (λz=>nomatch z) h
 | @dK a kvs ea =>
  cases (show u=Value.ref a from rx);obtain⟨_,_,vs,_,p⟩:=(show j8 X.prog X.w H s.heap a (.dK kvs) from I.hok a _ ea);obtain⟨o,es,ep,h1,h2,_⟩:=p;exact kia_one kitx_dict I.kIn #[o,h1,h2.1] e (λz=>nomatch z) h
 | @dT a kvs ea =>
  cases (show u=Value.ref a from rx);obtain⟨_,_,xs,_,o,es,ep,h1,h2,_⟩:=(show j8 X.prog X.w H s.heap a (.dT kvs) from I.hok a _ ea);exact kia_one kitx_dict I.kIn #[o,h1,h2.1] e (λz=>nomatch z) h
 | @ins a C dx fs ea cl ha hn HP hm =>
  cases (show u=Value.ref a from rx);obtain⟨mA,O,_⟩:=ZQ I.hok ea;obtain⟨od,J,_⟩:=O.look;exact kia_one (PySem.W.kitx_own (cl.get _) cl.hd ha hn HP hm) I.kIn J e (λz=>nomatch z) h
end
structure Jj (c:Bool) (k:Nat) (A:Around):Prop where
 hd:c=true->A.handled=none
 dp:A.depth+3*k+5<recursionLimit
 un:A.units+16*k+200<cLine
abbrev zd:=Jj true
theorem Jj.mono {c':Bool}{j:Nat}{A:Around} (r:Jj c k A) (h:j<=k) (hc:c'=true->c=true:=by decide):Jj c' j A:=#[λz=>r.hd (hc z),by have:=r.dp;omega,by have:=r.un;omega]
theorem Jj.m {c c':Bool}{j k:Nat}{A:Around} (r:Jj c k A) (h:j<=k:=by decide) (hc:c'=true->c=true:=by decide):Jj c' j A:=r.mono h hc
theorem Jj.deeper {A:Around} (r:Jj c (k+1) A) (env:Env):Jj c k (A.deeper env) :=
 #[r.hd,by have:=r.dp;show A.depth+1+3*k+5<_;omega,by have:=r.un;show A.units+3+16*k+200<_;omega]
theorem cI {A:Around}:(A.under (.builtin "type.__call__" #[.ref C::us,kw])).depth=A.depth+1:=by
 first|rfl|simp [Around.under,Code.weight,Code.isCreation,Code.isGuard,Code.isCaller,Code.frames,Code.isFrame,guardIds]
theorem cJ {A:Around}:(A.under (.builtin "type.__call__" #[.ref C::us,kw])).units=A.units+1:=by
 first|rfl|simp [Around.under,Code.cUnits,Code.frames,Code.isFrame]
theorem Jj.make {A:Around} (r:Jj c (k+1) A) (C:Addr) (us:AW) (kw:List (Str×Value)):Jj c k (A.under (.builtin "type.__call__" #[.ref C::us,kw])) :=
 #[r.hd,by have:=r.dp;rw[cI];omega,by have:=r.un;rw[cJ];omega]
theorem Jj.depth {A:Around} (r:Jj c k A):A.depth<recursionLimit:=by have:=r.dp;omega
theorem Jj.units {A:Around} (r:Jj c k A):A.units+64<cLine:=by have:=r.un;omega
theorem Jj.units0 {A:Around} (r:Jj c k A):A.units<cLine:=by have:=r.un;omega
def Am:TA:=λ_ H Q=>Q [] H
def xl (ta:TE) (tr:TA):TA:=λσ H Q=>ta σ H λx H1=>tr σ H1 λxs H2=>Q (x::xs) H2
section
variable {X:Cx}{e:Expr}{es:Ba}{te:TE}{t:TA}{pos:Pos}
theorem je:PA X [] Am:=λ_ _ _ _ H Q I h=>Calls.spliced_nil #[[],H,I,.nil,h]
theorem ja (ha:PE X e te) (hr:PA X es t) (hs:starEach (e::es) X.env=(false,eval e X.env)::starEach es X.env:=by rfl):PA X (e::es) (xl te t):=by
 intro pos pins s σ H Q I h;rw[hs];show wpAny _ _ (spliced ((false,eval e X.env)::backTo pos (starEach es X.env))) _ _ s;refine Calls.spliced_cons (jC (ha pins s σ H _ I h) λu s1 #[x,H1,I1,r1,q1]=>?_);exact jC (hr pos pins s1 σ H1 _ I1 q1) λus s2 #[xs,H2,I2,r2,q2]=>#[x::xs,H2,I2,.cons r1 r2,q2]
inductive df (Q:VK) (xs:List V) (H1:Hp):Prop
 | mk  (h0:xs.length<=sizeLine) (h1:∀p,H1 p=none->Q (.ref p) (upd H1 p (.tup xs))):df Q xs H1
def Ap (t:TA):TE:=λσ H Q=>t σ H λxs H1=>df Q xs H1
inductive pE (Q:VK) (xs:List V) (H1:Hp):Prop
 | mk  (h0:xs.length<=sizeLine) (h1:∀p,H1 p=none->Q (.ref p) (upd H1 p (.lst xs))):pE Q xs H1
def Al (t:TA):TE:=λσ H Q=>t σ H λxs H1=>pE Q xs H1
theorem jJ {x1} (h:PA X es t):PE X (.Tuple es x1 pos) (Ap t):=by
 intro pins s σ H Q I hq;refine wpAny_Tuple_spliced (jC (h pos pins s σ H _ I hq) λus s1 #[xs,H1,I1,r,z,q]=>#[by rw[<-r.length];exact z,?_]);have hf:H1 s1.heap.objs.size=none:=I1.hok.fresh (yg _);refine#[.ref s1.heap.objs.size,upd H1 s1.heap.objs.size (.tup xs),I1.laid (t':=s1.toks) (λb u e=>yd _ e) (yg _) ?_,rfl,q _ hf];exact#[z,us,r,#[_,yz _ rfl,rfl,_,rfl]]
theorem j5 (h:PA X es t):PE X (.List es pos) (Al t):=by
 intro pins s σ H Q I hq;refine wpAny_List_spliced (jC (h pos pins s σ H _ I hq) λus s1 #[xs,H1,I1,r,z,q]=>#[by rw[<-r.length];exact z,?_]);have hf:H1 s1.heap.objs.size=none:=I1.hok.fresh (yg _);refine#[.ref s1.heap.objs.size,upd H1 s1.heap.objs.size (.lst xs),I1.laid (t':=s1.toks) (λb u e=>yd _ e) (yg _) ?_,rfl,q _ hf];exact#[z,us,0,r,yz _ rfl]
end
abbrev Sp:=List V->Hp->VK->XK->Prop
abbrev Ga:=List Env->Hp->Shared->XK->Value->Shared->Prop
structure gv (P:Be) (w:World) (K:AQ) (mg:AT) (base:Heap) (A:Around) (outer:List Env) (s:Shared) (H:Hp):Prop where
 frames:A.frames=some outer
 mod:Mod K mg base
 bs:∀b o,base.get? b=some o->s.heap.get? b=some o/\H b=none
 bsz:base.objs.size<=s.heap.objs.size
 funs:s.heap.FunFrames base outer
 frf:∀b∈ul outer,H b=none
 hok:Ji P w H s.heap
 bare:AllBare s.gens
 hn:m8 A H
def CE (outer:List Env) (P:Be) (w:World) (H:Hp) (s:Shared) (Q:VK) (u:Value) (s':Shared):Prop :=
 ∃v H',s'.os=s.os/\AllBare s'.gens/\Un (ul outer) [] H H' s.heap s'.heap/\Ji P w H' s'.heap/\jF v u/\Q v H'
def CR (CX:Ga) (outer:List Env) (P:Be) (w:World) (H:Hp) (s:Shared) (Q:VK) (E:XK) (r:Result) (s':Shared):Prop :=
 match r with
 | .ok (.ret u)=>CE outer P w H s Q u s'
 | .ok _=>False
 | .error e=>CX outer H s E e s'
structure UG (P:Be) (w:World) (K:AQ) (mg:AT) (base:Heap) (CX:Ga) (k:Nat) (f:Addr) (fd:FuncData) (ps:A1) (sp:Sp) (c:Bool:=true):Prop where
 len:∀vs H Q E,sp vs H Q E->vs.length=ps.length
 run:∀(A:Around) (outer:List Env) (s:Shared) (H:Hp) (args:Args) (us:AW) (vs:List V) (Q:VK) (E:XK),Jj c k A->gv P w K mg base A outer s H->BindsTo s fd args (ps.zip us)->jA vs us->sp vs H Q E ->
  codeAny (model P w) A (.call (.ref f) args) (CR CX outer P w H s Q E) s
theorem gv.make {w:World}{K:AQ}{mg:AT}{base:Heap}{A:Around}{outer:List Env} (e:gv P w K mg base A outer s H) (C:Addr) (us:AW) (kw:List (Str×Value)) :
  gv P w K mg base (A.under (.builtin "type.__call__" #[.ref C::us,kw])) outer s H:=#[by first|exact e.frames|(simpa [Around.under,Code.envs,Code.isFrame,pushEnvs] using e.frames),e.mod,e.bs,e.bsz,e.funs,e.frf,e.hok,e.bare,e.hn]
section
variable {X:Cx}{pins:AU}{σ:St}{H:Hp}{s s':Shared}
theorem jn.env0 (I:jn X pins σ H s):gv X.prog X.w X.K X.mg X.base X.A X.stack s H :=
 #[I.ok.frames,I.ok.mod,I.bs,yp I.ok.bsz I.sz,I.stack,I.stkFree,I.hok,I.bare,I.hn]
theorem jn.after {Q:VK}{u:Value} (I:jn X pins σ H s) (h:CE X.stack X.prog X.w H s Q u s'):EP X pins σ Q u s':=by
 obtain⟨v,H',os,bare,un,hok,r,q⟩:=h;obtain⟨hh,g,d,t,IS⟩:=s';obtain rfl:IS=s.os:=os;exact#[v,H',I.call (h':=hh) (g':=g) (d':=d) (t':=t) (ch:=[]) un hok bare (λb z=>absurd z (by simp)),r,q]
end
def pC (sp:Sp) (dvs:List V) (E:XK) (t:TA):TE:=λσ H Q=>t σ H λvs H1=>sp (vs++dvs) H1 Q E
inductive ig (C:Addr) (m:Str) (sp:Sp) (dvs:List V) (E:XK) (t:TA) (σ:St) (Q:VK) (x:V) (H1:Hp):Prop
 | mk (a:_) (dx:_) (fs:_) (h0:x=.ref a) (h1:H1 a=some (.ins C dx fs)) (h2:fs.lookup m=none) (h3:t σ H1 λvs H2=>sp (x::(vs++dvs)) H2 Q E):ig C m sp dvs E t σ Q x H1
def de (C:Addr) (m:Str) (sp:Sp) (dvs:List V) (E:XK) (ta:TE) (t:TA):TE:=λσ H Q=>ta σ H λx H1=>ig C m sp dvs E t σ Q x H1
def pF (C:Addr) (sp:Sp) (dvs:List V) (E:XK) (t:TA):TE:=λσ H Q=>t σ H λvs H1=>∀x dx,H1 x=none->H1 dx=none->dx≠x ->
 sp (.ref x::(vs++dvs)) (upd (upd H1 dx (.own x)) x (.ins C dx [])) (λv H2=>v=.non/\Q (.ref x) H2) E
def Uf (K:AQ) (fd:FuncData) (ps:A1) (ds:AW):Prop :=
 ∀(s:Shared) (us:AW),K.In s.heap->(us++ds).length=ps.length->BindsTo s fd #[us,[]] (ps.zip (us++ds))
theorem Uf.all {K:AQ}{fd:FuncData} (h:∀us:List Value,us.length=ps.length->bindArgs fd ⟨us,[]⟩=pure (ps.zip us)):Uf K fd ps []:=λs us _ hl=>by
 rw[yB] at hl ⊢;exact .of_eq (h us hl)
def uX (CX:Ga) (X:Cx) (E:XK):Prop:=∀(pins:AU) (σ:St) (H:Hp) (s:Shared) (e:Value) (s':Shared),jn X pins σ H s->CX X.stack H s E e s'->X.xe e s'
section
variable {X:Cx}{CX:Ga}{k:Nat}{f C:Addr}{fd:FuncData}{ps:A1}{sp:Sp}{dvs:List V}{ds:AW}{E:XK}{x m:Str}{p pos apos:Pos}{e o:Expr}{es:Ba}{ta:TE}{t:TA}
theorem GZ {Q:VK} (F:UG X.prog X.w X.K X.mg X.base CX k f fd ps sp cm) (hr:Jj cm k X.A) (hb:Uf X.K fd ps ds) (hd:jA dvs ds) (hx:uX CX X E)
  (I:jn X pins σ H s) (r:jA vs us) (h:sp (vs++dvs) H Q E):wpAny (model X.prog X.w) X.A (call (.ref f) us) (EP X pins σ Q) X.xe s:=by
 have r2:jA (vs++dvs) (us++ds):=r.append hd;have hl:(us++ds).length=ps.length:=by rw[<-r2.length];exact F.len _ _ _ _ h
 refine wpAny_call (codeAny_mono (F.run X.A X.stack s H #[us,[]] (us++ds) (vs++dvs) Q E hr I.env0 (hb s us I.kIn hl) r2 h) λr s' hq=>?_);cases r with
 | error e=>exact hx pins σ H s e s' I hq
 | ok fl =>
  cases fl with
  | ret u=>exact I.after hq
  | next=>exact False.elim hq
  | brk=>exact False.elim hq
  | cont=>exact False.elim hq
theorem qp (F:UG X.prog X.w X.K X.mg X.base CX k f fd ps sp cm) (hr:Jj cm k X.A) (hg:Gl X x) (hm:X.mg x=some (.ref f)) (hk:keepIn X.K (.ref f)=true) (hb:Uf X.K fd ps ds) (hd:jA dvs ds) (hx:uX CX X E)
  (ha:PA X (e::es) t) (DA:(x==("__debug__":Str))=false:=by decide) (he:starEach (e::es) X.env=(false,eval e X.env)::starEach es X.env:=by rfl) (Bx:(backTo pos (starEach es X.env)).any (·.1)=false:=by rfl) :
  PE X (.Call (.Name x p) (e::es) [] pos) (pC sp dvs E t):=by
 intro pins s σ H Q I h;refine wpAny_Call_Name_kw (kB I hg hm ?_ DA);refine callWith_K (h₀:=X.base) I.ok.mod.kin hk (jC (ha pos pins s σ H _ I h) λus s1 #[vs,H1,I1,r,q]=>#[I1.kIn,?_]) he Bx;exact GZ F hr hb hd hx I1 r q
theorem qt {pl:Sem Bool} (he:PE X o ta) (c:vi X.K C) (hm:ke X.K C m f) (F:UG X.prog X.w X.K X.mg X.base CX k f fd ps sp cm) (hr:Jj cm k X.A) (hb:Uf X.K fd ps ds) (hd:jA dvs ds) (hx:uX CX X E) (ha:PA X (e::es) t)
  (BK:starEach (e::es) X.env=(false,eval e X.env)::starEach es X.env:=by rfl) (Bx:(backTo pos (starEach es X.env)).any (·.1)=false:=by rfl)
  (ht:eval (.Call (.Attribute o m apos) (e::es) [] pos) X.env=(do
   let ov <-eval o X.env
   standAt apos.atName
   let (f,first) <-holding [ov] (getMethod ov m pl)
   callWith pos f first (backTo pos (starEach (e::es) X.env)) (backToKw pos (keywordEach [] X.env))):=by rfl) :
  PE X (.Call (.Attribute o m apos) (e::es) [] pos) (de C m sp dvs E ta t):=by
 intro pins s σ H Q I h;refine methodCall_KW (pl:=pl) (jC (he pins s σ H _ I h) λu s1 hh=>?_) ht;obtain⟨x,H1,I1,rx,a,dx,fs,ex,ea,l,q⟩:=hh;subst ex;obtain rfl:u=Value.ref a:=rx;refine vX I1 ea c hm l ?_;refine callWith_K (first:=[.ref a]) (h₀:=X.base) I.ok.mod.kin hm.kp (jC (ha pos pins s1 σ H1 _ I1 q) λus s2 #[vs,H2,I2,r,q2]=>#[I2.kIn,?_]) BK Bx;exact GZ (us:=.ref a::us) (vs:=.ref a::vs) F hr hb hd hx I2 (.cons rfl r) q2
structure Mk (K:AQ) (C f:Addr):Prop where
 makes:makesIn K C=true
 init:findIn K (.ref C) "__init__"=some (some (.ref f))
 fn:isFn K (.ref f)=true
 kp:keepIn K (.ref C)=true
theorem lT {Q:VK} (M:Mk X.K C f) (F:UG X.prog X.w X.K X.mg X.base CX k f fd ps sp) (hr:zd (k+1) X.A) (hb:Uf X.K fd ps ds) (hd:jA dvs ds)
  (hx:uX CX X E) (I:jn X pins σ H s) (r:jA vs us)
  (h:∀x dx,H x=none->H dx=none->dx≠x->sp (.ref x::(vs++dvs)) (upd (upd H dx (.own x)) x (.ins C dx [])) (λv H2=>v=.non/\Q (.ref x) H2) E) :
  wpAny (model X.prog X.w) X.A (call (.ref C) us) (EP X pins σ Q) X.xe s:=by
 have hq:=h (s.heap.objs.size+1) s.heap.objs.size (I.hok.fresh (Nat.le_succ _)) (I.hok.fresh (yg _)) (yE (Nat.lt_succ_self _));have I2:=jn.made (C:=C) I;have r2:jA (V.ref (s.heap.objs.size+1)::(vs++dvs)) (Value.ref (s.heap.objs.size+1)::(us++ds)):=.cons rfl (r.append hd);have hl:(Value.ref (s.heap.objs.size+1)::us++ds).length=ps.length:=by
  have e:=r2.length;rw[F.len _ _ _ _ hq] at e;exact e.symm
 refine wpAny_call (lu (f:=f) I.kIn M.makes M.init (beq_iff_eq.mp M.fn) (codeAny_mono (F.run _ X.stack _ _ #[Value.ref (s.heap.objs.size+1)::us,[]] (Value.ref (s.heap.objs.size+1)::(us++ds)) _ _ E (hr.make C us [])
  (I2.env0.make C us []) (hb _ (Value.ref (s.heap.objs.size+1)::us) I2.kIn hl) r2 hq) λr s' El=>?_))
 cases r with
 | error e=>exact hx pins σ _ _ e s' I2 El
 | ok fl =>
  cases fl with
  | ret u =>
   obtain⟨v,H',I3,rv,ev,q3⟩:=I2.after El;subst ev;exact#[rv,#[V.ref (s.heap.objs.size+1),H',I3,rfl,q3]]
  | next=>exact False.elim El
  | brk=>exact False.elim El
  | cont=>exact False.elim El
theorem qr (M:Mk X.K C f) (F:UG X.prog X.w X.K X.mg X.base CX k f fd ps sp) (hr:zd (k+1) X.A) (hg:Gl X x) (hm:X.mg x=some (.ref C)) (hb:Uf X.K fd ps ds) (hd:jA dvs ds) (hx:uX CX X E)
  (ha:PA X (e::es) t) (DA:(x==("__debug__":Str))=false:=by decide) (he:starEach (e::es) X.env=(false,eval e X.env)::starEach es X.env:=by rfl) (Bx:(backTo pos (starEach es X.env)).any (·.1)=false:=by rfl) :
  PE X (.Call (.Name x p) (e::es) [] pos) (pF C sp dvs E t):=by
 intro pins s σ H Q I h;refine wpAny_Call_Name_kw (kB I hg hm ?_ DA);refine callWith_K (h₀:=X.base) I.ok.mod.kin M.kp (jC (ha pos pins s σ H _ I h) λus s1 #[vs,H1,I1,r,q]=>#[I1.kIn,?_]) he Bx;exact lT M F hr hb hd hx I1 r q
end
structure Uw (N P:A1) (sc:Scope):Prop where
 kind:sc.kind=.function
 co:sc.isCoroutine=false
 gen:sc.isGenerator=false
 nd:N.Nodup
 pre:N.take P.length=P
 par:∀x∈P,sc.names.lookup x=some .local\/sc.names.lookup x=some .cell
 nofree:∀y∈sc.names,y.2≠.free
theorem AJ {N P:A1}{sc:Scope} (a:sc.kind=.function:=by rfl) (b:sc.isCoroutine=false:=by rfl) (c:sc.isGenerator=false:=by rfl) (d:N.Nodup:=by decide +kernel) (e:N.take P.length=P:=by rfl) (f:∀x∈P,sc.names.lookup x=some .local\/sc.names.lookup x=some .cell:=by decide +kernel) (g:∀y∈sc.names,y.2≠.free:=by decide +kernel):Uw N P sc:=#[a,b,c,d,e,f,g]
theorem Kc {x:Str}:∀{binds:List (Str×Value)} {m:AT},(∀v,(x,v) ∉ binds)->bindL kindOf binds m x=m x
 | [],_,_=>rfl
 | (n,v)::r,m,h=>by
  unfold bindL;rw[Kc λw hw=>h w (yA _ hw)];split
  ·have:x≠n:=by rintro rfl;exact h v yD
   simp [this]
  ·rfl
theorem Ka {x:Str}:∀{binds:List (Str×Value)} {m:AT},(∀v,(x,v) ∉ binds)->bindC kindOf binds m x=m x
 | [],_,_=>rfl
 | (n,v)::r,m,h=>by
  unfold bindC;rw[Ka λw hw=>h w (yA _ hw)];split
  ·rfl
  ·have:x≠n:=by rintro rfl;exact h v yD
   simp [this]
theorem Kb {kindOf:Str->Option NameKind}{x:Str}{v:Value}:∀{P:A1} {vs:AW} {i:Nat} {m:AT},P.Nodup->P[i]?=some x->vs[i]?=some v->kindOf x=some .local ->
  bindL kindOf (P.zip vs) m x=some v
 | [],_,_,_,_,h,_,_=>by simp at h
 | _::_,[],_,_,_,_,h,_=>by simp at h
 | p::P,w::vs,0,m,nd,h1,h2,hk=>by
  simp at h1 h2;subst h1;subst h2;show bindL kindOf ((p,w)::P.zip vs) m p=_;unfold bindL;rw[Kc λv hv=>(Qu.mp nd).1 (List.of_mem_zip hv).1,if_pos hk];simp
 | p::P,w::vs,i+1,m,nd,h1,h2,hk=>by
  show bindL kindOf ((p,w)::P.zip vs) m x=_;unfold bindL;exact Kb (i:=i) (Qu.mp nd).2 (by simpa using h1) (by simpa using h2) hk
theorem kZ {kindOf:Str->Option NameKind}{x:Str}{v:Value}:∀{P:A1} {vs:AW} {i:Nat} {m:AT},P.Nodup->P[i]?=some x->vs[i]?=some v->kindOf x≠some .local ->
  bindC kindOf (P.zip vs) m x=some v
 | [],_,_,_,_,h,_,_=>by simp at h
 | _::_,[],_,_,_,_,h,_=>by simp at h
 | p::P,w::vs,0,m,nd,h1,h2,hk=>by
  simp at h1 h2;subst h1;subst h2;show bindC kindOf ((p,w)::P.zip vs) m p=_;unfold bindC;rw[Ka λv hv=>(Qu.mp nd).1 (List.of_mem_zip hv).1,if_neg hk];simp
 | p::P,w::vs,i+1,m,nd,h1,h2,hk=>by
  show bindC kindOf ((p,w)::P.zip vs) m x=_;unfold bindC;exact kZ (i:=i) (Qu.mp nd).2 (by simpa using h1) (by simpa using h2) hk
def start (N:A1) (vs:List V):St:=vs.map some++List.replicate (N.length - vs.length) none
def gK (CX:Ga) (P:Be) (w:World) (K:AQ) (mg:AT) (base:Heap) (N:A1) (qual:Str) (scope:Scope) (f:Addr) (cd:Value) (A:Around) (outer:List Env) (s:Shared) (H:Hp) (E:XK) (c:Bool:=true):Cx where
 prog:=P
 w:=w
 K:=K
 mg:=mg
 base:=base
 A:=A.deeper (envOfC qual scope s.heap.objs.size f cd)
 N:=N
 s₀:=s
 H₀:=H
 env:=envOfC qual scope s.heap.objs.size f cd
 outer:=outer
 stack:=envOfC qual scope s.heap.objs.size f cd::outer
 ex:=[]
 calm:=c
 fn:=λ_=>true
 pn:=[]
 xe:=λe s'=>wpAny (model P w) (A.deeper (envOfC qual scope s.heap.objs.size f cd)) (leaving (envOfC qual scope s.heap.objs.size f cd) e) (λ_ Pq=>CX outer H s E e Pq) (λe' Pq=>CX outer H s E e' Pq) s'
theorem Mn {sc:Scope}{x:Str} (h:sc.names.lookup x=some .cell):∃c,(cellsFrom n sc.names []).lookup x=some c:=by
 have q:=cellsFrom_some sc.names n [] (.inl h);exact Option.isSome_iff_exists.mp q
theorem eL {w:World}{K:AQ}{mg:AT}{base:Heap}{N:A1}{f:Addr}{cd:Value}{A:Around}{outer:List Env}{s1:Shared}{E:XK}
  {c:Bool} (S:Uw N ps scope) (hd:c=true->A.handled=none) (e0:gv P w K mg base A outer s H) (hl:vs.length=ps.length) (r:jA vs us)
  (x:InCallC s s.heap.objs.size (bindL (envOfC qual scope s.heap.objs.size f cd).kindOf (ps.zip us) λ_=>none) (cellsFrom (s.heap.objs.size+1) scope.names []) (bindC (envOfC qual scope s.heap.objs.size f cd).kindOf (ps.zip us) λ_=>none) s1) :
  jn (gK CX P w K mg base N qual scope f cd A outer s H E c) [] (start N vs) H s1:=by
 have Bx:ps.length<=N.length:=by have:=congrArg List.length S.pre;rw[yO] at this;omega
 obtain⟨h1,tk,rfl,hk⟩:=x.done;have IT:∀b:Addr,b ∉ (gK CX P w K mg base N qual scope f cd A outer s H E c).ex:=λb z=>absurd (show b∈([]:AX) from z) (by simp);refine#[#[e0.mod,S.kind,rfl,rfl,yg _,λy z c h1 h2=>?_,λy hy=>?_,λy c' _ h=>?_,hd,Around.frames_deeper e0.frames,.inr #[rfl,rfl],λb z=>absurd z (IT b),e0.bs,e0.bsz,λb _ _=>IT b,λb z=>absurd z (IT b),e0.funs,e0.frf],
  rfl,e0.bare,Un.kept hk,#[_,x.toInCall.ns,λi y v h1 h2 h3=>?_],λy c h=>#[_,x.cell y c h],e0.hok.fresh (yg _),λy c h=>?_,λp hp=>absurd (show p∈([]:AU) from hp) (by simp),e0.hok.kept hk,?_,e0.hn]
 ·exact name_of_addr x.apart (PySem.mem_of_lookup h1) (PySem.mem_of_lookup h2)
 ·have hy:scope.names.lookup y=some .cell\/scope.names.lookup y=some .free:=hy;rcases hy with hy|hy
  ·exact Mn hy
  ·exact absurd rfl (S.nofree _ (PySem.mem_of_lookup hy))
 ·exact Nat.le_of_lt (x.above y c' (PySem.mem_of_lookup h))
 ·have hi:i<vs.length:=by
   unfold start at h2;by_cases hi:i<vs.length
   ·exact hi
   ·rw[yS (by simpa using hi)] at h2;rw[List.getElem?_replicate] at h2
    split at h2<;>cases h2
  have ha:vs[i]?=some v:=by
   unfold start at h2;rw[yK (by simpa using hi),yj] at h2;cases e:vs[i]? with
   | none=>rw[e] at h2;cases h2
   | some a=>rw[e] at h2;cases h2;rfl
  obtain⟨u,hu,rv⟩:=r.get ha;have hp:ps[i]?=some y:=by
   rw[<-S.pre,List.getElem?_take_of_lt (by omega)];exact h1
  have Te:ps.Nodup:=by rw[<-S.pre];exact S.nd.sublist (List.take_sublist _ _)
  refine#[u,rv,?_];rcases S.par y (yT hp) with k|k
  ·exact .inl #[k,Kb Te hp hu k]
  ·obtain⟨c,e⟩:=Mn (n:=s.heap.objs.size+1) k;refine .inr #[.inl k,c,e,?_];have q:=x.cell y c e;rw[kZ Te hp hu (by show scope.names.lookup y≠_;rw[k];decide)] at q;exact q
 ·exact e0.hok.fresh (Nat.le_of_lt (x.above y c (PySem.mem_of_lookup h)))
 ·unfold start;show _=N.length;rw[ye,yb,List.length_replicate];omega
theorem wO {w:World}{K:AQ}{mg:AT}{base:Heap}{f:Addr}{name:Str}{params:Arguments}{dV kV doc pm Bk ct oc:Value}{an od:Bc}
  {FO:A0} {N ps:A1} {sp:Sp} {c:Bool} (lk:K.lookup f=some #[oc,od,.func (fnOf name qual params body scope dV kV doc pm an Bk ct),FO]) (BD:codeIn K Bk qual=true) (S:Uw N ps scope)
  (len:∀vs H Q E,sp vs H Q E->vs.length=ps.length)
  (DB:∀(A:Around) (outer:List Env) (s:Shared) (H:Hp) (vs:List V) (Q:VK) (E:XK),Jj c k (A.deeper (envOfC qual scope s.heap.objs.size f Bk))->sp vs H Q E ->
   ∃t,z6 (gK CX P w K mg base N qual scope f Bk A outer s H E c) body t/\t { nx:=λ_ H'=>Q .non H',rt:=Q } (start N vs) H) :
  UG P w K mg base CX (k+1) f (fnOf name qual params body scope dV kV doc pm an Bk ct) ps sp c:=by
 refine#[len,λA outer s H args us vs Q E hr e0 hb r CZ=>?_];have hl:=len _ _ _ _ CZ;have KX:K.In s.heap:=e0.mod.kin.keeps λb o e=>(e0.bs b o e).1;have lim:s.heap.NoLimit:=e0.mod.nolimit.keeps λb o e=>(e0.bs b o e).1;have IU:∀y∈ps.zip us,scope.names.lookup y.1=some .local\/(scope.names.lookup y.1=some .cell/\((cellsFrom (s.heap.objs.size+1) scope.names []).lookup y.1).isSome=true):=λ⟨n,v⟩ hy=>by
  rcases S.par n (List.of_mem_zip hy).1 with q|q
  ·exact .inl q
  ·exact .inr #[q,cellsFrom_some _ _ _ (.inl q)]
 refine codeAny_call_function hr.depth (KX _ _ lk) rfl S.co S.gen rfl (PySem.W.codeRec_of KX BD) (hb _ _ _ _ ?_);refine wpAny_newFunctionEnv_cells S.kind IU λenv he s1 x=>?_;subst he;refine#[lim.keeps x.toInCall.keep,codeAny_func ?_];obtain⟨t,ht,hq⟩:=DB A outer s H vs Q E (hr.deeper _) CZ;have I:jn (gK CX P w K mg base N qual scope f Bk A outer s H E c) [] (start N vs) H s1:=eL S hr.hd e0 hl r x;refine wpAny_mono (ht [] s1 (start N vs) H _ I hq) (λfl s' hs=>?_) λe s' hs=>hs;have fin:∀{σ':St} {H':Hp} {v:V} {u:Value},jn (gK CX P w K mg base N qual scope f Bk A outer s H E c) [] σ' H' s'->jF v u->Q v H'->CE outer P w H s Q u s' :=
  λ{σ' H' v u} J rv q=>#[v,H',J.os,J.bare,J.base,J.hok,rv,q]
 cases fl with
 | ret u =>
  obtain⟨v,σ',H',J,rv,q⟩:=hs;exact fin J rv q
 | next =>
  obtain⟨σ',H',J,q⟩:=hs;exact fin (v:=V.non) (u:=Value.none) J rfl q
 | brk =>
  obtain⟨_,_,_,q⟩:=hs;exact False.elim q
 | cont =>
  obtain⟨_,_,_,q⟩:=hs;exact False.elim q
section
variable {X:Cx}{x:Str}{p pos:Pos}{e:Expr}{es:Ba}{t:TA}{id T:String}{r:List V->Hp->VK->Prop}
def xL (r:List V->Hp->VK->Prop) (t:TA):TE:=λσ H Q=>t σ H λvs H1=>r vs H1 Q
theorem jT (hc:uH X (.builtin id) r) (hg:Gl X x) (hm:X.mg x=none) (hv:bootBuiltins x=some (.builtin id)) (ha:PA X (e::es) t) (hn:x≠"__name__":=by decide) (DA:(x==("__debug__":Str))=false:=by decide)
  (he:starEach (e::es) X.env=(false,eval e X.env)::starEach es X.env:=by rfl) (Bx:(backTo pos (starEach es X.env)).any (·.1)=false:=by rfl):PE X (.Call (.Name x p) (e::es) [] pos) (xL r t):=by
 intro pins s σ H Q I h;refine wpAny_Call_Name_kw (VY I hg hm hv ?_ hn DA);exact PyProof.Rows.callWith_builtin1 (jC (ha pos pins s σ H _ I h) λus s1 #[vs,H1,I1,r1,q1]=>hc pins s1 σ H1 vs us Q I1 r1 q1) he Bx
theorem vG (hc:uH X (.type T) r) (hg:Gl X x) (hm:X.mg x=none) (hv:bootBuiltins x=some (.type T)) (ha:PA X (e::es) t) (hn:x≠"__name__":=by decide) (DA:(x==("__debug__":Str))=false:=by decide)
  (he:starEach (e::es) X.env=(false,eval e X.env)::starEach es X.env:=by rfl) (Bx:(backTo pos (starEach es X.env)).any (·.1)=false:=by rfl):PE X (.Call (.Name x p) (e::es) [] pos) (xL r t):=by
 intro pins s σ H Q I h;refine wpAny_Call_Name_kw (VY I hg hm hv ?_ hn DA);exact PyProof.Rows.callWith_type1 (jC (ha pos pins s σ H _ I h) λus s1 #[vs,H1,I1,r1,q1]=>hc pins s1 σ H1 vs us Q I1 r1 q1) he Bx
end
end L2
namespace HT
open PySem PyProof.Rows
section
variable {prog:Be}{w:World}{A:Around}{E:AL}{s:Shared}
theorem cat_tup {t b:Addr}{vs ws:AW}{Q:AL} (ht:IsTup s.heap t vs.toArray) (hb:IsTup s.heap b ws.toArray) (hv:vs≠[])
  (h1:ws=[]->Q (.ref t) s) (h2:ws≠[]->Q (.ref s.heap.objs.size) { s with heap:=s.heap.push { cls:=.type "tuple",data:=.seq (vs++ws).toArray } })
  (hsz:vs.length+ws.length<=sizeLine):wpAny (model prog w) A (binaryOp .Add (.ref t) (.ref b)) Q E s:=by
 obtain⟨⟨cls,dd,data,sl⟩,ho,hc,n,hd⟩:=id ht;obtain⟨⟨IV,D8,data2,D9⟩,CH,EU,n2,hd2⟩:=id hb;simp only at hc hd EU hd2;subst hc hd EU hd2;have e:vs.toArray++ws.toArray=(vs++ws).toArray:=by simp
 by_cases hw:ws=[]
 ·exact concat_meets #[_,ho,rfl] #[_,CH,rfl] noFill_tuple_add seq_tuple_add PySem.F.slot_tuple_add PySem.F.entry_tuple_add (PySem.F.args_tuple_add_2 _ _)
   (tuple_addW1 t b vs.toArray ws.toArray n n2 dd D8 sl D9 (by simpa using hv) (by simp [hw])) #[ho,CH,h1 hw]
 ·refine concat_meets #[_,ho,rfl] #[_,CH,rfl] noFill_tuple_add seq_tuple_add PySem.F.slot_tuple_add PySem.F.entry_tuple_add (PySem.F.args_tuple_add_2 _ _)
   (tuple_addW2 t b vs.toArray ws.toArray n n2 dd D8 sl D9 (by simpa using hv) (by simpa using hw) (by rw[yk,yk];exact hsz)) #[ho,CH,?_]
  rw[e];exact h2 hw
def sIx (n d:Nat):Option Int->Nat
 | none=>d
 | some v=>if v<0 then (v+(n:Int)).toNat else min v.toNat n
end
end HT
namespace L2
open PySem PySem.Spec PyProof.Rows
variable {xs:List V}{us Bi its':AW}{n j t':Nat}{i:Int}{pins:AU}{σ:St}{H:Hp}{s:Shared}{p:Addr}
abbrev TO:=St->Hp->(Option Int->Hp->Prop)->Prop
def PO (X:Cx) (e:Option Expr) (t:TO):Prop :=
 ∀(pins:AU) (s:Shared) (σ:St) (H:Hp) (Q:Option Int->Hp->Prop),jn X pins σ H s->t σ H Q ->
  wpAny (model X.prog X.w) X.A (evalPart e X.env) (λu s'=>∃o H',jn X pins σ H' s'/\IsPart u o/\Q o H') X.xe s
def qY:TO:=λ_ H Q=>Q none H
inductive ij (Q:Option Int->Hp->Prop) (x:V) (H1:Hp):Prop
 | mk (i:_) (h0:x=.int i) (h1:Q (some i) H1):ij Q x H1
def xq (t:TE):TO:=λσ H Q=>t σ H λx H1=>ij Q x H1
theorem cn {ns:List Int}:∀{us:AW},jA (ns.map V.int) us->IntsAre us ns:=by
 induction ns with
 | nil=>intro us r;rw[Wh] at r;cases r;exact .nil
 | cons n ns ih =>
  intro us r;rw[yH] at r;cases r with
  | cons r1 r2 =>
   obtain⟨t,e⟩:=r1;subst e;exact .cons n t (ih r2)
section
variable {X:Cx}{e:Expr}{te:TE}{lo hi:Option Expr}{tl th:TO}{pos p2:Pos}
theorem aR:PO X none qY:=by
 intro pins s σ H Q I h;rw[evalPart_none];exact Bg #[none,H,I,.none,h]
theorem aS (h:PE X e te):PO X (some e) (xq te):=by
 intro pins s σ H Q I hw;rw[evalPart_some];refine jC (h pins s σ H _ I hw) λu s1 #[x,H1,I1,r1,q1]=>?_;obtain⟨i,rfl,q⟩:=q1;obtain⟨t,rfl⟩:=r1;exact#[some i,H1,I1,.int i t,q]
def xE (X:Cx) (r:V->Option Int->Option Int->Hp->VK->Prop):Prop :=
 ∀(pins:AU) (s:Shared) (σ:St) (H:Hp) (x:V) (v vl vu:Value) (lo hi:Option Int) (sl:Addr) (Q:VK),jn X pins σ H s->jF x v->s.heap.IsSliceOf sl vl vu .none->IsPart vl lo->IsPart vu hi->r x lo hi H Q ->
  ∃T id,typeLookup (.type T) "__getitem__"=pure (some (.builtin id))/\s.TypeIs v T/\wpAny (model X.prog X.w) X.A (getItem v (.ref sl)) (EP X pins σ Q) X.xe s
def AI (r:V->Option Int->Option Int->Hp->VK->Prop) (te:TE) (tl th:TO):TE:=λσ H Q=>te σ H λx H1=>tl σ H1 λl H2=>th σ H2 λu H3=>r x l u H3 Q
theorem nE {r:V->Option Int->Option Int->Hp->VK->Prop} (hr:xE X r) (he:PE X e te) (hl:PO X lo tl) (hu:PO X hi th):PE X (.Subscript e (.Slice lo hi none p2) pos) (AI r te tl th):=by
 intro pins s σ H Q I h;refine Subscript_ (jC (he pins s σ H _ I h) λv s1 #[x,H1,I1,r1,q1]=>?_);refine wpAny_Slice (jC (hl pins s1 σ H1 _ I1 q1) λvl s2 #[l,H2,I2,pl,q2]=>jC (hu pins s2 σ H2 _ I2 q2) λvu s3 #[u,H3,I3,pu,q3]=>?_);rw[evalPart_none];refine Bg ?_;have I4:jn X pins σ H3 { s3 with heap:=s3.heap.push { cls:=.type "slice",data:=.fields (List.toArray [vl,vu,.none]) } }:=I3.kept (t':=s3.toks) λb ob q=>yd _ q;obtain⟨T,id,hT,ht,hg⟩:=hr pins { s3 with heap:=s3.heap.push { cls:=.type "slice",data:=.fields (List.toArray [vl,vu,.none]) } } σ H3 x v vl vu l u s3.heap.objs.size Q I4 r1 (Heap.IsSliceOf.new ..) pl pu q3;show wpAny (model X.prog X.w) X.A (subscriptTail e (.Slice lo hi none p2) v (.ref s3.heap.objs.size)) (EP X pins σ Q) X.xe { s3 with heap:=s3.heap.push { cls:=.type "slice",data:=.fields (List.toArray [vl,vu,.none]) } };exact tail_any (ops:=[.ref s3.heap.objs.size,v]) ht hT hg (by with_unfolding_all rfl)
def gJ (xs:List V) (lo hi:Option Int):List V:=(xs.drop (HT.sIx xs.length 0 lo)).take (HT.sIx xs.length xs.length hi - HT.sIx xs.length 0 lo)
theorem Nv (xs:List V) (lo hi:Option Int):(gJ xs lo hi).length<=xs.length:=by
 unfold gJ;rw[yO,Qw];omega
def o6 (K:AQ):R2:=λx y H Q=>∃a b xs ys,x=.ref a/\y=.ref b/\jD K H a xs/\jD K H b ys/\xs≠[]/\xs.length+ys.length<=sizeLine /\
 (ys=[]->Q (.ref a) H)/\(ys≠[]->∀p,H p=none->Q (.ref p) (upd H p (.tup (xs++ys))))
theorem jA.nil_iff (r:jA xs us):us=[]↔xs=[]:=by
 cases r with
 | nil=>simp
 | cons _ _=>simp
theorem aO:JZ X (binaryOp .Add) (o6 X.K):=by
 intro pins s σ H x y v u Q I rx ry h;obtain⟨a,b,xs,ys,rfl,rfl,ha,hb,hx,hz,q1,q2⟩:=h;cases rx;cases ry;obtain⟨Bi,r1,p1,_⟩:=I.tuple ha;obtain⟨Bl,r2,p2,_⟩:=I.tuple hb;refine HT.cat_tup p1 p2 (λz=>hx (r1.nil_iff.mp z)) (λz=>#[.ref a,H,I,rfl,q1 (r2.nil_iff.mp z)]) (λz=>?_) (by rw[<-r1.length,<-r2.length];exact hz);refine#[.ref s.heap.objs.size,_,I.laid (t':=s.toks) (o:=.tup (xs++ys)) (λb ob q=>yd _ q) (yg _) ?_,rfl,q2 (λw=>z (r2.nil_iff.mpr w)) _ (I.hok.fresh (yg _))];exact#[by rw[ye];exact hz,_,r1.append r2,IsTup.new _ _]
end
def Kq (n:Nat) (i:Int):Option Nat:=if 0<=i then (if i<n then some i.toNat else none) else if -(n:Int)<=i then some (i+n).toNat else none
def ga {α:Type} (xs:List α) (i:Int):Option α:=(Kq xs.length i).bind λj=>xs[j]?
theorem aA (h:Kq n i=some j):seqIndex? i n=some j/\j<n/\-(n:Int)<=i/\i<n:=by
 unfold Kq at h;by_cases h0:0<=i
 ·rw[if_pos h0] at h;by_cases h1:i<n
  ·rw[if_pos h1] at h;have e:i.toNat=j:=Option.some.inj h;exact#[by rw[seqIndex_of h0 h1,e],by omega,by omega,h1]
  ·rw[if_neg h1] at h;cases h
 ·rw[if_neg h0] at h;by_cases h1:-(n:Int)<=i
  ·rw[if_pos h1] at h;have e:(i+n).toNat=j:=Option.some.inj h;exact#[by rw[seqIndex_neg (by omega) h1,e],by omega,h1,by omega]
  ·rw[if_neg h1] at h;cases h
theorem ad {α:Type}{xs:List α}{v:α} (h:ga xs i=some v):∃j,seqIndex? i xs.length=some j/\xs[j]?=some v/\j<xs.length/\-(xs.length:Int)<=i/\i<xs.length:=by
 unfold ga at h;cases e:Kq xs.length i with
 | none=>rw[e] at h;cases h
 | some j =>
  rw[e] at h;obtain⟨h1,h2,h3,h4⟩:=aA e;exact#[j,h1,h,h2,h3,h4]
theorem vp {α:Type}{xs:List α}{v:α} (h:xs[j]?=some v):ga xs (j:Int)=some v:=by
 have hj:j<xs.length:=(yi.mp h).1;have e:Kq xs.length (j:Int)=some j:=by
  unfold Kq;rw[if_pos (by omega),if_pos (by omega)];simp
 unfold ga;rw[e];exact h
def pL (b:Expr):Prop:=∀o i,subscripted b false o i=operate [o,i] (getItem o i)
def rA (X:Cx) (r:R2):Prop :=
 ∀(value slice:Expr) (pins:AU) (s:Shared) (σ:St) (H:Hp) (x y:V) (v u:Value) (Q:VK),jn X pins σ H s->jF x v->jF y u->r x y H Q ->
  subscripted slice false v u=operate [v,u] (getItem v u)->wpAny (model X.prog X.w) X.A (subscriptTail value slice v u) (EP X pins σ Q) X.xe s
def rF (X:Cx) (id:String) (r:V->List V->Hp->VK->Prop):Prop :=
 ∀(pins:AU) (s:Shared) (σ:St) (H:Hp) (x:V) (xs:List V) (v:Value) (us:AW) (Q:VK),jn X pins σ H s->jF x v->jA xs us->r x xs H Q ->
  wpAny (model X.prog X.w) X.A (call (.builtin id) (v::us)) (EP X pins σ Q) X.xe s
section
variable {X:Cx}{a b:Expr}{ta tb:TE}{pos:Pos}
theorem jt {r:R2} (hr:rA X r) (ha:PE X a ta) (hb:PE X b tb) (hs:pL b:=by exact λ_ _=>rfl):PE X (.Subscript a b pos) (bi r ta tb):=by
 intro pins s σ H Q I h;exact Subscript_ (iI ha hb I h λv u s2 x y H2 I2 rx ry q=>hr a b pins s2 σ H2 x y v u Q I2 rx ry q (hs _ _))
inductive o7 (K:AQ) (x:V) (y:V) (H:Hp) (Q:VK):Prop
 | mk (p:_) (xs:_) (i:_) (v:_) (h0:x=.ref p) (h1:y=.int i) (h2:jo K H p xs) (h3:ga xs i=some v) (h4:Q v H):o7 K x y H Q
def tM (K:AQ):R2:=λx y H Q=>o7 K x y H Q
inductive o8 (K:AQ) (x:V) (y:V) (H:Hp) (Q:VK):Prop
 | mk (p:_) (xs:_) (i:_) (v:_) (h0:x=.ref p) (h1:y=.int i) (h2:jD K H p xs) (h3:ga xs i=some v) (h4:Q v H):o8 K x y H Q
def tN (K:AQ):R2:=λx y H Q=>o8 K x y H Q
theorem jU {K:AQ} (hK:X.K=K:=by first|exact Vm|exact rfl):rA X (tM K):=by
 subst hK;intro value slice pins s σ H x y v u Q I rx ry h hs;obtain⟨p,xs,i,z,rfl,rfl,hq,he,q⟩:=h;cases rx;obtain⟨t,rfl⟩:=ry;obtain⟨Bi,r,pl,hz⟩:=I.list hq;obtain⟨j,h1,h2,h3,h4,h5⟩:=ad he;obtain⟨w,ew,Cd⟩:=r.get h2;have hl:=r.length;have hn:=Zq;have fin:EP X pins σ Q w s:=#[z,H,I,Cd,q];by_cases h0:0<=i
 ·have hj:i.toNat=j:=by
   rw[seqIndex_of h0 h5] at h1;exact Option.some.inj h1
  exact item_listR pl.isList h0 (by omega) (by rw[hj];simpa using ew) fin hs
 ·have hj:(i+(Bi.toArray.size:Int)).toNat=j:=by
   rw[seqIndex_neg (by omega) h4] at h1;rw[yk,<-hl];exact Option.some.inj h1
  exact subscriptTail_builtinR (x:=w) pl.isList.typeIs slot_list_getitem.lookup
   (wpAny_getItem_list_neg (Q:=λr s'=>r=w/\EP X pins σ Q r s') pl.isList (by omega) (by rw[yk]<;>omega) (by omega) (by rw[hj];simpa using ew) #[rfl,fin]) hs
theorem jy {K:AQ} (hK:X.K=K:=by first|exact Vm|exact rfl):rA X (tN K):=by
 subst hK;intro value slice pins s σ H x y v u Q I rx ry h hs;obtain⟨p,xs,i,z,rfl,rfl,hq,he,q⟩:=h;cases rx;obtain⟨t,rfl⟩:=ry;obtain⟨Bi,r,pl,hz⟩:=I.tuple hq;obtain⟨j,h1,h2,h3,h4,h5⟩:=ad he;obtain⟨w,ew,Cd⟩:=r.get h2;have hl:=r.length;have hn:=Zq;have fin:EP X pins σ Q w s:=#[z,H,I,Cd,q];exact subscriptTail_builtinR (x:=w) pl.typeIs slot_tuple_getitem.lookup
  (getItem_tuple (j:=j) (Q:=λr s'=>r=w/\EP X pins σ Q r s') pl (by omega) (by omega) (by rw[yk,<-hl];exact h1) (by simpa using ew) #[rfl,fin]) hs
theorem cK (Bi:AW) (n j:Nat) (u:Value):Obj.mapSeq (·.setIfInBounds j u) { cls:=.type "list",data:=.seq Bi.toArray n }={ cls:=.type "list",data:=.seq (Bi.set j u).toArray n }:=by
 simp [Obj.mapSeq]
theorem jn.lst {pins:AU}{σ:St}{H:Hp}{s:Shared}{p:Addr}{xs:List V} (I:jn X pins σ H s) (h:H p=some (.lst xs)) :
  ∃(Bi:AW) (n:Nat),jA xs Bi/\s.heap.get? p=some { cls:=.type "list",data:=.seq Bi.toArray n }/\xs.length<=sizeLine:=by
 obtain⟨z,Bi,n,r,e⟩:=I.hok p _ h;exact#[Bi,n,r,e,z]
theorem jn.lstUpd {ys:List V}{n':Nat}{f:Obj->Obj} (I:jn X pins σ H s) (h:H p=some (.lst xs))
  (ho:s.heap.get? p=some { cls:=.type "list",data:=.seq Bi.toArray n }) (hf:f { cls:=.type "list",data:=.seq Bi.toArray n }={ cls:=.type "list",data:=.seq its'.toArray n' }) (r:jA ys its') (hz:ys.length<=sizeLine) (t:Nat) :
  jn X pins σ (upd H p (.lst ys)) { s with heap:=s.heap.update p f,toks:=t }:=by
 have e:(s.heap.update p f).get? p=some { cls:=.type "list",data:=.seq its'.toArray n' }:=by
  rw[Qt f ho (by rw[hf]<;>rfl),hf]
 refine I.write (x:=p) (e:=p) (by rw[h];trivial) (.inl rfl) (λb u hb q=>(yN _ _ (yP hb)).trans q) #[_,e] ?_;exact#[hz,its',n',r,e]
inductive fW (o:V) (i:V) (v:V) (H:Hp) (Q:Hp->Prop):Prop
 | mk (p:_) (xs:_) (k:_) (j:_) (h0:o=.ref p) (h1:i=.int k) (h2:H p=some (.lst xs)) (h3:Kq xs.length k=some j) (h4:Q (upd H p (.lst (xs.set j v)))):fW o i v H Q
def xh:V->V->V->Hp->(Hp->Prop)->Prop:=λo i v H Q=>fW o i v H Q
theorem gY:rH X xh:=by
 intro pins s σ H o i v ov iv u Q I ro ri rv h;obtain⟨p,xs,k,j,rfl,rfl,hp,hj,q⟩:=h;cases ro;obtain⟨t,rfl⟩:=ri;obtain⟨Bi,n,r,ho,hz⟩:=I.lst hp;obtain⟨h1,h2,h3,h4⟩:=aA hj;have hl:=r.length;have hn:=Zq;have I':jn X pins σ (upd H p (.lst (xs.set j v))) { s with heap:=s.heap.update p (Obj.mapSeq (·.setIfInBounds j u)) } :=
  I.lstUpd hp ho (cK Bi n j u) (r.set rv j) (by rw[List.length_set];exact hz) s.toks
 by_cases h0:0<=k
 ·have hk:k.toNat=j:=by
   rw[seqIndex_of h0 h4] at h1;exact Option.some.inj h1
  exact PySem.W.ki_setAt ho h0 (by omega) (by rw[yk,<-hl];exact h4) (by rw[hk];exact#[_,I',q])
 ·have hk:(k+(Bi.toArray.size:Int)).toNat=j:=by
   rw[seqIndex_neg (by omega) h3] at h1;rw[yk,<-hl];exact Option.some.inj h1
  exact PySem.W.ki_setBack ho (by omega) (by rw[yk,<-hl];exact h3) (by omega) (by rw[hk];exact#[_,I',q])
theorem nW (lo hi:Option Int) (n:Nat):(sliceBounds lo hi none n).1=((HT.sIx n 0 lo:Nat):Int)/\(sliceBounds lo hi none n).2.1=((HT.sIx n n hi:Nat):Int)/\(sliceBounds lo hi none n).2.2=1:=by
 refine#[?_,?_,rfl]
 ·cases lo with
  | none=>simp [sliceBounds,HT.sIx]
  | some i =>
   simp only[sliceBounds,HT.sIx,Option.getD_none,show (1:Int) > 0 by decide,if_true];by_cases h:i<0
   ·simp only[h,if_true]<;>omega
   ·simp only[h,if_false]<;>omega
 ·cases hi with
  | none=>simp [sliceBounds,HT.sIx]
  | some i =>
   simp only[sliceBounds,HT.sIx,Option.getD_none,show (1:Int) > 0 by decide,if_true];by_cases h:i<0
   ·simp only[h,if_true]<;>omega
   ·simp only[h,if_false]<;>omega
theorem mE (Bi:AW) (lo hi:Option Int):slicePick Bi.toArray lo hi none=((Bi.drop (HT.sIx Bi.length 0 lo)).take (HT.sIx Bi.length Bi.length hi - HT.sIx Bi.length 0 lo)).toArray:=by
 obtain⟨h1,h2,h3⟩:=nW lo hi Bi.toArray.size;unfold slicePick;rw[h1,h2,h3];simp only[sliceRange_one,pick_run,yk]<;>rfl
inductive o9 (K:AQ) (x:V) (lo:Option Int) (hi:Option Int) (H:Hp) (Q:VK):Prop
 | mk (a:_) (xs:_) (h0:x=.ref a) (h1:jo K H a xs) (h2:∀p,H p=none->Q (.ref p) (upd H p (.lst (gJ xs lo hi)))):o9 K x lo hi H Q
def Ad (K:AQ):V->Option Int->Option Int->Hp->VK->Prop:=λx lo hi H Q=>o9 K x lo hi H Q
theorem aX {K:AQ} (hK:X.K=K:=by first|exact Vm|exact rfl):xE X (Ad K):=by
 subst hK;intro pins s σ H x v vl vu lo hi sl Q I rx hs pl pu h;obtain⟨a,xs,rfl,hx,q⟩:=h;cases rx;obtain⟨Bi,r,ht,hz⟩:=I.list hx;have hlen:=r.length;refine#["list",_,slot_list_getitem.lookup,ht.isList.typeIs,?_];refine wpAny_getItem_list_slice ht.isList hs pl pu .none (by simp) ?_ (by rw[yk]<;>omega);rw[mE,<-hlen];refine#[.ref s.heap.objs.size,_,I.laid (t':=s.toks) (o:=.lst (gJ xs lo hi)) (λb ob q=>yd _ q) (yg _) ?_,rfl,q _ (I.hok.fresh (yg _))];exact#[yp (Nv xs lo hi) hz,_,0,(r.drop (HT.sIx xs.length 0 lo)).take (HT.sIx xs.length xs.length hi - HT.sIx xs.length 0 lo),yz _ rfl]
theorem Ur {K:AQ} (hK:X.K=K:=by first|exact Vm|exact rfl):uH X (.builtin "len") (λxs H Q=>E2 λp ys=>A3 (xs=[.ref p]) (jo K H p ys\/jD K H p ys) (Q (.int ys.length) H)):=by
 subst hK;intro pins s σ H xs us Q I r h;obtain⟨p,ys,rfl,hq,q⟩:=h;obtain⟨u,rfl,rx⟩:=UB r;cases rx;have hn:=Zq;rcases hq with hq|hq
 ·obtain⟨Bi,r',pl,hz⟩:=I.list hq;have hlen:=r'.length;exact Calls.call_len_list pl.isList (by simp only[yk]<;>omega) #[.int ys.length,H,I.tok _,#[s.toks+1,by rw[yk,hlen]],q]
 ·obtain⟨Bi,r',pl,hz⟩:=I.tuple hq;have hlen:=r'.length;exact len_tuple pl (by simp only[yk]<;>omega) #[.int ys.length,H,I.tok _,#[s.toks+1,by rw[yk,hlen]],q]
theorem Ml:uH X (.type "list") (λxs H Q=>E2 λp ys=>A3 (xs=[.ref p]) (jo X.K H p ys\/jD X.K H p ys) (∀l,H l=none->Q (.ref l) (upd H l (.lst ys)))):=by
 intro pins s σ H xs us Q I r h;obtain⟨p,ys,rfl,hq,q⟩:=h;obtain⟨u,rfl,rx⟩:=UB r;cases rx;have fin:∀(Bi:AW),jA ys Bi->ys.length<=sizeLine->∀(h':Heap) (c':Nat),(∀b o',s.heap.get? b=some o'->h'.get? b=some o') ->
   h'.get? s.heap.objs.size=some { cls:=.type "list",dict:=none,data:=.seq Bi.toArray c',slots:=(List.toArray []) }->EP X pins σ Q (.ref s.heap.objs.size) { s with heap:=h' }:=λBi r' hz h' c' kp e =>
  #[.ref s.heap.objs.size,_,I.laid (t':=s.toks) kp (yg _) (show j8 X.prog X.w _ h' _ (.lst ys) from#[hz,Bi,c',r',e]),rfl,q _ (I.hok.fresh (yg _))]
 rcases hq with hq|hq
 ·obtain⟨Bi,r',pl,hz⟩:=I.list hq;have hlen:=r'.length;obtain⟨o,ho,hc,n,hd⟩:=pl.isList;exact call_list_seq p (.inl rfl) ho hc hd (λh' c' kp e=>fin Bi r' hz h' c' kp e) (by simp only[yk]<;>omega)
 ·obtain⟨Bi,r',pl,hz⟩:=I.tuple hq;have hlen:=r'.length;obtain⟨o,ho,hc,n,hd⟩:=pl;exact call_list_seq p (.inr rfl) ho hc hd (λh' c' kp e=>fin Bi r' hz h' c' kp e) (by simp only[yk]<;>omega)
theorem zM:uH X (.type "tuple") (λxs H Q=>E2 λp ys=>xs=[.ref p]/\((jo X.K H p ys/\∀l,H l=none->Q (.ref l) (upd H l (.tup ys)))\/(jD X.K H p ys/\Q (.ref p) H))):=by
 intro pins s σ H xs us Q I r h;obtain⟨p,ys,rfl,h⟩:=h;obtain⟨u,rfl,rx⟩:=UB r;cases rx;rcases h with ⟨hq,q⟩|⟨hq,q⟩
 ·obtain⟨Bi,r',pl,hz⟩:=I.list hq;have hlen:=r'.length;refine call_tuple_list pl.isList (λh' kp=>?_) (by simp only[yk]<;>omega);have I1:jn X pins σ H { s with heap:=h' }:=I.kept (t':=s.toks) kp;have I2:jn X pins σ (upd H h'.objs.size (.tup ys)) { s with heap:=h'.push { cls:=.type "tuple",data:=.seq Bi.toArray } } :=
   I1.laid (t':=s.toks) (λb o e=>yd _ e) (yg _) (show j8 X.prog X.w _ _ _ (.tup ys) from#[hz,Bi,r',IsTup.new _ _])
  exact#[.ref h'.objs.size,_,I2,rfl,q _ (I1.hok.fresh (yg _))]
 ·obtain⟨Bi,r',pl,hz⟩:=I.tuple hq;exact call_tuple_same pl #[.ref p,H,I,rfl,q]
def wz (K:AQ) (T:String) (x:V) (H:Hp):Prop:=match x with
 | .str _=>T="str"
 | .int _=>T="int"
 | .ref p=>(T="list"/\∃xs,jo K H p xs)\/(T="tuple"/\∃o,K.lookup p=some o/\o.cls=.type "tuple"/\o.dict=none) \/
   (T="dict"/\((∃kvs,H p=some (.dK kvs))\/∃kvs,H p=some (.dT kvs)))\/(T="set"/\∃S n,H p=some (.set S n))
 | _=>False
theorem ir {T:String}{x:V}{v:Value} (I:jn X pins σ H s) (r:jF x v) (ty:wz X.K T x H) :
  s.TypeIs v T/\∀a,v=.ref a->∃ob,s.heap.get? a=some ob/\ob.dict=none:=by
 cases x with
 | str z =>
  obtain⟨t,rfl⟩:=r;cases (show T="str" from ty);exact#[typeIs_str s z t,λ_ e=>nomatch e]
 | int i =>
  obtain⟨t,rfl⟩:=r;cases (show T="int" from ty);exact#[typeIs_int s i t,λ_ e=>nomatch e]
 | ref p =>
  cases r;rcases ty with ⟨rfl,xs,hq⟩|⟨rfl,o,hk,hc,hd⟩|⟨rfl,hk⟩|⟨rfl,S,n,hk⟩
  ·obtain⟨Bi,_,pl,_⟩:=I.list hq;refine#[pl.isList.typeIs,λa e=>?_];cases e;obtain⟨o,n,e,c,hd,_⟩:=pl;exact#[o,e,hd]
  ·refine#[#[o,I.kIn p o hk,hc],λa e=>?_];cases e;exact#[o,I.kIn _ o hk,hd]
  ·have z:∃o,s.heap.get? p=some o/\o.ExactDict:=by
    rcases hk with ⟨kvs,hk⟩|⟨kvs,hk⟩
    ·obtain⟨_,_,_,_,o,_,_,e,ex,_⟩:=I.hok p _ hk;exact#[o,e,ex]
    ·obtain⟨_,_,_,_,o,_,_,e,ex,_⟩:=I.hok p _ hk;exact#[o,e,ex]
   obtain⟨o,e,ex⟩:=z;refine#[#[o,e,ex.1],λa e2=>?_];cases e2;exact#[o,e,ex.2.1]
  ·obtain⟨o,_,_,_,e,ex,_⟩:=I.hok p _ hk;refine#[#[o,e,ex.1],λa e2=>?_];cases e2;exact#[o,e,ex.2.1]
 | _=>exact False.elim ty
inductive pB (K:AQ) (T:String) (r:V->List V->Hp->VK->Prop) (Q:VK) (x:V) (H1:Hp):Prop
 | mk  (h0:wz K T x H1) (h1:r x [] H1 Q):pB K T r Q x H1
def Ag (K:AQ) (T:String) (r:V->List V->Hp->VK->Prop) (to:TE):TE:=λσ H Q=>to σ H λx H1=>pB K T r Q x H1
inductive wm (K:AQ) (T:String) (r:V->List V->Hp->VK->Prop) (t:TA) (σ:St) (Q:VK) (x:V) (H1:Hp):Prop
 | mk  (h0:wz K T x H1) (h1:t σ H1 λxs H2=>r x xs H2 Q):wm K T r t σ Q x H1
def AF (K:AQ) (T:String) (r:V->List V->Hp->VK->Prop) (to:TE) (t:TA):TE:=λσ H Q=>to σ H λx H1=>wm K T r t σ Q x H1
variable {o e:Expr}{es:Ba}{to:TE}{t:TA}{name:Str}{apos BX:Pos}{T id:String}{r:V->List V->Hp->VK->Prop}
theorem fQ {K:AQ} (pa:PlainAttrs T) (slot:Slot T name id) (Pt:typeOf (.builtin id)=pure (.type "method_descriptor")) (hm:rF X id r) (ho:PE X o to)
  (DC:attributeBase o name X.env (eval o X.env)=eval o X.env:=by rfl) (CI:(apos.endLine==BX.line)=true:=by rfl) (hK:X.K=K:=by first|exact Vm|exact rfl):PE X (.Call (.Attribute o name apos) [] [] BX) (Ag K T r to):=by
 subst hK;intro pins s σ H Q I h;refine wpAny_Call_method0_late DC CI (jC (ho pins s σ H _ I h) λv s1 hh=>?_);obtain⟨x,H1,I1,r1,ty,q1⟩:=hh;obtain⟨h1,h2⟩:=ir I1 r1 ty;exact#[T,id,pa,slot,Pt,h1,h2,Calls.callWith_builtin rfl (PySem.evalArgs_none (hm pins s1 σ H1 x [] v [] Q I1 r1 .nil q1))]
theorem JO {K:AQ} (pa:PlainAttrs T) (slot:Slot T name id) (Pt:typeOf (.builtin id)=pure (.type "method_descriptor")) (hm:rF X id r) (ho:PE X o to) (ha:PA X (e::es) t)
  (DC:attributeBase o name X.env (eval o X.env)=eval o X.env:=by rfl)
  (Pu:((backTo BX (starEach (e::es) X.env)).all (λx=>!x.1)&&(backToKw BX (keywordEach [] X.env)).all (λx=>x.1.isSome)
   && decide ((e::es).length+([]:List Keyword).length+(if ([]:List Keyword).isEmpty then 0 else 1)<30))=true:=by rfl)
  (CI:(apos.endLine==BX.line)=true:=by rfl) (hs:starEach (e::es) X.env=(false,eval e X.env)::starEach es X.env:=by rfl) (FP:(backTo BX (starEach es X.env)).any (·.1)=false:=by rfl) (hK:X.K=K:=by first|exact Vm|exact rfl) :
  PE X (.Call (.Attribute o name apos) (e::es) [] BX) (AF K T r to t):=by
 subst hK;intro pins s σ H Q I h;refine wpAny_Call_method_late DC Pu CI rfl (jC (ho pins s σ H _ I h) λv s1 hh=>?_);obtain⟨x,H1,I1,r1,ty,q1⟩:=hh;obtain⟨h1,h2⟩:=ir I1 r1 ty;refine#[T,id,pa,slot,Pt,h1,h2,?_];have hA:=ha BX pins s1 σ H1 _ I1 q1;rw[hs] at hA ⊢;refine Calls.callWith_builtin (by show (false||(backTo BX (starEach es X.env)).any (·.1))=false;rw[FP]<;>rfl) (Calls.evalArgs_plain ?_);exact jC hA λus s2 #[vs,H2,I2,r2,q2]=>hm pins s2 σ H2 x vs v us Q I2 r1 r2 q2
end
def dz (X:Cx) (id:String) (r:V->List V->Hp->VK->Prop):Prop :=
 ∀(pins:AU) (s:Shared) (σ:St) (H:Hp) (x:V) (xs:List V) (v:Value) (us:AW) (Q:VK),jn X pins σ H s->jF x v->jA xs us->r x xs H Q ->
  wpAny (model X.prog X.w) X.A (call (.builtin id) (v::us)) (EP X pins σ Q) X.xe s
theorem jA.one:∀{x:V} {us:AW},jA [x] us->∃u,us=[u]/\jF x u
 | _,_,.cons r .nil=>#[_,rfl,r]
theorem jA.zero:∀{us:AW},jA [] us->us=[]
 | _,.nil=>rfl
theorem jA.dropLast (h:jA xs us):jA xs.dropLast us.dropLast:=by
 induction h with
 | nil=>exact .nil
 | cons r t ih =>
  cases t with
  | nil=>exact .nil
  | cons q t'=>exact .cons r ih
theorem bS {α:Type} (l:List α):l.eraseIdx (l.length - 1)=l.dropLast:=by
 induction l with
 | nil=>rfl
 | cons a r ih =>
  cases r with
  | nil=>rfl
  | cons b r =>
   have e:(a::b::r).length - 1=((b::r).length - 1)+1:=by
    have h1:(a::b::r).length=r.length+2:=rfl;have h2:(b::r).length=r.length+1:=rfl;omega
   rw[e,List.eraseIdx_cons_succ,ih]
   all_goals rfl
section
variable {X:Cx}{pins:AU}{σ:St}{H:Hp}{s:Shared}{l b:Addr}{xs ys zs:List V}
theorem jn.lset {f:Array Value->Array Value} (I:jn X pins σ H s) (hH:H l=some (.lst xs))
  (e:s.heap.get? l=some { cls:=.type "list",data:=.seq Bi.toArray n }) (hf:f Bi.toArray=its'.toArray) (hv:jA ys its') (hz:ys.length<=sizeLine) :
  jn X pins σ (upd H l (.lst ys)) { s with heap:=s.heap.update l (Obj.mapSeq f),toks:=t' }:=by
 have q:=PySem.IsL.update e f;rw[hf] at q;refine I.write (x:=l) (e:=l) (by rw[hH];exact trivial) (.inl rfl) (λb' u hb hu=>(yN s.heap (Obj.mapSeq f) (yP hb)).trans hu) #[_,q] ?_;exact#[hz,its',_,hv,q]
theorem jn.lnew (I:jn X pins σ H s) (hv:jA ys Bi) (hz:ys.length<=sizeLine) :
  jn X pins σ (upd H s.heap.objs.size (.lst ys)) { s with heap:=s.heap.push { cls:=.type "list",data:=.seq Bi.toArray },toks:=t' } :=
 I.laid (λ_ _ q=>yd _ q) (yg _) #[hz,Bi,0,hv,yz _ rfl]
theorem jn.fresh (I:jn X pins σ H s):H s.heap.objs.size=none:=I.hok.fresh (yg _)
theorem jn.lstM (I:jn X pins σ H s) (hH:H l=some (.lst xs)):xs.length<=sizeLine/\∃(Bi:AW) (n:Nat),jA xs Bi/\xs.length=Bi.length/\s.heap.get? l=some { cls:=.type "list",data:=.seq Bi.toArray n }:=by
 obtain⟨z,Bi,n,r,e⟩:=I.hok l _ hH;exact#[z,Bi,n,r,r.length,e]
theorem lE (h:n<=sizeLine):Builtin.List.listTooLong n=false:=by
 unfold Builtin.List.listTooLong;exact decide_eq_false (by omega)
end
section
variable {X:Cx}
inductive nP (x:V) (vs:List V) (H:Hp) (Q:VK):Prop
 | mk (l:_) (xs:_) (y:_) (h0:x=.ref l) (h1:vs=[y]) (h2:H l=some (.lst xs)) (h3:xs.length<sizeLine) (h4:Q .non (upd H l (.lst (xs++[y])))):nP x vs H Q
def qz:V->List V->Hp->VK->Prop:=λx vs H Q=>nP x vs H Q
theorem JH:dz X "list.append" qz:=by
 intro pins s σ H x vs v us Q I rx rv h;obtain⟨l,xs,y,rfl,rfl,hH,hz,q⟩:=h;cases rx;obtain⟨u,rfl,ru⟩:=rv.one;obtain⟨z,Bi,n,r,hl,e⟩:=I.lstM hH;refine call_meets F.slot_list_append #[_,e,rfl] F.entry_list_append (F.args_list_append_2 _ _) (PySem.list_append l Bi.toArray n u (by rw[yk];omega)) #[e,?_];refine#[.non,_,I.lset (its':=Bi++[u]) hH e (by simp) (r.append (.cons ru .nil)) ?_,rfl,q];rw[ye,QD];omega
def qA:V->List V->Hp->VK->Prop:=λx vs H Q=>∃l b xs zs,x=.ref l/\vs=[.ref b]/\H l=some (.lst xs)/\H b=some (.lst zs)/\xs.length+zs.length<=sizeLine/\Q .non (upd H l (.lst (xs++zs)))
theorem U5:dz X "list.extend" qA:=by
 intro pins s σ H x vs v us Q I rx rv h;obtain⟨l,b,xs,zs,rfl,rfl,hH,hB,hz,q⟩:=h;cases rx;obtain⟨u,rfl,ru⟩:=rv.one;cases ru;obtain⟨z,Bi,n,r,hl,e⟩:=I.lstM hH;obtain⟨z2,Bl,n2,r2,EV,e2⟩:=I.lstM hB;have hsz:Bi.toArray.size+Bl.toArray.size<=sizeLine:=by rw[yk,yk];omega
 have IW:¬(!Bi.toArray.isEmpty&&Builtin.List.listTooLong (Bi.toArray.size+Bl.toArray.size))=true:=by
  rw[lE hsz,Q1];exact yo
 refine call_meets F.slot_list_extend #[_,e,rfl] F.entry_list_extend (F.args_list_extend_2 _ _)
  (AutoSeq1.list_extend_list_list_0 l Bi.toArray n b Bl.toArray n2 IW (by rw[yk];omega) (by omega)) #[e,e2,?_]
 refine#[.non,_,I.lset (its':=Bi++Bl) hH e (by simp) (r.append r2) ?_,rfl,q];rw[ye];omega
def Ac:V->List V->Hp->VK->Prop:=λx vs H Q=>∃l xs y,x=.ref l/\vs=[]/\H l=some (.lst xs)/\xs[xs.length - 1]?=some y/\Q y (upd H l (.lst xs.dropLast))
theorem tp:dz X "list.pop" Ac:=by
 intro pins s σ H x vs v us Q I rx rv h;obtain⟨l,xs,y,rfl,rfl,hH,hy,q⟩:=h;cases rx;have Pw:=rv.zero;subst Pw;obtain⟨z,Bi,n,r,hl,e⟩:=I.lstM hH;obtain⟨u,hu,ru⟩:=r.get hy;have Xz:Bi.toArray[Bi.toArray.size - 1]?=some u:=by
  show Bi.toArray[Bi.length - 1]?=some u;rw[<-yI,<-hl];exact hu
 refine call_meets F.slot_list_pop #[_,e,rfl] F.entry_list_pop (F.args_list_pop_1 _) (MeetsSeq.list_pop_last l Bi.toArray n u Xz (by rw[yk];omega)) #[e,?_];refine#[y,_,I.lset (its':=Bi.dropLast) hH e ?_ r.dropLast ?_,ru,q]
 ·show Bi.toArray.eraseIdxIfInBounds (Bi.toArray.size - 1)=Bi.dropLast.toArray;rw[yk,List.eraseIdxIfInBounds_toArray,bS]
 ·rw[List.length_dropLast];omega
def tJ:V->List V->Hp->VK->Prop:=λx vs H Q=>∃l xs,x=.ref l/\vs=[]/\H l=some (.lst xs)/\Q .non (upd H l (.lst []))
theorem lA:dz X "list.clear" tJ:=by
 intro pins s σ H x vs v us Q I rx rv h;obtain⟨l,xs,rfl,rfl,hH,q⟩:=h;cases rx;have Pw:=rv.zero;subst Pw;obtain⟨z,Bi,n,r,hl,e⟩:=I.lstM hH;refine call_meets F.slot_list_clear #[_,e,rfl] F.entry_list_clear (F.args_list_clear_1 _) (AutoSeq1.list_clear_list_0 l Bi.toArray n (by rw[yk];omega)) #[e,?_];exact#[.non,_,I.lset (its':=[]) (ys:=[]) hH e rfl .nil (yV _),rfl,q]
inductive o5 (x:V) (y:V) (H:Hp) (Q:VK):Prop
 | mk (l:_) (b:_) (xs:_) (zs:_) (h0:x=.ref l) (h1:y=.ref b) (h2:H l=some (.lst xs)) (h3:H b=some (.lst zs)) (h4:xs.length+zs.length<=sizeLine) (h5:∀p,H p=none->Q (.ref p) (upd H p (.lst (xs++zs)))):o5 x y H Q
def Aa:R2:=λx y H Q=>o5 x y H Q
theorem Vu:JZ X (binaryOp .Add) Aa:=by
 intro pins s σ H x y v u Q I rx ry h;obtain⟨l,b,xs,zs,rfl,rfl,hH,hB,hz,q⟩:=h;cases rx;cases ry;obtain⟨z,Bi,n,r,hl,e⟩:=I.lstM hH;obtain⟨z2,Bl,n2,r2,EV,e2⟩:=I.lstM hB;refine PySem.P.add_list e e2 ?_ (by rw[yk,yk];omega);have ea:Bi.toArray++Bl.toArray=(Bi++Bl).toArray:=by simp
 rw[ea];exact#[.ref _,_,I.lnew (t':=s.toks) (r.append r2) (by rw[ye];omega),rfl,q _ I.fresh]
end
end L2
namespace Att
open PySem PySem.W PySem.Calls PyProof.Rows
variable {P:Params}{h:Heap}{l:OpenLaw}{n:Nat}
theorem Gz:∀(ns:List Int) (vs:AW),WellAll P h vs (ns.map WData.int)->IntsAre vs ns:=by
 intro ns
 induction ns with
 | nil =>
  intro vs w;rw[Wh] at w;cases w;exact .nil
 | cons n ns ih =>
  intro vs w;rw[yH] at w;cases w with
  | cons a b =>
   cases a;exact .cons _ _ (ih _ b)
theorem f8 (hn:l.most=some n) {args:List WData} {vals:AW}
  (C0:l.row.toRowW.claim.pre args=true) (FQ:WellAll P h vals args) :
  ∃a vs ns,vals=[Value.ref a]/\args=[WData.list (ns.map WData.int)]/\h.get? a=some { cls:=.type "list",data:=.seq vs.toArray }/\IntsAre vs ns/\ns.length<=n:=by
 have XD:WShape.hasAll [] args [.list .int]=true:=(pre_splitW C0).1;have hc:l.pre.holds [] { args:=args }=true:=(pre_splitW C0).2;obtain⟨d,r,rfl,h1,h2⟩:=hasAllW_cons XD;obtain rfl:=hasAllW_nil h2;obtain⟨xs,rfl,h3⟩:=hasW_list h1;obtain⟨ns,rfl⟩:=items_int h3;have hlen:ns.length<=n:=by
  unfold OpenLaw.pre at hc;have h4:(WTm.not (.lt (.lit (.int (n:Int))) (.len (.arg 0)))).holds [] { args:=[.list (ns.map .int)] }=true:=by
   have h4:=(holds_andW hc).1;rw[hn] at h4;exact h4
  have h5:=condW_of h4 (w_not (w_lt w_lit (w_len_list (w_arg rfl))));rw[yb] at h5;refine Nat.le_of_not_lt λq=>?_;have q':(n:Int)<((ns.length:Nat):Int):=by omega
  first
   | (rw[decide_eq_true q'] at h5;exact absurd h5 (by decide))
   | (simp at h5;omega)
 cases FQ with
 | cons w1 w2 =>
  cases w2;cases w1 with
  | list ho Bw=>exact⟨_,_,ns,rfl,rfl,ho,Gz ns _ Bw,hlen⟩
theorem fU (l:OpenLaw) (args:List WData):l.row.toRowW.claim.post args (.bool true) args=true :=
 postW_of (r:=l.row.toRowW) (X:=(true==true))
  (show WShape.has [] (.bool true) .bool=true by first|rfl|decide|simp [WShape.has,WShape.arms,WShape.armsAll])
  (show (WTm.eq .res (.lit (.bool true))).value [] { args:=args,res:=some (.bool true),after:=args }=some (.bool (true==true)) from w_eq_bool (w_res rfl) w_lit) rfl
theorem attach_call {q:Be}{loose:A1}{XP:(Str->Option Value)->Heap->Prop}{YP:World->Heap->Prop}{d:DefRec}
  (hn:l.most=some n) (IX:d.params.defaults=[])
  (call:∀(w:World) (s₀ s₁:Shared) (mg mb:AT) (fa:Addr) (o:Obj) (pm cd doc:Value) (a:Addr) (vs:AW) (ns:List Int),
   Ground q loose [] XP w s₀ mg mb s₁.heap->YP w s₁.heap ->
   s₁.heap.get? fa=some o->o.data=.func (docDef d.name d.params d.body d.scope pm cd doc)->s₁.heap.CodeRec cd d.name->mg d.name=some (.ref fa) ->
   s₁.heap.get? a=some { cls:=.type "list",data:=.seq vs.toArray }->IntsAre vs ns->ns.length<=n->s₁.gens=(List.toArray []) ->
   codeAny (model l.prog w) callerA (.call (.ref fa) #[[.ref a],[]]) (λr s'=>r=.ok (.ret (.bool true))/\OldK s₁.heap s'.heap/\s'.os=s₁.os/\AllBare s'.gens) s₁) :
  WalkO q loose XP YP l.row.toRowW d [] (λf vs=>PySem.call f vs):=by
 intro w s₀ s₁ mg mb G Y fa o pm cd doc dV kV ho hd BD hD Px hg args vals as C0 hlay hrd FQ Py;obtain rfl:dV=.none:=Dflts.none hD IX;obtain rfl:kV=.none:=Dflts.noKw hD;obtain⟨a,vs,ns,rfl,rfl,DD,hints,hlen⟩:=f8 hn C0 FQ;refine enter_call (codeAny_mono (call w s₀ s₁ mg mb fa o pm cd doc a vs ns G Y ho (fd_plain hd) BD Px DD hints hlen hg) λr s' hq=>?_);obtain⟨rfl,h2,h3,h4⟩:=hq;exact#[.inl #[.bool true,.bool true,[],rfl,λ_=>rfl,.bool true,fU l _,λ_=>#[List.Pairwise.nil,λ_ hm=>(nomatch hm)]],h2,h3,h4]
end Att
namespace L2
open PySem PySem.Spec PyProof.Rows
variable {P:Be}{w:World}{k:Nat}{a C:Addr}{x:Str}{h h':Heap}{A:Around}{pos:Pos}{B:Prop}{H H1 H2 H':Hp}{xs:List V}{c:Bool}{pins:AU}{σ:St}{s:Shared}{env:Env}{X:Cx}{pl:Sem Bool}
theorem KN:∀{vs:AW} {ns:List Int},IntsAre vs ns->jA (ns.map V.int) vs
 | _,_,.nil=>.nil
 | _,_,.cons n t h=>.cons #[t,rfl] (KN h)
def iF (H:Hp):Prop:=∀b,H b=none\/∃o xs,H b=some (.frz o (.lst xs))
theorem lj {K:AQ}{mg mb:AT}{CX:Ga}{fa:Addr}{fd:FuncData}{sp:Sp}{s₁:Shared}{vs:AW}{ns:List Int}
  (KX:K.In s₁.heap) (CJ:s₁.heap.Ns mainGlobals mg) (hb:s₁.heap.Ns builtinsNs mb) (XE:∀x:Str,x≠"__name__"->mb x=bootBuiltins x) (Pz:s₁.heap.NoLimit) (hg:s₁.gens=(List.toArray []))
  (ha:s₁.heap.get? a=some { cls:=.type "list",data:=.seq vs.toArray }) (hi:IntsAre vs ns) (hl:ns.length<=sizeLine) (hr:zd k callerA)
  (F:∀base:Heap,K.In base->base.Ns mainGlobals mg->UG P w K mg base CX k fa fd [x] sp) (IY:∀(s:Shared) (u:Value),BindsTo s fd #[[u],[]] [(x,u)])
  (CZ:∀H:Hp,iF H->jo K H a (ns.map V.int)->sp [.ref a] H (λv _=>v=.bl true) λ_ _ _=>False)
  (PB:∀H e s',CX [] H s₁ (λ_ _ _=>False) e s'->False) :
  codeAny (model P w) callerA (.call (.ref fa) #[[.ref a],[]]) (λr s'=>r=.ok (.ret (.bool true))/\OldK s₁.heap s'.heap/\s'.os=s₁.os/\AllBare s'.gens) s₁:=by
 have rv:=KN hi;have PD:=hi.length;have core:∀H:Hp,iF H->jo K H a (ns.map V.int)->Ji P w H s₁.heap->(∀b,H b≠none->b=a)->(H a≠none->K.lookup a=none) ->
   codeAny (model P w) callerA (.call (.ref fa) #[[.ref a],[]]) (λr s'=>r=.ok (.ret (.bool true))/\OldK s₁.heap s'.heap/\s'.os=s₁.os/\AllBare s'.gens) s₁:=by
  intro H hO hS hok hA hK;have CM:∀{b:Addr} {o:Obj},s₁.heap.get? b=some o->H b=none->(zm s₁.heap H).get? b=some o:=λe n=>iY e n;have IT:∀{b:Addr} {o:Obj} {es:Array DictEntry} {ep:Nat},s₁.heap.get? b=some o->o.data=.dict es ep->H b=none:=λ{b o es ep} e d=>by
   cases q:H b with
   | none=>rfl
   | some u =>
    have e':b=a:=hA b (by rw[q];simp);subst e';rw[ha] at e;cases e;have d':Data.seq vs.toArray _=Data.dict es ep:=d;cases d'
  have Oq:∀{b:Addr} {m:AT},s₁.heap.Ns b m->(zm s₁.heap H).Ns b m:=λ{b m} ⟨o,es,ep,e,d,r⟩=>#[o,es,ep,CM e (IT e d),d,r];have Tf:K.In (zm s₁.heap H):=λb o e=>CM (KX b o e) (by
   cases q:H b with
   | none=>rfl
   | some u =>
    have e':b=a:=hA b (by rw[q];simp);subst e'
    rw[hK (by rw[q];simp)] at e;cases e)
  have hM:Mod K mg (zm s₁.heap H):=#[Tf,Oq CJ,#[mb,Oq hb,XE],let ⟨mc,h1,h2⟩:=Pz;#[mc,Oq h1,h2]];have e0:gv P w K mg (zm s₁.heap H) callerA [] s₁ H:=#[rfl,hM,λb o e=>qj e,Nat.le_of_eq (eE _ _),trivial,λb hb=>absurd (show b∈([]:AX) from hb) (by simp),hok,.of_eq hg,.inl rfl];refine codeAny_mono ((F _ Tf (Oq CJ)).run callerA [] s₁ H #[[.ref a],[]] [.ref a] [.ref a] _ _ hr e0 (IY s₁ (.ref a)) (.cons rfl .nil) (CZ H hO hS)) λr s' h=>?_;cases r with
  | error e=>exact (PB H e s' h).elim
  | ok fl =>
   cases fl with
   | next=>exact False.elim h
   | brk=>exact False.elim h
   | cont=>exact False.elim h
   | ret u =>
    obtain⟨v,H',os,bare,un,PH,r',q⟩:=h;have q':v=.bl true:=q;subst q';obtain rfl:u=Value.bool true:=r';refine#[rfl,OldK.of_keep λb o e=>?_,os,bare];cases q:H b with
    | none=>exact un.keep b o e q (by intro z;exact absurd (show b∈([]:AX) from z) (by simp)) (by simp)
    | some u =>
     rcases hO b with z|⟨ob,xs,z⟩
     ·rw[q] at z;cases z
     ·have z2:=un.frzs b ob _ z;obtain⟨e1,_⟩:=hok b _ z;obtain⟨e2,_⟩:=PH b _ z2;rw[e] at e1;cases e1;exact e2
 cases hk:K.lookup a with
 | some o =>
  have e:=KX a o hk;rw[ha] at e;cases e;refine core (λ_=>none) (λ_=>.inl rfl) (.inr #[_,vs.toArray,_,hk,rfl,rfl,rfl,by rw[yk,PD];exact hl,by simpa using rv]) (λb u z=>by have z':(none:Option HO)=some u:=z;cases z') (λb z=>absurd rfl z) λz=>absurd rfl z
 | none =>
  refine core (λb=>if b=a then some (.frz { cls:=.type "list",data:=.seq vs.toArray } (.lst (ns.map V.int))) else none) (λb=>?_) (.inl (.inr #[{ cls:=.type "list",data:=.seq vs.toArray },if_pos rfl])) (λb u z=>?_) (λb z=>?_) λ_=>hk
  ·by_cases hb:b=a
   ·exact .inr #[_,_,if_pos hb]
   ·exact .inl (if_neg hb)
  ·by_cases hb:b=a
   ·have z':=(if_pos hb).symm.trans z;cases z';subst hb;exact#[ha,by rw[yb];exact hl,vs,_,rv,ha]
   ·have z':=(if_neg hb).symm.trans z;cases z'
  ·by_cases hb:b=a
   ·exact hb
   ·exact absurd (if_neg hb) z
abbrev KOf {K:AQ} (_:K.In h):Frag:=K
theorem walk_of {l:PySem.W.OpenLaw}{n:Nat}{q:Be}{loose:A1}{XP:(Str->Option Value)->Heap->Prop}{YP:World->Heap->Prop}{d:DefRec}{K:Params->Frag}{CX:World->Ga}{sp:World->Sp}
  (hn:l.most=some n) (ET:n<=sizeLine) (IX:d.params.defaults=[]) (hr:zd k callerA)
  (hY:∀(w:World) (h:Heap),YP w h->(K w.params).In h)
  (F:∀(w:World) (mg:AT) (fa:Addr) (h:Heap),(K w.params).In h->h.Ns mainGlobals mg->mg d.name=some (.ref fa) ->
   ∃fd:FuncData,(∀(s:Shared) (u:Value),BindsTo s fd #[[u],[]] [(x,u)]) /\
    ∀base:Heap,(K w.params).In base->base.Ns mainGlobals mg->UG l.prog w (K w.params) mg base (CX w) k fa fd [x] (sp w))
  (CZ:∀(w:World) (H:Hp) (a:Addr) (ns:List Int),ns.length<=n->iF H->jo (K w.params) H a (ns.map V.int)->sp w [.ref a] H (λv _=>v=.bl true) λ_ _ _=>False)
  (PB:∀(w:World) (H:Hp) (s:Shared) (e:Value) (s':Shared),CX w [] H s (λ_ _ _=>False) e s'->False) :
  PySem.W.WalkO q loose XP YP l.row.toRowW d [] (λf vs=>PySem.call f vs):=by
 refine Att.attach_call hn IX λw s₀ s₁ mg mb fa o pm cd doc a vs ns G Y ho hd BD Px DD hints hlen hg=>?_;have KX:=hY w _ Y;obtain⟨fd,hb,hF⟩:=F w mg fa _ KX G.T.g Px;exact lj KX G.T.g G.T.b G.T.builtins G.T.nolimit hg DD hints (yp hlen ET) hr hF hb (λH hO hS=>CZ w H a ns hlen hO hS) λH e s'=>PB w H s₁ e s'
def Jt (s:Stmt) (j:Nat):Stmt:=match s with
 | .ClassDef _ _ _ body _ _ _ _ _ _ _=>body.getD j (.Pass #[0,0,0,0])
 | _=>.Pass #[0,0,0,0]
def Ux (s:Stmt):Arguments:=match s with
 | .FunctionDef _ a _ _ _ _ _ _ _ _=>a
 | _=>{ posonlyargs:=[],args:=[],vararg:=none,kwonlyargs:=[],kw_defaults:=[],kwarg:=none,defaults:=[] }
def uN (s:Stmt):List Stmt:=match s with
 | .FunctionDef _ _ b _ _ _ _ _ _ _=>b
 | _=>[]
def Jb (s:Stmt):Scope:=match s with
 | .FunctionDef _ _ _ _ _ _ sc _ _ _=>sc
 | _=>{ kind:=.function,names:=[],isGenerator:=false,isCoroutine:=false }
theorem vA (hr:zd k A):A.units+1<cLine:=yL (Nat.add_le_add_left (by decide:1<=64) _) hr.units
section
variable {X:Cx}
theorem pv (i:Nat) {pos:Pos} (hN:X.N[i]?=some x:=by rfl) (hv:rM X.env.scope x:=by first|exact Or.inl rfl|exact Or.inr (Or.inl rfl)|exact Or.inr (Or.inr rfl)) (hd:(x==("__debug__":Str))=false:=by decide)
  (BD:(x==("__classdict__":Str))=false:=by decide):PE X (.Name x pos) (kT i):=tH hN hv hd BD
end
theorem JB {A:Prop} (h:B):if false=true then A else B:=by
 rw[if_neg yo];exact h
theorem Ub {A:Prop} (h:A):if true=true then A else B:=by
 rw[if_pos rfl];exact h
def jc (H H':Hp):Prop:=∀b o,H b=some o->H' b=some o
theorem jc.refl (H:Hp):jc H H:=λ_ _ h=>h
theorem jc.trans (a:jc H H1) (b:jc H1 H2):jc H H2:=λc o h=>b c o (a c o h)
theorem jc.seq {K:AQ} (e:jc H H') (h:jo K H a xs):jo K H' a xs:=by
 rcases h with (h|⟨o,h⟩)|h
 ·exact .inl (.inl (e _ _ h))
 ·exact .inl (.inr #[o,e _ _ h])
 ·exact .inr h
theorem j8.there {o:HO} (x:j8 P w H h a o):∃u,h.get? a=some u:=by
 cases o with
 | lst xs=>obtain⟨_,_,_,_,e⟩:=x;exact#[_,e]
 | tup xs=>obtain⟨_,_,_,ob,e,_⟩:=x;exact#[_,e]
 | dK kvs=>obtain⟨_,_,_,_,ob,_,_,e,_⟩:=x;exact#[_,e]
 | dT kvs=>obtain⟨_,_,_,_,ob,_,_,e,_⟩:=x;exact#[_,e]
 | set S n=>obtain⟨ob,_,_,_,e,_⟩:=x;exact#[_,e]
 | ins C dx fs=>obtain⟨_,_,_,e,_⟩:=x;exact#[_,e]
 | own y=>exact x
 | xd fs=>obtain⟨_,⟨_,_,_,e,_⟩,_⟩:=x;exact#[_,e]
 | rng lo hi=>obtain⟨_,_,_,e⟩:=x;exact#[_,e]
 | frz ob u=>obtain⟨e,_⟩:=x;exact#[_,e]
 | tbl ps=>exact#[_,(show h.get? a=some _ from x)]
 | met f y=>exact#[_,(show h.get? a=some _ from x)]
 | ext φ=>obtain⟨_,e,_⟩:=x;exact e
theorem Ji.free_of (x:Ji P w H h) (e:h.get? a=none):H a=none:=by
 cases q:H a with
 | none=>rfl
 | some o=>obtain⟨u,z⟩:=(x a o q).there;rw[e] at z;cases z
structure ZK (h0 h:Heap) (H:Hp) (e C:Addr):Prop where
 ex:∃oe vs T oT ts,∃a0:Value×Value,h.get? e=some oe/\oe.cls=.ref C/\vs[0]?=some a0.1/\oe.data=.fields vs/\vs[1]?=some (.ref T)/\T≠e/\h.get? T=some oT/\oT.data=.fields ts/\ts[3]?=some .none/\h0.get? T=none/\H T=none/\vs[2]?=some a0.2/\zY H a0.2
 new:h0.get? e=none
 free:H e=none
def XC (P:Be) (w:World):Ga:=λouter H s E e s'=>∃(ea C:Addr) (H':Hp),e=.ref ea/\s'.os=s.os/\AllBare s'.gens/\Un (ul outer) [] H H' s.heap s'.heap/\Ji P w H' s'.heap/\ZK s.heap s'.heap H' ea C/\E (.ref C) none H'
theorem Un.late {fs ex ch:AX}{h1 h2:Heap} (u:Un fs ex H H' h h1) (fresh:∀b∈ch,h.get? b=none)
  (k:∀b o,b ∉ fs->b ∉ ch->h1.get? b=some o->h2.get? b=some o) (ks:∀b o,b∈fs->h1.get? b=some o->∃sl,h2.get? b=some { o with slots:=sl }):Un fs ex H H' h h2:=by
 have EO:∀b o,h.get? b=some o->b ∉ ch:=λb o q z=>by have:=fresh b z;rw[q] at this;cases this
 refine#[λb o q n hb hx=>k b o hb (EO b o q) (u.keep b o q n hb hx),λb o q n hb hx=>?_,u.free,λb o q hx=>?_,u.tups,u.frzs,u.tbls]
 ·obtain⟨sl,e1⟩:=u.slot b o q n hb hx;obtain⟨Pk,e2⟩:=ks b _ hb e1;exact#[Pk,e2]
 ·obtain⟨o',e1⟩:=u.there b o q hx;by_cases hb:b∈fs
  ·obtain⟨sl,e2⟩:=ks b o' hb e1;exact#[_,e2]
  ·exact#[o',k b o' hb (EO b o q) e1]
section
variable {X:Cx}{pins:AU}{σ:St}{H H':Hp}{s s':Shared}{ea C:Addr}{a0:Value×Value}{h':Heap}{ch:AX}
theorem dX (I:jn X pins σ H s) (BK:X.stack=X.env::X.outer) (os:s'.os=s.os) (bare:AllBare s'.gens) (un:Un (ul X.stack) [] H H' s.heap s'.heap) (hok:Ji X.prog X.w H' s'.heap)
  (Cj:∀b∈ch,s.heap.get? b=none/\H' b=none) (Tg:ea∈ch) (XF:zY H' a0.2) (L:Ge (hideAll s'.heap (ch++ul X.stack)) (X.env::X.outer) ea (.ref C) a0 .none s'.heap h') :
  jn X pins σ H' { s' with heap:=h' }/\ZK s.heap h' H' ea C:=by
 have I1:jn X pins σ H' s':=I.call' (ch:=[]) os un hok bare (λb z=>absurd z (by simp));obtain⟨st,ff,tr,up⟩:=L;have FF:s'.heap.FunFrames X.base X.stack:=I1.stack;have keep:∀b o,b ∉ ul X.stack->b ∉ ch->s'.heap.get? b=some o->h'.get? b=some o:=λb o hb hc e=>st b o (hideAll_get _ e λz=>(ym.mp z).elim hc hb);have slots:∀b o,b∈ul X.stack->s'.heap.get? b=some o->∃sl,h'.get? b=some { o with slots:=sl }:=λb o hb e=>by
  obtain⟨_,o',BP,hd⟩:=FF.mem hb;rw[e] at BP;cases BP;exact up b o e hd
 have KJ:Un (ul X.stack) [] H H' s.heap h':=un.late (ch:=ch) (λb hb=>(Cj b hb).1) keep slots;have free:∀b,H' b≠none->b ∉ ul X.stack/\b ∉ ch:=λb n=>#[λz=>n (I1.stkFree b z),λz=>n (Cj b z).2];have PJ:Ji X.prog X.w H' h':=λb o e=>(hok b o e).stay (λc u hc q=>by
  have n:H' c≠none:=by
   rcases hc with z|z
   ·rw[z,e];simp
   ·rw[z];simp
  exact keep c u (free c n).1 (free c n).2 q) (λ_ q=>q) λ_ _ q=>q
 refine#[I.call' (s':={ s' with heap:=h' }) (ch:=[]) os KJ PJ bare (λb z=>absurd z (by simp)),#[?_,(Cj ea Tg).1,(Cj ea Tg).2]];obtain⟨oe,vs,T,oT,ts,e1,⟨e2,e3,c3⟩,e4,e5,e6,e7,e8,e9,EW⟩:=tr;have hT:s.heap.get? T=none/\H' T=none:=by
  cases q:s'.heap.get? T with
  | none =>
   refine#[?_,hok.free_of q];cases q2:s.heap.get? T with
   | none=>rfl
   | some o=>obtain⟨o',z⟩:=un.there T o q2 (by simp);rw[q] at z;cases z
  | some o =>
   by_cases hc:T∈ch
   ·exact Cj T hc
   ·by_cases hf:T∈ul X.stack
    ·have PK:T∈ul (X.env::X.outer):=BK▸hf;obtain⟨_,o',BP,hd⟩:=ff.mem PK;rw[e8] at BP;cases BP;exact absurd e9 (hd ts)
    ·rw[hideAll_get _ q λz=>(ym.mp z).elim hc hf] at e6;cases e6
 exact#[oe,vs,T,oT,ts,a0,e1,e2,e3,e4,e5,e7,e8,e9,EW,hT.1,hT.2,c3,XF]
theorem cg (I:jn X pins σ H' s') (BK:X.stack=X.env::X.outer) (ch:AX):s'.heap.FunFrames (hideAll s'.heap (ch++ul X.stack)) (X.env::X.outer):=by
 have FF:s'.heap.FunFrames X.base X.stack:=I.stack;rw[<-BK];exact PySem.W.funFrames_hide FF λenv he a hf=>yy _ (List.mem_filterMap.mpr #[env,he,hf])
theorem lm (I:jn X pins σ H s) (BK:X.stack=X.env::X.outer) (hf:X.env.frame=some X.env.locals) (os:s'.os=s.os) (bare:AllBare s'.gens) (un:Un (ul X.stack) [] H H' s.heap s'.heap) (hok:Ji X.prog X.w H' s'.heap)
  (fl:ZK s.heap s'.heap H' ea C) {M:Model} {E:AL} {Q:AM} (h:∀h',jn X pins σ H' { s' with heap:=h' }->ZK s.heap h' H' ea C->Q () { s' with heap:=h' }) :
  wpAny M X.A (leaving X.env (.ref ea)) Q E s':=by
 have I1:jn X pins σ H' s':=I.call' (ch:=[]) os un hok bare (λb z=>absurd z (by simp));obtain⟨oe,vs,T,oT,ts,a0,e1,e2,e3,e4,e5,e7,e8,e9,EW,IZ,PL,c3,cx⟩:=fl.ex;have FE:X.A.frames=some (X.env::X.outer):=by rw[<-BK];exact I.ok.frames
 refine cA (base:=hideAll s'.heap ([ea,T]++ul X.stack)) (cls:=.ref C) (a0:=a0) FE (cg I1 BK [ea,T]) hf
  #[oe,vs,T,oT,ts,e1,#[e2,e3,c3],e4,e5,hideAll_none _ (by simp),e7,e8,e9,EW] (λb o q=>of_hideAll _ q) (hideAll_none _ (by simp)) λh' L=>?_
 obtain⟨J,F⟩:=dX (ch:=[ea,T]) I BK os bare un hok (λb hb=>by
  rcases yM.mp hb with rfl|hb
  ·exact#[fl.new,fl.free]
  ·obtain rfl:b=T:=by simpa using hb
   exact#[IZ,PL]) (by simp) cx L
 exact h h' J F
end
section
variable {P:Be}{w:World}{K:AQ}{mg:AT}{base:Heap}{N ps:A1}{qual:Str}{scope:Scope}{f:Addr}{cd:Value}{A:Around}{outer:List Env}{s:Shared}{H:Hp}{E:XK}
abbrev Mp (P:Be) (w:World) (K:AQ) (mg:AT) (base:Heap) (N:A1) (qual:Str) (scope:Scope) (f:Addr) (cd:Value) (A:Around) (outer:List Env) (s:Shared) (H:Hp) (E:XK) (c:Bool:=true):Cx :=
 gK (XC P w) P w K mg base N qual scope f cd A outer s H E c
theorem NI {s1:Shared}{ea:Addr} (I:jn (Mp P w K mg base N qual scope f cd A outer s H E c) pins σ H1 s1) (F:ZK s1.heap h' H' ea C):ZK s.heap h' H' ea C:=by
 have z:∀b,s1.heap.get? b=none->s.heap.get? b=none:=λb q=>by
  cases q2:s.heap.get? b with
  | none=>rfl
  | some o=>obtain⟨o',e⟩:=I.base.there b o q2 (by simp [gK]);rw[q] at e;cases e
 obtain⟨oe,vs,T,oT,ts,a0,e1,e2,e3,e4,e5,e7,e8,e9,EW,IZ,PL,c3,cx⟩:=F.ex;exact#[#[oe,vs,T,oT,ts,a0,e1,e2,e3,e4,e5,e7,e8,e9,EW,z _ IZ,PL,c3,cx],z _ F.new,F.free]
theorem vF:uX (XC P w) (Mp P w K mg base N qual scope f cd A outer s H E c) E:=by
 intro pins σ H1 s1 e s' I h;obtain⟨ea,C',H',rfl,os,bare,un,hok,fl,q⟩:=h;refine lm I rfl rfl os bare un hok fl λh' J F=>?_;exact#[ea,C',H',rfl,J.os,J.bare,J.base,J.hok,NI I F,q]
theorem jH:PassesOwn (model P w) (Mp P w K mg base N qual scope f cd A outer s H E c).A (Mp P w K mg base N qual scope f cd A outer s H E c).env (Mp P w K mg base N qual scope f cd A outer s H E c).xe:=PassesOwn.leaving
end
theorem bP {prog:Be}{R:Result->Shared->Prop}{elt tg iter:Expr}{ifs:Ba}{scope:Scope}{pos:Pos}{it acc:Value}{env:Env} (J:Nat->Shared->Prop)
  (turn:∀n s,J n s->wpAny (model prog w) A (pyNext it) (λr s1=>match r with
   | none=>R (.ok .next) s1
   | some v=>wpAny (model prog w) A (letOwnedTupleGo tg it v) (λ_ s2=>wpAny (model prog w) A (assign tg env v) (λ_ s3 =>
     wpAny (model prog w) A (forIn ifs true λc r=>if r=true then do let ok <-isTrue c env (eval c env);pure (ForInStep.yield ok) else pure (ForInStep.yield r)) (λok s4 =>
      if ok=true then wpAny (model prog w) A (eval elt env) (λx s5=>wpAny (model prog w) A (call (.builtin "list.append") [acc,x]) (λ_ s6=>∃m,m<n/\J m s6) (λ_ _=>False) s5) (λ_ _=>False) s4
      else ∃m,m<n/\J m s4) (λ_ _=>False) s3) (λ_ _=>False) s2) (λ_ _=>False) s1) (λ_ _=>False) s)
  (n:Nat) (h:J n s):codeAny (model prog w) A (.compLoop (.ListComp elt [#[tg,iter,ifs,0]] scope pos) 0 it acc env) R s:=by
 refine codeAny_loop rfl J (λn s hJ=>?_) n h;show wpAny _ A ((compTurn (.ListComp elt [#[tg,iter,ifs,0]] scope pos) 0 it acc env).onRaise _) _ _ s;refine wpAny_noted (wpAny_noRaise ?_);rw[compTurn_list];refine Bf (wpAny_standAt (Bf (jC (turn n s hJ) λr s1 h1=>?_)));cases r with
 | none=>exact Bg h1
 | some v =>
  refine Bf (jC h1 λ_ s2 h2=>Bf (jC h2 λ_ s3 h3=>Bf (jC h3 λok s4 h4=>?_)));cases ok with
  | false=>exact Bg #[rfl,h4]
  | true=>exact Bf (Bf (jC h4 λx s5 h5=>Bf (jC h5 λ_ s6 h6=>Bg (Bg #[rfl,h6]))))
abbrev Cx.blk (X:Cx) (scope:Scope) (cl:AY) (C:Addr) (own:A1) (s:Shared) (H:Hp) (fp:AX) (pins:AU):Cx :=
 { X with N:=X.N++own,env:=compEnvC scope cl C X.env,s₀:=s,H₀:=H,outer:=X.stack,ex:=fp,fn:=λ_=>false,pn:=X.pn++pins,xe:=λ_ _=>False }
theorem Zr {env:Env}{x:Str}:∀{names:List (Str×NameKind)},(names.map λ(n,k)=>if (k==NameKind.free&&env.scope.kind==.function&&env.kindOf n==some .cell) then (n,NameKind.cell) else (n,k)).lookup x =
  (names.lookup x).map λk=>if (k==NameKind.free&&env.scope.kind==.function&&env.kindOf x==some .cell) then NameKind.cell else k
 | []=>rfl
 | (n,k)::r=>by
  have ih:=@Zr env x r;rw[yH];show List.lookup x ((if (k==NameKind.free&&env.scope.kind==.function&&env.kindOf n==some .cell)=true then (n,NameKind.cell) else (n,k))::_)=_;have e:(if (k==NameKind.free&&env.scope.kind==.function&&env.kindOf n==some .cell)=true then (n,NameKind.cell) else (n,k))=(n,if (k==NameKind.free&&env.scope.kind==.function&&env.kindOf n==some .cell)=true then NameKind.cell else k):=by
   split<;>rfl
  rw[e];cases q:x==n with
  | true =>
   obtain rfl:x=n:=by simpa using q
   simp [List.lookup_cons]
  | false=>simp only[List.lookup_cons,q];exact ih
theorem GG {α β:Type} [BEq α] [LawfulBEq α] {l:List (α×β)} {x:α} {b:β} (h:l.lookup x=some b):(x,b)∈l:=by
 induction l with
 | nil=>simp at h
 | cons p r ih =>
  obtain⟨a,c⟩:=p;rw[List.lookup_cons] at h
  split at h
  ·rename_i q;obtain rfl:x=a:=by simpa using q
   cases h;exact .head _
  ·exact .tail _ (ih h)
section
variable {X:Cx}{scope:Scope}{cl:AY}{own:A1}{pins:AU}{σ:St}{H2 H3:Hp}{s2:Shared}{fp:AX}{C:Addr}{h1:Heap}
theorem n4 {b:Addr} (I2:jn X pins σ H2 s2) (n1:b≠X.env.locals) (n2:b ∉ X.fs):b ∉ ul X.stack:=λz=>(yM.mp (I2.stkSub b z)).elim n1 n2
end
def PF (X:Cx) (ifs:Ba) (t:TT):Prop :=
 ∀(pins:AU) (s:Shared) (σ:St) (H:Hp) (Q:Bool->Hp->Prop),jn X pins σ H s->t σ H Q ->
  wpAny (model X.prog X.w) X.A (forIn ifs true λc r=>if r=true then do let ok <-isTrue c X.env (eval c X.env);pure (ForInStep.yield ok) else pure (ForInStep.yield r)) (TP X pins σ Q) X.xe s
theorem vI:PF X [] (λ_ H Q=>Q true H):=λ_ _ _ H _ I h=>wpAny_tests_nil #[H,I,h]
theorem Uv {c:Expr}{t:TT} (h:PT X c t):PF X [c] t:=λpins s σ H Q I q=>wpAny_tests_one (h pins s σ H Q I q)
def vb (k:Nat) (g:TG) (tc:TT) (te:TE) (σ:St) (Q:VK):It->Hp->Prop:=λJ H1=>∀D,H1 D=none->∃W:Nat->Nat->List V->Hp->Prop,(∃m,W 0 m [] (upd H1 D (.lst [])))/\∀i m ys H,W i m ys H ->
 H D=some (.lst ys)/\((J.stop i H/\Q (.ref D) H)\/(J.go i H/\ys.length<sizeLine/\∀x H',J.yld i H x H'->g x (σ++List.replicate k none) H' λσ2 H2=>(∃zs,σ2=σ++zs/\zs.length=k)/\tc σ2 H2 λb H3 =>
  if b=true then te σ2 H3 λy H4=>H4 D=some (.lst ys)/\∃m',m'<m/\W (i+1) m' (ys++[y]) (upd H4 D (.lst (ys++[y]))) else ∃m',m'<m/\W (i+1) m' ys H3))
def G4 (wi:TI) (k:Nat) (g:TG) (tc:TT) (te:TE):TE:=λσ H Q=>wi σ H (vb k g tc te σ Q)
section
variable {X:Cx}{tg elt iter:Expr}{ifs:Ba}{scope:Scope}{cl:AY}{own:A1}{wi:TI}{g:TG}{tc:TT}{te:TE}{pos:Pos}
theorem jn.let_go {σ2:St}{s2:Shared} (I:jn X pins σ H s) (I2:jn X pins σ2 H2 s2) (hC:s2.heap.objs.size<=C) (hf:H C=none) (sb:Heap.SameBut C s.heap h'):jn X pins σ H { s with heap:=h' }:=by
 have nC:s2.heap.get? C=none:=Heap.get?_none_of_le hC;have CF:C ∉ ul X.stack:=λz=>by
  obtain⟨_,o,ho,_⟩:=I2.stack.mem z;rw[nC] at ho;cases ho
 have off:∀b o,s2.heap.get? b=some o->b≠C:=λb o e z=>by rw[z,nC] at e;cases e
 have un:Un (ul X.stack) [C] H H s.heap h':=#[λb o q _ _ hx=>(sb.2 b λz=>hx (by simp [z])).trans q,λb o q _ hb _=>#[o.slots,(sb.2 b λz=>CF (z▸hb)).trans q],λ_ _ _ n _=>n,λb o q hx=>#[o,(sb.2 b λz=>hx (by simp [z])).trans q],λ_ _ q=>q,λ_ _ _ q=>q,λb ps q=>#[(List.toArray []),by rw[Array.append_empty];exact q]];have hok:Ji X.prog X.w H h':=λb o e=>(I.hok b o e).stay (λc u hc q=>(sb.2 c λz=>by
  subst z;rcases hc with z|z
  ·rw[z,e] at hf;cases hf
  ·rw[z] at hf;cases hf).trans q) (λ_ q=>q) λ_ _ q=>q
 refine I.call' (s':={ s with heap:=h' }) (ch:=[C]) rfl un hok I.bare λb hb=>?_;obtain rfl:b=C:=by simpa using hb
 obtain⟨_,hn,_⟩:=I2.loc;obtain⟨_,_,_,hL,_⟩:=hn;refine#[.inr (yp I2.sz hC),λz=>off _ _ hL z.symm,λx c e=>?_,λp hp=>off _ _ (I2.pin p hp).1];obtain⟨_,_,hc,_⟩:=I2.cell x c e;exact off _ _ hc
end
section
variable {P:Be}{w:World}{K:AQ}{mg:AT}{base:Heap}{k:Nat}{x m:Str}{C:Addr}{ps:A1}{sp:Sp}
structure jR (P:Be) (w:World) (K:AQ) (mg:AT) (base:Heap) (k:Nat) (x:Str) (ps:A1) (sp:Sp) (c:Bool:=true):Prop where
 ex:∃f fd,UG P w K mg base (XC P w) k f fd ps sp c/\Uf K fd ps []/\keepIn K (.ref f)=true/\mg x=some (.ref f)
structure Gc (P:Be) (w:World) (K:AQ) (mg:AT) (base:Heap) (k:Nat) (x:Str) (C:Addr) (ps:A1) (sp:Sp):Prop where
 ex:∃f fd,Mk K C f/\UG P w K mg base (XC P w) k f fd ps sp/\Uf K fd ps []/\mg x=some (.ref C)
structure uI (P:Be) (w:World) (K:AQ) (mg:AT) (base:Heap) (k:Nat) (C:Addr) (m:Str) (ps:A1) (sp:Sp):Prop where
 cl:vi K C
 ex:∃f fd,ke K C m f/\UG P w K mg base (XC P w) k f fd ps sp/\Uf K fd ps []
end
section
variable {X:Cx}{k:Nat}{x m:Str}{C:Addr}{ps:A1}{sp:Sp}{E:XK}{p pos apos:Pos}{e o:Expr}{es:Ba}{ta:TE}{t:TA}
theorem jm {cm:Bool} (G:jR X.prog X.w X.K X.mg X.base k x ps sp cm) (ha:PA X (e::es) t) (hr:Jj cm k X.A:=by exact hr.mono (by decide)) (hx:uX (XC X.prog X.w) X E:=by first|exact vF|exact Zz) (hg:Gl X x:=by rfl)
  (DA:(x==("__debug__":Str))=false:=by decide) (he:starEach (e::es) X.env=(false,eval e X.env)::starEach es X.env:=by rfl) (Bx:(backTo pos (starEach es X.env)).any (·.1)=false:=by rfl) :
  PE X (.Call (.Name x p) (e::es) [] pos) (pC sp [] E t):=by
 obtain⟨f,fd,F,b,kp,PM⟩:=G.ex;exact qp F hr hg PM kp b .nil hx ha DA he Bx
theorem zB (G:Gc X.prog X.w X.K X.mg X.base k x C ps sp) (ha:PA X (e::es) t) (hr:zd (k+1) X.A:=by exact hr.mono (by decide)) (hx:uX (XC X.prog X.w) X E:=by first|exact vF|exact Zz) (hg:Gl X x:=by rfl)
  (DA:(x==("__debug__":Str))=false:=by decide) (he:starEach (e::es) X.env=(false,eval e X.env)::starEach es X.env:=by rfl) (Bx:(backTo pos (starEach es X.env)).any (·.1)=false:=by rfl) :
  PE X (.Call (.Name x p) (e::es) [] pos) (pF C sp [] E t):=by
 obtain⟨f,fd,M,F,b,PM⟩:=G.ex;exact qr M F hr hg PM b .nil hx ha DA he Bx
theorem Jf {pl:Sem Bool} (ho:PE X o ta) (G:uI X.prog X.w X.K X.mg X.base k C m ps sp) (ha:PA X (e::es) t) (hr:zd k X.A:=by exact hr.mono (by decide)) (hx:uX (XC X.prog X.w) X E:=by first|exact vF|exact Zz)
  (BK:starEach (e::es) X.env=(false,eval e X.env)::starEach es X.env:=by rfl) (Bx:(backTo pos (starEach es X.env)).any (·.1)=false:=by rfl)
  (ht:eval (.Call (.Attribute o m apos) (e::es) [] pos) X.env=(do
   let ov <-eval o X.env
   standAt apos.atName
   let (f,first) <-holding [ov] (getMethod ov m pl)
   callWith pos f first (backTo pos (starEach (e::es) X.env)) (backToKw pos (keywordEach [] X.env))):=by rfl) :
  PE X (.Call (.Attribute o m apos) (e::es) [] pos) (de C m sp [] E ta t):=by
 obtain⟨f,fd,M,F,b⟩:=G.ex;exact qt ho G.cl M F hr b .nil hx ha BK Bx ht
inductive aU (C:Addr) (m:Str) (sp:Sp) (E:XK) (x:V) (H:Hp) (Q:VK):Prop
 | mk (a:_) (dx:_) (fs:_) (h0:x=.ref a) (h1:H a=some (.ins C dx fs)) (h2:fs.lookup m=none) (h3:sp [x] H Q E):aU C m sp E x H Q
def tO (C:Addr) (m:Str) (sp:Sp) (E:XK):V->Hp->VK->Prop:=λx H Q=>aU C m sp E x H Q
def rE (X:Cx) (m:Str) (r:V->Hp->VK->Prop):Prop:=∀(pins:AU) (s:Shared) (σ:St) (H:Hp) (x:V) (u:Value) (Q:VK) (pl:Sem Bool) (pos:Pos),jn X pins σ H s->jF x u->r x H Q ->
 wpAny (model X.prog X.w) X.A (holding [u] (getMethod u m pl)) (λfm s1=>wpAny (model X.prog X.w) X.A (callWith pos fm.1 fm.2 (backTo pos (starEach [] X.env)) (backToKw pos (keywordEach [] X.env))) (EP X pins σ Q) X.xe s1) X.xe s
theorem cG (G:uI X.prog X.w X.K X.mg X.base k C m ps sp) (hr:zd k X.A:=by exact hr.mono (by decide)) (hx:uX (XC X.prog X.w) X E:=by first|exact vF|exact Zz):rE X m (tO C m sp E):=by
 intro pins s σ H x u Q pl pos I r h;obtain⟨f,fd,M,F,b⟩:=G.ex;obtain⟨a,dx,fs,rfl,ea,l,q⟩:=h;obtain rfl:u=Value.ref a:=r;refine wpAny_holding (vX I ea G.cl M l ?_);exact callWith_K0 (first:=[.ref a]) I.kIn M.kp (GZ (us:=[.ref a]) (vs:=[.ref a]) F hr b .nil hx I (.cons rfl .nil) q)
def AG (r:V->Hp->VK->Prop) (ta:TE):TE:=λσ H Q=>ta σ H λx H1=>r x H1 Q
theorem uQ {r:V->Hp->VK->Prop} (hr:rE X m r) (ho:PE X o ta)
  (ht:eval (.Call (.Attribute o m apos) [] [] pos) X.env=(do
   let ov <-eval o X.env
   standAt apos.atName
   let (f,first) <-holding [ov] (getMethod ov m pl)
   callWith pos f first (backTo pos (starEach [] X.env)) (backToKw pos (keywordEach [] X.env))):=by rfl):PE X (.Call (.Attribute o m apos) [] [] pos) (AG r ta):=by
 intro pins s σ H Q I h;rw[ht];refine Bf (jC (ho pins s σ H _ I h) λu s1 #[x,H1,I1,rx,q]=>Bf (wpAny_standAt (Bf ?_)));exact hr pins s1 σ H1 x u Q pl pos I1 rx q
end
inductive mO:V->Value->Prop where
 | ty (n:String):mO (.ty n) (.type n)
 | ref (a:Addr):mO (.ref a) (.ref a)
theorem mO.val {c:V}{cv u:Value} (h:mO c cv) (r:jF c u):u=cv:=by cases h<;>exact r
section
variable {X:Cx}
theorem Uq:uH X (.builtin "isinstance") (λxs H Q=>E5 λx c t cv b=>A5 (xs=[x,c]) (vo X.K H x t) (mO c cv) (kitOne X.K t cv=some b) (Q (.bl b) H)):=by
 intro pins s σ H xs us Q I r h;obtain⟨x,c,t,cv,b,rfl,ty,hc,e,q⟩:=h;obtain⟨u,w,rfl,ru,rc⟩:=xt r;obtain rfl:=hc.val rc;exact eM I ru ty e λtk=>#[.bl b,H,I.tok tk,rfl,q]
end
theorem wJ:bootBuiltins "int"=some (.type "int"):=by decide +kernel
theorem rO:bootBuiltins "bool"=some (.type "bool"):=by decide +kernel
theorem Mh:bootBuiltins "list"=some (.type "list"):=by decide +kernel
theorem Ve:bootBuiltins "tuple"=some (.type "tuple"):=by decide +kernel
theorem rP:bootBuiltins "dict"=some (.type "dict"):=by decide +kernel
theorem JQ:bootBuiltins "isinstance"=some (.builtin "isinstance"):=by decide +kernel
theorem wK:bootBuiltins "min"=some (.builtin "min"):=by decide +kernel
theorem wG:bootBuiltins "abs"=some (.builtin "abs"):=by decide +kernel
theorem Gg:bootBuiltins "len"=some (.builtin "len"):=by decide +kernel
theorem Zz:uX (XC X.prog X.w) X (λ_ _ _=>False):=by
 intro pins σ H s e s' I h;obtain⟨_,_,_,_,_,_,_,_,_,q⟩:=h;exact q.elim
section
variable {X:Cx}
theorem KZ:uH X (.builtin "min") (λxs H Q=>E2 λ(p:Addr) (ns:List Int)=>A4 (xs=[.ref p]) (jo X.K H p (ns.map V.int)) (0<ns.length) (∀M,M∈ns->(∀a∈ns,M<=a)->Q (.int M) H)):=by
 intro pins s σ H xs us Q I r h;obtain⟨p,ns,rfl,hq,BA,q⟩:=h;obtain⟨u,rfl,ru⟩:=UB r;cases ru;obtain⟨Bi,rv,pl,_⟩:=I.list hq;have hi:=cn rv;obtain⟨zs,e⟩:=hi.allInts.items;have CJ:ns=zs.toList.map (·.1):=by rw[<-hi.numsOf,<-nums_intItems,<-e]
 have hsz:0<zs.size:=by rw[CJ,yb,yr] at BA;exact BA
 have hl:s.heap.IsList p (intItems zs):=e▸pl.isList;refine tj (I.hn.now I.hok) hl hsz λv h' tk hv hk=>?_;obtain⟨t,rfl⟩:=intItems_at hv;obtain⟨h1,h2⟩:=argBest_lt (numAt zs) (zs.size - 1);refine#[.int _,H,I.kept hk,#[t,rfl],q _ ?_ λa ha=>?_]
 ·rw[CJ,numAt_eq];exact getD_mem (by rw[yb,yr];omega)
 ·rw[CJ] at ha;obtain⟨j,hj,rfl⟩:=mem_getD ha;rw[yb,yr] at hj;rw[<-numAt_eq];exact h2 j (by omega)
theorem Kw {K:AQ} (hu:X.A.units<cLine) (hK:X.K=K:=by first|exact Vm|exact rfl):JZ X (compareOp .NotEq) (λx y H Q=>E3 λa b xs=>A5 (x=.ref a) (y=.ref b) (jo K H a xs) (jo K H b []) (Q (.bl (!xs.isEmpty)) H)):=by
 subst hK;intro pins s σ H x y v u Q I rx ry h;obtain⟨a,b,xs,rfl,rfl,ha,hb,q⟩:=h;cases rx;cases ry;obtain⟨Bi,rv,p,_⟩:=I.list ha;obtain⟨XG,Cd,p',_⟩:=I.list hb;cases Cd;cases rv with
 | nil=>exact EqBoolInt.of_rcne (SeqAt.RcNeAt.lists (e:=λ_=>true) p.isList p'.isList rfl hu (λj h1=>absurd h1 (by simp))) #[.bl false,H,I,rfl,q]
 | cons r t=>exact EqBoolInt.of_rcne (SeqAt.RcNeAt.lists_lengths p.isList p'.isList (by simp) hu) #[.bl true,H,I,rfl,q]
end
theorem dH {K:AQ}{g:TG}{tc:TT}{te:TE}{Q:VK} (p:V->Bool) (f:V->V) (hl:jo K H a xs) (hz:xs.length<=sizeLine)
  (step:∀x∈xs,∀(H':Hp) (Qy:VK) (Qn:Hp->Prop),jc H H'->(p x=true->Qy (f x) H')->(p x=false->Qn H')->g x (σ++List.replicate k none) H' λσ2 H2=>(∃zs,σ2=σ++zs/\zs.length=k)/\tc σ2 H2 λb H3=>if b=true then te σ2 H3 Qy else Qn H3)
  (q:∀D,H D=none->Q (.ref D) (upd H D (.lst ((xs.filter p).map f)))) :
  vb k g tc te σ Q (Z8 K a) H:=by
 intro D hD;have sm:∀ys,jc H (upd H D (.lst ys)):=λys b o e=>by rw[jl (ji e hD)];exact e
 refine#[λi m ys H'=>m=xs.length - i/\i<=xs.length/\ys=((xs.take i).filter p).map f/\H'=upd H D (.lst ys),#[xs.length,by simp,yV _,by simp,rfl],?_];rintro i m ys H' ⟨rfl,hi,rfl,rfl⟩;refine#[jb,?_];have q1:jo K (upd H D (.lst (((xs.take i).filter p).map f))) a xs:=(sm _).seq hl;by_cases Bj:i<xs.length
 ·refine .inr #[#[xs,xs[i],q1,by simp [Bj]],?_,λx H2 y=>?_]
  ·have:=yX p (xs.take i);rw[yb];simp only[yO] at this;omega
  ·obtain⟨rfl,y⟩:=y;have hx:xs[i]?=some x:=y xs q1;have hm:x∈xs:=yT hx;have et:(xs.take (i+1)).filter p=(xs.take i).filter p++(if p x then [x] else []):=take_succ_filter p xs i x hx;refine step x hm _ _ _ (sm _) (λhp=>#[jb,xs.length - (i+1),by omega,rfl,Bj,?_,?_]) λhp=>#[xs.length - (i+1),by omega,rfl,Bj,?_,rfl]
   ·rw[et,hp];simp
   ·rw[re]
   ·rw[et,hp];simp
 ·obtain rfl:i=xs.length:=by omega
  refine .inl #[#[xs,q1,yg _],?_];rw[yG];exact q D hD
end L2
namespace L2
open PySem PySem.Spec PyProof.Rows PySem.W
section
variable {X:Cx}
theorem uc:∀{cs:AX} {us:AW},jA (cs.map V.ref) us->us=cs.map Value.ref
 | [],_,.nil=>rfl
 | _::_,_,.cons r t=>by cases r;rw[uc t];rfl
end
section
variable {X:Cx}{e:Expr}{te:TE}{pos p2 q1 q2:Pos}{j1 j2:Nat}
theorem dC {bs:List Bool}:(List.range bs.length).all (λj=>bs.getD j true)=bs.all id:=by
 rw[yR,Qx,Qx];constructor
 ·intro h b hb;obtain⟨j,hj,rfl⟩:=Qj hb;have:=h j (Qa.mpr hj);rwa [yu,yc hj] at this
 ·intro h j hj;have hj:=Qa.mp hj;rw[yu,yc hj];exact h _ (yY hj)
theorem kg (hc:X.calm=true):uH X (.builtin "all") (λxs H Q=>E2 λ(p:Addr) (bs:List Bool)=>A3 (xs=[.ref p]) (jo X.K H p (bs.map V.bl)) (Q (.bl (bs.all id)) H)):=by
 intro pins s σ H xs us Q I r h;obtain⟨p,bs,rfl,hq,q⟩:=h;obtain⟨u,rfl,ru⟩:=UB r;cases ru;obtain⟨Bi,rv,pl,_⟩:=I.list hq;have hlen:Bi.length=bs.length:=by rw[<-rv.length,yb]
 have DE:∀(i:Nat) (v:Value),Bi.toArray[i]?=some v->v=.bool (bs.getD i true):=λi v e=>by
  have e':Bi[i]?=some v:=by simpa using e
  have hi:i<bs.length:=by rw[<-hlen];exact (yi.mp e').1
  obtain⟨u,hu,ru⟩:=rv.get (i:=i) (x:=V.bl bs[i]) (by simp [hi]);rw[e'] at hu;cases hu;obtain rfl:=ru;rw[yu,yc hi];rfl
 have Bj:p<s.heap.objs.size:=by obtain⟨_,e,_⟩:=pl.isList;exact yq e
 refine call_all_walk (wpAny_pyIter_list pl.isList ?_);refine#[_,_,_,_,_,_,λj=>bs.getD j true,rfl,Walks.list (A:=X.A.in1) (I.ok.hd hc) s.heap.objs.size p (yE Bj) Bi.toArray,#[#[_,yz _ rfl,rfl,rfl],pl.isList.push _],?_,λh' tk hk=>?_]
 ·intro i v s' Q' E' hP El;obtain rfl:=DE i v hP;exact wpAny_of_eq rfl El
 ·rw[yk,hlen,dC];exact#[.bl _,H,I.kept λb o e=>hk b o (λhm=>by simp at hm;exact absurd (hm▸yq e) (QP _)) (yd _ e),rfl,q]
end
end L2
namespace L2
open PySem PySem.Spec PyProof.Rows
variable {H:Hp}
theorem wH:bootBuiltins "all"=some (.builtin "all"):=by decide +kernel
theorem zw {H':Hp}{D:Addr}{o:HO} (hD:H D=none) (s:jc H H'):jc H (upd H' D o):=λb u e=>by rw[jl (ji e hD)];exact s b u e
theorem Ke {K:AQ}{a:Addr}{xs:List V}{g:TG}{tc:TT}{te:TE}{k:Nat}{σ:St}{Q:VK} (p:V->Bool) (f:V->V) (hl:jo K H a xs) (hz:xs.length<=sizeLine)
  (step:∀x∈xs,∀(H':Hp) (Qy:VK) (Qn:Hp->Prop),jc H H'->(p x=true->∀DF,jc H' DF->Qy (f x) DF)->(p x=false->∀DF,jc H' DF->Qn DF)->g x (σ++List.replicate k none) H' λσ2 H2=>(∃zs,σ2=σ++zs/\zs.length=k)/\tc σ2 H2 λb H3=>if b=true then te σ2 H3 Qy else Qn H3)
  (q:∀D H',H D=none->jc H H'->H' D=some (.lst ((xs.filter p).map f))->Q (.ref D) H'):vb k g tc te σ Q (Z8 K a) H:=by
 intro D hD;refine#[λi m ys H'=>m=xs.length - i/\i<=xs.length/\ys=((xs.take i).filter p).map f/\jc H H'/\H' D=some (.lst ys),#[xs.length,by simp,yV _,by simp,zw hD (jc.refl H),jb],?_];rintro i m ys H' ⟨rfl,hi,rfl,sm,eD⟩;refine#[eD,?_];have q1:jo K H' a xs:=sm.seq hl;by_cases Bj:i<xs.length
 ·refine .inr #[#[xs,xs[i],q1,by simp [Bj]],?_,λx H2 y=>?_]
  ·have:=yX p (xs.take i);rw[yb];simp only[yO] at this;omega
  ·obtain⟨rfl,y⟩:=y;have hx:xs[i]?=some x:=y xs q1;have et:(xs.take (i+1)).filter p=(xs.take i).filter p++(if p x then [x] else []):=take_succ_filter p xs i x hx;refine step x (yT hx) _ _ _ sm (λhp H4 s4=>#[s4 _ _ eD,xs.length - (i+1),by omega,rfl,Bj,?_,zw hD (jc.trans sm s4),jb]) λhp H4 s4=>#[xs.length - (i+1),by omega,rfl,Bj,?_,jc.trans sm s4,s4 _ _ eD]
   ·rw[et,hp];simp
   ·rw[et,hp];simp
 ·obtain rfl:i=xs.length:=by omega
  refine .inl #[#[xs,q1,yg _],?_];rw[yG] at eD;exact q D H' hD sm eD
end L2
namespace L2
open PySem PySem.Spec PyProof.Rows PySem.W
variable {H:Hp}{a:Addr}{xs:List V}{A:Around}{Bi Bl:AW}{ns ms:List Int}{ps qs:AX}{BE CN:List (List Int)}{g:TG}{tc:TT}{te:TE}{k:Nat}{σ:St}{Q:VK}
theorem gF {α:Type} [DecidableEq α] (d:α) (xs ys:List α):((List.range (min xs.length ys.length)).all (λj=>decide (xs.getD j d=ys.getD j d))&&xs.length==ys.length)=decide (xs=ys):=by
 rw[yR,Qz,Qx,decide_eq_true_iff,beq_iff_eq];constructor
 ·rintro⟨h,hl⟩;refine List.ext_getElem hl λj h1 h2=>?_;have:=of_decide_eq_true (h j (Qa.mpr (by omega)));rwa [yu,yu,yc h1,yc h2] at this
 ·rintro rfl;exact#[λj _=>decide_eq_true rfl,rfl]
structure Za (K:AQ) (H:Hp) (ps:AX) (BE:List (List Int)):Prop where
 len:ps.length=BE.length
 at_:∀(i:Nat) (p:Addr) (ns:List Int),ps[i]?=some p->BE[i]?=some ns->jD K H p (ns.map V.int)
theorem jc.sqT {K:AQ}{H':Hp} (e:jc H H') (h:jD K H a xs):jD K H' a xs:=by
 rcases h with (h|⟨o,h⟩)|h
 ·exact .inl (.inl (e _ _ h))
 ·exact .inl (.inr #[o,e _ _ h])
 ·exact .inr h
section
variable {X:Cx}{pins:AU}{σ:St}{H:Hp}{s:Shared}
theorem Kj (r1:jA (ns.map V.int) Bi) (r2:jA (ms.map V.int) Bl) (j:Nat) (h1:j<Bi.toArray.size) (h2:j<Bl.toArray.size) :
  SeqAt.EqAt A s Bi.toArray[j] Bl.toArray[j] (decide (ns.getD j 0=ms.getD j 0)):=by
 have l1:=r1.length;have l2:=r2.length;rw[yb] at l1 l2;rw[yk] at h1 h2;have g1:j<ns.length:=by omega
 have g2:j<ms.length:=by omega
 obtain⟨u,hu,ru⟩:=r1.get (i:=j) (x:=V.int ns[j]) (by simp [g1]);obtain⟨v,hv,rv⟩:=r2.get (i:=j) (x:=V.int ms[j]) (by simp [g2]);obtain⟨t,rfl⟩:=ru;obtain⟨t2,rfl⟩:=rv;have e1:Bi.toArray[j]=.int ns[j] t:=by
  rw[yW];exact Option.some.inj ((yc h1).symm.trans hu)
 have e2:Bl.toArray[j]=.int ms[j] t2:=by
  rw[yW];exact Option.some.inj ((yc h2).symm.trans hv)
 rw[e1,e2];have e3:(ns[j]==ms[j])=decide (ns.getD j 0=ms.getD j 0):=by
  rw[yu,yu,yc g1,yc g2];rw[yR,beq_iff_eq,decide_eq_true_iff];rfl
 rw[<-e3];exact SeqAt.EqAt.int_int _ _ _ _
theorem KI (r1:jA (ns.map V.int) Bi) (r2:jA (ms.map V.int) Bl) :
  ((List.range (min Bi.toArray.size Bl.toArray.size)).all (λj=>decide (ns.getD j 0=ms.getD j 0))&&Bi.toArray.size==Bl.toArray.size)=decide (ns=ms):=by
 have l1:=r1.length;have l2:=r2.length;rw[yb] at l1 l2;rw[yk,yk,<-l1,<-l2];exact gF 0 ns ms
theorem Ms (I:jn X pins σ H s) {b:Addr} (hu:A.units<cLine) (ha:jD X.K H a (ns.map V.int)) (hb:jD X.K H b (ms.map V.int)):SeqAt.EqAt A s (.ref a) (.ref b) (decide (ns=ms)):=by
 by_cases Ds:a=b
 ·subst Ds;have e:=I.tuple_inj ha hb;have e2:ns=ms:=(List.map_inj_right (f:=V.int) λx y h=>V.int.inj h).mp e;rw[decide_eq_true e2];exact SeqAt.EqAt.same _
 ·obtain⟨Bi,r1,p1,_⟩:=I.tuple ha;obtain⟨Bl,r2,p2,_⟩:=I.tuple hb;rw[<-KI r1 r2];exact SeqAt.EqAt.of_refs Ds (SeqAt.RcAt.tuples p1 p2 hu λj h1 h2=>Kj r1 r2 j h1 h2)
theorem fO (hu:X.A.units<cLine):JZ X (compareOp .NotEq) (λx y H Q=>E4 λ(a b:Addr) (ns ms:List Int)=>A5 (x=.ref a) (y=.ref b) (jD X.K H a (ns.map V.int)) (jD X.K H b (ms.map V.int)) (Q (.bl (!decide (ns=ms))) H)):=by
 intro pins s σ H x y v u Q I rx ry h;obtain⟨a,b,ns,ms,rfl,rfl,ha,hb,q⟩:=h;cases rx;cases ry;obtain⟨Bi,r1,p1,_⟩:=I.tuple ha;obtain⟨Bl,r2,p2,_⟩:=I.tuple hb;rw[<-KI r1 r2] at q;exact EqBoolInt.of_rcne (SeqAt.RcNeAt.tuples p1 p2 hu λj h1 h2=>Kj r1 r2 j h1 h2) #[.bl _,H,I,rfl,q]
theorem dN (I:jn X pins σ H s) (hu:A.units<cLine) (T1:Za X.K H ps BE) (T2:Za X.K H qs CN) (r1:jA (ps.map V.ref) Bi) (r2:jA (qs.map V.ref) Bl) (j:Nat) (h1:j<Bi.toArray.size) (h2:j<Bl.toArray.size) :
  SeqAt.EqAt A s Bi.toArray[j] Bl.toArray[j] (decide (BE.getD j []=CN.getD j [])):=by
 have e1:=uc r1;have e2:=uc r2;subst e1 e2;rw[yk,yb] at h1 h2;have g1:j<BE.length:=by rw[<-T1.len];exact h1
 have g2:j<CN.length:=by rw[<-T2.len];exact h2
 rw[yW,yW,Qd,Qd,yu,yu,yc g1,yc g2];exact Ms I hu (T1.at_ j _ _ (yc h1) (yc g1)) (T2.at_ j _ _ (yc h2) (yc g2))
theorem cB (l1:ps.length=BE.length) (l2:qs.length=CN.length) (r1:jA (ps.map V.ref) Bi) (r2:jA (qs.map V.ref) Bl) (hz:Bi.toArray.size=Bl.toArray.size) :
  (List.range Bi.toArray.size).all (λj=>decide (BE.getD j []=CN.getD j []))=decide (BE=CN):=by
 have e1:=r1.length;have e2:=r2.length;rw[yb] at e1 e2;rw[yk] at hz ⊢;rw[yk] at hz;rw[<-gF [] BE CN,show min BE.length CN.length=Bi.length by omega,show (BE.length==CN.length)=true by rw[beq_iff_eq];omega,Bool.and_true]
theorem kI (hu:X.A.units+64<cLine):JZ X (compareOp .NotEq) (λx y H Q=>E6 λa b ps qs BE CN=>A7 (x=.ref a) (y=.ref b) (jo X.K H a (ps.map V.ref)) (jo X.K H b (qs.map V.ref)) (Za X.K H ps BE) (Za X.K H qs CN) (Q (.bl (!decide (BE=CN))) H)):=by
 intro pins s σ H x y v u Q I rx ry h;obtain⟨a,b,ps,qs,BE,CN,rfl,rfl,ha,hb,T1,T2,q⟩:=h;cases rx;cases ry;obtain⟨Bi,r1,p1,_⟩:=I.list ha;obtain⟨Bl,r2,p2,_⟩:=I.list hb;have Ot:X.A.units<cLine:=by omega
 have XH:X.A.in1.units<cLine:=by show X.A.units+1<cLine;omega
 by_cases hz:Bi.toArray.size=Bl.toArray.size
 ·rw[<-cB T1.len T2.len r1 r2 hz] at q;exact EqBoolInt.of_rcne (SeqAt.RcNeAt.lists p1.isList p2.isList hz Ot λj h1 h2=>dN I XH T1 T2 r1 r2 j h1 h2) #[.bl _,H,I,rfl,q]
 ·have BA:BE≠CN:=λe=>by
   have e1:=r1.length;have e2:=r2.length;rw[yb] at e1 e2;rw[yk,yk] at hz;have:=T1.len;have:=T2.len;rw[e] at *;omega
  rw[decide_eq_false BA] at q;exact EqBoolInt.of_rcne (SeqAt.RcNeAt.lists_lengths p1.isList p2.isList (bne_iff_ne.mpr hz) Ot) #[.bl true,H,I,rfl,q]
end
theorem bN {K:AQ} (p:V->Bool) (f:V->V) (hl:jD K H a xs) (hz:xs.length<=sizeLine)
  (step:∀x∈xs,∀(H':Hp) (Qy:VK) (Qn:Hp->Prop),jc H H'->(p x=true->∀DF,jc H' DF->Qy (f x) DF)->(p x=false->∀DF,jc H' DF->Qn DF)->g x (σ++List.replicate k none) H' λσ2 H2=>(∃zs,σ2=σ++zs/\zs.length=k)/\tc σ2 H2 λb H3=>if b=true then te σ2 H3 Qy else Qn H3)
  (q:∀D H',H D=none->jc H H'->H' D=some (.lst ((xs.filter p).map f))->Q (.ref D) H'):vb k g tc te σ Q (N8 K a) H:=by
 intro D hD;refine#[λi m ys H'=>m=xs.length - i/\i<=xs.length/\ys=((xs.take i).filter p).map f/\jc H H'/\H' D=some (.lst ys),#[xs.length,by simp,yV _,by simp,zw hD (jc.refl H),jb],?_];rintro i m ys H' ⟨rfl,hi,rfl,sm,eD⟩;refine#[eD,?_];have q1:jD K H' a xs:=sm.sqT hl;by_cases Bj:i<xs.length
 ·refine .inr #[#[xs,xs[i],q1,by simp [Bj]],?_,λx H2 y=>?_]
  ·have:=yX p (xs.take i);rw[yb];simp only[yO] at this;omega
  ·obtain⟨rfl,y⟩:=y;have hx:xs[i]?=some x:=y xs q1;have et:(xs.take (i+1)).filter p=(xs.take i).filter p++(if p x then [x] else []):=take_succ_filter p xs i x hx;refine step x (yT hx) _ _ _ sm (λhp H4 s4=>#[s4 _ _ eD,xs.length - (i+1),by omega,rfl,Bj,?_,zw hD (jc.trans sm s4),jb]) λhp H4 s4=>#[xs.length - (i+1),by omega,rfl,Bj,?_,jc.trans sm s4,s4 _ _ eD]
   ·rw[et,hp];simp
   ·rw[et,hp];simp
 ·obtain rfl:i=xs.length:=by omega
  refine .inl #[#[xs,q1,yg _],?_];rw[yG] at eD;exact q D H' hD sm eD
theorem vW {lo:Int}{n:Nat} (Pv:Addr->Nat->List V->Hp->Prop) (hn:n<=sizeLine)
  (h0:∀D,H D=none->Pv D 0 [] (upd H D (.lst []))) (hD:∀D i ys H',Pv D i ys H'->H' D=some (.lst ys)/\ys.length=i)
  (step:∀D i ys H' (Qy:VK) (Qn:Hp->Prop),i<n->Pv D i ys H'->(∀y H4,H4 D=some (.lst ys)->Pv D (i+1) (ys++[y]) (upd H4 D (.lst (ys++[y])))->Qy y H4) ->
   g (.int (lo+i)) (σ++List.replicate k none) H' λσ2 H2=>(∃zs,σ2=σ++zs/\zs.length=k)/\tc σ2 H2 λb H3=>if b=true then te σ2 H3 Qy else Qn H3)
  (q:∀D ys H',H D=none->Pv D n ys H'->Q (.ref D) H'):vb k g tc te σ Q (zL lo n) H:=by
 intro D DG;refine#[λi m ys H'=>m=n - i/\i<=n/\Pv D i ys H',#[n,by simp,yV _,h0 D DG],?_];rintro i m ys H' ⟨rfl,hi,p⟩;obtain⟨e,hl⟩:=hD D i ys H' p;refine#[e,?_];by_cases Bj:i<n
 ·refine .inr #[Bj,by omega,λx H2 y=>?_];obtain⟨rfl,rfl⟩:=y;exact step D i ys H2 _ _ Bj p λy H4 e4 p4=>#[e4,n - (i+1),by omega,rfl,Bj,p4]
 ·obtain rfl:i=n:=by omega
  exact .inl #[yg _,q D ys H' DG p]
theorem vB {K:AQ} (Pv:Addr->Nat->List V->Hp->Prop) (hz:xs.length<=sizeLine)
  (h0:∀D,H D=none->Pv D 0 [] (upd H D (.lst []))) (hD:∀D i ys H',Pv D i ys H'->H' D=some (.lst ys)/\ys.length<=i/\jo K H' a xs)
  (step:∀D i x ys H' (Qy:VK) (Qn:Hp->Prop),xs[i]?=some x->Pv D i ys H'->(∀y H4,H4 D=some (.lst ys)->Pv D (i+1) (ys++[y]) (upd H4 D (.lst (ys++[y])))->Qy y H4)->(∀H4,Pv D (i+1) ys H4->Qn H4) ->
   g x (σ++List.replicate k none) H' λσ2 H2=>(∃zs,σ2=σ++zs/\zs.length=k)/\tc σ2 H2 λb H3=>if b=true then te σ2 H3 Qy else Qn H3)
  (q:∀D ys H',H D=none->Pv D xs.length ys H'->Q (.ref D) H'):vb k g tc te σ Q (Z8 K a) H:=by
 intro D DG;refine#[λi m ys H'=>m=xs.length - i/\i<=xs.length/\Pv D i ys H',#[xs.length,by simp,yV _,h0 D DG],?_];rintro i m ys H' ⟨rfl,hi,p⟩;obtain⟨e,hl,q1⟩:=hD D i ys H' p;refine#[e,?_];by_cases Bj:i<xs.length
 ·refine .inr #[#[xs,xs[i],q1,by simp [Bj]],by omega,λx H2 y=>?_];obtain⟨rfl,y⟩:=y;exact step D i x ys H2 _ _ (y xs q1) p (λy H4 e4 p4=>#[e4,xs.length - (i+1),by omega,rfl,Bj,p4]) λH4 p4=>#[xs.length - (i+1),by omega,rfl,Bj,p4]
 ·obtain rfl:i=xs.length:=by omega
  exact .inl #[#[xs,q1,yg _],q D ys H' DG p]
end L2
namespace L2
open PySem PySem.Spec PyProof.Rows
variable {h':Heap}{pins:AU}{s:Shared}{σ:St}{H H':Hp}{Q:AL}{x qual:Str}{o:Option V}{u:Value}{y:V}{P:Be}{w:World}{k:List Key}{a b f:Addr}{kvs:List (List Key×V)}{xs:List (List Key×Addr×Value)}{st:Stmt}{fd:FuncData}{ps:A1}
abbrev Cx.blkN (X:Cx) (N0:A1) (scope:Scope) (cl:AY) (C:Addr) (own:A1) (s:Shared) (H:Hp) (fp:AX) (pins:AU):Cx :=
 { X.blk scope cl C own s H fp pins with N:=N0++own }
structure uS (X:Cx) (N0:A1) (scope:Scope) (cl:AY):Prop where
 clos:closureFor scope X.env=pure cl
 kind:scope.kind=.function
 nocell:∀y∈scope.names,y.2≠.cell
 names:∀y∈scope.names,y.2=.local->scope.names.lookup y.1=some .local
 sub:∀x c,cl.lookup x=some c->X.env.cells.lookup x=some c
 has:∀x,scope.names.lookup x=some .free->∃c,cl.lookup x=some c
 outer:∀x,scope.names.lookup x=some .free->X.env.kindOf x=some .cell\/X.env.kindOf x=some .free
 lenN:N0.length=X.N.length
 nm:∀(i:Nat) (x:Str),N0[i]?=some x->(X.N[i]?=some x/\scope.names.lookup x≠some .local)\/scope.names.lookup x=none
section
variable {X:Cx}{scope:Scope}{cl:AY}{own N0:A1}{pins:AU}{σ:St}{H2 H3:Hp}{s2:Shared}{fp:AX}{C:Addr}{h1:Heap}
theorem pQ (S:uS X N0 scope cl) (I2:jn X pins σ H2 s2) (f2:∀b∈fp,zb X pins H2 b) (Bj:∀b∈fp,b<s2.heap.objs.size) (hC:s2.heap.objs.size<=C) {m:AT} (CJ:h1.Ns C m)
  (keep:∀b o,s2.heap.get? b=some o->h1.get? b=some o) (hH:∀b o,s2.heap.get? b=some o->H2 b=none->H3 b=none) (un:Un (ul X.stack) fp H2 H3 s2.heap h1) (hok:Ji X.prog X.w H3 h1) (XI:H3 C=none) {tk:Nat} :
  jn (X.blkN N0 scope cl C own s2 H2 fp pins) [] (σ++List.replicate own.length none) H3 { s2 with heap:=h1,toks:=tk }:=by
 have HN:∀b o,s2.heap.get? b=some o->b≠C:=λb o e=>yE (yF (yq e) hC);have PN:∀x,(compEnvC scope cl C X.env).kindOf x=(scope.names.lookup x).map λk=>if (k==NameKind.free&&X.env.scope.kind==.function&&X.env.kindOf x==some .cell) then NameKind.cell else k:=λx=>Zr
 have Cs:∀x,((compEnvC scope cl C X.env).kindOf x=some .cell\/(compEnvC scope cl C X.env).kindOf x=some .free)->scope.names.lookup x=some .free:=λx hx=>by
  rw[PN x] at hx;cases q:scope.names.lookup x with
  | none=>rw[q] at hx;rcases hx with z|z<;>cases z
  | some k =>
   rw[q] at hx;have nc:=S.nocell _ (GG q);cases k<;>simp_all
 refine#[#[I2.ok.mod,S.kind,I2.ok.glob,I2.ok.blt,hC,λx y c e1 e2=>I2.ok.inj x y c (S.sub x c e1) (S.sub y c e2),λx hx=>S.has x (Cs x hx),λx c z _=>(by cases z),I2.ok.hd,I2.ok.frames,.inl rfl,
  λb hb=>#[yE (yF (Bj b hb) hC),λx c e=>(f2 b hb).2.2.2.2.1 x c (S.sub x c e)],λb o e=>#[(I2.bs b o e).1,(I2.bs b o e).2],yp I2.ok.bsz I2.sz,λb o e hb=>?_,λb hb=>n4 I2 (f2 b hb).2.1 (f2 b hb).2.2.1,I2.stack,I2.stkFree],
  rfl,I2.bare,un,#[m,CJ,λi x v e1 e2 e3=>?_],λx c e=>?_,XI,λx c e=>?_,λp hp=>?_,hok,?_,I2.hn.mono un.frzs]
 ·rcases (f2 b hb).2.2.2.1 with z|z
  ·exact I2.ok.noex b o e z
  ·exact absurd (yF (yF (yq e) I2.ok.bsz) z) (QP _)
 ·
  have hi:i<σ.length:=by
   apply Classical.byContradiction
   intro hn;rw[yS (by omega),List.getElem?_replicate] at e2
   split at e2<;>cases e2
  rw[yK hi] at e2;have uZ:i<N0.length:=by rw[S.lenN,<-I2.len];exact hi
  have XJ:N0[i]?=some x:=by rw[<-yK (l₂:=own) uZ];exact e1
  have Ou:=S.nm i x XJ;have Th:(compEnvC scope cl C X.env).kindOf x=some .local\/(compEnvC scope cl C X.env).kindOf x=some .cell\/(compEnvC scope cl C X.env).kindOf x=some .free:=e3;have Ou:X.N[i]?=some x/\scope.names.lookup x≠some .local:=Ou.resolve_right λz=>by
   have k0:=PN x;rw[z] at k0;rcases Th with q|q|q<;>(rw[k0] at q;cases q)
  have XM:X.N[i]?=some x:=Ou.1;have nl:(compEnvC scope cl C X.env).kindOf x≠some .local:=λz=>by
   rw[PN x] at z;cases q:scope.names.lookup x with
   | none=>rw[q] at z;cases z
   | some k =>
    rw[q,Option.map_some] at z;have na:=Ou.2;rw[q] at na;cases k<;>first
     | exact na rfl
     | (have z':=Option.some.inj z;split at z'<;>cases z')
  have PQ:(compEnvC scope cl C X.env).kindOf x=some .cell\/(compEnvC scope cl C X.env).kindOf x=some .free:=Th.resolve_left nl;obtain⟨c,hc⟩:=S.has x (Cs x PQ);obtain⟨m0,hn0,XN⟩:=I2.loc;have XO:=S.sub x c hc;have ho:=S.outer x (Cs x PQ);obtain⟨u,r,l⟩:=XN i x v XM e2 (.inr ho);refine⟨u,r,.inr ⟨PQ,c,hc,?_⟩⟩;rcases l with ⟨z,_⟩|⟨_,c',Dq,oc,D5,HQ⟩
  ·rcases ho with y|y<;>(rw[y] at z;cases z)
  ·rw[XO] at Dq;cases Dq;exact⟨oc,keep _ _ D5,HQ⟩
 ·obtain⟨v,⟨oc,D5,HQ⟩⟩:=I2.cell x c (S.sub x c e);exact⟨v,oc,keep _ _ D5,HQ⟩
 ·obtain⟨v,⟨oc,D5,HQ⟩⟩:=I2.cell x c (S.sub x c e);exact hH c oc D5 (I2.freeC x c (S.sub x c e))
 ·obtain⟨q1,q2,q3,q4,q5⟩:=I2.pin p (by simpa using hp);exact⟨keep _ _ q1,hH _ _ q1 q2,HN _ _ q1,n4 I2 q3 q4,q5⟩
 ·show (σ++List.replicate own.length none).length=(N0++own).length;rw[ye,ye,List.length_replicate,I2.len,S.lenN]
theorem iJ (I2:jn X pins σ H2 s2) (f2:∀b∈fp,zb X pins H2 b) (hC:s2.heap.objs.size<=C) {pl:AU} {σ':St} {s4:Shared} (I4:jn (X.blkN N0 scope cl C own s2 H2 fp pins) pl σ' H3 s4) (sb:Heap.SameBut C s4.heap h') :
  jn X pins σ H3 { s4 with heap:=h' }:=by
 have un:Un (ul X.stack) fp H2 H3 s2.heap s4.heap:=I4.base;have nC:s2.heap.get? C=none:=Heap.get?_none_of_le hC;have CF:C ∉ ul X.stack:=λz=>by
  obtain⟨_,o,ho,_⟩:=I2.stack.mem z;rw[nC] at ho;cases ho
 have KJ:Un (ul X.stack) fp H2 H3 s2.heap h':=un.late (ch:=[C]) (λb hb=>by
  obtain rfl:b=C:=by simpa using hb
  exact nC) (λb o _ hb e=>(sb.2 b (by simpa using hb)).trans e) λb o hb e=>#[o.slots,(sb.2 b λz=>CF (z▸hb)).trans e]
 have hf:H3 C=none:=I4.free;have hok:Ji X.prog X.w H3 h':=λb o e=>(I4.hok b o e).stay (λc u hc q=>(sb.2 c λz=>by
  subst z;rcases hc with z|z
  ·rw[z,e] at hf;cases hf
  ·rw[z] at hf;cases hf).trans q) (λ_ q=>q) λ_ _ q=>q
 exact I2.call' (s':={ s4 with heap:=h' }) (ch:=fp) I4.os KJ hok I4.bare λb hb=>#[(f2 b hb).2.2.2.1,(f2 b hb).2.1,(f2 b hb).2.2.2.2.1,(f2 b hb).2.2.2.2.2]
end
section
variable {X:Cx}{tg elt iter:Expr}{ifs:Ba}{scope:Scope}{cl:AY}{own N0:A1}{wi:TI}{g:TG}{tc:TT}{te:TE}{pos:Pos}
theorem Gi {p2:Pos}{use:Option (Value->Sem Unit)}{QV:AL}{Q:VK} (S:uS X N0 scope cl) (hi:PI X tg iter wi)
  (hg:∀C s H fp pins,PG (X.blkN N0 scope cl C own s H fp pins) tg g) (ht:∀C s H fp pins,PF (X.blkN N0 scope cl C own s H fp pins) ifs tc) (he:∀C s H fp pins,PE (X.blkN N0 scope cl C own s H fp pins) elt te)
  (hs:∀x,foldedSetIterable iter X.env x=pure x) (I:jn X pins σ H s) (h:G4 wi own.length g tc te σ H Q)
  (fin:∀D C s2 H2 H3 s4,jn X pins σ H2 s2->s2.heap.objs.size<=C->H3 C=none->(∃m,s4.heap.Ns C m)->(∀h',Heap.SameBut C s4.heap h'->jn X pins σ H3 { s4 with heap:=h' })->Q (.ref D) H3->compPost (model X.prog X.w) X.A X.xe use QV (.ref D) C (.ok .next) s4) :
  wpAny (model X.prog X.w) X.A (comprehension (.ListComp elt [#[tg,iter,ifs,0]] scope pos) scope X.env p2 (newList []) false (eval iter X.env) use) QV X.xe s:=by
 refine wpAny_comprehension_free (use:=use) rfl hs S.clos S.kind S.names (jC (hi pins s σ H _ I h) λv s1 h1=>jC h1 λPo s2 h2=>?_);obtain⟨it,fp,tn,J,H2,e,I2,T,CG,f2,R⟩:=h2;subst e;obtain⟨nm,T,hc⟩:=T;refine wpAny_newObj_type (wpAny_newFunctionEnv S.nocell (by intro y hy;simp at hy) (λh1 CJ I0=>?_) S.kind);dsimp only at CJ I0 ⊢;have Bj:∀b∈fp,b<s2.heap.objs.size:=λb hb=>by
  obtain⟨o,ho,_⟩:=T.obj 0 _ CG b hb;exact yq ho
 generalize hp:s2.heap.push { cls:=.type "list",dict:=none,data:=.seq ([]:AW).toArray }=hl at CJ I0 ⊢;have hC:hl.objs.size=s2.heap.objs.size+1:=by rw[<-hp,Heap.size_push]
 have DH:s2.heap.objs.size<=hl.objs.size:=by rw[hC];exact Nat.le_succ _
 have XQ:s2.heap.objs.size≠hl.objs.size:=by rw[hC];exact yE (Nat.lt_succ_self _)
 have old:∀b o,hl.get? b=some o->h1.get? b=some o:=λb o e=>I0.extBut b o (yE (yq e)) (yd _ e);have DI:∀b o,s2.heap.get? b=some o->h1.get? b=some o:=λb o e=>old b o (hp▸yd _ e);have Dn:H2 s2.heap.objs.size=none:=I2.fresh;have Cn:H2 hl.objs.size=none:=I2.hok.fresh DH;obtain⟨W,⟨m0,w0⟩,step⟩:=R s2.heap.objs.size Dn;have DD:h1.get? s2.heap.objs.size=some { cls:=.type "list",data:=.seq ([]:AW).toArray }:=old _ _ (hp▸yz _ rfl);have I3:jn (X.blkN N0 scope cl hl.objs.size own s2 H2 fp pins) [] (σ++List.replicate own.length none) (upd H2 s2.heap.objs.size (.lst [])) { s2 with heap:=h1,toks:=s2.toks+([]:List (Str×Value)).length } :=
  pQ S I2 f2 Bj DH CJ DI (λb o e n=>jw (yE (yq e)) n) (Un.laid DI (yg _) Dn) (I2.hok.laid DI (yg _) (show j8 X.prog X.w (upd H2 s2.heap.objs.size (.lst [])) h1 s2.heap.objs.size (.lst []) from#[yV _,[],0,.nil,DD])) (jw (yP XQ) Cn)
 have XR:∀b∈fp,upd H2 s2.heap.objs.size (.lst []) b=none:=λb hb=>by rw[jl (yE (Bj b hb))];exact (f2 b hb).1
 have Cr:∀{H':Hp},(∀b∈fp,H' b=none)->∀b∈fp,zb (X.blkN N0 scope cl hl.objs.size own s2 H2 fp pins) [] H' b:=λhn b hb =>
  #[hn b hb,yE (yF (Bj b hb) DH),n4 I2 (f2 b hb).2.1 (f2 b hb).2.2.1,.inl hb,λx c e=>(f2 b hb).2.2.2.2.1 x c (S.sub x c e),λp hp=>(f2 b hb).2.2.2.2.2 p (by simpa using hp)]
 have loop:∀s3:Shared,s3={ s2 with heap:=h1,toks:=s2.toks+([]:List (Str×Value)).length } ->
   codeAny (model X.prog X.w) X.A (.compLoop (.ListComp elt [#[tg,iter,ifs,0]] scope pos) 0 (.ref it) (.ref s2.heap.objs.size) (compEnvC scope cl hl.objs.size X.env)) (compPost (model X.prog X.w) X.A X.xe use QV (.ref s2.heap.objs.size) hl.objs.size) s3:=by
  rintro s3 rfl;refine bP (λn s'=>∃i ys H',jn (X.blkN N0 scope cl hl.objs.size own s2 H2 fp pins) [] (σ++List.replicate own.length none) H' s'/\tn i s'.heap/\(∀b∈fp,H' b=none)/\W i n ys H') ?_ m0
   #[0,[],_,I3,T.keep 0 _ _ CG (λb _ o e=>DI b o e),XR,w0]
  rintro n s3 ⟨i,ys,H3,J3,IM,IP,w3⟩;obtain⟨hD,⟨stop,q⟩|⟨go,hlen,turn⟩⟩:=step i n ys H3 w3
  ·refine jC (T.done (X.blkN N0 scope cl hl.objs.size own s2 H2 fp pins) rfl rfl rfl hc i [] s3 _ H3 _ J3 (Cr IP) IM stop) λr s4 #[hr,J4]=>?_;subst hr;obtain⟨m4,XS,_⟩:=J4.loc;exact fin _ _ s2 H2 H3 s4 I2 DH J4.free #[m4,XS] (λh' sb=>iJ I2 f2 DH J4 sb) q
  ·refine jC (T.item (X.blkN N0 scope cl hl.objs.size own s2 H2 fp pins) rfl rfl rfl hc i [] s3 _ H3 _ J3 (Cr IP) IM go) λr s4 #[u,hr,h4]=>?_;subst hr;refine jC h4 λ_ s5 hh=>?_;obtain⟨x,H5,J5,r5,y5,FN,Pp⟩:=hh;have XX:=J5.pinned (Cr Pp) (T.obj _ _ FN);refine jC (hg _ _ _ _ _ _ s5 _ H5 x u _ XX r5 (turn x H5 y5)) λ_ s6 hh=>?_;obtain⟨σ6,H6,J6,⟨ts,e6,XY⟩,q6⟩:=hh;subst e6;refine jC (ht _ _ _ _ _ _ s6 _ H6 _ J6 q6) λok s7 #[H7,J7,q7]=>?_;have again:∀{s8:Shared} {H8:Hp} {zs:List V},jn (X.blkN N0 scope cl hl.objs.size own s2 H2 fp pins) ([]++ZA fp s5.heap) (σ++ts) H8 s8->(∃m',m'<n/\W (i+1) m' zs H8) ->
     ∃m,m<n/\∃i ys H',jn (X.blkN N0 scope cl hl.objs.size own s2 H2 fp pins) [] (σ++List.replicate own.length none) H' s8/\tn i s8.heap/\(∀b∈fp,H' b=none)/\W i m ys H':=λ{s8 H8 zs} J8 ⟨m',hm,w8⟩=>by
    refine#[m',hm,i+1,zs,H8,?_,T.keep _ _ _ FN λb hb o e=>(J8.pin (b,o) (yy _ (yy _ (vZ hb e)))).1,λb hb=>?_,w8]
    ·refine J8.unpinned.weak (by rw[ye,ye,List.length_replicate,XY]) λj v ej=>?_;by_cases hj:j<σ.length
     ·rw[yK hj] at ej ⊢;exact ej
     ·rw[yS (by omega),List.getElem?_replicate] at ej
      split at ej<;>cases ej
    ·obtain⟨o,e,d⟩:=T.obj _ _ FN b hb;exact (J8.pin (b,o) (yy _ (yy _ (vZ hb e)))).2.1
   cases ok with
   | false=>exact again J7 q7
   | true =>
    refine jC (he _ _ _ _ _ _ s7 _ H7 _ J7 q7) λz s8 hh=>?_;obtain⟨y,H8,J8,r8,XZ,q8⟩:=hh;refine jC (JH _ s8 _ H8 (.ref s2.heap.objs.size) [y] _ [z] (λ_ H9=>∃m',m'<n/\W (i+1) m' (ys++[y]) H9) J8 rfl (.cons r8 .nil) #[_,ys,y,rfl,rfl,XZ,hlen,q8]) λ_ s9 #[_,H9,J9,_,q9]=>again J9 q9
 exact codeAny_compStart_list (loop _ rfl) (T.self _ 0 _ _ _ (T.keep 0 _ _ CG λb _ o e=>DI b o e) (loop _ rfl))
theorem zA (S:uS X N0 scope cl) (hi:PI X tg iter wi)
  (hg:∀C s H fp pins,PG (X.blkN N0 scope cl C own s H fp pins) tg g) (ht:∀C s H fp pins,PF (X.blkN N0 scope cl C own s H fp pins) ifs tc) (he:∀C s H fp pins,PE (X.blkN N0 scope cl C own s H fp pins) elt te)
  (hs:∀x,foldedSetIterable iter X.env x=pure x:=by intro _;rfl):PE X (.ListComp elt [#[tg,iter,ifs,0]] scope pos) (G4 wi own.length g tc te):=by
 intro pins s σ H Q I h;rw[eval_ListComp];exact Gi (use:=none) (QV:=EP X pins σ Q) S hi hg ht he hs I h λD C s2 H2 H3 s4 _ _ _ hn inv q=>hn.elim λm hn=>#[m,hn,λh' sb=>#[.ref D,H3,inv h' sb,rfl,q]]
theorem NX (i:Nat) {pos' DJ:Pos} (S:uS X N0 scope cl) (hi:PI X tg iter wi)
  (hg:∀C s H fp pins,PG (X.blkN N0 scope cl C own s H fp pins) tg g) (ht:∀C s H fp pins,PF (X.blkN N0 scope cl C own s H fp pins) ifs tc) (he:∀C s H fp pins,PE (X.blkN N0 scope cl C own s H fp pins) elt te)
  (hN:X.N.Nodup:=by exact mL (by kernel_rfl)) (PR:X.N[i]?=some x:=by rfl) (hx:N9 X.env.scope x:=by first|exact .inl rfl|exact .inr rfl) (hs:∀x,foldedSetIterable iter X.env x=pure x:=by intro _;rfl) (PU:swapsWith (.ListComp elt [#[tg,iter,ifs,0]] scope pos) (some (.Name x pos')) DJ.line X.env=pure true:=by rfl)
  (hf:X.fn x=true\/X.env.scope.names.lookup x=some .local:=by first|exact .inl rfl|exact .inr rfl|assumption) :
  PS X (.Assign [.Name x pos'] (.ListComp elt [#[tg,iter,ifs,0]] scope pos) DJ) (c8 (G4 wi own.length g tc te) (Gw i)):=by
 intro pins s σ H D I h;rw[exec_Assign_Name_used _ _ _ _ PU];refine Bf (wpAny_standAt (Bf ?_));show wpAny _ X.A (do let _ <-comprehension (.ListComp elt [#[tg,iter,ifs,0]] scope pos) scope X.env _ (newList []) false (eval iter X.env) (some (assign (.Name x pos') X.env))) _ _ s;refine Bf (wpAny_mono (Gi (pos:=pos) (use:=some (assign (.Name x pos') X.env)) (QV:=λ_ s'=>SP X pins D .next s') S hi hg ht he hs I h λDa C s2 H2 H3 s4 I2 hC CC hn inv q=>?_) (λ_ s' hq=>Bg (Bg hq)) λ_ _ e=>e);obtain⟨m,hn⟩:=hn;have I4:jn X pins σ H3 s4:=inv s4.heap (Heap.SameBut.refl _ _);have nC:s2.heap.get? C=none:=Heap.get?_none_of_le hC;refine wpAny_assign_Name (KF I4 hN PR hx (show jF (.ref Da) (.ref Da) from rfl) (λs5 I5 #[a,sb,ha]=>#[m,hn.sameBut sb ?_,λh' X0=>#[_,H3,I5.let_go I2 hC CC X0,q]]) hf);rintro rfl;rcases ha with z|z
 ·obtain⟨_,ET,_⟩:=I2.loc;obtain⟨_,_,_,hL,_⟩:=ET;rw[<-z,nC] at hL;cases hL
 ·obtain⟨_,_,hc,_⟩:=I2.cell x _ z;rw[nC] at hc;cases hc
end
section
variable {κ:Type} [DecidableEq κ]
def jM (kvs:List (κ×V)) (k:κ):Option V:=(kvs.find? λkv=>decide (kv.1=k)).map (·.2)
def j4 (kvs:List (κ×V)) (k:κ) (v:V):List (κ×V) :=
 if (kvs.any λkv=>decide (kv.1=k))=true then kvs.map (λkv=>if kv.1=k then (kv.1,v) else kv) else kvs++[(k,v)]
def uJ (kvs:List (κ×V)) (k:κ):List (κ×V):=kvs.filter λkv=>decide (kv.1≠k)
theorem uj {p:κ×V}{r:List (κ×V)}{k:κ} (e:p.1=k):jM (p::r) k=some p.2:=by simp [jM,Wq,e]
theorem ui {p:κ×V}{r:List (κ×V)}{k:κ} (e:¬p.1=k):jM (p::r) k=jM r k:=by simp [jM,Wq,e]
theorem uV (k:κ):∀kvs:List (κ×V),(kvs.any λkv=>decide (kv.1=k))=(jM kvs k).isSome
 | []=>rfl
 | p::r=>by
  rw[List.any_cons];by_cases e:p.1=k
  ·simp only[uj e,decide_eq_true e,Bool.true_or,Option.isSome_some]
  ·rw[ui e,decide_eq_false e,Bool.false_or];exact uV k r
theorem Nf (k j:κ) (y:V):∀kvs:List (κ×V),jM (kvs.map λkv=>if kv.1=k then (kv.1,y) else kv) j=(jM kvs j).map λx=>if j=k then y else x
 | []=>rfl
 | p::r=>by
  have ih:=Nf k j y r;rw[yH];by_cases h:p.1=k
  ·rw[if_pos h];by_cases e:p.1=j
   ·rw[uj (p:=(p.1,y)) e,uj e,Option.map_some,if_pos (e.symm.trans h)]
   ·rw[ui (p:=(p.1,y)) e,ui e,ih]
  ·rw[if_neg h];by_cases e:p.1=j
   ·rw[uj (p:=p) e,uj e,Option.map_some,if_neg (λz=>h (e.trans z))]
   ·rw[ui (p:=p) e,ui e,ih]
theorem KL (k j:κ) (y:V):∀kvs:List (κ×V),jM kvs k=none->jM (kvs++[(k,y)]) j=if j=k then some y else jM kvs j
 | [],_=>by
  by_cases e:k=j
  ·rw[if_pos e.symm];exact uj (p:=(k,y)) e
  ·rw[if_neg (λz=>e z.symm)];exact ui (p:=(k,y)) e
 | p::r,hn=>by
  rw[List.cons_append];have hk:¬p.1=k:=λz=>by rw[uj z] at hn;cases hn
  rw[ui hk] at hn;have ih:=KL k j y r hn;by_cases e:p.1=j
  ·rw[uj e,uj e,if_neg (λz=>hk (e.trans z))]
  ·rw[ui e,ui e,ih]
theorem VA (kvs:List (κ×V)) (k j:κ) (y:V):jM (j4 kvs k y) j=if j=k then some y else jM kvs j:=by
 unfold j4;by_cases a:(kvs.any λkv=>decide (kv.1=k))=true
 ·rw[if_pos a,Nf];rw[uV] at a;by_cases e:j=k
  ·obtain⟨x,hx⟩:=Option.isSome_iff_exists.mp a;rw[if_pos e,e,hx,Option.map_some,if_pos rfl]
  ·rw[if_neg e];cases jM kvs j with
   | none=>rfl
   | some x=>rw[Option.map_some,if_neg e]
 ·rw[if_neg a];refine KL k j y kvs ?_;rw[uV] at a;cases q:jM kvs k with
  | none=>rfl
  | some x=>rw[q] at a;exact (a rfl).elim
theorem u6 (kvs:List (κ×V)) (k:κ) (v:V):(j4 kvs k v).length<=kvs.length+1:=by
 unfold j4;split
 ·rw[yb];omega
 ·rw[ye,yU,List.length_nil];omega
theorem zF {kvs:List (κ×V)}{k:κ} (v:V) (h:jM kvs k=none):j4 kvs k v=kvs++[(k,v)]:=by
 unfold j4;rw[uV,h];exact if_neg (by decide)
theorem Um.isSome_eq {u:Option Value} (r:Um o u):o.isSome=u.isSome:=by
 cases o with
 | none=>cases u with
  | none=>rfl
  | some _=>exact (show False from r).elim
 | some _=>cases u with
  | none=>exact (show False from r).elim
  | some _=>rfl
theorem KV.val {kvs:List (κ×V)}{vs:List (κ×Value)} (r:KV kvs vs) (k:κ):Um (jM kvs k) (valueAt vs k):=by
 unfold KV at r
 induction r with
 | nil=>exact True.intro
 | @cons p q ps qs h t ih =>
  obtain⟨h1,h2⟩:=h;by_cases e:p.1=k
  ·have e':q.1=k:=h1.symm.trans e;have b:valueAt (q::qs) k=some q.2:=by simp [valueAt,Wq,e']
   rw[uj e,b];exact h2
  ·have e':¬q.1=k:=λz=>e (h1.trans z);have b:valueAt (q::qs) k=valueAt qs k:=by simp [valueAt,Wq,e']
   rw[ui e,b];exact ih
theorem KV.any {kvs:List (κ×V)}{vs:List (κ×Value)} (r:KV kvs vs) (k:κ):(kvs.any λkv=>decide (kv.1=k))=vs.any λkv=>decide (kv.1=k):=by
 unfold KV at r
 induction r with
 | nil=>rfl
 | cons h t ih=>rw[List.any_cons,List.any_cons,ih,h.1]
theorem KV.repl {kvs:List (κ×V)}{vs:List (κ×Value)} (r:KV kvs vs) (k:κ) (ry:jF y u) :
  KV (kvs.map λkv=>if kv.1=k then (kv.1,y) else kv) (vs.map λkv=>if kv.1=k then (kv.1,u) else kv):=by
 unfold KV at r ⊢
 induction r with
 | nil=>exact .nil
 | @cons p q ps qs h t ih =>
  rw[yH,yH];refine .cons ?_ ih;obtain⟨h1,h2⟩:=h;by_cases e:p.1=k
  ·rw[if_pos e,if_pos (h1.symm.trans e)];exact#[h1,ry]
  ·rw[if_neg e,if_neg (λz=>e (h1.trans z))];exact#[h1,h2]
theorem KV.put {kvs:List (κ×V)}{vs:List (κ×Value)} (r:KV kvs vs) (k:κ) (ry:jF y u):KV (j4 kvs k y) (stored vs k u):=by
 unfold j4 stored;rw[r.any k];by_cases e:(vs.any λkv=>decide (kv.1=k))=true
 ·rw[if_pos e,if_pos e];exact r.repl k ry
 ·rw[if_neg e,if_neg e];exact Paired.snoc r #[rfl,ry]
theorem KV.length {kvs:List (κ×V)}{vs:List (κ×Value)} (r:KV kvs vs):kvs.length=vs.length:=Paired.length r
end
theorem GC {k:Key} (r:jF (kV k) u):(jW P w).is k u=true:=by
 cases k with
 | inl i=>obtain⟨t,e⟩:=(show ∃t,u=Value.int i t from r);subst e;exact NO P w i t
 | inr x=>obtain⟨t,e⟩:=(show ∃t,u=Value.str x t from r);subst e;exact NP P w x t
theorem ss {a b:Key} (e:kV a=kV b):a=b:=by
 cases a with
 | inl i=>cases b with
  | inl j=>have e':V.int i=V.int j:=e;injection e' with e';rw[e']
  | inr y=>exact nomatch (show V.int i=V.str y from e)
 | inr x=>cases b with
  | inl j=>exact nomatch (show V.str x=V.int j from e)
  | inr y=>have e':V.str x=V.str y:=e;injection e' with e';rw[e']
theorem Kp:∀{ks:List Key} {us:AW},jA (ks.map kV) us->ItemsAre (jW P w) ks us
 | [],_,r=>by rw[Wh] at r;cases r;exact .nil
 | k::ks,_,r=>by
  rw[yH] at r;cases r with
  | cons h t=>exact .cons (GC h) (Kp t)
abbrev KT (H:Hp):List (List Key×V)->List (List Key×Addr×Value)->Prop:=Paired λp q=>p.1=q.1/\H q.2.1=some (.tup (p.1.map kV))/\jF p.2 q.2.2
theorem KT.val (r:KT H kvs xs) (k:List Key):Um (jM kvs k) ((atKey xs k).map (·.2)):=by
 induction r with
 | nil=>exact True.intro
 | @cons p q ps qs h t ih =>
  obtain⟨h1,_,h2⟩:=h;by_cases e:p.1=k
  ·have e':q.1=k:=h1.symm.trans e;have b:atKey (q::qs) k=some q.2:=by simp [atKey,Wq,e']
   rw[uj e,b];exact h2
  ·have e':¬q.1=k:=λz=>e (h1.trans z);have b:atKey (q::qs) k=atKey qs k:=by simp [atKey,Wq,e']
   rw[ui e,b];exact ih
theorem KT.repl (r:KT H kvs xs) (k:List Key) (ry:jF y u) :
  KT H (kvs.map λkv=>if kv.1=k then (kv.1,y) else kv) (xs.map (putAt k u)):=by
 induction r with
 | nil=>exact .nil
 | @cons p q ps qs h t ih =>
  rw[yH,yH];refine .cons ?_ ih;obtain⟨h1,h2,h3⟩:=h;unfold putAt;by_cases e:p.1=k
  ·rw[if_pos e,if_pos (h1.symm.trans e)];exact#[h1,h2,ry]
  ·rw[if_neg e,if_neg (λz=>e (h1.trans z))];exact#[h1,h2,h3]
theorem KT.put (r:KT H kvs xs) (k:List Key) (hb:H b=some (.tup (k.map kV))) (ry:jF y u) :
  KT H (j4 kvs k y) (storedH xs k b u):=by
 have e:(kvs.any λkv=>decide (kv.1=k))=(atKey xs k).isSome:=by
  rw[uV,(r.val k).isSome_eq,Option.isSome_map]
 unfold j4 storedH;rw[e];by_cases q:(atKey xs k).isSome=true
 ·rw[if_pos q,if_pos q];exact r.repl k ry
 ·rw[if_neg q,if_neg q];exact Paired.snoc r #[rfl,hb,ry]
theorem KT.keeps (r:KT H kvs xs) (ht:∀b ys,H b=some (.tup ys)->H' b=some (.tup ys)):KT H' kvs xs :=
 Paired.mapP r λ_ _ z=>#[z.1,ht _ _ z.2.1,z.2.2]
section
variable {P:Be}{w:World}{H:Hp}{h:Heap}{a:Addr}
theorem pf {u:HO} (ok:Ji P w H h) (e:Rd H a u):j8 P w H h a u:=e.ok ok
theorem Gj {kvs:List (Key×V)} (ok:Ji P w H h) (e:Rd H a (.dK kvs)):kvs.length<=sizeLine/\(a==sysModules)=false/\∃vs,KV kvs vs/\h.DictOf (jW P w) a vs :=
 show j8 P w H h a (.dK kvs) from pf ok e
theorem wN {kvs:List (Key×V)} (ok:Ji P w H h) (e:H a=some (.dK kvs)):kvs.length<=sizeLine/\(a==sysModules)=false/\∃vs,KV kvs vs/\h.DictOf (jW P w) a vs:=Gj ok (.inl e)
theorem ux {ks:List Key} (ok:Ji P w H h) (e:H a=some (.tup (ks.map kV))):(tupleKind (jW P w)).is h ks a:=by
 obtain⟨_,Bi,r,o,h1,h2,n,h3⟩:=(show j8 P w H h a (.tup (ks.map kV)) from ok a _ e);exact#[o,Bi.toArray,n,h1,h2,h3,by simpa using Kp r]
theorem Go (ok:Ji P w H h) (e:Rd H a (.dT kvs)):kvs.length<=sizeLine/\(a==sysModules)=false /\
  ∃xs,KT H kvs xs/\h.DictOfH (tupleKind (jW P w)) a xs:=by
 obtain⟨z,y,xs,r,o,es,ep,h1,h2,h3,h4,h5⟩:=(show j8 P w H h a (.dT kvs) from pf ok e);refine#[z,y,xs,r,o,es,ep,h1,h2,h3,h4,λx hx=>?_,h5];have all:∀{l:List (List Key×V)} {m:List (List Key×Addr×Value)},KT H l m->∀x∈m,(tupleKind (jW P w)).is h x.1 x.2.1:=by
  intro l m q
  induction q with
  | nil=>intro x hx;exact nomatch hx
  | @cons p q ps qs hq t ih =>
   intro x hx;rcases yM.mp hx with e|hx
   ·subst e;exact ux ok (by rw[<-hq.1];exact hq.2.1)
   ·exact ih x hx
 exact all r x hx
theorem Gn (ok:Ji P w H h) (e:H a=some (.dT kvs)):kvs.length<=sizeLine/\(a==sysModules)=false /\
  ∃xs,KT H kvs xs/\h.DictOfH (tupleKind (jW P w)) a xs:=Go ok (.inl e)
end
def JN (H:Hp) (a:Addr) (y:V) (r:Option V):Prop :=
 (∃kvs k,Rd H a (.dK kvs)/\y=kV k/\r=jM kvs k)\/∃kvs k b,Rd H a (.dT kvs)/\y=.ref b/\H b=some (.tup (k.map kV))/\r=jM kvs k
def vn (H:Hp) (a:Addr) (y v:V) (H':Hp):Prop :=
 (∃kvs k,H a=some (.dK kvs)/\y=kV k/\kvs.length<sizeLine/\H'=upd H a (.dK (j4 kvs k v))) \/
 ∃kvs k b,H a=some (.dT kvs)/\y=.ref b/\H b=some (.tup (k.map kV))/\kvs.length<sizeLine/\H'=upd H a (.dT (j4 kvs k v))
theorem JN.t (e:H a=some (.dT kvs)) (eb:H b=some (.tup (k.map kV))):JN H a (.ref b) (jM kvs k):=.inr #[kvs,k,b,.inl e,rfl,eb,rfl]
theorem vn.t {v:V} (e:H a=some (.dT kvs)) (eb:H b=some (.tup (k.map kV))) (hl:kvs.length<sizeLine) :
  vn H a (.ref b) v (upd H a (.dT (j4 kvs k v))):=.inr #[kvs,k,b,e,rfl,eb,hl,rfl]
section
variable {X:Cx}{pins:AU}{σ:St}{H:Hp}{s:Shared}{a:Addr}{y v:V}{u r:Value}{o:Option V}{A:Around}{E:AL}
theorem jn.big (I:jn X pins σ H s):sysModules<s.heap.objs.size:=by
 have h:mainGlobals<s.heap.objs.size:=(I.mod.glob.keeps I.bk).lt;exact Nat.lt_trans (by decide) h
theorem Kh (hu:A.units+1<cLine) (I:jn X pins σ H s) (g:JN H a y (some v)) (ry:jF y u) (h:∀w' s',jn X pins σ H s'->jF v w'->Q w' s') :
  wpAny (model X.prog X.w) A (getItem (.ref a) u) Q E s:=by
 rcases g with ⟨kvs,k,e,ey,l⟩|⟨kvs,k,b,e,ey,eb,l⟩
 ·subst ey;obtain⟨z,hd,vs,rel,dd⟩:=Gj I.hok e;obtain⟨w',hw,Cd⟩:=Um.some_of (v:=v) (o:=valueAt vs k) (by rw[l];exact rel.val k);exact wpAny_getItem_of (GC ry) dd.mapOf hw (h w' _ (I.tok _) Cd)
 ·subst ey;cases (show u=Value.ref b from ry);obtain⟨z,hd,xs,rel,dd⟩:=Go I.hok e;obtain⟨w',hw,Cd⟩:=Um.some_of (v:=v) (o:=(atKey xs k).map (·.2)) (by rw[l];exact rel.val k);obtain⟨p,hp,BV⟩:=yl.mp hw;refine wpAny_getItem_heap (tupleKind_room_in1 hu) (ux I.hok eb) dd hp ?_;rw[BV];exact h w' _ (I.tok _) Cd
theorem rU (hu:A.units+1<cLine) (I:jn X pins σ H s) (g:JN H a y o) (ry:jF y u) (h:∀s',jn X pins σ H s'->Q (.bool o.isSome) s') :
  wpAny (model X.prog X.w) A (compareOp .In u (.ref a)) Q E s:=by
 rcases g with ⟨kvs,k,e,ey,l⟩|⟨kvs,k,b,e,ey,eb,l⟩
 ·subst ey;obtain⟨z,hd,vs,rel,dd⟩:=Gj I.hok e;refine wpAny_in_of (GC ry) hd dd.mapOf ?_;rw[<-(rel.val k).isSome_eq,<-l];exact h _ (I.tok _)
 ·subst ey;cases (show u=Value.ref b from ry);obtain⟨z,hd,xs,rel,dd⟩:=Go I.hok e;refine wpAny_in_heap (tupleKind_room_in1 hu) (ux I.hok eb) hd dd ?_;have q:=(rel.val k).isSome_eq;rw[Option.isSome_map] at q;rw[<-q,<-l];exact h _ (I.tok _)
theorem ah (hu:A.units+1<cLine) (I:jn X pins σ H s) (g:JN H a y o) (ry:jF y u) (h:∀s',jn X pins σ H s'->Q (.bool (!o.isSome)) s') :
  wpAny (model X.prog X.w) A (compareOp .NotIn u (.ref a)) Q E s:=by
 rcases g with ⟨kvs,k,e,ey,l⟩|⟨kvs,k,b,e,ey,eb,l⟩
 ·subst ey;obtain⟨z,hd,vs,rel,dd⟩:=Gj I.hok e;refine wpAny_notIn_of (GC ry) hd dd.mapOf ?_;rw[<-(rel.val k).isSome_eq,<-l];exact h _ (I.tok _)
 ·subst ey;cases (show u=Value.ref b from ry);obtain⟨z,hd,xs,rel,dd⟩:=Go I.hok e;refine wpAny_notIn_heap (tupleKind_room_in1 hu) (ux I.hok eb) hd dd ?_;have q:=(rel.val k).isSome_eq;rw[Option.isSome_map] at q;rw[<-q,<-l];exact h _ (I.tok _)
theorem ZM {t':Nat}{ob:HO} (I:jn X pins σ H s) (mu:dA (H a)) (hs:Heap.SameBut a s.heap h') (he:∃q,h'.get? a=some q) (new:j8 X.prog X.w (upd H a ob) h' a ob) :
  jn X pins σ (upd H a ob) { s with heap:=h',toks:=t' } :=
 I.write (x:=a) (e:=a) mu (.inl rfl) (λb q hb z=>(hs.2 b hb).trans z) he new
theorem rV {kvs:List (Key×V)}{vs:List (Key×Value)} (z:kvs.length<=sizeLine) (hd:(a==sysModules)=false) (rel:KV kvs vs) (dd:h'.DictOf (jW P w) a vs) :
  j8 P w H' h' a (.dK kvs):=#[z,hd,vs,rel,dd]
theorem dI {Q:AM} (hu:A.units+1<cLine) (I:jn X pins σ H s) (g:vn H a y v H') (ry:jF y u) (rv:jF v r) (h:∀s',jn X pins σ H' s'->Q () s') :
  wpAny (model X.prog X.w) A (setItem (.ref a) u r) Q E s:=by
 rcases g with ⟨kvs,k,e,ey,l,eH⟩|⟨kvs,k,b,e,ey,eb,l,eH⟩
 ·subst ey eH;obtain⟨z,hd,vs,rel,dd⟩:=wN I.hok e;have hz:vs.length<=sizeLine:=by rw[<-rel.length];exact z
  have hl:(j4 kvs k v).length<=sizeLine:=by have:=u6 kvs k v;omega
  refine wpAny_setItem_pairs (hsz:=hz) (GC ry) dd λh' EX hs=>h _ ?_;have he:∃q,h'.get? a=some q:=let ⟨q,_,_,hq,_⟩:=EX;#[q,hq]
  exact ZM I (by rw[e];exact True.intro) hs he (rV hl hd (rel.put k rv) EX)
 ·subst ey eH;cases (show u=Value.ref b from ry);obtain⟨z,hd,xs,rel,dd⟩:=Gn I.hok e;have hz:xs.length<=sizeLine:=by rw[<-Paired.length rel];exact z
  have hl:(j4 kvs k v).length<=sizeLine:=by have:=u6 kvs k v;omega
  refine wpAny_setItem_heap (hsz:=hz) (tupleKind_room_in1 hu) (ux I.hok eb) dd λh' EX hs=>h _ ?_;obtain⟨q,es,ep,hq,h2,h3,h4,_,h5⟩:=EX;refine ZM I (by rw[e];exact True.intro) hs #[q,hq] #[hl,hd,_,(rel.put k eb rv).keeps λc ys ec=>?_,q,es,ep,hq,h2,h3,h4,h5];rw[jl (jq ec e)];exact ec
end
def iE (i:Expr):Prop:=∀ov iv,subscripted i false ov iv=operate [ov,iv] (getItem ov iv)
theorem ba {prog:Be}{A:Around}{E:AL}{env:Env}{value slice:Expr}{pos:Pos}{T id:String}
  (hl:typeLookup (.type T) "__getitem__"=pure (some (.builtin id))) (hs:iE slice)
  (h:wpAny (model prog w) A (eval value env) (λo s₁=>wpAny (model prog w) A (eval slice env) (λi s₂=>s₂.TypeIs o T/\wpAny (model prog w) A (getItem o i) Q E s₂) E s₁) E s) :
  wpAny (model prog w) A (eval (.Subscript value slice pos) env) Q E s:=by
 refine Subscript_ (wpAny_mono h (λo s₁ h₁=>wpAny_mono h₁ (λi s₂ h₂=>?_) λ_ _ x=>x) λ_ _ x=>x);obtain⟨hT,h₂⟩:=h₂;unfold subscriptTail;refine Bf ?_;rw[getitemInPython_of_ne hT.not_modules];refine Bf (wpAny_specialOf hT hl ?_);have fin:wpAny (model prog w) A (subscripted slice false o i) (λr s₃=>wpAny (model prog w) A (letTemporaryGo value o r>>=λ_=>pure r) Q E s₃) E s₂:=by
  rw[hs o i];exact wpAny_operating (wpAny_mono h₂ (λr s₃ h₃=>Bf (wpAny_letTemporaryGo (Bg h₃))) λ_ _ x=>x)
 first
  | exact Bg (Bf fin)
  | exact Bf (Bg (Bf fin))
  | exact Bf fin
theorem gc {X:Cx} (I:jn X pins σ H s) (g:JN H a y o):s.TypeIs (.ref a) "dict":=by
 rcases g with ⟨kvs,k,e,_,_⟩|⟨kvs,k,b,e,_,_,_⟩
 ·obtain⟨_,_,vs,_,dd⟩:=Gj I.hok e;exact dd.typeIs
 ·obtain⟨_,_,xs,_,dd⟩:=Go I.hok e;exact dd.typeIs
def xm (td ty:TE):TE:=λσ H Q=>td σ H λx H1=>ty σ H1 λy H2=>∃a v,x=.ref a/\JN H2 a y (some v)/\Q v H2
def Ah (ty td:TE):TE:=λσ H Q=>ty σ H λy H1=>td σ H1 λx H2=>∃a o,x=.ref a/\JN H2 a y o/\Q (.bl o.isSome) H2
def qX (ty td:TE):TE:=λσ H Q=>ty σ H λy H1=>td σ H1 λx H2=>∃a o,x=.ref a/\JN H2 a y o/\Q (.bl (!o.isSome)) H2
def xi (td ty tv:TE):TS:=λD σ H=>tv σ H λv H1=>td σ H1 λx H2=>ty σ H2 λy H3=>∃a H4,x=.ref a/\vn H3 a y v H4/\D.nx σ H4
section
variable {X:Cx}{o i e value:Expr}{pos pos' IQ:Pos}{td ty tv:TE}
theorem aP (ho:PE X o td) (hi:PE X i ty) (hu:X.A.units+1<cLine:=by exact vA hr) (hs:iE i:=by exact λ_ _=>rfl):PE X (.Subscript o i pos) (xm td ty):=by
 intro pins s σ H Q I h;refine ba PySem.F.slot_dict_getitem.lookup hs (jC (ho pins s σ H _ I h) λu s1 #[x,H1,I1,rx,q1]=>jC (hi pins s1 σ H1 _ I1 q1) λiv s2 hh=>?_);obtain⟨y,H2,I2,ry,a,v,ex,g,q2⟩:=hh;subst ex;obtain rfl:u=Value.ref a:=rx;exact#[gc I2 g,Kh hu I2 g ry λw' s3 I3 Cd=>#[v,H2,I3,Cd,q2]]
theorem Vv (hi:PE X i ty) (ho:PE X o td) (hu:X.A.units+1<cLine:=by exact vA hr):PC X .In i o (Ah ty td):=by
 intro pins s σ H Q I h;refine jC (hi pins s σ H _ I h) λiv s1 #[y,H1,I1,ry,q1]=>jC (ho pins s1 σ H1 _ I1 q1) λu s2 hh=>?_;obtain⟨x,H2,I2,rx,a,ov,ex,g,q2⟩:=hh;subst ex;obtain rfl:u=Value.ref a:=rx;exact rU hu I2 g ry λs3 I3=>#[.bl ov.isSome,H2,I3,rfl,q2]
theorem Uu (hi:PE X i ty) (ho:PE X o td) (hu:X.A.units+1<cLine:=by exact vA hr):PC X .NotIn i o (qX ty td):=by
 intro pins s σ H Q I h;refine jC (hi pins s σ H _ I h) λiv s1 #[y,H1,I1,ry,q1]=>jC (ho pins s1 σ H1 _ I1 q1) λu s2 hh=>?_;obtain⟨x,H2,I2,rx,a,ov,ex,g,q2⟩:=hh;subst ex;obtain rfl:u=Value.ref a:=rx;exact ah hu I2 g ry λs3 I3=>#[.bl (!ov.isSome),H2,I3,rfl,q2]
theorem UA (ho:PE X o td) (hi:PE X i ty) (hv:PE X value tv) (hu:X.A.units+1<cLine:=by exact vA hr) (hs:swapsWith value (some (.Subscript o i pos')) pos.line X.env=pure false:=by rfl) :
  PS X (.Assign [.Subscript o i pos'] value pos) (xi td ty tv):=by
 intro pins s σ H D I h;refine wpAny_Assign_Subscript (jC (hv pins s σ H _ I h) λr s1 #[v,H1,I1,rv,q1]=>jC (ho pins s1 σ H1 _ I1 q1) λu s2 #[x,H2,I2,rx,q2]=>jC (hi pins s2 σ H2 _ I2 q2) λiv s3 hh=>?_) hs;obtain⟨y,H3,I3,ry,a,H4,ex,g,q3⟩:=hh;subst ex;obtain rfl:u=Value.ref a:=rx;exact dI hu I3 g ry rv λs4 I4=>#[σ,H4,I4,q3]
end
theorem gM (h:Heap) (hb:sysModules<h.objs.size):j8 P w H (h.push { cls:=.type "dict",data:=.dict (List.toArray []) }) h.objs.size (.dT []) :=
 #[yV _,beq_eq_false_iff_ne.mpr (yP (yE hb)),[],.nil,_,(List.toArray []),0,yz _ rfl,#[rfl,rfl,rfl],rfl,rfl,Wf]
def wn:TE:=λ_ H Q=>∀p,H p=none->Q (.ref p) (upd H p (.dT []))
section
variable {X:Cx}{pos:Pos}
theorem UY:PE X (.Dict [] [] pos) wn:=λpins s σ H Q I h =>
 wpAny_Dict_empty #[.ref s.heap.objs.size,_,I.laid (a:=s.heap.objs.size) (o:=.dT []) (t':=s.toks) (λ_ _ q=>yd _ q) (yg _) (gM s.heap I.big),rfl,h _ (I.hok.fresh (yg _))]
end
structure gB (K:AQ) (x qual:Str) (st:Stmt) (f:Addr) (fd:FuncData):Prop where
 ex:∃(oc:Value) (od:Bc) (dV kV doc pm:Value) (an:Bc) (Bk ct:Value) (FO:A0),
  fd=fnOf x qual (Ux st) (uN st) (Jb st) dV kV doc pm an Bk ct/\K.lookup f=some #[oc,od,.func fd,FO]/\codeIn K Bk qual=true
 kp:keepIn K (.ref f)=true
section
variable {P:Be}{w:World}{K:AQ}{mg:AT}{base:Heap}
theorem gB.okX {N:A1}{k:Nat}{sp:Sp}{c:Bool} (F:gB K x qual st f fd) (S:Uw N ps (Jb st)) (len:∀vs H Q E,sp vs H Q E->vs.length=ps.length)
  (DB:∀(Bk:Value) (A:Around) (outer:List Env) (s:Shared) (H:Hp) (vs:List V) (Q:VK) (E:XK),Jj c k (A.deeper (envOfC qual (Jb st) s.heap.objs.size f Bk))->sp vs H Q E ->
   ∃t,z6 (Mp P w K mg base N qual (Jb st) f Bk A outer s H E c) (uN st) t/\t { nx:=λ_ H'=>Q .non H',rt:=Q } (start N vs) H):UG P w K mg base (XC P w) (k+1) f fd ps sp c:=by
 obtain⟨oc,od,dV,kV,doc,pm,an,Bk,ct,FO,rfl,lk,BD⟩:=F.ex;exact wO lk BD S len λA outer s H vs Q E hr CZ=>DB Bk A outer s H vs Q E hr CZ
theorem rR {D:Addr}{od:Obj}{items:A2}{n:Nat} (hf:fd.defaults=.ref D) (dl:K.lookup D=some od) (hd:od.data=.seq items n)
  (h:∀us:List Value,us.length=ps.length->∃k:Option (Array Value)->Sem (List (Str×Value)),bindArgs fd ⟨us,[]⟩=seqItems? fd.defaults>>=k/\k (some items)=pure (ps.zip us)):Uf K fd ps []:=by
 intro s us KX hl;rw[yB] at hl ⊢;obtain⟨k,h1,h2⟩:=h us hl;exact BindsTo.of_defaults hf (KX D od dl) hd h1 h2
theorem ZO {oc:Value}{od an:Bc}{FO:A0}{dV kV doc pm Bk ct:Value} (l:K.lookup f=some #[oc,od,.func (fnOf x qual (Ux st) (uN st) (Jb st) dV kV doc pm an Bk ct),FO])
  (c:codeIn K Bk qual=true) (k:keepIn K (.ref f)=true):gB K x qual st f (fnOf x qual (Ux st) (uN st) (Jb st) dV kV doc pm an Bk ct):=#[#[oc,od,dV,kV,doc,pm,an,Bk,ct,FO,rfl,l,c],k]
end
end L2
set_option maxHeartbeats 4000000
namespace TS
open PySem PyProof.Rows L2
local macro_rules|`(tactic|omega)=>`(tactic|first|lia|omega +splitNatSub)
variable {a b xs out ys:AV}{c:L2.Key}{x y:Nat×Nat×Nat}{u:Tok}{Q:AN}{d:List Bool}{cs:List L2.Key}{ps:Array (Nat×Nat×Nat)}{n g h0 i j mg ca cb lo pw:Nat}{kc:Value->List L2.Key}{h h':Heap}{lf:Bool}{ky:Keyed}{B:Nat->Bool}{l1:List (Nat×Nat×Nat)}
def Zn:L2.Key->L2.Key->Bool
 | .inl a,.inl b=>decide (a<b)
 | .inr a,.inr b=>decide (a.cps.toList<b.cps.toList)
 | .inl _,.inr _=>true
 | .inr _,.inl _=>false
def lx:List L2.Key->List L2.Key->Bool
 | [],[]=>false
 | [],_::_=>true
 | _::_,[]=>false
 | a::r,b::q=>if a=b then lx r q else Zn a b
theorem kz (a:L2.Key):Zn a a=false:=by
 cases a with
 | inl n=>exact decide_eq_false (Int.lt_irrefl n)
 | inr x=>exact decide_eq_false (List.lt_irrefl _)
theorem Zo {a b:L2.Key} (h1:Zn a b=true) (h2:Zn b c=true):Zn a c=true:=by
 cases a with
 | inl n=>cases b with
  | inl m=>cases c with
   | inl k=>exact decide_eq_true (Int.lt_trans (of_decide_eq_true h1) (of_decide_eq_true h2))
   | inr k=>rfl
  | inr m=>cases c with
   | inl k=>cases h2
   | inr k=>rfl
 | inr n=>cases b with
  | inl m=>cases h1
  | inr m=>cases c with
   | inl k=>cases h2
   | inr k=>exact decide_eq_true (List.lt_trans (of_decide_eq_true h1) (of_decide_eq_true h2))
theorem c7 {x y:Str} (h:x.cps.toList=y.cps.toList):x=y:=Str.ext' (Array.toList_inj.mp h)
theorem kA {a b:L2.Key} (h1:Zn a b=false) (h2:Zn b a=false):a=b:=by
 cases a with
 | inl n=>cases b with
  | inl m =>
   have:=of_decide_eq_false h1;have:=of_decide_eq_false h2;congr 1;omega
  | inr m=>cases h1
 | inr n=>cases b with
  | inl m=>cases h2
  | inr m=>exact congrArg Sum.inr (c7 (List.le_antisymm (List.not_lt.mp (of_decide_eq_false h2)) (List.not_lt.mp (of_decide_eq_false h1))))
theorem sr {a b:L2.Key} (h:Zn a b=true):a≠b:=λe=>by rw[e,kz] at h;cases h
theorem GJ:∀a:List L2.Key,lx a a=false
 | []=>rfl
 | a::r=>by unfold lx;rw[if_pos rfl];exact GJ r
theorem GL:∀{a b:List L2.Key},lx a b=false->lx b a=false->a=b
 | [],[],_,_=>rfl
 | [],_::_,h,_=>by cases h
 | _::_,[],_,h=>by cases h
 | a::r,b::q,h1,h2=>by
  unfold lx at h1 h2;by_cases e:a=b
  ·rw[if_pos e] at h1;rw[if_pos e.symm] at h2;rw[e,GL h1 h2]
  ·rw[if_neg e] at h1;rw[if_neg (λz=>e z.symm)] at h2;exact absurd (kA h1 h2) e
theorem zr:∀{a b c:List L2.Key},lx a b=true->lx b c=true->lx a c=true
 | [],[],_,h,_=>by cases h
 | [],_::_,[],_,h=>by cases h
 | [],_::_,_::_,_,_=>rfl
 | _::_,[],_,h,_=>by cases h
 | _::_,_::_,[],_,h=>by cases h
 | a::r,b::q,c::p,h1,h2=>by
  unfold lx at h1 h2 ⊢;by_cases e1:a=b
  ·subst e1;rw[if_pos rfl] at h1;by_cases e2:a=c
   ·rw[if_pos e2] at h2 ⊢;exact zr h1 h2
   ·rw[if_neg e2] at h2 ⊢;exact h2
  ·rw[if_neg e1] at h1;by_cases e2:b=c
   ·subst e2;rw[if_neg e1];exact h1
   ·rw[if_neg e2] at h2;have h3:=Zo h1 h2;rw[if_neg (sr h3)];exact h3
theorem fi {a b c:List L2.Key} (h:lx a c=true):lx a b=true\/lx b c=true:=by
 cases h1:lx a b
 ·right
  cases h2:lx b a
  ·rw[<-GL h1 h2];exact h
  ·exact zr h2 h
 ·exact .inl rfl
def kind (kc:Value->List L2.Key):KeyKind where
 α:=List L2.Key
 blt:=lx
 irrefl:=GJ
 trans:=λ_ _ _=>zr
 negTrans:=λ_ _ _=>fi
 total:=λ_ _=>GL
 keyOf:=λv=>some (kc v)
 dflt:=[]
def uK:L2.Key->Value->Prop
 | .inl n,v=>∃t,v=.int n t
 | .inr x,v=>∃t,v=.str x t
inductive U9:List L2.Key->List Value->Prop
 | nil:U9 [] []
 | cons {k v ks vs}:uK k v->U9 ks vs->U9 (k::ks) (v::vs)
def sd (ks:List L2.Key):List Bool:=ks.map Sum.isLeft
theorem MS (f:Bool) (x y:Value):keyLt' (tuples' f) x y=(do
  let p <-Builtin.List.listItems x
  let q <-Builtin.List.listItems y
  for ((u,v),i) in (p.toList.zip q.toList).zipIdx do
   if !(<-eqBool u v) then return <-oneLt' (f&&i==0) u v
  return p.size<q.size):=rfl
section
variable {prog:Be}{w:World}{A:Around}{E:AL}{s:Shared}
theorem qk (f:Bool) {a b:Int} {t:Tok} (h:Q (decide (a<b)) s):wpAny (model prog w) A (oneLt' f (.int a t) (.int b u)) Q E s:=by
 cases f with
 | true=>exact oneLt_int h
 | false =>
  rw[oneLt'_eq];rw[if_neg yo];exact Bf (richCompare_gives (op:=.Lt) (typeIs_int s a t) (typeIs_int s b u) F.slot_int_lt F.entry_int_lt (F.args_int_lt_2 _ _) (gives_int_lt a b t u) (λz=>nomatch z) (wpAny_truthy_bool h))
theorem ql (f:Bool) {a b:Str} {t:Tok} (h:Q (decide (a.cps.toList<b.cps.toList)) s):wpAny (model prog w) A (oneLt' f (.str a t) (.str b u)) Q E s:=by
 cases f with
 | true=>exact oneLt_str h
 | false =>
  rw[oneLt'_eq];rw[if_neg yo];exact Bf (richCompare_gives (op:=.Lt) (typeIs_str s a t) (typeIs_str s b u) F.slot_str_lt F.entry_str_lt (F.args_str_lt_2 _ _) (gives_str_lt a b t u) (λz=>nomatch z) (wpAny_truthy_bool h))
theorem rW {d:L2.Key}{u v:Value} (hs:c.isLeft=d.isLeft) (hc:uK c u) (hd:uK d v) (h:Q (decide (c=d)) s):wpAny (model prog w) A (eqBool u v) Q E s:=by
 cases c with
 | inl n=>cases d with
  | inl m =>
   obtain⟨t,rfl⟩:=hc;obtain⟨t',rfl⟩:=hd;refine wpAny_eqBool_int ?_;rw[show (n==m)=decide ((Sum.inl n:L2.Key)=Sum.inl m) by rw[yR,beq_iff_eq,decide_eq_true_iff];exact#[λe=>e▸rfl,λe=>Sum.inl.inj e]];exact h
  | inr m=>cases hs
 | inr n=>cases d with
  | inl m=>cases hs
  | inr m =>
   obtain⟨t,rfl⟩:=hc;obtain⟨t',rfl⟩:=hd;refine wpAny_eqBool_str ?_;rw[show decide (n=m)=decide ((Sum.inr n:L2.Key)=Sum.inr m) by rw[yR,decide_eq_true_iff,decide_eq_true_iff];exact#[λe=>e▸rfl,λe=>Sum.inr.inj e]];exact h
theorem aN (f:Bool) {d:L2.Key} {u v:Value} (hs:c.isLeft=d.isLeft) (hc:uK c u) (hd:uK d v) (h:Q (Zn c d) s):wpAny (model prog w) A (oneLt' f u v) Q E s:=by
 cases c with
 | inl n=>cases d with
  | inl m =>
   obtain⟨t,rfl⟩:=hc;obtain⟨t',rfl⟩:=hd;exact qk f h
  | inr m=>cases hs
 | inr n=>cases d with
  | inl m=>cases hs
  | inr m =>
   obtain⟨t,rfl⟩:=hc;obtain⟨t',rfl⟩:=hd;exact ql f h
theorem MU (f:Bool):∀{cs ds:List L2.Key} {ps qs:AW} (k:Nat),sd cs=sd ds->U9 cs ps->U9 ds qs->∀{R:Option Bool×Unit->Shared->Prop},(cs≠ds->R (some (lx cs ds),()) s)->(cs=ds->R (none,()) s) ->
  wpAny (model prog w) A (forIn ((ps.zip qs).zipIdx k) ((none,()):Option Bool×Unit) λx _ =>
   match x with
   | ((u,v),i)=>do
    let r <-eqBool u v
    if (!r)=true then do
      let r <-oneLt' (f&&i==0) u v
      pure (ForInStep.done (some r,()))
     else pure (ForInStep.yield (none,()))) R E s
 | [],[],_,_,k,_,.nil,.nil,R,_,h=>by
  show wpAny _ _ (forIn [] _ _) _ _ _;rw[List.forIn_nil];exact Bg (h rfl)
 | [],_::_,_,_,_,hs,_,_,_,_,_=>by cases hs
 | _::_,[],_,_,_,hs,_,_,_,_,_=>by cases hs
 | c::cs,d::ds,_,_,k,hs,.cons hc hcs,.cons hd hds,R,h1,h2=>by
  obtain⟨e1,e2⟩:=List.cons.inj hs;rw[List.zip_cons_cons,List.zipIdx_cons,List.forIn_cons];refine Bf (Bf (rW e1 hc hd ?_));by_cases e:c=d
  ·rw[decide_eq_true e];refine Bg (MU f (k+1) e2 hcs hds (λn=>?_) λz=>h2 (by rw[e,z]));have:=h1 (λz=>n (List.cons.inj z).2);unfold lx at this;rw[if_pos e] at this;exact this
  ·rw[decide_eq_false e];refine Bf (aN _ e1 hc hd (Bg (Bg ?_)));have:=h1 (λz=>e (List.cons.inj z).1);unfold lx at this;rw[if_neg e] at this;exact this
theorem U9.len {ps:AW} (h:U9 cs ps):ps.length=cs.length:=by
 induction h with
 | nil=>rfl
 | cons _ _ ih=>rw[yU,yU,ih]
theorem sH (f:Bool) {a b:Addr} {o o':Obj} {ps qs:AW} {m:Nat} {ds:List L2.Key} (ha:s.heap.get? a=some o) (hd:o.data=.seq ps.toArray n) (hb:s.heap.get? b=some o') (D7:o'.data=.seq qs.toArray m)
  (hs:sd cs=sd ds) (hc:U9 cs ps) (hq:U9 ds qs) {Q:AN} (h:Q (lx cs ds) s):wpAny (model prog w) A (keyLt' (tuples' f) (.ref a) (.ref b)) Q E s:=by
 rw[MS];refine Bf (listItems_at ha hd ?_);refine Bf (listItems_at hb D7 ?_);refine Bf (MU f 0 hs hc hq (λ_=>Bg h) λe=>Bg ?_);have l1:=hc.len;have l2:=hq.len;rw[e] at l1 h;rw[GJ] at h;rw[show decide (ps.toArray.size<qs.toArray.size)=false by rw[yk,yk];exact decide_eq_false (by omega)];exact h
variable {f:Bool}{z:AV}{o:KeyKind}
def kv (o:KeyKind) (p:Keyed):o.α:=(o.keyOf p.1).getD o.dflt
def UD (prog:Be) (w:World) (A:Around) (s:Shared) (f:Bool) (o:KeyKind) (z:AV):Prop:=∀(E:AL) (p q:Keyed) (Q:AN),p∈z.toList->q∈z.toList->Q (o.blt (kv o p) (kv o q)) s->wpAny (model prog w) A (keyLt' (tuples' f) p.1 q.1) Q E s
end
section
variable {prog:Be}{w:World}{A:Around}{E:AL}{s:Shared}
theorem VZ {α β:Type}{g:α->Sem β}{r:α->β}{M:Model}:∀{l:List α} {R:List β->Shared->Prop},(∀x∈l,∀R:β->Shared->Prop,R (r x) s->wpAny M A (g x) R E s)->R (l.map r) s->wpAny M A (l.mapM g) R E s
 | [],R,_,h=>by rw[List.mapM_nil];exact Bg h
 | a::l,R,f,h=>by
  rw[List.mapM_cons];exact Bf (f a (yD ..) _ (Bf (VZ (λx hx=>f x (yA _ hx)) (Bg h))))
def TupAt (h:Heap) (v:Value) (ks:List L2.Key):Prop:=∃a ob vs n,v=.ref a/\h.get? a=some ob/\ob.cls=.type "tuple"/\ob.data=.seq vs.toArray n/\U9 ks vs
theorem MI (v:Value):firstOfTuple' v=(do
  if (<-typeOf v) != .type "tuple" then return none
  return (<-Builtin.List.listItems v)[0]?):=rfl
theorem bm {k:L2.Key}{v:Value} (h:uK k v) {R:AL} (q:R (.type (if k.isLeft then "int" else "str")) s):wpAny (model prog w) A (typeOf v) R E s:=by
 cases k with
 | inl n=>obtain⟨t,rfl⟩:=h;exact wpAny_typeOf (typeIs_int s n t) q
 | inr x=>obtain⟨t,rfl⟩:=h;exact wpAny_typeOf (typeIs_str s x t) q
theorem i9 {vs:AW} (h2:2<=vs.length) (ht:∀v∈vs,TupAt s.heap v (kc v)) (hs:∀v∈vs,sd (kc v)=d) (hd:d≠[]) {R:SortKind->Shared->Prop} (q:R (tuples' true) s):wpAny (model prog w) A (keyKind' vs.toArray) R E s:=by
 have fx:∃fv:Value->Value,∀v∈vs,∃k r,kc v=k::r/\k.isLeft=d.headD true/\uK k (fv v)/\∀R:Option Value->Shared->Prop,R (some (fv v)) s->wpAny (model prog w) A (firstOfTuple' v) R E s:=by
  have one:∀v∈vs,∃x:Value,∃k r,kc v=k::r/\k.isLeft=d.headD true/\uK k x/\∀R:Option Value->Shared->Prop,R (some x) s->wpAny (model prog w) A (firstOfTuple' v) R E s:=λv hv=>by
   obtain⟨a,ob,us,n,rfl,ho,hc,Ea,hk⟩:=ht v hv;have e:=hs _ hv;cases Ti:kc (.ref a) with
   | nil=>rw[Ti] at e;exact absurd e.symm hd
   | cons k r =>
    rw[Ti] at hk e;cases hk with
    | @cons _ x _ xs hx HR =>
     refine#[x,k,r,rfl,by rw[<-e];rfl,hx,λR hR=>?_];rw[MI];refine Bf (wpAny_typeOf (T:="tuple") #[ob,ho,hc] ?_);rw[if_neg (by decide)];exact Bf (listItems_at ho Ea (Bg hR))
  refine#[λv=>if hv:v∈vs then (one v hv).choose else .none,λv hv=>?_];simp only[dif_pos hv];exact (one v hv).choose_spec
 obtain⟨fv,I8⟩:=fx;rw[keyKind'_eq,List.mapM_toArray,<-bind_pure_comp];refine Bf (Bf (VZ (r:=λv=>some (fv v)) (λv hv R hR=>by obtain⟨_,_,_,_,_,f⟩:=I8 v hv;exact f R hR) (Bg ?_)));rw[if_pos (by simp)];refine Bf (wpAny_rule (Bf ?_));rw[show (vs.map λv=>some (fv v)).toArray.filterMap id=(vs.map fv).toArray by simp [List.filterMap_map,Function.comp_def]];rw[oneTypeOnly'_eq,List.mapM_toArray,<-bind_pure_comp];refine Bf (Bf (VZ (r:=λ_=>Value.type (if d.headD true then "int" else "str")) (λx hx R hR=>?_) (Bg ?_)))
 ·obtain⟨v,hv,rfl⟩:=yf.mp hx;obtain⟨k,r,_,e,hk,_⟩:=I8 v hv;rw[<-e] at hR;exact bm hk hR
 ·match vs,h2 with
  | a::b::r,_ =>
   have e0:((List.map fv (a::b::r)).map λ_=>Value.type (if d.headD true then "int" else "str")).toArray[0]?=some (Value.type (if d.headD true then "int" else "str")):=by simp
   rw[e0];have ea:(((List.map fv (a::b::r)).map λ_=>Value.type (if d.headD true then "int" else "str")).toArray.all λx=>x==Value.type (if d.headD true then "int" else "str"))=true:=by
    simp only[List.all_toArray,List.all_map,Qx];intro _ _;cases d.headD true<;>rfl
   show wpAny _ _ (pure (if (((List.map fv (a::b::r)).map λ_=>Value.type (if d.headD true then "int" else "str")).toArray.all λx=>x==Value.type (if d.headD true then "int" else "str"))=true then some (Value.type (if d.headD true then "int" else "str")) else none)) _ _ _;rw[if_pos ea];refine Bg (Bg ?_);have en:((some (Value.type (if d.headD true then "int" else "str"))).any λx=>x != Value.type "tuple")=true:=by cases d.headD true<;>rfl
   rw[en];exact q
theorem TupAt.upd {v:Value}{ks:List L2.Key} (t:TupAt h v ks) {a:Addr} {g:Array Value->Array Value} {ob:Obj} (ho:h.get? a=some ob) (hc:ob.cls=.type "list"):TupAt (h.update a (Obj.mapSeq g)) v ks:=by
 obtain⟨b,o2,us,n,rfl,e,c,dt,k⟩:=t;have ne:a≠b:=λz=>by
  rw[z,e] at ho;cases ho;rw[c] at hc;exact absurd hc (by decide)
 exact#[b,o2,us,n,rfl,(yN _ _ ne).trans e,c,dt,k]
theorem TupAt.push {v:Value}{ks:List L2.Key} (t:TupAt h v ks) (ob:Obj):TupAt (h.push ob) v ks:=by
 obtain⟨b,o2,us,n,rfl,e,c,dt,k⟩:=t;exact#[b,o2,us,n,rfl,yd _ e,c,dt,k]
theorem VF {vs:AW}{p:Keyed} (h:p∈(pairsOf vs).toList):p.1=p.2/\p.1∈vs:=mem_zip_self (pairsOf_toList vs▸h)
theorem tD {vs:AW} (ht:∀v∈vs,TupAt s.heap v (kc v)) (hs:∀v∈vs,sd (kc v)=d) (f:Bool):UD prog w A s f (kind kc) (pairsOf vs):=λE p q Q hp hq h=>by
 have m1:=(VF hp).2;have m2:=(VF hq).2;have h1:Q (lx (kc p.1) (kc q.1)) s:=h;obtain⟨a,o1,us,n,e1,ho,_,hd,hk⟩:=ht _ m1;obtain⟨b,o2,ws,m,e2,CH,_,hd2,I9⟩:=ht _ m2;rw[e1,e2] at h1;rw[e1] at hk;rw[e2] at I9;have s1:=(hs _ m1).trans (hs _ m2).symm;rw[e1,e2] at s1;rw[e1,e2];exact sH f ho hd CH hd2 s1 hk I9 h1
end
def VD:Bool->Keyed->Array Keyed->Nat->Nat->Nat->StateT SortSt Sem (Option Nat):=sortPriv% PySem.Builtin.gallop
def Mi (lf:Bool) (ky:Keyed) (xs:AV) (bs i:Nat):StateT SortSt Sem (Option Bool):=do
 let x <-elem' xs (bs+i)
 if lf then lt' x ky else return (<-lt' ky x).map (!·)
theorem sg (lf:Bool) (ky:Keyed) (xs:AV) (bs n Bq:Nat):VD lf ky xs bs n Bq=(do
  let mut la:=0
  let mut of:=1
  let mut l:=0
  let mut h:=0
  let some r <-Mi lf ky xs bs Bq|return none
  if r then
   let mx:=n - Bq
   for _ in [0:n] do
    if of>=mx then break
    let some m <-Mi lf ky xs bs (Bq+of)|return none
    if !m then break
    la:=of
    of:=2*of+1
   l:=Bq+la+1
   h:=Bq+min of mx
  else
   let mx:=Bq+1
   for _ in [0:n] do
    if of>=mx then break
    let some m <-Mi lf ky xs bs (Bq - of)|return none
    if m then break
    la:=of
    of:=2*of+1
   l:=Bq+1 - min of mx
   h:=Bq - la
  for _ in [0:n] do
   if l>=h then break
   let m:=l+(h - l) / 2
   let some v <-Mi lf ky xs bs m|return none
   if v then l:=m+1 else h:=m
  return some h):=rfl
section
variable {prog:Be}{w:World}{A:Around}{E:AL}{s:Shared}{f:Bool}{z:AV}{o:KeyKind}
def sf (lf:Bool) (ky:Keyed) (xs:AV) (bs n l0 h0:Nat):StateT SortSt Sem (Option Nat):=do
 let mut l:=l0
 let mut h:=h0
 for _ in [0:n] do
  if l>=h then break
  let m:=l+(h - l) / 2
  let some v <-Mi lf ky xs bs m|return none
  if v then l:=m+1 else h:=m
 return some h
theorem Ko {st:SortSt}{bs l0:Nat}{Q:Option Nat->SortSt->Prop} (hb:∀i,i<n->∀R:Option Bool->SortSt->Prop,R (some (B i)) st->wpS (model prog w) A E s (Mi lf ky xs bs i) R st)
  (Ct:∀i j,i<=j->j<n->B j=true->B i=true) (BW:∀i j,i<=j->j<n->B i=false->B j=false) (lh:l0<=h0) (hn:h0<=n) (bl:∀i,i<l0->B i=true) (bh:∀i,h0<=i->i<n->B i=false)
  (q:∀k,k<=n->(∀i,i<k->B i=true)->(∀i,k<=i->i<n->B i=false)->Q (some k) st):wpS (model prog w) A E s (sf lf ky xs bs n l0 h0) Q st:=by
 refine wpS_bind (wpS_mono (wpS_forRange (I:=λi c y=>y=st/\∃l h,c=(none,l,h)/\l<=h/\h<=n/\h - l<=n - i/\(∀g,g<l->B g=true)/\∀g,h<=g->g<n->B g=false) (Q:=λc y=>y=st/\∃h,c=(none,h,h)/\h<=n/\(∀g,g<h->B g=true)/\∀g,h<=g->g<n->B g=false) (λi c y i1 i2 hy=>?_) (λc y hy=>?_) #[rfl,l0,h0,rfl,lh,hn,by omega,bl,bh]) λc y hy=>?_)
 ·obtain⟨rfl,l,h,rfl,h1,h2,h3,h4,h5⟩:=hy;show wpS _ _ _ _ (if l>=h then _ else _) _ _;rcases yC l h with Tj|Tj
  ·rw[if_neg (by omega)];have hm:l+(h - l) / 2<n:=by omega
   refine wpS_bind (hb _ hm _ ?_);show wpS _ _ _ _ (if B (l+(h - l) / 2)=true then _ else _) _ _;cases hv:B (l+(h - l) / 2) with
   | true=>rw[if_pos rfl];exact wpS_pure #[rfl,l+(h - l) / 2+1,h,rfl,by omega,h2,by omega,λg hg=>Ct g (l+(h - l) / 2) (by omega) hm hv,h5]
   | false=>rw[if_neg yo];exact wpS_pure #[rfl,l,l+(h - l) / 2,rfl,by omega,by omega,by omega,h4,λg g1 g2=>BW _ g g1 g2 hv]
  ·rw[if_pos Tj];obtain rfl:l=h:=by omega
   exact wpS_pure #[rfl,l,rfl,h2,h4,h5]
 ·obtain⟨rfl,l,h,rfl,h1,h2,h3,h4,h5⟩:=hy;obtain rfl:l=h:=by omega
  exact#[rfl,l,rfl,h2,h4,h5]
 ·obtain⟨rfl,h,rfl,h2,h4,h5⟩:=hy;exact wpS_pure (q h h2 h4 h5)
theorem dY {st:SortSt}{bs Bq:Nat}{Q:Option Nat->SortSt->Prop} (hb:∀i,i<n->∀R:Option Bool->SortSt->Prop,R (some (B i)) st->wpS (model prog w) A E s (Mi lf ky xs bs i) R st)
  (Ct:∀i j,i<=j->j<n->B j=true->B i=true) (hh:Bq<n) (q:∀k,k<=n->(∀i,i<k->B i=true)->(∀i,k<=i->i<n->B i=false)->Q (some k) st):wpS (model prog w) A E s (VD lf ky xs bs n Bq) Q st:=by
 have BW:∀i j,i<=j->j<n->B i=false->B j=false:=λi j By hj hi=>by
  cases Em:B j with
  | false=>rfl
  | true=>rw[Ct i j By hj Em] at hi;cases hi
 rw[sg];refine wpS_bind (hb Bq hh _ ?_);cases hr:B Bq with
 | true =>
  refine wpS_bind (wpS_mono (wpS_forRange (I:=λi c y=>y=st/\∃la k,c=(none,la,k)/\la<k/\i+1<=k/\(Bq+la<n->B (Bq+la)=true)/\Bq+la<n) (Q:=λc y=>y=st/\∃la k,c=(none,la,k)/\la<k/\Bq+la<n/\B (Bq+la)=true/\(n - Bq<=k\/(Bq+k<n/\B (Bq+k)=false))) (λi c y i1 i2 hy=>?_) (λc y hy=>?_) #[rfl,0,1,rfl,by omega,by omega,λ_=>hr,by omega]) λc y hy=>?_)
  ·obtain⟨rfl,la,k,rfl,h1,h2,h3,h4⟩:=hy;show wpS _ _ _ _ (if k>=n - Bq then _ else _) _ _;rcases yC k (n - Bq) with hk|hk
   ·rw[if_neg (by omega)];refine wpS_bind (hb (Bq+k) (by omega) _ ?_);show wpS _ _ _ _ (if (!B (Bq+k))=true then _ else _) _ _;cases hv:B (Bq+k) with
    | true=>exact wpS_pure #[rfl,k,2*k+1,rfl,by omega,by omega,λ_=>hv,by omega]
    | false=>exact wpS_pure #[rfl,la,k,rfl,h1,h4,h3 h4,.inr #[by omega,hv]]
   ·rw[if_pos hk];exact wpS_pure #[rfl,la,k,rfl,h1,h4,h3 h4,.inl hk]
  ·obtain⟨rfl,la,k,rfl,h1,h2,h3,h4⟩:=hy;exact#[rfl,la,k,rfl,h1,h4,h3 h4,.inl (by omega)]
  ·obtain⟨rfl,la,k,rfl,h1,h4,h3,h5⟩:=hy;refine Ko (l0:=Bq+la+1) (h0:=Bq+min k (n - Bq)) hb Ct BW ?_ ?_ (λi hi=>Ct i _ (by omega) h4 h3) (λi h6 h7=>?_) q
   ·rcases h5 with h5|h5
    ·rw[Wj h5];omega
    ·rw[QR (by omega)];omega
   ·omega
   ·rcases h5 with h5|h5
    ·rw[Wj h5] at h6;omega
    ·rw[QR (by omega)] at h6;exact BW _ i h6 h7 h5.2
 | false =>
  refine wpS_bind (wpS_mono (wpS_forRange (I:=λi c y=>y=st/\∃la k,c=(none,la,k)/\la<k/\i+1<=k/\la<=Bq/\B (Bq - la)=false) (Q:=λc y=>y=st/\∃la k,c=(none,la,k)/\la<k/\la<=Bq/\B (Bq - la)=false/\(Bq+1<=k\/(k<=Bq/\B (Bq - k)=true))) (λi c y i1 i2 hy=>?_) (λc y hy=>?_) #[rfl,0,1,rfl,by omega,by omega,by omega,hr]) λc y hy=>?_)
  ·obtain⟨rfl,la,k,rfl,h1,h2,h3,h4⟩:=hy;show wpS _ _ _ _ (if k>=Bq+1 then _ else _) _ _;rcases yC k (Bq+1) with hk|hk
   ·rw[if_neg (by omega)];refine wpS_bind (hb (Bq - k) (by omega) _ ?_);show wpS _ _ _ _ (if B (Bq - k)=true then _ else _) _ _;cases hv:B (Bq - k) with
    | true=>rw[if_pos rfl];exact wpS_pure #[rfl,la,k,rfl,h1,h3,h4,.inr #[by omega,hv]]
    | false=>rw[if_neg yo];exact wpS_pure #[rfl,k,2*k+1,rfl,by omega,by omega,by omega,hv]
   ·rw[if_pos hk];exact wpS_pure #[rfl,la,k,rfl,h1,h3,h4,.inl hk]
  ·obtain⟨rfl,la,k,rfl,h1,h2,h3,h4⟩:=hy;exact#[rfl,la,k,rfl,h1,h3,h4,.inl (by omega)]
  ·obtain⟨rfl,la,k,rfl,h1,h3,h4,h5⟩:=hy;refine Ko (l0:=Bq+1 - min k (Bq+1)) (h0:=Bq - la) hb Ct BW ?_ (by omega) (λi hi=>?_) (λi h6 h7=>BW _ i h6 h7 h4) q
   ·rcases h5 with h5|h5
    ·rw[Wj h5];omega
    ·rw[QR (by omega)];omega
   ·rcases h5 with h5|h5
    ·rw[Wj h5] at hi;omega
    ·rw[QR (by omega)] at hi;exact Ct i (Bq - k) (by omega) (by omega) h5.2
end
def oW:Array Keyed->Array Keyed->StateT SortSt Sem (Array Keyed):=sortPriv% PySem.Builtin.mergeLo
def oV:Array Keyed->Array Keyed->StateT SortSt Sem (Array Keyed):=sortPriv% PySem.Builtin.mergeHi
def gX:Nat->StateT SortSt Sem Unit:=sortPriv% PySem.Builtin.setMinGallop
def vS (a b out:AV) (i j:Nat):Array Keyed:=out++a.extract i a.size++b.extract j b.size
def Gk (a b out:AV) (i j:Nat):Array Keyed:=out++b.extract j b.size++a.extract i a.size
theorem sY (a b:AV):oW a b=(do
  liftM (rule "list.sort.merge-lo")
  let tt:=a.size+b.size
  let mut out:Array Keyed:=(List.toArray [<-elem' b 0])
  let mut i:=0
  let mut j:=1
  if j==b.size then return vS a b out i j
  if i+1==a.size then return Gk a b out i j
  let mut mg:=gallopOf (<-get)
  for _ in [0:tt] do
   let mut ca:=0
   let mut cb:=0
   for _ in [0:tt] do
    let some bw <-lt' (<-elem' b j) (<-elem' a i)|return vS a b out i j
    if bw then
     out:=out.push (<-elem' b j);j:=j+1;cb:=cb+1;ca:=0
     if j==b.size then return vS a b out i j
     if cb>=mg then break
    else
     out:=out.push (<-elem' a i);i:=i+1;ca:=ca+1;cb:=0
     if i+1==a.size then return Gk a b out i j
     if ca>=mg then break
   liftM (rule "list.sort.gallop")
   mg:=mg+1
   for _ in [0:tt] do
    if mg > 1 then mg:=mg - 1
    gX mg
    let some k <-VD false (<-elem' b j) a i (a.size - i) 0|return vS a b out i j
    ca:=k
    if k > 0 then
     out:=out++a.extract i (i+k);i:=i+k
     if i+1==a.size then return Gk a b out i j
     if i==a.size then return vS a b out i j
    out:=out.push (<-elem' b j);j:=j+1
    if j==b.size then return vS a b out i j
    let some k <-VD true (<-elem' a i) b j (b.size - j) 0|return vS a b out i j
    cb:=k
    if k > 0 then
     out:=out++b.extract j (j+k);j:=j+k
     if j==b.size then return vS a b out i j
    out:=out.push (<-elem' a i);i:=i+1
    if i+1==a.size then return Gk a b out i j
    if ca<7&&cb<7 then break
   mg:=mg+1
   gX mg
  unsupported "internal:list.sort.merge-bound"):=rfl
section
variable {prog:Be}{w:World}{A:Around}{E:AL}{s:Shared}{f:Bool}{z:AV}{o:KeyKind}
structure Sm (x y:SortSt):Prop where
 ar:arrOf y=arrOf x
 kd:kindOf y=kindOf x
 fl:failedOf y=failedOf x
 pd:pendingOf y=pendingOf x
theorem Sm.refl (x:SortSt):Sm x x:=#[rfl,rfl,rfl,rfl]
def JL (o:KeyKind) (p q:Keyed):Prop:=o.kle (kv o p) (kv o q)
def Up (o:KeyKind) (l:List Keyed):Prop:=l.Pairwise (JL o)
theorem J0 {p q r:Keyed} (h1:JL o p q) (h2:JL o q r):JL o p r:=KeyOrd.kle_trans h1 h2
theorem GI {st:SortSt}{p q:Keyed}{Q:Option Bool->SortSt->Prop} (O:UD prog w A s f o z) (kd:kindOf st=tuples' f) (hp:p∈z.toList) (hq:q∈z.toList) (h:Q (some (o.blt (kv o p) (kv o q))) st):wpS (model prog w) A E s (lt' p q) Q st:=by
 rw[lt'_eq];refine wpS_bind (wpS_get ?_);rw[kd];exact wpS_bind (wpS_lift (wpAny_attempt (O _ p q _ hp hq #[rfl,wpS_pure h])))
theorem Jw {st:SortSt}{Q:Keyed->SortSt->Prop} (hi:i<xs.size) (h:Q xs[i] st):wpS (model prog w) A E s (elem' xs i) Q st:=by
 rw[elem'_eq,getElem?_pos xs i hi];exact wpS_pure h
theorem uz (hi:i<xs.size):xs[i]∈xs.toList:=Array.getElem_mem_toList hi
theorem Up.at_ (u:Up o xs.toList) (By:i<=j) (hj:j<xs.size):JL o (xs[i]'(yL By hj)) xs[j]:=by
 rcases yC i j with h|h
 ·have:=(QM.mp u) i j (by simpa using yL By hj) (by simpa using hj) h;simpa using this
 ·obtain rfl:i=j:=by omega
  exact KeyOrd.kle_refl _
theorem gS {st:SortSt}{bs:Nat}{Q:Option Nat->SortSt->Prop} (O:UD prog w A s f o z) (kd:kindOf st=tuples' f) (hx:∀p∈xs.toList,p∈z.toList) (hk:ky∈z.toList) (hn:bs+n<=xs.size) (hh:h0<n) (up:∀i j (By:i<=j) (hj:bs+j<xs.size),j<n->JL o (xs[bs+i]'(by omega +splitNatSub)) xs[bs+j])
  (q:∀k,k<=n->(∀i (hi:bs+i<xs.size),i<k->o.klt (kv o xs[bs+i]) (kv o ky))->(∀i (hi:bs+i<xs.size),k<=i->i<n->JL o ky xs[bs+i])->Q (some k) st):wpS (model prog w) A E s (VD true ky xs bs n h0) Q st:=by
 refine dY (B:=λi=>if hi:bs+i<xs.size then o.blt (kv o xs[bs+i]) (kv o ky) else false) (λi hi R hR=>?_) (λi j By hj h=>?_) hh λk HX h1 h2=>q k HX (λi hi DK=>?_) (λi hi DK Bn=>?_)
 ·rw[dif_pos (by omega)] at hR;refine wpS_bind (Jw (by omega) ?_);rw[if_pos rfl];exact GI O kd (hx _ (uz _)) hk hR
 ·have Em:bs+j<xs.size:=by omega
  have uZ:bs+i<xs.size:=by omega
  simp only[dif_pos Em,dif_pos uZ] at h ⊢;exact KeyOrd.klt_of_kle_of_klt (up i j By Em hj) h
 ·have:=h1 i DK;rw[dif_pos hi] at this;exact this
 ·have:=h2 i DK Bn;rw[dif_pos hi] at this;exact this
theorem Zk {st:SortSt}{bs:Nat}{Q:Option Nat->SortSt->Prop} (O:UD prog w A s f o z) (kd:kindOf st=tuples' f) (hx:∀p∈xs.toList,p∈z.toList) (hk:ky∈z.toList) (hn:bs+n<=xs.size) (hh:h0<n) (up:∀i j (By:i<=j) (hj:bs+j<xs.size),j<n->JL o (xs[bs+i]'(by omega +splitNatSub)) xs[bs+j])
  (q:∀k,k<=n->(∀i (hi:bs+i<xs.size),i<k->JL o xs[bs+i] ky)->(∀i (hi:bs+i<xs.size),k<=i->i<n->o.klt (kv o ky) (kv o xs[bs+i]))->Q (some k) st):wpS (model prog w) A E s (VD false ky xs bs n h0) Q st:=by
 refine dY (B:=λi=>if hi:bs+i<xs.size then !o.blt (kv o ky) (kv o xs[bs+i]) else false) (λi hi R hR=>?_) (λi j By hj h=>?_) hh λk HX h1 h2=>q k HX (λi hi DK=>?_) (λi hi DK Bn=>?_)
 ·rw[dif_pos (by omega)] at hR;refine wpS_bind (Jw (by omega) ?_);rw[if_neg yo];exact wpS_bind (GI O kd hk (hx _ (uz _)) (wpS_pure hR))
 ·have Em:bs+j<xs.size:=by omega
  have uZ:bs+i<xs.size:=by omega
  simp only[dif_pos Em,dif_pos uZ,Bool.not_eq_true'] at h ⊢;exact KeyOrd.kle_trans (up i j By Em hj) h
 ·have:=h1 i DK;rw[dif_pos hi,Bool.not_eq_true'] at this;exact this
 ·have:=h2 i DK Bn;rw[dif_pos hi,Bool.not_eq_false'] at this;exact this
structure ML (o:KeyKind) (a b out:AV) (i j:Nat):Prop where
 pm:(out.toList++(a.toList.drop i++b.toList.drop j)).Perm (a.toList++b.toList)
 up:Up o out.toList
 le:∀p∈out.toList,∀q∈a.toList.drop i++b.toList.drop j,JL o p q
theorem ML.mvA {k:Nat} (m:ML o a b out i j) (ua:Up o a.toList) (hk:i+k<=a.size) (h:∀p∈(a.toList.drop i).take k,∀q∈b.toList.drop j,JL o p q):ML o a b (out++a.extract i (i+k)) (i+k) j:=by
 have e:(out++a.extract i (i+k)).toList=out.toList++(a.toList.drop i).take k:=by
  rw[Qp,Qs,List.extract_eq_drop_take,Nat.add_sub_cancel_left]
 have e2:a.toList.drop i=(a.toList.drop i).take k++a.toList.drop (i+k):=by rw[<-List.drop_drop,y9]
 have ud:Up o (a.toList.drop i):=ua.drop;refine#[?_,?_,?_]
 ·rw[e,yt,<-yt (List.take _ _),<-e2];exact m.pm
 ·rw[e];refine yJ.mpr #[m.up,ud.take,λp hp q hq=>m.le p hp q (yv _ (QF hq))]
 ·rw[e];intro p hp q hq;rcases ym.mp hp with hp|hp
  ·rcases ym.mp hq with hq|hq
   ·exact m.le p hp q (yv _ (by rw[e2];exact yy _ hq))
   ·exact m.le p hp q (yy _ hq)
  ·rcases ym.mp hq with hq|hq
   ·rw[e2] at ud;exact (yJ.mp ud).2.2 p hp q hq
   ·exact h p hp q hq
theorem ML.mvB {k:Nat} (m:ML o a b out i j) (ub:Up o b.toList) (hk:j+k<=b.size) (h:∀p∈(b.toList.drop j).take k,∀q∈a.toList.drop i,JL o p q):ML o a b (out++b.extract j (j+k)) i (j+k):=by
 have e:(out++b.extract j (j+k)).toList=out.toList++(b.toList.drop j).take k:=by
  rw[Qp,Qs,List.extract_eq_drop_take,Nat.add_sub_cancel_left]
 have e2:b.toList.drop j=(b.toList.drop j).take k++b.toList.drop (j+k):=by rw[<-List.drop_drop,y9]
 have ud:Up o (b.toList.drop j):=ub.drop;refine#[?_,?_,?_]
 ·rw[e];refine List.Perm.trans ?_ m.pm;rw[yt];refine List.Perm.append_left _ ?_
  conv=>rhs;rw[e2]
  exact (List.perm_append_comm_assoc _ _ _)
 ·rw[e];refine yJ.mpr #[m.up,ud.take,λp hp q hq=>m.le p hp q (yy _ (QF hq))]
 ·rw[e];intro p hp q hq;rcases ym.mp hp with hp|hp
  ·rcases ym.mp hq with hq|hq
   ·exact m.le p hp q (yv _ hq)
   ·exact m.le p hp q (yy _ (by rw[e2];exact yy _ hq))
  ·rcases ym.mp hq with hq|hq
   ·exact h p hp q hq
   ·rw[e2] at ud;exact (yJ.mp ud).2.2 p hp q hq
theorem rX (hi:i<xs.size):xs.extract i (i+1)=(List.toArray [xs[i]]):=by
 apply Array.toList_inj.mp
 rw[Qs,List.extract_eq_drop_take,Nat.add_sub_cancel_left,Qc (by simpa using hi)];simp
theorem zD (hi:i<xs.size):out.push xs[i]=out++xs.extract i (i+1):=by
 rw[rX hi,Array.push_eq_append]
theorem vw {p:Keyed} (h:p∈xs.toList.drop i):∃k,∃hk:i+k<xs.size,p=xs[i+k]:=by
 obtain⟨k,hk,e⟩:=Q8.mp h;rw[Qw,yr] at hk;refine#[k,by omega,?_];rw[<-e,List.getElem_drop,QZ]
theorem Vt {p:Keyed} (h:p∈(xs.toList.drop i).take n):∃k,∃hk:i+k<xs.size,k<n/\p=xs[i+k]:=by
 obtain⟨k,hk,e⟩:=Q8.mp h;rw[yO,Qw,yr] at hk;refine#[k,by omega,by omega,?_];rw[<-e,List.getElem_take,List.getElem_drop,QZ]
structure Mg (o:KeyKind) (a b m:AV):Prop where
 pm:m.toList.Perm (a.toList++b.toList)
 up:Up o m.toList
theorem ML.endA (m:ML o a b out i j) (ua:Up o a.toList) (ub:Up o b.toList) (h:j=b.size\/i=a.size):Mg o a b (vS a b out i j):=by
 have e:(vS a b out i j).toList=out.toList++(a.toList.drop i++b.toList.drop j):=by
  unfold vS;rw[Qp,Qp,Qs,Qs,List.extract_eq_drop_take,List.extract_eq_drop_take,yt];congr 2<;>exact QK (by simp)
 have z0:a.toList.drop i=[]\/b.toList.drop j=[]:=by
  rcases h with h|h
  ·exact .inr (QT (by simp [h]))
  ·exact .inl (QT (by simp [h]))
 refine#[by rw[e];exact m.pm,?_];rw[e];refine yJ.mpr #[m.up,?_,m.le];rcases z0 with z0|z0<;>rw[z0]
 ·exact ub.drop
 ·rw[yB];exact ua.drop
theorem ML.endB (m:ML o a b out i j) (ub:Up o b.toList) (h:i+1=a.size) (hl:∀p∈b.toList,∀hi:i<a.size,JL o p a[i]):Mg o a b (Gk a b out i j):=by
 have hi:i<a.size:=by omega
 have e1:a.toList.drop i=[a[i]]:=by
  rw[Qc (by simpa using hi),QT (by simp;omega)];simp
 have e:(Gk a b out i j).toList=out.toList++(b.toList.drop j++a.toList.drop i):=by
  unfold Gk;rw[Qp,Qp,Qs,Qs,List.extract_eq_drop_take,List.extract_eq_drop_take,yt];congr 2<;>exact QK (by simp)
 refine#[?_,?_]
 ·rw[e];exact List.Perm.trans (List.Perm.append_left _ QW) m.pm
 ·rw[e];refine yJ.mpr #[m.up,yJ.mpr #[ub.drop,by rw[e1];exact QE _ _,λp hp q hq=>?_],λp hp q hq=>m.le p hp q ?_]
  ·rw[e1,yx] at hq;rw[hq];exact hl p (Q9 hp) hi
  ·rcases ym.mp hq with hq|hq
   ·exact yy _ hq
   ·exact yv _ hq
end
abbrev LS:=Option (Array Keyed)×Array Keyed×Nat×Nat×Nat×Nat×Nat
def sM (a b:AV) (i mg ca cb:Nat) (out:AV) (j:Nat):StateT SortSt Sem (ForInStep LS):=do
 let x <-elem' a i
 if (i+1+1==a.size)=true then pure (.done (some (Gk a b (out.push x) (i+1) j),out.push x,i+1,j,mg,ca,cb))
 else if (decide (ca<7)&&decide (cb<7))=true then pure (.done (none,out.push x,i+1,j,mg,ca,cb))
 else pure (.yield (none,out.push x,i+1,j,mg,ca,cb))
def sL (a b:AV) (j mg ca cb:Nat) (out:AV) (i:Nat):StateT SortSt Sem (ForInStep LS):=do
 let x <-elem' b j
 if (j+1==b.size)=true then pure (.done (some (vS a b (out.push x) i (j+1)),out.push x,i,j+1,mg,ca,cb))
 else
  let y <-elem' a i
  let some k <-VD true y b (j+1) (b.size - (j+1)) 0|pure (.done (some (vS a b (out.push x) i (j+1)),out.push x,i,j+1,mg,ca,cb))
  if k > 0 then
   if (j+1+k==b.size)=true then pure (.done (some (vS a b (out.push x++b.extract (j+1) (j+1+k)) i (j+1+k)),out.push x++b.extract (j+1) (j+1+k),i,j+1+k,mg,ca,k))
   else sM a b i mg ca k (out.push x++b.extract (j+1) (j+1+k)) (j+1+k)
  else sM a b i mg ca k (out.push x) (j+1)
def sK (a b out:AV) (i j ca cb mg:Nat):StateT SortSt Sem (ForInStep LS):=do
 gX mg
 let x <-elem' b j
 let some k <-VD false x a i (a.size - i) 0|pure (.done (some (vS a b out i j),out,i,j,mg,ca,cb))
 if k > 0 then
  if (i+k+1==a.size)=true then pure (.done (some (Gk a b (out++a.extract i (i+k)) (i+k) j),out++a.extract i (i+k),i+k,j,mg,k,cb))
  else if (i+k==a.size)=true then pure (.done (some (vS a b (out++a.extract i (i+k)) (i+k) j),out++a.extract i (i+k),i+k,j,mg,k,cb))
  else sL a b j mg k cb (out++a.extract i (i+k)) (i+k)
 else sL a b j mg k cb out i
section
variable {prog:Be}{w:World}{A:Around}{E:AL}{s:Shared}{f:Bool}{z:AV}{o:KeyKind}
structure LI (o:KeyKind) (a b:AV) (st:SortSt) (t:Nat) (out:AV) (i j:Nat) (y:SortSt):Prop where
 sm:Sm st y
 ml:ML o a b out i j
 hi:i+1<a.size
 hj:j<b.size
 tt:t<=i+j
def rC (o:KeyKind) (a b:AV) (st:SortSt) (t:Nat) (c:LS) (y:SortSt):Prop:=(∃m,c.1=some m/\Sm st y/\Mg o a b m)\/(c.1=none/\LI o a b st t c.2.1 c.2.2.1 c.2.2.2.1 y)
def bI (o:KeyKind) (a b:AV) (st:SortSt) (t:Nat):ForInStep LS->SortSt->Prop:=λr y=>match r with|.done c=>rC o a b st t c y|.yield c=>c.1=none/\LI o a b st t c.2.1 c.2.2.1 c.2.2.2.1 y
structure Zb (o:KeyKind) (f:Bool) (z a b:AV) (st:SortSt):Prop where
 kd:kindOf st=tuples' f
 ma:∀p∈a.toList,p∈z.toList
 mb:∀p∈b.toList,p∈z.toList
 ua:Up o a.toList
 ub:Up o b.toList
 hl:∀p∈b.toList,∀hi:a.size - 1<a.size,JL o p a[a.size - 1]
 h0:∀p∈a.toList,∀hi:0<b.size,JL o b[0] p
theorem Sm.trans {x y u:SortSt} (h:Sm x y) (g:Sm y u):Sm x u:=#[g.ar.trans h.ar,g.kd.trans h.kd,g.fl.trans h.fl,g.pd.trans h.pd]
theorem Zb.last {st:SortSt} (T:Zb o f z a b st) (h:i+1=a.size):∀p∈b.toList,∀hi:i<a.size,JL o p a[i]:=λp hp hi=>by
 have e:a.size - 1=i:=by omega
 have:=T.hl p hp (by omega);simp only[e] at this;exact this
theorem eZ {st y:SortSt}{t:Nat} (T:Zb o f z a b st) (sm:Sm st y) (ml:ML o a b out i j) (hi:i+1<a.size) (hj:j<b.size) (tt:t<=i+j+1) (h:∀q∈b.toList.drop j,JL o a[i] q) :
  wpS (model prog w) A E s (sM a b i mg ca cb out j) (bI o a b st t) y:=by
 refine wpS_bind (Jw (by omega) ?_);have m2:ML o a b (out.push a[i]) (i+1) j:=by
  rw[zD (by omega)];refine ml.mvA T.ua (by omega) λp hp q hq=>?_;obtain⟨k,hk,k1,rfl⟩:=Vt hp;obtain rfl:k=0:=by omega
  exact h q hq
 rcases yC (i+1+1) a.size with h1|h1
 ·rw[if_neg (by rw[beq_iff_eq];omega)];have li:LI o a b st t (out.push a[i]) (i+1) j y:=#[sm,m2,h1,hj,by omega];split
  ·exact wpS_pure (.inr #[rfl,li])
  ·exact wpS_pure #[rfl,li]
 ·rw[if_pos (by rw[beq_iff_eq];omega)];exact wpS_pure (.inl #[_,rfl,sm,m2.endB T.ub (by omega) (T.last (by omega))])
theorem am {k:Nat}{q:Keyed} (h:q∈xs.toList.drop (j+k)):∃g,∃hg:j+g<xs.size,k<=g/\q=xs[j+g]:=by
 obtain⟨g,hg,rfl⟩:=vw h;exact#[k+g,by omega,by omega,by congr 1;omega]
theorem eX {st y:SortSt}{t:Nat} (O:UD prog w A s f o z) (T:Zb o f z a b st) (sm:Sm st y) (ml:ML o a b out i j) (hi:i+1<a.size) (hj:j<b.size) (tt:t<=i+j) (h:∀q∈a.toList.drop i,JL o b[j] q) :
  wpS (model prog w) A E s (sL a b j mg ca cb out i) (bI o a b st t) y:=by
 refine wpS_bind (Jw hj ?_);have m2:ML o a b (out.push b[j]) i (j+1):=by
  rw[zD hj];refine ml.mvB T.ub (by omega) λp hp q hq=>?_;obtain⟨k,hk,k1,rfl⟩:=Vt hp;obtain rfl:k=0:=by omega
  exact h q hq
 rcases yC (j+1) b.size with h1|h1
 ·rw[if_neg (by rw[beq_iff_eq];omega)];refine wpS_bind (Jw (by omega) (wpS_bind (gS O (sm.kd.trans T.kd) T.mb (T.ma _ (uz _)) (by omega) (by omega) (λg k FR hk _=>T.ub.at_ (by omega) hk) λk hk less rest=>?_)));show wpS _ _ _ _ (if k > 0 then _ else _) _ _;have BL:∀q∈b.toList.drop (j+1+k),JL o a[i] q:=λq hq=>by
   obtain⟨g,hg,PV,rfl⟩:=am hq;exact rest g hg PV (by omega)
  rcases yC 0 k with h2|h2
  ·rw[if_pos h2];have m3:ML o a b (out.push b[j]++b.extract (j+1) (j+1+k)) i (j+1+k):=m2.mvB T.ub (by omega) λp hp q hq=>by
    obtain⟨g,hg,g1,rfl⟩:=Vt hp;obtain⟨g',PX,rfl⟩:=vw hq;exact J0 (KeyOrd.kle_of_klt (less g hg g1)) (T.ua.at_ (by omega) PX)
   rcases yC (j+1+k) b.size with h3|h3
   ·rw[if_neg (by rw[beq_iff_eq];omega)];exact eZ T sm m3 hi h3 (by omega) BL
   ·rw[if_pos (by rw[beq_iff_eq];omega)];exact wpS_pure (.inl #[_,rfl,sm,m3.endA T.ua T.ub (.inl (by omega))])
  ·rw[if_neg (by omega)];obtain rfl:k=0:=by omega
   exact eZ T sm m2 hi h1 (by omega) BL
 ·rw[if_pos (by rw[beq_iff_eq];omega)];exact wpS_pure (.inl #[_,rfl,sm,m2.endA T.ua T.ub (.inl (by omega))])
theorem ZV {y:SortSt}{Q:Unit->SortSt->Prop} (h:∀y',Sm y y'->Q () y'):wpS (model prog w) A E s (gX mg) Q y:=wpS_modify (h _ #[rfl,rfl,rfl,rfl])
theorem eW {st y:SortSt}{t:Nat} (O:UD prog w A s f o z) (T:Zb o f z a b st) (li:LI o a b st t out i j y) :
  wpS (model prog w) A E s (sK a b out i j ca cb mg) (bI o a b st t) y:=by
 obtain⟨PY,ml,hi,hj,tt⟩:=li;refine wpS_bind (ZV λy' s'=>?_);have sm:=PY.trans s';refine wpS_bind (Jw hj (wpS_bind (Zk O (sm.kd.trans T.kd) T.ma (T.mb _ (uz _)) (by omega) (by omega) (λg k FR hk _=>T.ua.at_ (by omega) hk) λk hk less rest=>?_)));show wpS _ _ _ _ (if k > 0 then _ else _) _ _;have BL:∀q∈a.toList.drop (i+k),JL o b[j] q:=λq hq=>by
  obtain⟨g,hg,PV,rfl⟩:=am hq;exact KeyOrd.kle_of_klt (rest g hg PV (by omega))
 rcases yC 0 k with h2|h2
 ·rw[if_pos h2];have m2:ML o a b (out++a.extract i (i+k)) (i+k) j:=ml.mvA T.ua (by omega) λp hp q hq=>by
   obtain⟨g,hg,g1,rfl⟩:=Vt hp;obtain⟨g',PX,rfl⟩:=vw hq;exact J0 (less g hg g1) (T.ub.at_ (by omega) PX)
  rcases yC (i+k+1) a.size with h3|h3
  ·rw[if_neg (by rw[beq_iff_eq];omega),if_neg (by rw[beq_iff_eq];omega)];exact eX O T sm m2 h3 hj (by omega) BL
  ·rcases yC a.size (i+k+1) with h4|h4
   ·rw[if_neg (by rw[beq_iff_eq];omega),if_pos (by rw[beq_iff_eq];omega)];exact wpS_pure (.inl #[_,rfl,sm,m2.endA T.ua T.ub (.inr (by omega))])
   ·rw[if_pos (by rw[beq_iff_eq];omega)];exact wpS_pure (.inl #[_,rfl,sm,m2.endB T.ub (by omega) (T.last (by omega))])
 ·rw[if_neg (by omega)];obtain rfl:k=0:=by omega
  exact eX O T sm ml hi hj tt BL
theorem oY {α β γ δ ε:Type}{G:α×β×γ×δ×ε->Prop} (h:∀a b c d e,G (a,b,c,d,e)):∀x,G x:=λ(a,b,c,d,e)=>h a b c d e
theorem oZ {α β γ δ ε ζ:Type}{G:α×β×γ×δ×ε×ζ->Prop} (h:∀a b c d e f,G (a,b,c,d,e,f)):∀x,G x:=λ(a,b,c,d,e,f)=>h a b c d e f
theorem o0 {α β γ δ ε ζ η:Type}{G:α×β×γ×δ×ε×ζ×η->Prop} (h:∀a b c d e f g,G (a,b,c,d,e,f,g)):∀x,G x:=λ(a,b,c,d,e,f,g)=>h a b c d e f g
theorem sZ {st:SortSt}{Q:Array Keyed->SortSt->Prop} (O:UD prog w A s f o z) (T:Zb o f z a b st) (ha:0<a.size) (hb:0<b.size) (q:∀m y,Sm st y->Mg o a b m->Q m y):wpS (model prog w) A E s (oW a b) Q st:=by
 rw[sY];refine wpS_bind (wpS_lift (wpAny_rule #[rfl,wpS_bind (Jw hb ?_)]));have m1:ML o a b (List.toArray [b[0]]) 0 1:=by
  refine#[?_,QE _ _,λp hp q hq=>?_]
  ·have e:b.toList=b[0]::b.toList.drop 1:=by
    have:=Qc (l:=b.toList) (i:=0) (by simpa using hb);simpa using this
   show (b[0]::(a.toList++b.toList.drop 1)).Perm _
   conv=>rhs;rw[e]
   exact List.perm_middle.symm
  ·obtain rfl:=yx.mp hp;rcases ym.mp hq with hq|hq
   ·exact T.h0 q hq hb
   ·obtain⟨k,hk,rfl⟩:=vw hq;exact T.ub.at_ (yV _) hk
 rcases yC 1 b.size with Eb|Eb
 rotate_left
 ·rw[if_pos (by rw[beq_iff_eq];omega)];exact wpS_pure (q _ _ (Sm.refl _) (m1.endA T.ua T.ub (.inl (by omega))))
 rw[if_neg (by rw[beq_iff_eq];omega)];rcases yC 1 a.size with Lb|Lb
 rotate_left
 ·rw[if_pos (by rw[beq_iff_eq];omega)];exact wpS_pure (q _ _ (Sm.refl _) (m1.endB T.ub (by omega) (T.last (by omega))))
 rw[if_neg (by rw[beq_iff_eq];omega)];refine wpS_bind (wpS_get (wpS_bind (wpS_mono (wpS_forRange (I:=λx c y=>c.1=none/\LI o a b st (1+x) c.2.1 c.2.2.1 c.2.2.2.1 y) (Q:=λc y=>∃m,c.1=some m/\Sm st y/\Mg o a b m) (λx c y _ _ hy=>?_) (λc y hy=>?_) #[rfl,Sm.refl _,m1,by show 0+1<_;omega,Eb,by show 1+0<=0+1;omega]) λc y hy=>?_)))
 ·revert c
  refine oY λc1 out i j mg=>?_;intro hy;obtain⟨e1,li⟩:=hy;refine wpS_bind (wpS_mono (wpS_forRange (I:=λx' c y=>c.1=none/\LI o a b st (1+x+x') c.2.1 c.2.2.1 c.2.2.2.1 y) (Q:=λc y=>(∃m,c.1=some m/\Sm st y/\Mg o a b m)\/(c.1=none/\LI o a b st (1+x+1) c.2.1 c.2.2.1 c.2.2.2.1 y)) (λx' c y _ _ hy=>?_) (λc y hy=>?_) #[rfl,li]) λc y hy=>?_)
  ·revert c
   refine oZ λc1 out i j ca cb=>?_;intro hy;obtain⟨e1,sm,ml,hi,hj,tt⟩:=hy;change i+1<a.size at hi;change j<b.size at hj;change 1+x+x'<=i+j at tt;change ML o a b out i j at ml;refine wpS_bind (Jw hj (wpS_bind (Jw (show i<a.size by omega) (wpS_bind (GI O (sm.kd.trans T.kd) (T.mb _ (uz _)) (T.ma _ (uz _)) ?_)))));show wpS _ _ _ _ (if o.blt (kv o b[j]) (kv o a[i])=true then _ else _) _ _;cases hv:o.blt (kv o b[j]) (kv o a[i]) with
   | true =>
    rw[if_pos rfl];refine wpS_bind (Jw hj ?_);have m2:ML o a b (out.push b[j]) i (j+1):=by
     rw[zD hj];refine ml.mvB T.ub (by omega) λp hp q hq=>?_;obtain⟨k,hk,k1,rfl⟩:=Vt hp;obtain rfl:k=0:=by omega
     obtain⟨g,hg,rfl⟩:=vw hq;exact J0 (KeyOrd.kle_of_klt hv) (T.ua.at_ (by omega) hg)
    show wpS _ _ _ _ (if (j+1==b.size)=true then _ else _) _ _;rcases yC (j+1) b.size with h1|h1
    ·rw[if_neg (by rw[beq_iff_eq];omega)];have li:∀t,t<=i+(j+1)->LI o a b st t (out.push b[j]) i (j+1) y:=λt ht=>#[sm,m2,hi,h1,ht];show wpS _ _ _ _ (if cb+1>=mg then _ else _) _ _;split
     ·exact wpS_pure (.inr #[rfl,li _ (by omega)])
     ·exact wpS_pure #[rfl,li _ (by omega)]
    ·rw[if_pos (by rw[beq_iff_eq];omega)];exact wpS_pure (.inl #[_,rfl,sm,m2.endA T.ua T.ub (.inl (by omega))])
   | false =>
    rw[if_neg yo];refine wpS_bind (Jw (show i<a.size by omega) ?_);have m2:ML o a b (out.push a[i]) (i+1) j:=by
     rw[zD (show i<a.size by omega)];refine ml.mvA T.ua (by omega) λp hp q hq=>?_;obtain⟨k,hk,k1,rfl⟩:=Vt hp;obtain rfl:k=0:=by omega
     obtain⟨g,hg,rfl⟩:=vw hq;exact J0 (show JL o a[i] b[j] from hv) (T.ub.at_ (by omega) hg)
    show wpS _ _ _ _ (if (i+1+1==a.size)=true then _ else _) _ _;rcases yC (i+1+1) a.size with h1|h1
    ·rw[if_neg (by rw[beq_iff_eq];omega)];have li:∀t,t<=i+1+j->LI o a b st t (out.push a[i]) (i+1) j y:=λt ht=>#[sm,m2,h1,hj,ht];show wpS _ _ _ _ (if ca+1>=mg then _ else _) _ _;split
     ·exact wpS_pure (.inr #[rfl,li _ (by omega)])
     ·exact wpS_pure #[rfl,li _ (by omega)]
    ·rw[if_pos (by rw[beq_iff_eq];omega)];exact wpS_pure (.inl #[_,rfl,sm,m2.endB T.ub (by omega) (T.last (by omega))])
  ·obtain⟨e1,li⟩:=hy;have h1:=li.hi;have h2:=li.hj;exact .inr #[e1,li.sm,li.ml,li.hi,li.hj,yp (by omega) li.tt]
  ·revert c
   refine oZ λc1 out i j ca cb=>?_;intro hy;rcases hy with ⟨m,rfl,sm,mm⟩|⟨rfl,li⟩
   ·exact wpS_pure #[m,rfl,sm,mm]
   ·refine wpS_bind (wpS_lift (wpAny_rule #[rfl,wpS_bind (wpS_mono (wpS_forRange (I:=λx' c y=>c.1=none/\LI o a b st (1+x+1) c.2.1 c.2.2.1 c.2.2.2.1 y) (Q:=rC o a b st (1+x+1)) (λx' c y _ _ hy=>?_) (λc y hy=>.inr hy) #[rfl,li]) λc y hy=>?_)]))
    ·revert c
     refine o0 λc1 out i j mg ca cb=>?_;intro hy;obtain⟨e1,li⟩:=hy;show wpS _ _ _ _ (if mg > 1 then sK a b out i j ca cb (mg - 1) else sK a b out i j ca cb mg) _ _;change LI o a b st (1+x+1) out i j y at li;split
     ·exact wpS_mono (eW O T li) λr y h=>by cases r<;>exact h
     ·exact wpS_mono (eW O T li) λr y h=>by cases r<;>exact h
    ·revert c
     refine o0 λc1 out i j mg ca cb=>?_;intro hy;rcases hy with ⟨m,rfl,sm,mm⟩|⟨rfl,li⟩
     ·exact wpS_pure #[m,rfl,sm,mm]
     ·exact wpS_bind (ZV λy' s'=>wpS_pure #[rfl,li.sm.trans s',li.ml,li.hi,li.hj,by have:=li.tt;omega])
 ·obtain⟨e1,li⟩:=hy;have h1:=li.hi;have h2:=li.hj;have h3:=li.tt;omega
 ·revert c
  refine oY λc1 out i j mg=>?_;intro hy;obtain⟨m,rfl,sm,mm⟩:=hy;exact wpS_pure (q m y sm mm)
end
def vT (a b out:AV) (m n:Nat):Array Keyed:=a.extract 0 m++b.extract 0 n++out.reverse
def Gm (a b out:AV) (m n:Nat):Array Keyed:=b.extract 0 n++a.extract 0 m++out.reverse
theorem sS (a b:AV):oV a b=(do
  liftM (rule "list.sort.merge-hi")
  let tt:=a.size+b.size
  let mut m:=a.size - 1
  let mut n:=b.size
  let mut out:Array Keyed:=(List.toArray [<-elem' a m])
  if m==0 then return vT a b out m n
  if n==1 then return Gm a b out m n
  let mut mg:=gallopOf (<-get)
  for _ in [0:tt] do
   let mut ca:=0
   let mut cb:=0
   for _ in [0:tt] do
    let some aw <-lt' (<-elem' b (n - 1)) (<-elem' a (m - 1))|return vT a b out m n
    if aw then
     m:=m - 1;out:=out.push (<-elem' a m);ca:=ca+1;cb:=0
     if m==0 then return vT a b out m n
     if ca>=mg then break
    else
     n:=n - 1;out:=out.push (<-elem' b n);cb:=cb+1;ca:=0
     if n==1 then return Gm a b out m n
     if cb>=mg then break
   liftM (rule "list.sort.gallop")
   mg:=mg+1
   for _ in [0:tt] do
    if mg > 1 then mg:=mg - 1
    gX mg
    let some g <-VD false (<-elem' b (n - 1)) a 0 m (m - 1)|return vT a b out m n
    let k:=m - g
    ca:=k
    if k > 0 then
     out:=out++(a.extract g m).reverse;m:=g
     if m==0 then return vT a b out m n
    n:=n - 1;out:=out.push (<-elem' b n)
    if n==1 then return Gm a b out m n
    let some g <-VD true (<-elem' a (m - 1)) b 0 n (n - 1)|return vT a b out m n
    let k:=n - g
    cb:=k
    if k > 0 then
     out:=out++(b.extract g n).reverse;n:=g
     if n==1 then return Gm a b out m n
     if n==0 then return vT a b out m n
    m:=m - 1;out:=out.push (<-elem' a m)
    if m==0 then return vT a b out m n
    if ca<7&&cb<7 then break
   mg:=mg+1
   gX mg
  unsupported "internal:list.sort.merge-bound"):=rfl
abbrev HS:=Option (Array Keyed)×Nat×Nat×Array Keyed×Nat×Nat×Nat
def sj (a b:AV) (m mg ca cb:Nat) (out:AV) (n:Nat):StateT SortSt Sem (ForInStep HS):=do
 let x <-elem' a (m - 1)
 if (m - 1==0)=true then pure (.done (some (vT a b (out.push x) (m - 1) n),m - 1,n,out.push x,mg,ca,cb))
 else if (decide (ca<7)&&decide (cb<7))=true then pure (.done (none,m - 1,n,out.push x,mg,ca,cb))
 else pure (.yield (none,m - 1,n,out.push x,mg,ca,cb))
def uZ (a b:AV) (n mg ca cb:Nat) (out:AV) (m:Nat):StateT SortSt Sem (ForInStep HS):=do
 let x <-elem' b (n - 1)
 if (n - 1==1)=true then pure (.done (some (Gm a b (out.push x) m (n - 1)),m,n - 1,out.push x,mg,ca,cb))
 else
  let y <-elem' a (m - 1)
  let some g <-VD true y b 0 (n - 1) (n - 1 - 1)|pure (.done (some (vT a b (out.push x) m (n - 1)),m,n - 1,out.push x,mg,ca,cb))
  if n - 1 - g > 0 then
   if (g==1)=true then pure (.done (some (Gm a b (out.push x++(b.extract g (n - 1)).reverse) m g),m,g,out.push x++(b.extract g (n - 1)).reverse,mg,ca,n - 1 - g))
   else if (g==0)=true then pure (.done (some (vT a b (out.push x++(b.extract g (n - 1)).reverse) m g),m,g,out.push x++(b.extract g (n - 1)).reverse,mg,ca,n - 1 - g))
   else sj a b m mg ca (n - 1 - g) (out.push x++(b.extract g (n - 1)).reverse) g
  else sj a b m mg ca (n - 1 - g) (out.push x) (n - 1)
def si (a b out:AV) (m n ca cb mg:Nat):StateT SortSt Sem (ForInStep HS):=do
 gX mg
 let x <-elem' b (n - 1)
 let some g <-VD false x a 0 m (m - 1)|pure (.done (some (vT a b out m n),m,n,out,mg,ca,cb))
 if m - g > 0 then
  if (g==0)=true then pure (.done (some (vT a b (out++(a.extract g m).reverse) g n),g,n,out++(a.extract g m).reverse,mg,m - g,cb))
  else uZ a b n mg (m - g) cb (out++(a.extract g m).reverse) g
 else uZ a b n mg (m - g) cb out m
section
variable {prog:Be}{w:World}{A:Around}{E:AL}{s:Shared}{f:Bool}{z:AV}{o:KeyKind}
structure MH (o:KeyKind) (a b out:AV) (m n:Nat):Prop where
 pm:((a.toList.take m++b.toList.take n)++out.toList.reverse).Perm (a.toList++b.toList)
 up:Up o out.toList.reverse
 le:∀p∈a.toList.take m++b.toList.take n,∀q∈out.toList,JL o p q
theorem Vf {m:Nat}:(out++(xs.extract g m).reverse).toList.reverse=(xs.toList.take m).drop g++out.toList.reverse:=by
 rw[Qp,Array.toList_reverse,Qs,List.reverse_append,List.reverse_reverse,List.extract_eq_drop_take,<-List.drop_take]
theorem Nc {l:List Keyed}{m:Nat} (h:g<=m):l.take m=l.take g++(l.take m).drop g:=by
 have:=(y9 g (l.take m)).symm;rwa [List.take_take,QR h] at this
theorem MH.mvA {m:Nat} (x:MH o a b out m n) (ua:Up o a.toList) (hg:g<=m) (h:∀p∈(a.toList.take m).drop g,∀q∈b.toList.take n,JL o q p):MH o a b (out++(a.extract g m).reverse) g n:=by
 have ut:Up o (a.toList.take m):=ua.take;have e2:=Nc (l:=a.toList) hg;have mo:∀q,q∈(out++(a.extract g m).reverse).toList↔q∈(a.toList.take m).drop g\/q∈out.toList:=λq=>by
  rw[<-QU,Vf,ym,QU]
 refine#[?_,?_,λp hp q hq=>?_]
 ·rw[Vf];refine List.Perm.trans ?_ x.pm;rw[<-yt];refine List.Perm.append_right _ ?_
  conv=>rhs;rw[e2]
  rw[yt,yt];exact List.Perm.append_left _ QW
 ·rw[Vf];refine yJ.mpr #[ut.drop,x.up,λp hp q hq=>x.le p (yv _ (Q9 hp)) q (QU.mp hq)]
 ·rcases (mo q).mp hq with hq|hq
  ·rcases ym.mp hp with hp|hp
   ·rw[e2] at ut;exact (yJ.mp ut).2.2 p hp q hq
   ·exact h q hq p hp
  ·refine x.le p ?_ q hq;rcases ym.mp hp with hp|hp
   ·exact yv _ (by rw[e2];exact yv _ hp)
   ·exact yy _ hp
theorem MH.mvB {m:Nat} (x:MH o a b out m n) (ub:Up o b.toList) (hg:g<=n) (h:∀p∈(b.toList.take n).drop g,∀q∈a.toList.take m,JL o q p):MH o a b (out++(b.extract g n).reverse) m g:=by
 have ut:Up o (b.toList.take n):=ub.take;have e2:=Nc (l:=b.toList) hg;have mo:∀q,q∈(out++(b.extract g n).reverse).toList↔q∈(b.toList.take n).drop g\/q∈out.toList:=λq=>by
  rw[<-QU,Vf,ym,QU]
 refine#[?_,?_,λp hp q hq=>?_]
 ·rw[Vf];refine List.Perm.trans ?_ x.pm;rw[<-yt];refine List.Perm.append_right _ ?_
  conv=>rhs;rw[e2]
  rw[yt]
 ·rw[Vf];refine yJ.mpr #[ut.drop,x.up,λp hp q hq=>x.le p (yy _ (Q9 hp)) q (QU.mp hq)]
 ·rcases (mo q).mp hq with hq|hq
  ·rcases ym.mp hp with hp|hp
   ·exact h q hq p hp
   ·rw[e2] at ut;exact (yJ.mp ut).2.2 p hp q hq
  ·refine x.le p ?_ q hq;rcases ym.mp hp with hp|hp
   ·exact yv _ hp
   ·exact yy _ (by rw[e2];exact yv _ hp)
theorem Gs {m:Nat}:(xs.extract 0 m).toList=xs.toList.take m:=by
 rw[Qs,List.extract_eq_drop_take,List.drop_zero,Nat.sub_zero]
theorem MH.endC {m:Nat} (x:MH o a b out m n) (ua:Up o a.toList) (ub:Up o b.toList) (h:m=0\/n=0):Mg o a b (vT a b out m n):=by
 have e:(vT a b out m n).toList=(a.toList.take m++b.toList.take n)++out.toList.reverse:=by
  unfold vT;rw[Qp,Qp,Gs,Gs,Array.toList_reverse]
 refine#[by rw[e];exact x.pm,?_];rw[e];refine yJ.mpr #[?_,x.up,λp hp q hq=>x.le p hp q (QU.mp hq)];rcases h with rfl|rfl
 ·rw[List.take_zero,List.nil_append];exact ub.take
 ·rw[List.take_zero,yB];exact ua.take
theorem MH.endD {m:Nat} (x:MH o a b out m n) (ua:Up o a.toList) (hn:n=1) (hb:0<b.size) (h0:∀p∈a.toList,JL o b[0] p):Mg o a b (Gm a b out m n):=by
 have e1:b.toList.take n=[b[0]]:=by
  rw[hn,List.take_one];have:b.toList.head?=some b[0]:=by rw[List.head?_eq_getElem?];simp [hb]
  rw[this];rfl
 have e:(Gm a b out m n).toList=(b.toList.take n++a.toList.take m)++out.toList.reverse:=by
  unfold Gm;rw[Qp,Qp,Gs,Gs,Array.toList_reverse]
 refine#[?_,?_]
 ·rw[e];exact List.Perm.trans (List.Perm.append_right _ QW) x.pm
 ·rw[e];refine yJ.mpr #[yJ.mpr #[by rw[e1];exact QE _ _,ua.take,λp hp q hq=>?_],x.up,λp hp q hq=>x.le p ?_ q (QU.mp hq)]
  ·rw[e1,yx] at hp;rw[hp];exact h0 q (QF hq)
  ·rcases ym.mp hp with hp|hp
   ·exact yy _ hp
   ·exact yv _ hp
theorem zE {m:Nat} (h1:1<=m) (hm:m<=xs.size):out.push (xs[m - 1]'(by omega +splitNatSub))=out++(xs.extract (m - 1) m).reverse:=by
 have:=rX (xs:=xs) (i:=m - 1) (by omega);rw[show m - 1+1=m by omega] at this;rw[this,Array.push_eq_append]
 rfl
theorem V0 {m:Nat}{p:Keyed} (h:p∈(xs.toList.take m).drop g):∃k,∃hk:k<xs.size,g<=k/\k<m/\p=xs[k]:=by
 obtain⟨k,hk,e⟩:=Q8.mp h;rw[Qw,yO,yr] at hk;refine#[g+k,by omega,by omega,by omega,?_];rw[<-e,List.getElem_drop,List.getElem_take,QZ]
theorem zu {m:Nat}{p:Keyed} (h:p∈xs.toList.take m):∃k,∃hk:k<xs.size,k<m/\p=xs[k]:=by
 obtain⟨k,hk,e⟩:=Q8.mp h;rw[yO,yr] at hk;refine#[k,by omega,by omega,?_];rw[<-e,List.getElem_take,QZ]
structure HI (o:KeyKind) (a b:AV) (st:SortSt) (t:Nat) (out:AV) (m n:Nat) (y:SortSt):Prop where
 sm:Sm st y
 mh:MH o a b out m n
 m1:1<=m
 ma:m<=a.size
 n2:2<=n
 nb:n<=b.size
 tt:m+n+t<=a.size+b.size
def rz (o:KeyKind) (a b:AV) (st:SortSt) (t:Nat) (c:HS) (y:SortSt):Prop:=(∃r,c.1=some r/\Sm st y/\Mg o a b r)\/(c.1=none/\HI o a b st t c.2.2.2.1 c.2.1 c.2.2.1 y)
def bH (o:KeyKind) (a b:AV) (st:SortSt) (t:Nat):ForInStep HS->SortSt->Prop:=λr y=>match r with|.done c=>rz o a b st t c y|.yield c=>c.1=none/\HI o a b st t c.2.2.2.1 c.2.1 c.2.2.1 y
theorem d9 {st y:SortSt}{t m:Nat} (T:Zb o f z a b st) (sm:Sm st y) (mh:MH o a b out m n) (m1:1<=m) (ma:m<=a.size) (n2:2<=n) (nb:n<=b.size) (tt:m+n+t<=a.size+b.size+1) (h:∀q∈b.toList.take n,∀hm:m - 1<a.size,JL o q a[m - 1]) :
  wpS (model prog w) A E s (sj a b m mg ca cb out n) (bH o a b st t) y:=by
 refine wpS_bind (Jw (show m - 1<a.size by omega) ?_);have m2:MH o a b (out.push a[m - 1]) (m - 1) n:=by
  rw[zE m1 ma];refine mh.mvA T.ua (by omega) λp hp q hq=>?_;obtain⟨k,hk,k1,k2,rfl⟩:=V0 hp;obtain rfl:k=m - 1:=by omega
  exact h q hq hk
 rcases yC 0 (m - 1) with h1|h1
 ·rw[if_neg (by rw[beq_iff_eq];omega)];have hi:HI o a b st t (out.push a[m - 1]) (m - 1) n y:=#[sm,m2,h1,by omega,n2,nb,by omega];split
  ·exact wpS_pure (.inr #[rfl,hi])
  ·exact wpS_pure #[rfl,hi]
 ·rw[if_pos (by rw[beq_iff_eq];omega)];exact wpS_pure (.inl #[_,rfl,sm,m2.endC T.ua T.ub (.inl (by omega))])
theorem d8 {st y:SortSt}{t m:Nat} (O:UD prog w A s f o z) (T:Zb o f z a b st) (sm:Sm st y) (mh:MH o a b out m n) (m1:1<=m) (ma:m<=a.size) (n2:2<=n) (nb:n<=b.size) (tt:m+n+t<=a.size+b.size) (h:∀q∈a.toList.take m,∀hn:n - 1<b.size,JL o q b[n - 1]) :
  wpS (model prog w) A E s (uZ a b n mg ca cb out m) (bH o a b st t) y:=by
 refine wpS_bind (Jw (show n - 1<b.size by omega) ?_);have m2:MH o a b (out.push b[n - 1]) m (n - 1):=by
  rw[zE (by omega) nb];refine mh.mvB T.ub (by omega) λp hp q hq=>?_;obtain⟨k,hk,k1,k2,rfl⟩:=V0 hp;obtain rfl:k=n - 1:=by omega
  exact h q hq hk
 have h0:∀p∈a.toList,JL o b[0] p:=λp hp=>T.h0 p hp (by omega);rcases yC 1 (n - 1) with h1|h1
 ·rw[if_neg (by rw[beq_iff_eq];omega)];refine wpS_bind (Jw (show m - 1<a.size by omega) (wpS_bind (gS O (sm.kd.trans T.kd) T.mb (T.ma _ (uz _)) (by omega) (by omega) (λg k FR hk _=>T.ub.at_ (by omega) hk) λg hg less rest=>?_)));simp only[Wl] at less rest;show wpS _ _ _ _ (if n - 1 - g > 0 then _ else _) _ _;have below:∀q∈b.toList.take g,∀hm:m - 1<a.size,JL o q a[m - 1]:=λq hq hm=>by
   obtain⟨k,hk,k1,rfl⟩:=zu hq;exact KeyOrd.kle_of_klt (less k hk k1)
  rcases yC g (n - 1) with h2|h2
  ·rw[if_pos (by omega)];have m3:MH o a b (out.push b[n - 1]++(b.extract g (n - 1)).reverse) m g:=m2.mvB T.ub (by omega) λp hp q hq=>by
    obtain⟨k,hk,k1,k2,rfl⟩:=V0 hp;obtain⟨k',En,k3,rfl⟩:=zu hq;exact J0 (T.ua.at_ (by omega) (show m - 1<a.size by omega)) (rest k hk k1 (by omega))
   rcases yC 1 g with h3|h3
   ·rw[if_neg (by rw[beq_iff_eq];omega),if_neg (by rw[beq_iff_eq];omega)];exact d9 T sm m3 m1 ma h3 (by omega) (by omega) below
   ·rcases yC 0 g with h4|h4
    ·rw[if_pos (by rw[beq_iff_eq];omega)];exact wpS_pure (.inl #[_,rfl,sm,m3.endD T.ua (by omega) (by omega) h0])
    ·rw[if_neg (by rw[beq_iff_eq];omega),if_pos (by rw[beq_iff_eq];omega)];exact wpS_pure (.inl #[_,rfl,sm,m3.endC T.ua T.ub (.inr (by omega))])
  ·rw[if_neg (by omega)];obtain rfl:g=n - 1:=by omega
   exact d9 T sm m2 m1 ma h1 (by omega) (by omega) below
 ·rw[if_pos (by rw[beq_iff_eq];omega)];exact wpS_pure (.inl #[_,rfl,sm,m2.endD T.ua (by omega) (by omega) h0])
theorem d7 {st y:SortSt}{t m:Nat} (O:UD prog w A s f o z) (T:Zb o f z a b st) (hi:HI o a b st t out m n y) :
  wpS (model prog w) A E s (si a b out m n ca cb mg) (bH o a b st t) y:=by
 obtain⟨PY,mh,m1,ma,n2,nb,tt⟩:=hi;refine wpS_bind (ZV λy' s'=>?_);have sm:=PY.trans s';refine wpS_bind (Jw (show n - 1<b.size by omega) (wpS_bind (Zk O (sm.kd.trans T.kd) T.ma (T.mb _ (uz _)) (by omega) (by omega) (λg k FR hk _=>T.ua.at_ (by omega) hk) λg hg less rest=>?_)));simp only[Wl] at less rest;show wpS _ _ _ _ (if m - g > 0 then _ else _) _ _;have below:∀q∈a.toList.take g,∀hn:n - 1<b.size,JL o q b[n - 1]:=λq hq hn=>by
  obtain⟨k,hk,k1,rfl⟩:=zu hq;exact less k hk k1
 rcases yC g m with h2|h2
 ·rw[if_pos (by omega)];have m2:MH o a b (out++(a.extract g m).reverse) g n:=mh.mvA T.ua (by omega) λp hp q hq=>by
   obtain⟨k,hk,k1,k2,rfl⟩:=V0 hp;obtain⟨k',En,k3,rfl⟩:=zu hq;exact J0 (T.ub.at_ (by omega) (show n - 1<b.size by omega)) (KeyOrd.kle_of_klt (rest k hk k1 (by omega)))
  rcases yC 0 g with h3|h3
  ·rw[if_neg (by rw[beq_iff_eq];omega)];exact d8 O T sm m2 h3 (by omega) n2 nb (by omega) below
  ·rw[if_pos (by rw[beq_iff_eq];omega)];exact wpS_pure (.inl #[_,rfl,sm,m2.endC T.ua T.ub (.inl (by omega))])
 ·rw[if_neg (by omega)];obtain rfl:g=m:=by omega
  exact d8 O T sm mh m1 ma n2 nb tt below
theorem sX {st:SortSt}{Q:Array Keyed->SortSt->Prop} (O:UD prog w A s f o z) (T:Zb o f z a b st) (ha:0<a.size) (hb:0<b.size) (q:∀m y,Sm st y->Mg o a b m->Q m y):wpS (model prog w) A E s (oV a b) Q st:=by
 rw[sS];have Ov:a.size - 1<a.size:=by omega
 have h0:∀p∈a.toList,JL o b[0] p:=λp hp=>T.h0 p hp hb;refine wpS_bind (wpS_lift (wpAny_rule #[rfl,wpS_bind (Jw Ov ?_)]));have m1:MH o a b (List.toArray [a[a.size - 1]]) (a.size - 1) b.size:=by
  have e:a.toList=a.toList.take (a.size - 1)++[a[a.size - 1]]:=by
   have:=(y9 (a.size - 1) a.toList).symm;rw[Qc (by simpa using Ov),QT (by simp;omega)] at this;simpa using this
  have eb:b.toList.take b.size=b.toList:=QK (by simp);refine#[?_,QE _ _,λp hp q hq=>?_]
  ·rw[eb];show ((a.toList.take (a.size - 1)++b.toList)++[a[a.size - 1]]).Perm _
   conv=>rhs;rw[e]
   rw[yt,yt];exact List.Perm.append_left _ QW
  ·obtain rfl:=yx.mp hq;rcases ym.mp hp with hp|hp
   ·obtain⟨k,hk,k1,rfl⟩:=zu hp;exact T.ua.at_ (by omega) Ov
   ·exact T.hl p (QF hp) Ov
 rcases yC 1 a.size with Lb|Lb
 rotate_left
 ·rw[if_pos (by rw[beq_iff_eq];omega)];exact wpS_pure (q _ _ (Sm.refl _) (m1.endC T.ua T.ub (.inl (by omega))))
 rw[if_neg (by rw[beq_iff_eq];omega)];rcases yC 1 b.size with Eb|Eb
 rotate_left
 ·rw[if_pos (by rw[beq_iff_eq];omega)];exact wpS_pure (q _ _ (Sm.refl _) (m1.endD T.ua (by omega) hb h0))
 rw[if_neg (by rw[beq_iff_eq];omega)];refine wpS_bind (wpS_get (wpS_bind (wpS_mono (wpS_forRange (I:=λx c y=>c.1=none/\HI o a b st (1+x) c.2.2.2.1 c.2.1 c.2.2.1 y) (Q:=λc y=>∃m,c.1=some m/\Sm st y/\Mg o a b m) (λx c y _ _ hy=>?_) (λc y hy=>?_) #[rfl,Sm.refl _,m1,by show 1<=a.size - 1;omega,by show a.size - 1<=_;omega,Eb,yg _,by show a.size - 1+b.size+(1+0)<=_;omega]) λc y hy=>?_)))
 ·revert c
  refine oY λc1 m n out mg=>?_;intro hy;obtain⟨e1,li⟩:=hy;refine wpS_bind (wpS_mono (wpS_forRange (I:=λx' c y=>c.1=none/\HI o a b st (1+x+x') c.2.2.2.1 c.2.1 c.2.2.1 y) (Q:=λc y=>(∃m,c.1=some m/\Sm st y/\Mg o a b m)\/(c.1=none/\HI o a b st (1+x+1) c.2.2.2.1 c.2.1 c.2.2.1 y)) (λx' c y _ _ hy=>?_) (λc y hy=>?_) #[rfl,li]) λc y hy=>?_)
  ·revert c
   refine oZ λc1 m n out ca cb=>?_;intro hy;obtain⟨e1,sm,mh,m1,ma,n2,nb,tt⟩:=hy;change 1<=m at m1;change m<=a.size at ma;change 2<=n at n2;change n<=b.size at nb;change m+n+(1+x+x')<=a.size+b.size at tt;change MH o a b out m n at mh;refine wpS_bind (Jw (show n - 1<b.size by omega) (wpS_bind (Jw (show m - 1<a.size by omega) (wpS_bind (GI O (sm.kd.trans T.kd) (T.mb _ (uz _)) (T.ma _ (uz _)) ?_)))));show wpS _ _ _ _ (if o.blt (kv o (b[n - 1]'(by omega))) (kv o (a[m - 1]'(by omega)))=true then _ else _) _ _;cases hv:o.blt (kv o (b[n - 1]'(by omega))) (kv o (a[m - 1]'(by omega))) with
   | true =>
    rw[if_pos rfl];refine wpS_bind (Jw (show m - 1<a.size by omega) ?_);have m2:MH o a b (out.push (a[m - 1]'(by omega))) (m - 1) n:=by
     rw[zE m1 ma];refine mh.mvA T.ua (by omega) λp hp q hq=>?_;obtain⟨k,hk,k1,k2,rfl⟩:=V0 hp;obtain rfl:k=m - 1:=by omega
     obtain⟨g,hg,g1,rfl⟩:=zu hq;exact J0 (T.ub.at_ (show g<=n - 1 by omega) (show n - 1<b.size by omega)) (KeyOrd.kle_of_klt hv)
    show wpS _ _ _ _ (if (m - 1==0)=true then _ else _) _ _;rcases yC 0 (m - 1) with h1|h1
    ·rw[if_neg (by rw[beq_iff_eq];omega)];have li:∀t,m - 1+n+t<=a.size+b.size->HI o a b st t (out.push (a[m - 1]'(by omega))) (m - 1) n y:=λt ht=>#[sm,m2,h1,by omega,n2,nb,ht];show wpS _ _ _ _ (if ca+1>=mg then _ else _) _ _;split
     ·exact wpS_pure (.inr #[rfl,li _ (by omega)])
     ·exact wpS_pure #[rfl,li _ (by omega)]
    ·rw[if_pos (by rw[beq_iff_eq];omega)];exact wpS_pure (.inl #[_,rfl,sm,m2.endC T.ua T.ub (.inl (by omega))])
   | false =>
    rw[if_neg yo];refine wpS_bind (Jw (show n - 1<b.size by omega) ?_);have m2:MH o a b (out.push (b[n - 1]'(by omega))) m (n - 1):=by
     rw[zE (show 1<=n by omega) nb];refine mh.mvB T.ub (by omega) λp hp q hq=>?_;obtain⟨k,hk,k1,k2,rfl⟩:=V0 hp;obtain rfl:k=n - 1:=by omega
     obtain⟨g,hg,g1,rfl⟩:=zu hq;exact J0 (T.ua.at_ (show g<=m - 1 by omega) (show m - 1<a.size by omega)) hv
    show wpS _ _ _ _ (if (n - 1==1)=true then _ else _) _ _;rcases yC 1 (n - 1) with h1|h1
    ·rw[if_neg (by rw[beq_iff_eq];omega)];have li:∀t,m+(n - 1)+t<=a.size+b.size->HI o a b st t (out.push (b[n - 1]'(by omega))) m (n - 1) y:=λt ht=>#[sm,m2,m1,ma,h1,by omega,ht];show wpS _ _ _ _ (if cb+1>=mg then _ else _) _ _;split
     ·exact wpS_pure (.inr #[rfl,li _ (by omega)])
     ·exact wpS_pure #[rfl,li _ (by omega)]
    ·rw[if_pos (by rw[beq_iff_eq];omega)];exact wpS_pure (.inl #[_,rfl,sm,m2.endD T.ua (by omega) hb h0])
  ·obtain⟨e1,li⟩:=hy;exact .inr #[e1,li.sm,li.mh,li.m1,li.ma,li.n2,li.nb,yp (by omega) li.tt]
  ·revert c
   refine oZ λc1 m n out ca cb=>?_;intro hy;rcases hy with ⟨m,rfl,sm,mm⟩|⟨rfl,li⟩
   ·exact wpS_pure #[m,rfl,sm,mm]
   ·refine wpS_bind (wpS_lift (wpAny_rule #[rfl,wpS_bind (wpS_mono (wpS_forRange (I:=λx' c y=>c.1=none/\HI o a b st (1+x+1) c.2.2.2.1 c.2.1 c.2.2.1 y) (Q:=rz o a b st (1+x+1)) (λx' c y _ _ hy=>?_) (λc y hy=>.inr hy) #[rfl,li]) λc y hy=>?_)]))
    ·revert c
     refine o0 λc1 m n out mg ca cb=>?_;intro hy;obtain⟨e1,li⟩:=hy;show wpS _ _ _ _ (if mg > 1 then si a b out m n ca cb (mg - 1) else si a b out m n ca cb mg) _ _;change HI o a b st (1+x+1) out m n y at li;split
     ·exact wpS_mono (d7 O T li) λr y h=>by cases r<;>exact h
     ·exact wpS_mono (d7 O T li) λr y h=>by cases r<;>exact h
    ·revert c
     refine o0 λc1 m n out mg ca cb=>?_;intro hy;rcases hy with ⟨m,rfl,sm,mm⟩|⟨rfl,li⟩
     ·exact wpS_pure #[m,rfl,sm,mm]
     ·exact wpS_bind (ZV λy' s'=>wpS_pure #[rfl,li.sm.trans s',li.mh,li.m1,li.ma,li.n2,li.nb,by have:=li.tt;omega])
 ·obtain⟨e1,li⟩:=hy;have h1:=li.m1;have h2:=li.n2;have h3:=li.tt;omega
 ·revert c
  refine oY λc1 m n out mg=>?_;intro hy;obtain⟨m,rfl,sm,mm⟩:=hy;exact wpS_pure (q m y sm mm)
end
theorem sQ (i:Nat):mergeAt' i=(do
  let t <-get
  let (some (sa,na,pw),some (sb,nb,_)):=((pendingOf t)[i]?,(pendingOf t)[i+1]?)|unsupported "internal:list.sort.pending"
  set (setPending t (((pendingOf t).setIfInBounds i (sa,na+nb,pw)).eraseIdxIfInBounds (i+1)))
  let some k <-VD false (<-elem' (arrOf t) sb) (arrOf t) sa na 0|return false
  let (sa,na):=(sa+k,na - k)
  if na==0 then return true
  let some nb <-VD true (<-elem' (arrOf t) (sa+na - 1)) (arrOf t) sb nb (nb - 1)|return false
  if nb==0 then return true
  let x:=(arrOf t).extract sa sb
  let y:=(arrOf t).extract sb (sb+nb)
  let m <-if na<=nb then oW x y else oV x y
  modify λt=>setArr t (m.toList.zipIdx.foldl (λu (p,j)=>u.setIfInBounds (sa+j) p) (arrOf t))
  return (failedOf (<-get)).isNone):=rfl
def jV (xs:AV) (lo n:Nat):List Keyed:=(xs.toList.drop lo).take n
theorem aV:(xs.extract lo (lo+n)).toList=jV xs lo n:=by
 rw[Qs,List.extract_eq_drop_take,Nat.add_sub_cancel_left];rfl
theorem U8 (xs:AV) (lo k n:Nat) (h:k<=n):jV xs lo n=jV xs lo k++jV xs (lo+k) (n - k):=by
 unfold jV;have:=(y9 k ((xs.toList.drop lo).take n)).symm;rw[List.take_take,QR h,List.drop_take,List.drop_drop] at this;exact this
theorem Vi {p:Keyed} (h:p∈jV xs lo n):∃k,∃hk:lo+k<xs.size,k<n/\p=xs[lo+k]:=Vt h
theorem aW {p:Keyed} (h:p∈jV xs lo n):p∈xs.toList:=Q9 (QF h)
theorem qF (h:lo+n<=xs.size):(jV xs lo n).length=n:=by
 unfold jV;rw[yO,Qw,yr];omega
theorem ZW (h:i<(jV xs lo n).length) (h2:lo+i<xs.size):(jV xs lo n)[i]=xs[lo+i]:=by
 simp only[jV,List.getElem_take,List.getElem_drop,QZ]
section
variable {prog:Be}{w:World}{A:Around}{E:AL}{s:Shared}{f:Bool}{z:AV}{o:KeyKind}
theorem G0 (u:Up o (jV xs lo n)) (By:i<=j) (hj:j<n) (h:lo+j<xs.size):JL o (xs[lo+i]'(by omega +splitNatSub)) xs[lo+j]:=by
 rcases yC i j with hl|hl
 ·have hlen:lo+j<xs.size->j<(jV xs lo n).length:=λh=>by unfold jV;rw[yO,Qw,yr];omega
  have:=(QM.mp u) i j (by have:=hlen h;omega) (hlen h) hl;rw[ZW _ (by omega),ZW _ h] at this;exact this
 ·obtain rfl:i=j:=by omega
  exact KeyOrd.kle_refl _
theorem MK:∀(l:List Keyed) (xs:AV) (at_ k:Nat),at_+k+l.length<=xs.size->((l.zipIdx k).foldl (λ(u:AV) (x:Keyed×Nat)=>match x with|(p,j)=>u.setIfInBounds (at_+j) p) xs).toList=xs.toList.take (at_+k)++l++xs.toList.drop (at_+k+l.length)
 | [],xs,at_,k,_=>by
  show xs.toList=_;rw[yB,List.length_nil,Nat.add_zero,y9]
 | p::r,xs,at_,k,h=>by
  rw[yU] at h;rw[List.zipIdx_cons,List.foldl_cons];have e1:(xs.setIfInBounds (at_+k) p).toList=xs.toList.set (at_+k) p:=Array.toList_setIfInBounds ..;have hl:at_+k<xs.toList.length:=by rw[yr];omega
  have e2:=List.set_eq_take_append_cons_drop (l:=xs.toList) (i:=at_+k) (a:=p);rw[if_pos hl] at e2;have ih:=MK r (xs.setIfInBounds (at_+k) p) at_ (k+1) (by rw[Array.size_setIfInBounds];omega);refine ih.trans ?_;have lt:(xs.toList.take (at_+k)).length=at_+k:=by rw[yO];omega
  have t1:(xs.toList.set (at_+k) p).take (at_+(k+1))=xs.toList.take (at_+k)++[p]:=by
   rw[e2,List.take_append,lt,show at_+(k+1) - (at_+k)=1 by omega,QK (by rw[lt];omega)]
   rfl
  have t2:(xs.toList.set (at_+k) p).drop (at_+(k+1)+r.length)=xs.toList.drop (at_+k+(r.length+1)):=by
   rw[List.drop_set_of_lt (by omega)];congr 1;omega
  rw[e1,t1,t2,yU];simp
theorem qy {at_:Nat}{m:List Keyed} (h:at_+m.length<=xs.size) (e:ys.toList=xs.toList.take at_++m++xs.toList.drop (at_+m.length)) :
  (∀k n,k+n<=at_->jV ys k n=jV xs k n)/\(∀k n,at_+m.length<=k->jV ys k n=jV xs k n)/\jV ys at_ m.length=m:=by
 have lt:(xs.toList.take at_).length=at_:=by rw[yO,yr];omega
 refine#[λk n hk=>?_,λk n hk=>?_,?_]
 ·unfold jV;rw[e,yt,List.drop_append_of_le_length (by rw[lt];omega),List.take_append_of_le_length (by rw[Qw,lt];omega),List.drop_take,List.take_take,QR (by omega)]
 ·unfold jV;rw[e,List.drop_append,ye,lt,QT (by rw[ye,lt];exact hk),List.nil_append,List.drop_drop];congr 2;omega
 ·unfold jV;rw[e,yt,List.drop_append,lt,QT (by rw[lt];omega),List.nil_append,Nat.sub_self,List.drop_zero,List.take_left']
  rfl
structure Gd (f:Bool) (z:AV) (y:SortSt):Prop where
 pm:(arrOf y).Perm z
 kd:kindOf y=tuples' f
 fl:failedOf y=none
theorem Gd.sz {y:SortSt} (g:Gd f z y):(arrOf y).size=z.size:=g.pm.size_eq
theorem Gd.mem {y:SortSt} (g:Gd f z y):∀p∈(arrOf y).toList,p∈z.toList:=λp hp=>(Array.perm_iff_toList_perm.mp g.pm).mem_iff.mp hp
theorem cR {l2:List (Nat×Nat×Nat)}{v:Nat×Nat×Nat} (h:ps.toList=l1++x::y::l2):((ps.setIfInBounds l1.length v).eraseIdxIfInBounds (l1.length+1)).toList=l1++v::l2:=by
 rw[Array.toList_eraseIdxIfInBounds,Array.toList_setIfInBounds,h]
 induction l1 generalizing ps with
 | nil=>rfl
 | cons a r ih=>exact congrArg (a::·) (ih (ps:=(r++x::y::l2).toArray) rfl)
theorem qv {l2:List (Nat×Nat×Nat)} (h:ps.toList=l1++x::y::l2):ps[l1.length]?=some x/\ps[l1.length+1]?=some y:=by
 rw[<-yI,<-yI,h];constructor
 ·simp
 ·rw[yS (by omega)];simp
theorem oG {a1 a2 b1 b2 m:List Keyed} (ua:Up o (a1++a2)) (ub:Up o (b1++b2)) (um:Up o m) (pm:m.Perm (a2++b1)) (h1:∀p∈a1,∀q∈b1++b2,JL o p q) (h2:∀p∈a2,∀q∈b2,JL o p q):Up o (a1++m++b2):=by
 obtain⟨u1,_,c1⟩:=yJ.mp ua;obtain⟨_,u2,c2⟩:=yJ.mp ub;refine yJ.mpr #[yJ.mpr #[u1,um,λp hp q hq=>?_],u2,λp hp q hq=>?_]
 ·rcases ym.mp (pm.mem_iff.mp hq) with hq|hq
  ·exact c1 p hp q hq
  ·exact h1 p hp q (yv _ hq)
 ·rcases ym.mp hp with hp|hp
  ·exact h1 p hp q (yy _ hq)
  ·rcases ym.mp (pm.mem_iff.mp hp) with hp|hp
   ·exact h2 p hp q hq
   ·exact c2 p hp q hq
theorem tS {v y:SortSt}{Q:PUnit->SortSt->Prop} (h:Q #[] v):wpS (model prog w) A E s (set v:StateT SortSt Sem PUnit) Q y:=wpS_modify (f:=λ_=>v) h
theorem sR {st:SortSt}{l2:List (Nat×Nat×Nat)}{sa na pa sb nb pb:Nat}{Q:Bool->SortSt->Prop} (O:UD prog w A s f o z) (g:Gd f z st) (hp:(pendingOf st).toList=l1++(sa,na,pa)::(sb,nb,pb)::l2) (I0:sb=sa+na) (n1:1<=na) (n2:1<=nb) (hsz:sb+nb<=z.size) (u1:Up o (jV (arrOf st) sa na)) (u2:Up o (jV (arrOf st) sb nb))
  (q:∀y,Gd f z y->(pendingOf y).toList=l1++(sa,na+nb,pa)::l2->Up o (jV (arrOf y) sa (na+nb))->(∀k n,k+n<=sa->jV (arrOf y) k n=jV (arrOf st) k n)->(∀k n,sb+nb<=k->jV (arrOf y) k n=jV (arrOf st) k n)->Q true y):wpS (model prog w) A E s (mergeAt' l1.length) Q st:=by
 have gz:=g.sz;have gm:=g.mem;generalize HR:arrOf st=xs at gz gm u1 u2 q;obtain⟨p1,p2⟩:=qv hp;rw[sQ];refine wpS_bind (wpS_get ?_);rw[p1,p2,HR];have hP:=cR (v:=(sa,na+nb,pa)) hp;show wpS _ _ _ _ ((set (setPending st (((pendingOf st).setIfInBounds l1.length (sa,na+nb,pa)).eraseIdxIfInBounds (l1.length+1))):StateT SortSt Sem PUnit)>>=_) _ _;generalize hps:((pendingOf st).setIfInBounds l1.length (sa,na+nb,pa)).eraseIdxIfInBounds (l1.length+1)=ps at hP;refine wpS_bind (tS ?_);have g1:Gd f z (setPending st ps):=#[g.pm,g.kd,g.fl];have PZ:sb<xs.size:=by omega
 have eu:∀y:SortSt,arrOf y=xs->Up o (jV xs sa (na+nb))->Gd f z y->(pendingOf y).toList=l1++(sa,na+nb,pa)::l2->Q true y:=λy ey u gy py=>q y gy py (by rw[ey];exact u) (λk n _=>by rw[ey]) (λk n _=>by rw[ey]);have whole:jV xs sa (na+nb)=jV xs sa na++jV xs sb nb:=by
  have:=U8 xs sa na (na+nb) (by omega);rw[this,show na+nb - na=nb by omega,<-I0]
 refine wpS_bind (Jw PZ (wpS_bind (Zk O g1.kd gm (gm _ (uz _)) (by omega) (by omega) (λi j By hj P0=>G0 u1 By P0 hj) λk hk less rest=>?_)));have b0:∀q∈jV xs sb nb,JL o xs[sb] q:=λq hq=>by
  obtain⟨j,hj,j1,rfl⟩:=Vi hq;exact G0 u2 (i:=0) (yV _) j1 hj
 have P1:∀p∈jV xs sa k,∀q∈jV xs sb nb,JL o p q:=λp hp q hq=>by
  obtain⟨j,hj,j1,rfl⟩:=Vi hp;exact J0 (less j hj j1) (b0 q hq)
 have ea:=U8 xs sa k na hk;show wpS _ _ _ _ (if (na - k==0)=true then _ else _) _ _;rcases yC k na with j₁|j₁
 rotate_left
 ·rw[if_pos (by rw[beq_iff_eq];omega)];obtain rfl:k=na:=by omega
  refine wpS_pure (eu _ HR ?_ g1 hP);rw[whole];exact yJ.mpr #[u1,u2,P1]
 rw[if_neg (by rw[beq_iff_eq];omega)];have j₂:sa+k+(na - k) - 1<xs.size:=by omega
 have J':sa+k+(na - k) - 1=sa+(na - 1):=by omega
 refine wpS_bind (Jw j₂ (wpS_bind (gS O g1.kd gm (gm _ (uz _)) (by omega) (by omega) (λi j By hj P0=>G0 u2 By P0 hj) λBB J₁ EY BL=>?_)));simp only[J'] at EY BL;have eb:=U8 xs sb BB nb J₁;have Lc:∀p∈jV xs (sa+k) (na - k),∀q∈jV xs (sb+BB) (nb - BB),JL o p q:=λp hp q hq=>by
  obtain⟨i,hi,i1,rfl⟩:=Vi hp;obtain⟨j,hj,j1,rfl⟩:=Vi hq;have h1:=G0 u1 (i:=k+i) (j:=na - 1) (by omega) (by omega) (by omega);have h2:=BL (BB+j) (by omega) (by omega) (by omega);have e1:sa+(k+i)=sa+k+i:=by omega
  have e2:sb+(BB+j)=sb+BB+j:=by omega
  simp only[e1] at h1;simp only[e2] at h2;exact J0 h1 h2
 show wpS _ _ _ _ (if (BB==0)=true then _ else _) _ _;rcases Nat.eq_zero_or_pos BB with h0|h0
 ·subst h0;rw[if_pos (by rw[beq_iff_eq])];refine wpS_pure (eu _ HR ?_ g1 hP);rw[whole];refine yJ.mpr #[u1,u2,λp hp q hq=>?_];rw[ea] at hp;rcases ym.mp hp with hp|hp
  ·exact P1 p hp q hq
  ·exact Lc p hp q hq
 rw[if_neg (by rw[beq_iff_eq];omega)];have ex:(xs.extract (sa+k) sb).toList=jV xs (sa+k) (na - k):=by
  rw[show sb=sa+k+(na - k) by omega];exact aV
 have ey:(xs.extract sb (sb+BB)).toList=jV xs sb BB:=aV;have sx:(xs.extract (sa+k) sb).size=na - k:=by rw[Array.size_extract];omega
 have sy:(xs.extract sb (sb+BB)).size=BB:=by rw[Array.size_extract];omega
 have T:Zb o f z (xs.extract (sa+k) sb) (xs.extract sb (sb+BB)) (setPending st ps):=by
  refine#[g1.kd,λp hp=>?_,λp hp=>?_,?_,?_,λp hp hi=>?_,λp hp hi=>?_]
  ·rw[ex] at hp;exact gm p (aW hp)
  ·rw[ey] at hp;exact gm p (aW hp)
  ·rw[ex];rw[ea] at u1;exact (yJ.mp u1).2.1
  ·rw[ey];rw[eb] at u2;exact (yJ.mp u2).1
  ·rw[ey] at hp;obtain⟨j,hj,j1,rfl⟩:=Vi hp;have h:=KeyOrd.kle_of_klt (EY j hj j1);rw[Array.getElem_extract];have e1:sa+k+((xs.extract (sa+k) sb).size - 1)=sa+(na - 1):=by rw[sx];omega
   simp only[e1];exact h
  ·rw[ex] at hp;obtain⟨j,hj,j1,rfl⟩:=Vi hp;rw[Array.getElem_extract];have h:=KeyOrd.kle_of_klt (rest (k+j) (by omega) (by omega) (by omega));have e1:sa+(k+j)=sa+k+j:=by omega
   simp only[e1] at h;exact h
 have fin:∀m y,Sm (setPending st ps) y->Mg o (xs.extract (sa+k) sb) (xs.extract sb (sb+BB)) m->wpS (model prog w) A E s (do
   modify λt=>setArr t (m.toList.zipIdx.foldl (λu (p,j)=>u.setIfInBounds (sa+k+j) p) (arrOf t))
   return (failedOf (<-get)).isNone) Q y:=λm y sm mg=>by
  have ya:arrOf y=xs:=sm.ar.trans HR;have ml:m.toList.length=na - k+BB:=by
   have:=mg.pm.length_eq;rw[ye,yr,yr,yr,sx,sy] at this;rw[yr];exact this
  refine wpS_bind (wpS_modify (wpS_bind (wpS_get (wpS_pure ?_))));have e:=MK m.toList xs (sa+k) 0 (by omega);rw[Nat.add_zero] at e;show Q (failedOf y).isNone (setArr y (m.toList.zipIdx.foldl (λu (p,j)=>u.setIfInBounds (sa+k+j) p) (arrOf y)));rw[ya,sm.fl,show failedOf (setPending st ps)=none from g.fl];generalize m.toList.zipIdx.foldl (λ(u:AV) (x:Keyed×Nat)=>match x with|(p,j)=>u.setIfInBounds (sa+k+j) p) xs=ys at e;obtain⟨lo,hi,mid⟩:=qy (by omega) e;have ends:sa+k+m.toList.length=sb+BB:=by omega
  have Tn:m.toList.Perm (jV xs (sa+k) (na - k)++jV xs sb BB):=by rw[<-ex,<-ey];exact mg.pm
  refine q (setArr y ys) #[?_,sm.kd.trans g1.kd,sm.fl.trans g1.fl] ((congrArg Array.toList sm.pd).trans hP) ?_ (λk' n En=>lo k' n (by omega)) (λk' n En=>hi k' n (by omega))
  ·show ys.Perm z;refine Array.Perm.trans (Array.perm_iff_toList_perm.mpr ?_) (HR▸g.pm);rw[e];have e3:xs.toList=xs.toList.take (sa+k)++(jV xs (sa+k) (na - k)++jV xs sb BB)++xs.toList.drop (sa+k+m.toList.length):=by
    have h1:=(y9 (sa+k) xs.toList).symm;have h2:=(y9 m.toList.length (xs.toList.drop (sa+k))).symm;rw[List.drop_drop] at h2;have h3:(xs.toList.drop (sa+k)).take m.toList.length=jV xs (sa+k) (na - k)++jV xs sb BB:=by
     have:=U8 xs (sa+k) (na - k) (na - k+BB) (by omega);rw[show na - k+BB - (na - k)=BB by omega,show sa+k+(na - k)=sb by omega] at this;rw[ml];exact this
    rw[h3] at h2;rw[h2,<-yt] at h1;exact h1
   conv=>rhs;rw[e3]
   exact List.Perm.append_right _ (List.Perm.append_left _ Tn)
  ·show Up o (jV ys sa (na+nb));have s1:=U8 ys sa k (na+nb) (by omega);have s2:=U8 ys (sa+k) m.toList.length (na+nb - k) (by omega);rw[s1,s2,mid,lo sa k (by omega),hi _ _ (by omega),ends,show na+nb - k - m.toList.length=nb - BB by omega,<-yt];refine oG (a2:=jV xs (sa+k) (na - k)) (b1:=jV xs sb BB) (by rw[<-ea];exact u1) (by rw[<-eb];exact u2) mg.up Tn (λp hp q hq=>P1 p hp q (by rw[eb];exact hq)) Lc
 show wpS _ _ _ _ (if na - k<=BB then oW (xs.extract (sa+k) sb) (xs.extract sb (sb+BB))>>=_ else oV (xs.extract (sa+k) sb) (xs.extract sb (sb+BB))>>=_) _ _;split
 ·exact wpS_bind (sZ O T (by omega) (by omega) fin)
 ·exact wpS_bind (sX O T (by omega) (by omega) fin)
end
def dE (lo a n:Nat):StateT SortSt Sem AscSt :=
 forIn [a:n] ((none,a):AscSt) λ_ c=>do
  let some r <-ltAt' (lo+c.2) (lo+c.2 - 1)|pure (.done (some none,c.2))
  if r then pure (.done (none,c.2)) else pure (.yield (none,c.2+1))
def mJ (lo a n:Nat):StateT SortSt Sem DescSt :=
 forIn [a:n] ((none,a,0):DescSt) λ_ c=>do
  let some r <-ltAt' (lo+c.2.1) (lo+c.2.1 - 1)|pure (.done (some none,c.2.1,c.2.2))
  if r then
   if c.2.2 > 0 then
    reverseSlice' (lo+c.2.1 - (c.2.2+1)) (lo+c.2.1)
    pure (.yield (none,c.2.1+1,0))
   else pure (.yield (none,c.2.1+1,0))
  else
   let some r <-ltAt' (lo+c.2.1 - 1) (lo+c.2.1)|pure (.done (some none,c.2.1,c.2.2))
   if r then pure (.done (none,c.2.1,c.2.2)) else pure (.yield (none,c.2.1+1,c.2.2+1))
section
variable {prog:Be}{w:World}{A:Around}{E:AL}{s:Shared}{f:Bool}{z:AV}{o:KeyKind}
theorem MY {st:SortSt}{Q:Option Bool->SortSt->Prop} (O:UD prog w A s f o z) (g:Gd f z st) (hi:i<z.size) (hj:j<z.size) (h:Q (some (o.blt (KK o (arrOf st) i) (KK o (arrOf st) j))) st):wpS (model prog w) A E s (ltAt' i j) Q st:=by
 have kk:∀{k} (hk:k<(arrOf st).size),KK o (arrOf st) k=kv o (arrOf st)[k]:=λ{k} hk=>by unfold KK;rw[getElem?_pos (arrOf st) k hk];rfl
 have h1:i<(arrOf st).size:=g.sz▸hi;have h2:j<(arrOf st).size:=g.sz▸hj;rw[kk h1,kk h2] at h;rw[ltAt'_eq];exact wpS_bind (wpS_get (wpS_bind (Jw h1 (wpS_bind (Jw h2 (GI O g.kd (g.mem _ (uz h1)) (g.mem _ (uz h2)) h))))))
structure Rn (f:Bool) (z:AV) (x:SortSt) (lo:Nat) (y:SortSt):Prop where
 gd:Gd f z y
 pd:pendingOf y=pendingOf x
 low:∀k,k<lo->(arrOf y)[k]?=(arrOf x)[k]?
theorem Rn.refl {x:SortSt} (g:Gd f z x) (lo:Nat):Rn f z x lo x:=#[g,rfl,λ_ _=>rfl]
theorem Rn.mir {x y:SortSt} (r:Rn f z x lo y) (hi:lo<=i) (hj:j<=z.size):Rn f z x lo (setArr y (mirror (arrOf y) i j ((j - i) / 2))):=by
 refine#[#[(mirror_perm _ _ _ _).trans r.gd.pm,r.gd.kd,r.gd.fl],r.pd,λk hk=>?_];show (mirror (arrOf y) i j ((j - i) / 2))[k]?=_;rw[getElem?_mirror_all (by rw[r.gd.sz];exact hj),if_neg (by omega)];exact r.low k hk
def SU (o:KeyKind) (xs:AV) (lo m:Nat):Prop:=∀i j,i<=j->j<m->o.kle (KK o xs (lo+i)) (KK o xs (lo+j))
def SD (o:KeyKind) (xs:AV) (lo m:Nat):Prop:=∀i j,i<=j->j<m->o.kle (KK o xs (lo+j)) (KK o xs (lo+i))
theorem SU.more (u:SU o xs lo i) (h:1<=i) (hl:o.kle (KK o xs (lo+(i - 1))) (KK o xs (lo+i))):SU o xs lo (i+1):=λg k FR hk=>by
 rcases yC k i with Ld|Ld
 ·exact u g k FR Ld
 ·obtain rfl:k=i:=by omega
  rcases yC g k with hg|hg
  ·exact KeyOrd.kle_trans (u g (k - 1) (by omega) (by omega)) hl
  ·obtain rfl:g=k:=by omega
   exact KeyOrd.kle_refl _
theorem SD.more (hk:∀k,KK o ys k=KK o xs k) (u:SD o xs lo i) (h:1<=i) (hl:o.kle (KK o xs (lo+i)) (KK o xs (lo+(i - 1)))):SD o ys lo (i+1):=λg k FR I9=>by
 rw[hk,hk];rcases yC k i with Ld|Ld
 ·exact u g k FR Ld
 ·obtain rfl:k=i:=by omega
  rcases yC g k with hg|hg
  ·exact KeyOrd.kle_trans hl (u g (k - 1) (by omega) (by omega))
  ·obtain rfl:g=k:=by omega
   exact KeyOrd.kle_refl _
theorem dF {x st:SortSt}{a:Nat}{Q:AscSt->SortSt->Prop} (O:UD prog w A s f o z) (hn:lo+n<=z.size) (ha:1<=a) (EZ:a<=n) (r:Rn f z x lo st) (u:SU o (arrOf st) lo a)
  (q:∀m,a<=m->m<=n->SU o (arrOf st) lo m->(m=n\/o.klt (KK o (arrOf st) (lo+m)) (KK o (arrOf st) (lo+(m - 1))))->Q (none,m) st):wpS (model prog w) A E s (dE lo a n) Q st:=by
 refine wpS_forRange (I:=λi c y=>y=st/\c=(none,i)/\SU o (arrOf st) lo i) (λi c y h1 h2 hy=>?_) (λc y hy=>?_) #[rfl,rfl,u]
 ·obtain⟨rfl,rfl,up⟩:=hy;refine wpS_bind (MY O r.gd (show lo+i<_ by omega) (show lo+i - 1<_ by omega) ?_);show wpS _ _ _ _ (if o.blt (KK o (arrOf y) (lo+i)) (KK o (arrOf y) (lo+i - 1))=true then _ else _) _ _;rw[show lo+i - 1=lo+(i - 1) by omega];cases hl:o.blt (KK o (arrOf y) (lo+i)) (KK o (arrOf y) (lo+(i - 1))) with
  | true=>rw[if_pos rfl];exact wpS_pure (q i h1 (by omega) up (.inr hl))
  | false=>rw[if_neg yo];exact wpS_pure #[rfl,rfl,up.more (by omega) hl]
 ·obtain⟨rfl,rfl,up⟩:=hy;have e:max a n=n:=by omega
  rw[e] at up ⊢;exact q n EZ (yg _) up (.inl rfl)
def rq (k:AscSt->StateT SortSt Sem (Option Nat)):Prop:=∀m,k (none,m)=pure (some m)
theorem ae {k:AscSt->StateT SortSt Sem (Option Nat)} (hk:rq k) {x st:SortSt} {a:Nat} {Q:Option Nat->SortSt->Prop} (O:UD prog w A s f o z) (hn:lo+n<=z.size) (ha:1<=a) (EZ:a<=n) (r:Rn f z x lo st) (d:SD o (arrOf st) lo a)
  (q:∀m y,Rn f z x lo y->1<=m->m<=n->SU o (arrOf y) lo m->Q (some m) y):wpS (model prog w) A E s (reverseSlice' lo (lo+a)>>=λ_=>dE lo a n>>=k) Q st:=by
 have hz:lo+a<=(arrOf st).size:=by rw[r.gd.sz];omega
 have r2:=r.mir (i:=lo) (j:=lo+a) (yg _) (by omega);refine wpS_bind (wpS_reverse (wpS_bind (dF O hn ha EZ r2 (λi j By hj=>?_) λm h1 h2 up _=>by rw[hk];exact wpS_pure (q m _ r2 (by omega) h2 up))));show o.kle (KK o (mirror (arrOf st) lo (lo+a) _) (lo+i)) (KK o (mirror (arrOf st) lo (lo+a) _) (lo+j));rw[KK_mirror hz,KK_mirror hz,if_pos #[by omega,by omega],if_pos #[by omega,by omega]];have:=d (a - 1 - j) (a - 1 - i) (by omega) (by omega);rw[show lo+(lo+a) - 1 - (lo+i)=lo+(a - 1 - i) by omega,show lo+(lo+a) - 1 - (lo+j)=lo+(a - 1 - j) by omega];exact this
theorem iL {x st:SortSt}{a:Nat}{Q:DescSt->SortSt->Prop} (O:UD prog w A s f o z) (hn:lo+n<=z.size) (ha:1<=a) (EZ:a<=n) (r:Rn f z x lo st) (d:SD o (arrOf st) lo a)
  (q:∀m e y,Rn f z x lo y->a<=m->m<=n->SD o (arrOf y) lo m->e+1<=m->(∀i,lo+m - (e+1)<=i->i<lo+m->KK o (arrOf y) i=KK o (arrOf y) (lo+m - 1))->Q (none,m,e) y):wpS (model prog w) A E s (mJ lo a n) Q st:=by
 refine wpS_forRange (I:=λi c y=>∃e,c=(none,i,e)/\Rn f z x lo y/\SD o (arrOf y) lo i/\e+1<=i/\∀k,lo+i - (e+1)<=k->k<lo+i->KK o (arrOf y) k=KK o (arrOf y) (lo+i - 1)) (λi c y h1 h2 hy=>?_) (λc y hy=>?_) #[0,rfl,r,d,by omega,λk p1 p2=>congrArg _ (by omega)]
 ·obtain⟨e,rfl,r2,dn,he,eqs⟩:=hy;have hz:lo+i<=(arrOf y).size:=by rw[r2.gd.sz];omega
  refine wpS_bind (MY O r2.gd (show lo+i<_ by omega) (show lo+i - 1<_ by omega) ?_);show wpS _ _ _ _ (if o.blt (KK o (arrOf y) (lo+i)) (KK o (arrOf y) (lo+i - 1))=true then _ else _) _ _;have ei:lo+i - 1=lo+(i - 1):=by omega
  cases hl:o.blt (KK o (arrOf y) (lo+i)) (KK o (arrOf y) (lo+i - 1)) with
  | true =>
   rw[if_pos rfl];have hle:o.kle (KK o (arrOf y) (lo+i)) (KK o (arrOf y) (lo+(i - 1))):=by rw[<-ei];exact KeyOrd.kle_of_klt (O:=o.toKeyOrd) hl
   show wpS _ _ _ _ (if e > 0 then _ else _) _ _;by_cases h0:e > 0
   ·rw[if_pos h0];exact wpS_bind (wpS_reverse (wpS_pure #[0,rfl,r2.mir (show lo<=lo+i - (e+1) by omega) (show lo+i<=_ by omega),SD.more (KK_mirror_equal hz eqs) dn (by omega) hle,by omega,λk p1 p2=>congrArg _ (by omega)]))
   ·rw[if_neg h0];exact wpS_pure #[0,rfl,r2,SD.more (λ_=>rfl) dn (by omega) hle,by omega,λk p1 p2=>congrArg _ (by omega)]
  | false =>
   rw[if_neg yo];refine wpS_bind (MY O r2.gd (show lo+i - 1<_ by omega) (show lo+i<_ by omega) ?_);show wpS _ _ _ _ (if o.blt (KK o (arrOf y) (lo+i - 1)) (KK o (arrOf y) (lo+i))=true then _ else _) _ _;cases hg:o.blt (KK o (arrOf y) (lo+i - 1)) (KK o (arrOf y) (lo+i)) with
   | true=>rw[if_pos rfl];exact wpS_pure (q i e y r2 h1 (by omega) dn he eqs)
   | false =>
    rw[if_neg yo];have same:KK o (arrOf y) (lo+i)=KK o (arrOf y) (lo+i - 1):=o.total _ _ hl hg;refine wpS_pure #[e+1,rfl,r2,SD.more (λ_=>rfl) dn (by omega) (by rw[<-ei];exact hg),by omega,λk p1 p2=>?_];rw[show lo+(i+1) - 1=lo+i by omega];rcases yC k (lo+i) with hk|hk
    ·rw[same];exact eqs k (by omega) hk
    ·exact congrArg _ (by omega)
 ·obtain⟨e,rfl,r2,dn,he,eqs⟩:=hy;have em:max a n=n:=by omega
  rw[em] at dn he eqs ⊢;exact q n e y r2 EZ (yg _) dn he eqs
def wF (lo n:Nat) (k:DescSt->StateT SortSt Sem (Option Nat)):Prop:=∃k1,rq k1/\∀m e,k (none,m,e)=if e > 0 then reverseSlice' (lo+m - (e+1)) (lo+m)>>=λ_=>reverseSlice' lo (lo+m)>>=λ_=>dE lo m n>>=k1 else reverseSlice' lo (lo+m)>>=λ_=>dE lo m n>>=k1
theorem Mj {k2:DescSt->StateT SortSt Sem (Option Nat)}{x st:SortSt}{a:Nat}{Q:Option Nat->SortSt->Prop} (hk:wF lo n k2) (O:UD prog w A s f o z) (hn:lo+n<=z.size) (EZ:a+1<=n) (r:Rn f z x lo st) (d:SD o (arrOf st) lo (a+1))
  (q:∀m y,Rn f z x lo y->1<=m->m<=n->SU o (arrOf y) lo m->Q (some m) y):wpS (model prog w) A E s (liftM (rule "list.sort.descending-run")>>=λ_=>mJ lo (a+1) n>>=k2) Q st:=by
 obtain⟨k1,HX,I9⟩:=hk;refine wpS_bind (wpS_lift (wpAny_rule #[rfl,wpS_bind (iL O hn (by omega) EZ r d λm e y r2 h1 h2 dn he eqs=>?_)]));have hz:lo+m<=(arrOf y).size:=by rw[r2.gd.sz];omega
 rw[I9];by_cases h0:e > 0
 ·rw[if_pos h0];refine wpS_bind (wpS_reverse (ae HX (a:=m) O hn (by omega) h2 (r2.mir (show lo<=lo+m - (e+1) by omega) (show lo+m<=_ by omega)) (λi j By hj=>?_) q));have ek:=KK_mirror_equal hz eqs;show o.kle (KK o (mirror (arrOf y) (lo+m - (e+1)) (lo+m) _) (lo+j)) (KK o (mirror (arrOf y) (lo+m - (e+1)) (lo+m) _) (lo+i));rw[ek,ek];exact dn i j By hj
 ·rw[if_neg h0];exact ae HX (a:=m) O hn (by omega) h2 r2 dn q
theorem rT {st:SortSt}{Q:Option Nat->SortSt->Prop} (O:UD prog w A s f o z) (hn:lo+n<=z.size) (h1:1<=n) (g:Gd f z st)
  (q:∀m y,Rn f z st lo y->1<=m->m<=n->SU o (arrOf y) lo m->Q (some m) y):wpS (model prog w) A E s (countRun' lo n) Q st:=by
 rw[countRun'_eq];show wpS _ _ _ _ (dE lo 1 n>>=_) _ _;have r:=Rn.refl g lo;refine wpS_bind (dF O hn (yg 1) h1 r (λi j By hj=>?_) λm m1 m2 up last=>?_)
 ·obtain rfl:i=j:=by omega
  exact KeyOrd.kle_refl _
 show wpS _ _ _ _ (if (m==n)=true then _ else _) _ _;rcases yC m n with J₂|J₂
 ·rw[if_neg (by rw[beq_iff_eq];omega)];have hl:=last.resolve_left (by omega);show wpS _ _ _ _ (if m > 1 then _ else _) _ _;rcases yC 1 m with hm|hm
  ·rw[if_pos hm];refine wpS_bind (MY O g (show lo<_ by omega) (show lo+m - 1<_ by omega) ?_);show wpS _ _ _ _ (if o.blt (KK o (arrOf st) lo) (KK o (arrOf st) (lo+m - 1))=true then _ else _) _ _;cases hr:o.blt (KK o (arrOf st) lo) (KK o (arrOf st) (lo+m - 1)) with
   | true=>rw[if_pos rfl];exact wpS_pure (q m st r m1 m2 up)
   | false =>
    rw[if_neg yo];have hz:lo+m<=(arrOf st).size:=by rw[g.sz];omega
    have eqs:∀k,lo<=k->k<lo+m->KK o (arrOf st) k=KK o (arrOf st) (lo+m - 1):=λk k1 k2=>by
     have a1:=up (k - lo) (m - 1) (by omega) (by omega);have a2:=up 0 (k - lo) (by omega) (by omega);rw[show lo+(k - lo)=k by omega,show lo+(m - 1)=lo+m - 1 by omega] at a1;rw[show lo+(k - lo)=k by omega,Nat.add_zero] at a2;exact KeyOrd.kle_antisymm a1 (KeyOrd.kle_trans hr a2)
    have ek:=KK_mirror_equal hz eqs;refine wpS_bind (wpS_reverse ?_);show wpS _ _ _ _ (liftM (rule "list.sort.descending-run")>>=λ_=>mJ lo (m+1) n>>=_) _ _;refine Mj #[_,λ_=>rfl,λ_ _=>rfl] O hn (by omega) (r.mir (yg _) (by omega)) (SD.more (xs:=arrOf st) ek (λi j By hj=>?_) m1 (KeyOrd.kle_of_klt hl)) q;rw[eqs (lo+i) (by omega) (by omega),eqs (lo+j) (by omega) (by omega)];exact KeyOrd.kle_refl _
  ·rw[if_neg (by omega)];obtain rfl:m=1:=by omega
   show wpS _ _ _ _ (liftM (rule "list.sort.descending-run")>>=λ_=>mJ lo (1+1) n>>=_) _ _;refine Mj #[_,λ_=>rfl,λ_ _=>rfl] O hn (by omega) r (SD.more (xs:=arrOf st) (λ_=>rfl) (λi j By hj=>?_) m1 (KeyOrd.kle_of_klt hl)) q;obtain rfl:i=j:=by omega
   exact KeyOrd.kle_refl _
 ·rw[if_pos (by rw[beq_iff_eq];omega)];exact wpS_pure (q m st r m1 m2 up)
theorem rQ {x st:SortSt}{a:Nat}{Q:Bool->SortSt->Prop} (O:UD prog w A s f o z) (hn:lo+n<=z.size) (EZ:a<=n) (r:Rn f z x lo st) (u:SU o (arrOf st) lo a)
  (q:∀y,Rn f z x lo y->SU o (arrOf y) lo n->Q true y):wpS (model prog w) A E s (binarySort' lo n a) Q st:=by
 rw[binarySort'_eq];refine wpS_bind (wpS_mono (wpS_forRange (I:=λk c y=>c=(none,())/\Rn f z x lo y/\SU o (arrOf y) lo (min k n)) (Q:=λc y=>c=(none,())/\Rn f z x lo y/\SU o (arrOf y) lo n) (λk c y k1 k2 hy=>?_) (λc y hy=>?_) #[rfl,r,λi j By hj=>?_]) λc y hy=>?_)
 ·obtain⟨rfl,b2,up⟩:=hy;rw[QR (by omega)] at up;have hk:lo+k<z.size:=by omega
  refine wpS_bind (wpS_mono (wpS_forRange (I:=λi c y'=>y'=y/\∃l r,c=(none,l,r)/\l<=r/\r<=k/\r - l<=k - i/\(∀g,g<l->o.kle (KK o (arrOf y) (lo+g)) (KK o (arrOf y) (lo+k)))/\∀g,r<=g->g<k->o.klt (KK o (arrOf y) (lo+k)) (KK o (arrOf y) (lo+g)))
   (Q:=λc y'=>y'=y/\∃l r,c=(none,l,r)/\l<=k/\(∀g,g<l->o.kle (KK o (arrOf y) (lo+g)) (KK o (arrOf y) (lo+k)))/\∀g,l<=g->g<k->o.klt (KK o (arrOf y) (lo+k)) (KK o (arrOf y) (lo+g))) (λi c y' i1 i2 hy=>?_) (λc y' hy=>?_) #[rfl,0,k,rfl,by omega,by omega,by omega,λg hg=>absurd hg (by omega),λg p1 p2=>absurd p1 (by omega)]) λc y' hy=>?_)
  ·obtain⟨rfl,l,r',rfl,lr,rk,fu,lw,hw⟩:=hy;show wpS _ _ _ _ (if l>=r' then _ else _) _ _;rcases yC l r' with To|To
   ·rw[if_neg (by omega)];refine wpS_bind (MY O b2.gd hk (show lo+(l+r') / 2<_ by omega) ?_);show wpS _ _ _ _ (if o.blt (KK o (arrOf y') (lo+k)) (KK o (arrOf y') (lo+(l+r') / 2))=true then _ else _) _ _;cases hl:o.blt (KK o (arrOf y') (lo+k)) (KK o (arrOf y') (lo+(l+r') / 2)) with
    | true=>rw[if_pos rfl];exact wpS_pure #[rfl,l,(l+r') / 2,rfl,by omega,by omega,by omega,lw,λg p1 p2=>KeyOrd.klt_of_klt_of_kle hl (up _ _ p1 p2)]
    | false=>rw[if_neg yo];exact wpS_pure #[rfl,(l+r') / 2+1,r',rfl,by omega,by omega,by omega,λg p1=>KeyOrd.kle_trans (up g ((l+r') / 2) (by omega) (by omega)) hl,hw]
   ·rw[if_pos To];obtain rfl:l=r':=by omega
    exact wpS_pure #[rfl,l,l,rfl,rk,lw,hw]
  ·obtain⟨rfl,l,r',rfl,lr,rk,fu,lw,hw⟩:=hy;obtain rfl:l=r':=by omega
   exact#[rfl,l,l,rfl,rk,lw,hw]
  ·obtain⟨rfl,l,r',rfl,lk,lw,hw⟩:=hy;show wpS _ _ _ _ (moveDown' (lo+k) (lo+l)>>=λ_=>pure (ForInStep.yield (none,()))) _ _;rw[moveDown'_eq];have hz:lo+k<(arrOf y').size:=by rw[b2.gd.sz];exact hk
   refine wpS_bind (wpS_modify (wpS_pure #[rfl,#[#[(bubble_perm _ _ _).trans b2.gd.pm,b2.gd.kd,b2.gd.fl],b2.pd,λg hg=>?_],λi j By hj=>?_]))
   ·show (bubble (arrOf y') (lo+k) (lo+k - (lo+l)))[g]?=_;rw[getElem?_bubble hz _ (by omega),if_neg (by omega),if_neg (by omega)];exact b2.low g hg
   ·have kb:=λg=>KK_bubble (κ:=o) hz (show lo+k - (lo+l)<=lo+k by omega) g;rw[show lo+k - (lo+k - (lo+l))=lo+l by omega] at kb;show o.kle (KK o (bubble (arrOf y') (lo+k) (lo+k - (lo+l))) (lo+i)) (KK o (bubble (arrOf y') (lo+k) (lo+k - (lo+l))) (lo+j));rw[kb,kb];rw[QR (by omega)] at hj;have dec:∀g,lo+g - 1=lo+(g - 1)\/g=0:=λg=>by omega
    split
    ·split
     ·exact KeyOrd.kle_refl _
     ·split
      ·rw[show lo+j - 1=lo+(j - 1) by omega];exact KeyOrd.kle_of_klt (hw _ (by omega) (by omega))
      ·exact absurd By (by omega)
    ·split
     ·split
      ·exact absurd By (by omega)
      ·split
       ·rw[show lo+i - 1=lo+(i - 1) by omega,show lo+j - 1=lo+(j - 1) by omega];exact up _ _ (by omega) (by omega)
       ·exact absurd By (by omega)
     ·split
      ·exact lw _ (by omega)
      ·split
       ·rw[show lo+j - 1=lo+(j - 1) by omega];exact up _ _ (by omega) (by omega)
       ·exact up _ _ (by omega) (by omega)
 ·obtain⟨rfl,b2,up⟩:=hy;rw[Wj (by omega)] at up;exact#[rfl,b2,up]
 ·rcases Nat.eq_zero_or_pos a with h0|h0
  ·obtain rfl:i=j:=by omega
   exact KeyOrd.kle_refl _
  ·exact u i j By (by omega)
 ·obtain⟨rfl,b2,up⟩:=hy;exact wpS_pure (q y b2 up)
end
def UM (o:KeyKind) (xs:AV):List (Nat×Nat)->Nat->Nat->Prop
 | [],lo,hi=>lo=hi
 | (a,n)::r,lo,hi=>a=lo/\1<=n/\Up o (jV xs lo n)/\UM o xs r (lo+n) hi
def pr (t:Nat×Nat×Nat):Nat×Nat:=(t.1,t.2.1)
def Ue (y:SortSt):List (Nat×Nat):=(pendingOf y).toList.map pr
section
variable {prog:Be}{w:World}{A:Around}{E:AL}{s:Shared}{f:Bool}{z:AV}{o:KeyKind}
theorem UM.le:∀{l:List (Nat×Nat)} {lo hi:Nat},UM o xs l lo hi->lo+l.length<=hi
 | [],lo,hi,h=>Nat.le_of_eq h
 | (a,n)::r,lo,hi,⟨_,h1,_,h2⟩=>by
  have:=h2.le;rw[yU];omega
theorem UM.congr:∀{l:List (Nat×Nat)} {lo hi:Nat},UM o xs l lo hi->(∀k n,lo<=k->k+n<=hi->jV ys k n=jV xs k n)->UM o ys l lo hi
 | [],lo,hi,h,_=>h
 | (a,n)::r,lo,hi,⟨h0,h1,u,h2⟩,e=>by
  have:=h2.le;exact#[h0,h1,by rw[e lo n (yg _) (by omega)];exact u,h2.congr λk m hk hm=>e k m (by omega) hm]
theorem UM.app:∀{l1 l2:List (Nat×Nat)} {lo hi:Nat},UM o xs (l1++l2) lo hi->∃mid,UM o xs l1 lo mid/\UM o xs l2 mid hi
 | [],l2,lo,hi,h=>#[lo,rfl,h]
 | (a,n)::r,l2,lo,hi,⟨h0,h1,u,h2⟩=>by
  obtain⟨mid,c1,c2⟩:=UM.app h2;exact#[mid,#[h0,h1,u,c1],c2]
theorem UM.join:∀{l1 l2:List (Nat×Nat)} {lo mid hi:Nat},UM o xs l1 lo mid->UM o xs l2 mid hi->UM o xs (l1++l2) lo hi
 | [],l2,lo,mid,hi,h,c=>by obtain rfl:lo=mid:=h;exact c
 | (a,n)::r,l2,lo,mid,hi,⟨h0,h1,u,h2⟩,c=>#[h0,h1,u,h2.join c]
theorem aK {st:SortSt}{hi:Nat}{Q:Bool->SortSt->Prop} (O:UD prog w A s f o z) (g:Gd f z st) (c:UM o (arrOf st) (Ue st) 0 hi) (hh:hi<=z.size) (uZ:i+1<(pendingOf st).size)
  (q:∀y,Gd f z y->UM o (arrOf y) (Ue y) 0 hi->(pendingOf y).size+1=(pendingOf st).size->(∀k n,hi<=k->jV (arrOf y) k n=jV (arrOf st) k n)->Q true y):wpS (model prog w) A E s (mergeAt' i) Q st:=by
 obtain⟨l1,x1,x2,l2,hl,h1⟩:∃l1 x1 x2 l2,(pendingOf st).toList=l1++x1::x2::l2/\l1.length=i:=by
  have h1:i+1<(pendingOf st).toList.length:=by rw[yr];exact uZ
  refine#[(pendingOf st).toList.take i,(pendingOf st).toList[i],(pendingOf st).toList[i+1],(pendingOf st).toList.drop (i+2),?_,by rw[yO];omega];have e:=(y9 i (pendingOf st).toList).symm;rw[Qc (by omega),Qc h1] at e;exact e
 obtain⟨sa,na,pa⟩:=x1;obtain⟨sb,nb,pb⟩:=x2;have er:Ue st=l1.map pr++(sa,na)::(sb,nb)::l2.map pr:=by
  unfold Ue;rw[hl,yn,yH,yH];rfl
 rw[er] at c;obtain⟨mid,c1,h2,n1,u1,h3,n2,u2,c2⟩:=c.app;subst h2;subst h3;have l3:=c2.le;rw[<-h1];refine sR O g hl rfl n1 n2 (by omega) u1 u2 λy gy py up low high=>q y gy ?_ ?_ λk n hk=>high k n (by omega)
 ·have ey:Ue y=l1.map pr++(sa,na+nb)::l2.map pr:=by
   unfold Ue;rw[py,yn,yH];rfl
  rw[ey];refine UM.join (c1.congr λk n _ hk=>low k n hk) #[rfl,by omega,up,?_];rw[<-Nat.add_assoc];exact c2.congr λk n hk _=>high k n hk
 ·have e1:=congrArg List.length py;have e2:=congrArg List.length hl;simp only[yr,ye,yU] at e1 e2;omega
theorem qG {k:Nat} (h:∀i,i<lo->ys[i]?=xs[i]?) (hk:k+n<=lo):jV ys k n=jV xs k n:=by
 apply Q6
 intro i;unfold jV;rw[List.getElem?_take,List.getElem?_take];split
 ·rw[List.getElem?_drop,List.getElem?_drop,yI,yI];exact h _ (by omega)
 ·rfl
theorem SU.up {m:Nat} (u:SU o xs lo m) (h:lo+m<=xs.size):Up o (jV xs lo m):=by
 have kk:∀{k} (hk:k<xs.size),KK o xs k=kv o xs[k]:=λ{k} hk=>by unfold KK;rw[getElem?_pos xs k hk];rfl
 refine QM.mpr λi j hi hj By=>?_;rw[qF h] at hi hj;rw[ZW _ (by omega),ZW _ (by omega)];have:=u i j (by omega) hj;rw[kk (by omega),kk (by omega)] at this;exact this
theorem lK:(ps.modify i λ(t:Nat×Nat×Nat)=>match t with|(a,n,_)=>(a,n,pw)).toList.map pr=ps.toList.map pr:=by
 apply Q6
 intro k;rw[yj,yj,yI,yI,Array.getElem?_modify];split
 ·cases ps[k]? with
  | none=>rfl
  | some t=>rfl
 ·rfl
structure Bt (o:KeyKind) (f:Bool) (z:AV) (lo:Nat) (y:SortSt):Prop where
 gd:Gd f z y
 cv:UM o (arrOf y) (Ue y) 0 lo
def cH (n pw:Nat):StateT SortSt Sem (Option Unit×Unit) :=
 forIn [0:n] ((none,()):Option Unit×Unit) λ_ _=>do
  let p:=pendingOf (<-get)
  let some (_,_,older):=(if p.size > 1 then p[p.size - 2]? else none)|pure (.done (none,()))
  if older<=pw then pure (.done (none,()))
  else
   if !(<-mergeAt' (p.size - 2)) then pure (.done (some (),())) else pure (.yield (none,()))
theorem MZ {st:SortSt}{m:Nat}{Q:Option Unit×Unit->SortSt->Prop} (O:UD prog w A s f o z) (b:Bt o f z lo st) (hl:lo<=z.size) (u:Up o (jV (arrOf st) lo m)) (q:∀y,Bt o f z lo y->Up o (jV (arrOf y) lo m)->Q (none,()) y):wpS (model prog w) A E s (cH n pw) Q st:=by
 refine wpS_forRange (I:=λ_ c y=>c=(none,())/\Bt o f z lo y/\Up o (jV (arrOf y) lo m)) (λi c y _ _ hy=>?_) (λc y hy=>?_) #[rfl,b,u]
 ·obtain⟨rfl,b1,u1⟩:=hy;refine wpS_bind (wpS_get ?_);dsimp only;rcases yC 1 (pendingOf y).size with h1|h1
  ·rw[if_pos h1,getElem?_pos (pendingOf y) _ (show (pendingOf y).size - 2<_ by omega)];show wpS _ _ _ _ (if _<=pw then _ else _) _ _;split
   ·exact wpS_pure (q y b1 u1)
   ·refine wpS_bind (aK O b1.gd b1.cv hl (by omega) λy2 g2 c2 _ uZ=>?_);exact wpS_pure #[rfl,#[g2,c2],by rw[uZ lo m (yg _)];exact u1]
  ·rw[if_neg (by omega)];exact wpS_pure (q y b1 u1)
 ·obtain⟨rfl,b1,u1⟩:=hy;exact q y b1 u1
theorem Bt.add {m:Nat}{y:SortSt} (b:Bt o f z lo y) (u:Up o (jV (arrOf y) lo m)) (hm:1<=m):Bt o f z (lo+m) (setPending y ((pendingOf y).push (lo,m,0))):=by
 refine#[#[b.gd.pm,b.gd.kd,b.gd.fl],?_];have e:Ue (setPending y ((pendingOf y).push (lo,m,0)))=Ue y++[(lo,m)]:=by
  show ((pendingOf y).push (lo,m,0)).toList.map pr=_;rw[Array.toList_push,yn];rfl
 show UM o (arrOf y) (Ue (setPending y ((pendingOf y).push (lo,m,0)))) 0 (lo+m);rw[e];exact b.cv.join #[rfl,hm,u,rfl]
theorem Bt.mod {y:SortSt} (b:Bt o f z lo y):Bt o f z lo (setPending y ((pendingOf y).modify i λ(t:Nat×Nat×Nat)=>match t with|(a,n,_)=>(a,n,pw))):=by
 refine#[#[b.gd.pm,b.gd.kd,b.gd.fl],?_];show UM o (arrOf y) (((pendingOf y).modify i λ(t:Nat×Nat×Nat)=>match t with|(a,n,_)=>(a,n,pw)).toList.map pr) 0 lo;rw[lK];exact b.cv
theorem Bt.run {x y:SortSt} (b:Bt o f z lo x) (r:Rn f z x lo y):Bt o f z lo y:=by
 refine#[r.gd,?_];have e:Ue y=Ue x:=by unfold Ue;rw[r.pd]
 rw[e];exact b.cv.congr λk n _ hk=>qG r.low hk
theorem aY {st:SortSt}{Q:Unit->SortSt->Prop} (O:UD prog w A s f o z) (g:Gd f z st) (p0:pendingOf st=(List.toArray [])) (h2:2<=z.size)
  (q:∀y,Gd f z y->Up o (arrOf y).toList->Q () y):wpS (model prog w) A E s sortRuns' Q st:=by
 rw[sortRuns'_eq];refine wpS_bind (wpS_get ?_);simp only[g.sz];generalize minRun' z.size z.size 0=mr;have b0:Bt o f z 0 st:=#[g,by unfold Ue;rw[p0];rfl];refine wpS_bind (wpS_mono (wpS_forRange (I:=λi c y=>c.1=none/\c.2<=z.size/\i<=c.2/\Bt o f z c.2 y) (Q:=λc y=>c=(none,z.size)/\Bt o f z z.size y) (λi c y _ hi hy=>?_) (λc y hy=>?_) #[rfl,yV _,yg _,b0]) λc y hy=>?_)
 ·obtain⟨c1,lo⟩:=c;obtain⟨e1,hl,E0,b⟩:=hy;change c1=none at e1;change lo<=z.size at hl;change i<=lo at E0;change Bt o f z lo y at b;subst e1;show wpS _ _ _ _ (if lo>=z.size then _ else _) _ _;rcases yC lo z.size with Py|Py
  ·rw[if_neg (by omega)];refine wpS_bind (rT O (show lo+(z.size - lo)<=_ by omega) (by omega) b.gd λm y1 r1 m1 m2 su=>?_);have tail:∀(y2:SortSt) (k:Nat),Bt o f z lo y2->Up o (jV (arrOf y2) lo k)->1<=k->lo+k<=z.size->∀c:Option Unit×Nat,c=(none,lo+k)->c.1=none/\c.2<=z.size/\i+1<=c.2/\Bt o f z c.2 (setPending y2 ((pendingOf y2).push (lo,k,0))):=λy2 k b2 u2 k1 k2 c hc=>by
    subst hc;exact#[rfl,k2,by show i+1<=lo+k;omega,b2.add u2 k1]
   show wpS _ _ _ _ (if m<mr then _ else _) _ _;have rest:∀(y2:SortSt) (k:Nat),Rn f z y lo y2->SU o (arrOf y2) lo k->1<=k->lo+k<=z.size->Bt o f z lo y2/\Up o (jV (arrOf y2) lo k):=λy2 k r2 P2 k1 k2=>#[b.run r2,P2.up (by rw[r2.gd.sz];exact k2)];split
   ·refine wpS_bind (wpS_lift (wpAny_rule #[rfl,wpS_bind (rQ (x:=y) O (show lo+min (z.size - lo) mr<=_ by omega) (by omega) r1 su λy2 r2 P2=>?_)]));obtain⟨b2,u2⟩:=rest y2 _ r2 P2 (by omega) (by omega);refine wpS_bind (wpS_get ?_);cases hb:(pendingOf y2).back? with
    | none=>exact wpS_bind (wpS_modify (wpS_pure (tail y2 _ b2 u2 (by omega) (by omega) _ rfl)))
    | some t =>
     obtain⟨s1,n1,p1⟩:=t;show wpS _ _ _ _ (cH z.size _>>=_) _ _;refine wpS_bind (MZ O b2 hl u2 λy3 b3 u3=>?_);exact wpS_bind (wpS_modify (wpS_bind (wpS_modify (wpS_pure (tail _ _ b3.mod u3 (by omega) (by omega) _ rfl)))))
   ·obtain⟨b2,u2⟩:=rest y1 _ r1 su m1 (by omega);refine wpS_bind (wpS_get ?_);cases hb:(pendingOf y1).back? with
    | none=>exact wpS_bind (wpS_modify (wpS_pure (tail y1 _ b2 u2 m1 (by omega) _ rfl)))
    | some t =>
     obtain⟨s1,n1,p1⟩:=t;show wpS _ _ _ _ (cH z.size _>>=_) _ _;refine wpS_bind (MZ O b2 hl u2 λy3 b3 u3=>?_);exact wpS_bind (wpS_modify (wpS_bind (wpS_modify (wpS_pure (tail _ _ b3.mod u3 m1 (by omega) _ rfl)))))
  ·rw[if_pos Py];obtain rfl:lo=z.size:=by omega
   exact wpS_pure #[rfl,b]
 ·obtain⟨c1,lo⟩:=c;obtain⟨e1,hl,E0,b⟩:=hy;change c1=none at e1;change lo<=z.size at hl;change max 0 z.size<=lo at E0;change Bt o f z lo y at b;obtain rfl:lo=z.size:=by omega
  subst e1;exact#[rfl,b]
 ·obtain⟨rfl,b⟩:=hy;have len:∀y',Bt o f z z.size y'->(pendingOf y').size<=z.size:=λy' b'=>by
   have:=b'.cv.le;unfold Ue at this;rw[yb,yr] at this;omega
  refine wpS_bind (wpS_mono (wpS_forRange (I:=λi c y=>c=(none,())/\Bt o f z z.size y/\((pendingOf y).size<=1\/(pendingOf y).size+i<=z.size)) (Q:=λc y=>c=(none,())/\Bt o f z z.size y/\(pendingOf y).size<=1) (λi c y _ _ hy=>?_) (λc y hy=>?_) #[rfl,b,.inr (by have:=len y b;omega)]) λc y hy=>?_)
  ·obtain⟨rfl,b1,hp⟩:=hy;refine wpS_bind (wpS_get ?_);show wpS _ _ _ _ (if (pendingOf y).size<=1 then _ else _) _ _;rcases yC 1 (pendingOf y).size with h1|h1
   ·rw[if_neg (by omega)];have fin:∀k,k+1<(pendingOf y).size->∀{R:Bool->SortSt->Prop},(∀y2,Bt o f z z.size y2->(pendingOf y2).size+1=(pendingOf y).size->R true y2)->wpS (model prog w) A E s (mergeAt' k) R y:=λk hk R hR=>aK O b1.gd b1.cv (yg _) hk λy2 g2 c2 e2 _=>hR y2 #[g2,c2] e2;refine wpS_bind (fin _ ?_ λy2 b2 e2=>wpS_pure #[rfl,b2,.inr (by omega)]);have hi:∀bb:Bool,(if bb=true then (pendingOf y).size - 2 - 1 else (pendingOf y).size - 2)+1<(pendingOf y).size:=λbb=>by
     cases bb
     ·rw[if_neg yo];omega
     ·rw[if_pos rfl];omega
    exact hi _
   ·rw[if_pos h1];exact wpS_pure #[rfl,b1,h1]
  ·obtain⟨rfl,b1,hp⟩:=hy;exact#[rfl,b1,by omega]
  ·obtain⟨rfl,b1,hp⟩:=hy;refine wpS_pure (q y b1.gd ?_);have cv:=b1.cv;have hlen:(Ue y).length<=1:=by unfold Ue;rw[yb,yr];exact hp
   match hr:Ue y,hlen with
   | [],_ =>
    rw[hr] at cv;have:(0:Nat)=z.size:=cv;omega
   | [(a,n)],_ =>
    rw[hr] at cv;obtain⟨_,_,u,e⟩:=cv;have e2:0+n=z.size:=e;have e3:jV (arrOf y) 0 n=(arrOf y).toList:=by
     unfold jV;rw[List.drop_zero];exact QK (by rw[yr,b1.gd.sz];omega)
    rw[e3] at u;exact u
end
def VR (h:Heap) (d:Addr) (es:Array DictEntry) (ep:Nat):Prop:=∃ob,h.get? d=some ob/\ob.ExactDict/\ob.data=.dict es ep
theorem VR.typeIs {s:Shared}{d:Addr}{es:Array DictEntry}{ep:Nat} (x:VR s.heap d es ep):s.TypeIs (.ref d) "dict":=by
 obtain⟨ob,e,c,_⟩:=x;exact#[ob,e,c.1]
section
variable {prog:Be}{w:World}{A:Around}{E:AL}{s:Shared}{d t:Addr}{es:Array DictEntry}{ep i:Nat}
theorem MQ {Q:AL} (hd:(d==sysModules)=false) (x:VR s.heap d es ep)
  (q:Q (.ref s.heap.objs.size) { s with heap:=s.heap.push { cls:=.type "dict_keyiterator",data:=.fields (List.toArray [.ref d,.int 0 0,.int es.size 0,.int ep 0]) } }):wpAny (model prog w) A (pyIter (.ref d)) Q E s:=by
 have ty:=x.typeIs;obtain⟨ob,e,c,dt⟩:=x;refine wpAny_pyIter_slot ty F.slot_dict_iter (wpAny_call_entry F.slot_dict_iter ty F.entry_dict_iter (Bf ?_) (F.args_dict_iter_1 _));refine Bf (wpAny_notOrdered_dict ty ?_);show wpAny _ _ (pure (Value.ref d)) _ _ s;refine Bg ?_;show wpAny _ _ (Builtin.Dict.showsAll d>>=_) _ _ s;unfold Builtin.Dict.showsAll;rw[if_neg (by rw[hd];decide)];refine Bf (Bg (Bf (wpAny_dictEntries e dt (Bf (wpAny_dictEpoch e dt ?_)))));exact Bf (wpAny_newObj_type (Bg #[_,rfl,"dict_keyiterator",_,#[_,yz _ rfl,rfl],F.slot_dict_keyiterator_next.lookup,q]))
theorem M3 {Q:AO} (k:s.heap.IsKeyIter t d i es.size ep) (x:VR s.heap d es ep) (hi:i<es.size)
  (q:∀h',h'.IsKeyIter t d (i+1) es.size ep->Heap.SameBut t s.heap h'->Q (some es[i].key) { s with heap:=h' }):wpAny (model prog w) A (pyNext (.ref t)) Q E s:=by
 have ty:=k.typeIs;obtain⟨oi,e,c,dt⟩:=id k;obtain⟨ob,e2,_,Le⟩:=x;refine Bf (wpAny_attempt (wpAny_callSpecial?_slot (name:=Str.ofString "__next__") ty F.slot_dict_keyiterator_next (wpAny_call_entry F.slot_dict_keyiterator_next ty F.entry_dict_keyiterator_next (Bf (Bg (Bf (Bf ?_)))) (F.args_dict_keyiterator_next_1 _))));refine Bf (wpAny_typeNameOfWhole_keyiter ty (Bg (Bf (wpAny_fieldsOf e dt ?_))));rw[show Builtin.Dict_items.ownsTuple "dict_keyiterator"=false by decide];show wpAny _ _ (if (Value.ref d==Value.none)=true then _ else _) _ _ s;rw[if_neg (λz=>yo z)];refine Bf (Bg (Bf (wpAny_dictEntries e2 Le ?_)));rw[if_neg (by simp)];refine Bf (Bg (Bf (wpAny_dictEpoch e2 Le ?_)));rw[if_neg (by simp)];refine Bg ?_;simp only[show ¬((i:Int)<0) by omega,if_false,Q0,Qi hi];refine Bf (Bf (wpAny_typeNameOfWhole_keyiter ty (Bg (Bf (wpAny_isOneOf_keyiter ty ?_)))));show wpAny _ _ (setField (.ref t) 1 (rawInt ((i:Int)+1))>>=_) _ _ s;refine Bf (wpAny_setField e dt (by simp) ?_);have k2:(s.heap.update t (Obj.mapFields (·.setIfInBounds 1 (rawInt ((i:Int)+1))))).IsKeyIter t d (i+1) es.size ep:=#[_,Qt _ e (Obj.isFreed_of_fields (Obj.data_mapFields dt _)),(Obj.cls_mapFields ..).trans c,by rw[Obj.data_mapFields dt];simp [rawInt]];refine Bf (wpAny_holding (Bf (wpAny_isOneOf_keyiter (s:={ s with heap:=s.heap.update t (Obj.mapFields (·.setIfInBounds 1 (rawInt ((i:Int)+1)))) }) k2.typeIs ?_)));show wpAny _ _ (pure es[i].key) _ _ _;exact Bg (Bg #[_,rfl,Bg (q _ k2 (Heap.SameBut.update ..))])
theorem n6 {Q:AO} (hh:A.handled=none) (k:s.heap.IsKeyIter t d i es.size ep) (x:VR s.heap d es ep) (hi:es.size<=i)
  (q:∀h',Heap.ExtBut t s.heap h'->Q none { s with heap:=h' }):wpAny (model prog w) A (pyNext (.ref t)) Q E s:=by
 have ty:=k.typeIs;obtain⟨oi,e,c,dt⟩:=id k;obtain⟨ob,e2,_,Le⟩:=x;refine Bf (wpAny_attempt (wpAny_callSpecial?_slot (name:=Str.ofString "__next__") ty F.slot_dict_keyiterator_next (wpAny_call_entry F.slot_dict_keyiterator_next ty F.entry_dict_keyiterator_next (Bf (Bg (Bf (Bf ?_)))) (F.args_dict_keyiterator_next_1 _))));refine Bf (wpAny_typeNameOfWhole_keyiter ty (Bg (Bf (wpAny_fieldsOf e dt ?_))));rw[show Builtin.Dict_items.ownsTuple "dict_keyiterator"=false by decide];show wpAny _ _ (if (Value.ref d==Value.none)=true then _ else _) _ _ s;rw[if_neg (λz=>yo z)];refine Bf (Bg (Bf (wpAny_dictEntries e2 Le ?_)));rw[if_neg (by simp)];refine Bf (Bg (Bf (wpAny_dictEpoch e2 Le ?_)));rw[if_neg (by simp)];refine Bg ?_;simp only[show ¬((i:Int)<0) by omega,if_false,Q0,Array.getElem?_eq_none hi];refine Bf (Bf (wpAny_typeNameOfWhole_keyiter ty (Bg ?_)));show wpAny _ _ (setField (.ref t) 0 .none>>=_) _ _ s;refine Bf (wpAny_setField e dt (by simp) ?_);show wpAny _ _ (newExc (.type "StopIteration") []>>=_) _ _ _;refine Bf ?_;simp only[newExc,newTuple];refine Bf (wpAny_newObj_type (Bf (m:=firstArgMember _ _) (wpAny_of_eq (a:=Value.none) (by simp only[firstArgMember];rfl) (wpAny_newObj_type ?_ (by size_fits)))) (by size_fits));simp only[raiseNew];refine Bf (wpAny_handled ?_);rw[show A.in1.handled=none from hh];refine Bf (Bg (wpAny_throw ?_));exact Bf (wpAny_isInstance (T:="StopIteration") (b:=true) #[_,yz _ rfl,rfl] isSubtype_stop (Bg (q _ (((Heap.SameBut.update ..).extBut.push _).push _))))
theorem VR.keep (x:VR h d es ep) (k:∀o,h.get? d=some o->h'.get? d=some o):VR h' d es ep:=by
 obtain⟨ob,e,c⟩:=x;exact#[ob,k _ e,c]
theorem qV (hd:(d==sysModules)=false):KdlSrc prog w "dict" d d es.size (λi v=>∃hi:i<es.size,v=es[i].key) (λh=>VR h d es ep) where
 type:=λ_ x=>x.typeIs
 there:=λ_ x=>by obtain⟨ob,e,_⟩:=x;exact#[yq e,yq e]
 keep:=λ_ _ x k=>x.keep λo e=>k d (.inl rfl) o e
 notList:=by decide
 notTuple:=by decide
 hint:=λ_ _ _ _ x q=>PySem.W.kdl_hint_dict x.typeIs q
 iter:=λA s hh x=>by
  have Bj:d<s.heap.objs.size:=by obtain⟨ob,e,_⟩:=x;exact yq e
  refine#[{ cls:=.type "dict_keyiterator",data:=.fields (List.toArray [.ref d,.int 0 0,.int es.size 0,.int ep 0]) },λi h=>h.IsKeyIter s.heap.objs.size d i es.size ep/\VR h d es ep,λE Q q=>MQ hd x q,?_,#[_,yz _ rfl,rfl,rfl],x.keep λo e=>yd _ e];refine#[λb hb=>by simp at hb;simp [hb],λi h h' st k=>#[?_,st.2.keep λo e=>k d (by simp) o e],λi s' Q E hi st q=>?_,λs' Q E st q=>?_,λi s' Q E st q=>wpAny_pyIter_keyiter st.1 q]
  ·obtain⟨ob,e,r⟩:=st.1;exact#[ob,k _ (by simp) ob e,r]
  ·refine M3 st.1 st.2 hi λh' k' sb=>q _ h' s'.toks #[hi,rfl] #[k',st.2.keep λo e=>sb.extBut d o (yE Bj) e] λb o hb e=>sb.extBut b o (λz=>hb (by simp [z])) e
  ·refine n6 hh st.1 st.2 (yg _) λh' eb=>q h' s'.toks λb o hb e=>eb b o (λz=>hb (by simp [z])) e
theorem qD {Q:AL} (hh:A.handled=none) (hd:(d==sysModules)=false) (x:VR s.heap d es ep) (hn:es.size<=sizeLine)
  (q:∀h' tk acc c,(∀b o,s.heap.get? b=some o->h'.get? b=some o)->h'.get? s.heap.objs.size=some { cls:=.type "list",dict:=none,data:=.seq acc c,slots:=(List.toArray []) }->ItemsOf (λi v=>∃hi:i<es.size,v=es[i].key) acc es.size->Q (.ref s.heap.objs.size) { s with heap:=h',toks:=tk }) :
  wpAny (model prog w) A (runValue (.builtin "proto.collect" #[[.ref d],[]])) Q E s:=by
 have Bj:d<s.heap.objs.size:=by obtain⟨ob,e,_⟩:=x;exact yq e
 have ne:s.heap.objs.size≠d:=Wg Bj;refine wpAny_runValue (codeAny_builtin F.entry_proto_collect ?_);rw[Around.under_plainId F.plain_proto_collect _];refine Bf (m:=newList []) (wpAny_newObj_type (Bg #[plainId_quiet F.plain_list_iadd _,codeAny_builtin F.entry_list_iadd ?_]));rw[Around.under_plainId F.plain_list_iadd _];have x2:VR (s.heap.push { cls:=.type "list",data:=.seq ([]:AW).toArray }) d es ep:=x.keep λo e=>yd _ e;exact kdl_extend (s:={ s with heap:=s.heap.push { cls:=.type "list",data:=.seq ([]:AW).toArray } }) (R:=λr s'=>match r with|.ok (.ret v)=>Q v s'|.ok _=>False|.error e=>E e s') (qV (es:=es) (ep:=ep) hd) hh x2 _ ne ne (.ref s.heap.objs.size) 0 (yz _ rfl)
  (λh' tk acc c kp e items=>q h' tk acc c (λb o hb=>kp b o (yE (yq hb)) (yd _ hb)) e items) hn
theorem Nt {Q:List Value->Shared->Prop} (hh:A.handled=none) (hd:(d==sysModules)=false) (x:VR s.heap d es ep) (hn:es.size<=sizeLine)
  (q:∀h' tk,(∀b o,s.heap.get? b=some o->h'.get? b=some o)->s.heap.objs.size<h'.objs.size->Q (es.toList.map (·.key)) { s with heap:=h',toks:=tk }):wpAny (model prog w) A (collect (.ref d)) Q E s:=by
 refine Bf (qD hh hd x hn λh' tk acc c kp e items=>?_);show wpAny _ A (load s.heap.objs.size>>=_) _ _ _;refine Bf (wpAny_load e (Bg ?_));have ea:acc.toList=es.toList.map (·.key):=by
  apply Q6
  intro k;rw[yj,yI,yI];rcases yC k es.size with hk|hk
  ·have h1:k<acc.size:=by rw[items.1];exact hk
   rw[getElem?_pos es k hk,getElem?_pos acc k h1];obtain⟨_,e2⟩:=items.2 k acc[k] (getElem?_pos acc k h1);rw[e2];rfl
  ·rw[getElem?_neg es k (by omega),getElem?_neg acc k (by rw[items.1];omega)];rfl
 rw[ea];exact q h' tk kp (yq e)
end
section
variable {prog:Be}{w:World}{A:Around}{E:AL}{s:Shared}
theorem TupAt.keep {v:Value}{ks:List L2.Key} (t:TupAt h v ks) (k:∀b o,h.get? b=some o->h'.get? b=some o):TupAt h' v ks:=by
 obtain⟨b,o2,us,n,rfl,e,r⟩:=t;exact#[b,o2,us,n,rfl,k _ _ e,r]
theorem tE {vs:AW}{y:AV} (pm:y.Perm (pairsOf vs)) (up:Up (kind kc) y.toList) :
  ∃out:List Value,(y.map (·.2))=out.toArray/\out.Perm vs/\out.Pairwise λu v=>lx (kc v) (kc u)=false:=by
 have pl:y.toList.Perm (vs.zip vs):=pairsOf_toList vs▸Array.perm_iff_toList_perm.mp pm;have hm:∀p∈y.toList,p.1=p.2:=λp hp=>(mem_zip_self (pl.mem_iff.mp hp)).1;refine#[y.toList.map (·.2),by rw[<-Array.toList_map,Array.toArray_toList],?_,?_]
 ·have:=pl.map Prod.snd;rwa [List.map_snd_zip (yg _)] at this
 ·refine Qo.mpr (up.imp_of_mem λ{p q} hp hq h=>?_);rw[<-hm p hp,<-hm q hq];exact h
theorem nN {α:Type}{R:α->α->Prop}{l:List α} (h:l.length<2):l.Pairwise R:=by
 cases l with
 | nil=>exact List.Pairwise.nil
 | cons v l =>
  cases l with
  | nil=>exact QE _ _
  | cons u l=>exact absurd h (by simp)
theorem lW {a:Addr}{vs:AW}{P:Fin->Shared->Prop} (ho:s.heap.get? a=some (seqObj "list" vs.toArray n)) (ht:∀v∈vs,TupAt s.heap v (kc v)) (hs:∀v∈vs,sd (kc v)=d) (hd:d≠[]) (hl:vs.length<=sizeLine)
  (q:∀out:List Value,out.Perm vs->(out.Pairwise λu v=>lx (kc v) (kc u)=false)->P (.done (.ret .none)) { s with heap:=sortedHeap s.heap a vs out.toArray }):wpAny (model prog w) A (Builtin.«list.sort» #[[.ref a],[]]) P E s:=by
 rw[list_sort_plain];refine Bf (listItems_at ho rfl (Bf (listUpdate_at ho rfl ?_ (by rw[yk];exact hl))));have g1:=get?_update_seq ho (λ_=>(List.toArray []));refine Bf (seqEpoch_at g1 rfl (Bf (wpAny_newTuple (Bf (wpAny_newList (wpAny_holding ?_))))));have g2:(((s.heap.update a (Obj.mapSeq λ_=>(List.toArray []))).push (seqObj "tuple" vs.toArray 0)).push (seqObj "list" (List.toArray []) 0)).get? a=_:=yd _ (yd _ g1);have FT:∀v∈vs,TupAt (((s.heap.update a (Obj.mapSeq λ_=>(List.toArray []))).push (seqObj "tuple" vs.toArray 0)).push (seqObj "list" (List.toArray []) 0)) v (kc v):=λv hv=>(((ht v hv).upd ho rfl).push _).push _;have room:∀y:Array Keyed,y.Perm (pairsOf vs)->(y.map (·.2)).size<=sizeLine+1:=λy hy=>by
  rw[Array.size_map,hy.size_eq,pairsOf_size];omega
 have fin:∀y:SortSt,(arrOf y).Perm (pairsOf vs)->Up (kind kc) (arrOf y).toList->P (.done (.ret .none)) { s with heap:=sortedHeap s.heap a vs ((arrOf y).map (·.2)) }:=λy pm up=>by
  obtain⟨out,e,p,w⟩:=tE pm up;rw[e];exact q out p w
 rcases yC vs.length 2 with h2|h2
 ·rw[if_pos (by simpa using h2),if_pos (by simpa using h2)];refine Bf (Bg ?_);dsimp only;rw[StateT.run_pure];refine Bf (Bg (Bf (seqEpoch_at g2 rfl (Bf (listUpdate_at g2 rfl ?_ (hsz2:=room _ (Array.Perm.refl _)))))));simp only[bne_self_eq_false,Qb,if_false];refine Bg (fin (SortSt.mk' general' (pairsOf vs) (List.toArray []) 7 none) (Array.Perm.refl _) ?_);show Up _ (pairsOf vs).toList;rw[pairsOf_toList];exact nN (by rw[List.length_zip,Nat.min_self];exact h2)
 ·rw[if_neg (by simpa using h2),if_neg (by simpa using h2)];refine Bf (i9 h2 FT hs hd ?_);refine Bf (wpAny_mono (aY (o:=kind kc) (z:=pairsOf vs) (f:=true) (st:=SortSt.mk' (tuples' true) (vs.toArray.zip vs.toArray) (List.toArray []) 7 none) (Q:=λ_ y=>Gd true (pairsOf vs) y/\Up (kind kc) (arrOf y).toList) (tD FT hs true) #[Array.Perm.refl _,rfl,rfl] rfl (by rw[pairsOf_size];exact h2) λy p1 p2=>#[p1,p2]) ?_ λ_ _ e=>e);rintro⟨⟨⟩,y⟩ s2 ⟨rfl,gd,up⟩;refine Bf (seqEpoch_at g2 rfl (Bf (listUpdate_at g2 rfl ?_ (hsz2:=room _ gd.pm))));rw[gd.fl];simp only[bne_self_eq_false,Qb,if_false];exact Bg (fin y gd.pm up)
theorem sortedHeap_at {a:Addr}{vs:AW}{out:A2} (ho:h.get? a=some (seqObj "list" vs.toArray n)):∃c,(sortedHeap h a vs out).get? a=some (seqObj "list" out c)/\∀b o,b≠a->h.get? b=some o->(sortedHeap h a vs out).get? b=some o:=by
 have g1:=get?_update_seq ho (λ_=>(List.toArray []));have g2:(((h.update a (Obj.mapSeq λ_=>(List.toArray []))).push (seqObj "tuple" vs.toArray 0)).push (seqObj "list" (List.toArray []) 0)).get? a=_:=yd _ (yd _ g1);have g3:=get?_update_seq g2 (λ_=>out);refine#[_,g3,λb o hb e=>?_];exact (yN _ _ (yP hb)).trans (yd _ (yd _ ((yN _ _ (yP hb)).trans e)))
theorem ZG {x:Value}{vs:AW}{kc:Value->List L2.Key}{d:List Bool}{Q:AL} (hc:∀R:List Value->Shared->Prop,(∀h' tk,(∀b o,s.heap.get? b=some o->h'.get? b=some o)->s.heap.objs.size<h'.objs.size->R vs { s with heap:=h',toks:=tk })->wpAny (model prog w) A.in1 (collect x) R E s)
  (ht:∀v∈vs,TupAt s.heap v (kc v)) (hs:∀v∈vs,sd (kc v)=d) (hd:d≠[]) (hl:vs.length<=sizeLine)
  (q:∀(h':Heap) (tk c:Nat) (p:Addr) (out:AW),(∀b o,s.heap.get? b=some o->h'.get? b=some o)->s.heap.objs.size<=p->h'.get? p=some (seqObj "list" out.toArray c)->out.Perm vs->(out.Pairwise λu v=>lx (kc v) (kc u)=false)->Q (.ref p) { s with heap:=h',toks:=tk }) :
  wpAny (model prog w) A (call (.builtin "sorted") [x]) Q E s:=by
 refine Calls.call_function_entry kind_sorted plain_sorted entry_sorted (args_sorted1 _) ?_;refine Bf (m:=checkCount "sorted" 1 1 _) (Bg ?_);refine Bf (hc _ λh' tk kp lt=>?_);refine Bf (wpAny_newList ?_);have e1:(h'.push (seqObj "list" vs.toArray 0)).get? h'.objs.size=some (seqObj "list" vs.toArray 0):=yz _ rfl;have Eo:∀b o,s.heap.get? b=some o->(h'.push (seqObj "list" vs.toArray 0)).get? b=some o:=λb o e=>yd _ (kp b o e);refine Bf (wpAny_holding (wpAny_call_entry slot_list_sort #[_,e1,rfl] entry_list_sort (lW e1 (λv hv=>(ht v hv).keep Eo) hs hd hl λout pm up=>#[_,rfl,Bg #[_,rfl,?_]]) (args_list_sort _)));obtain⟨c,g1,g2⟩:=sortedHeap_at (out:=out.toArray) e1;exact q _ tk c _ out (λb o e=>g2 b o (yE (Nat.lt_trans (yq e) lt)) (Eo b o e)) (Nat.le_of_lt lt) g1 pm up
end
end TS
namespace L2
open PySem PyProof.Rows TS
variable {H:Hp}{b:Addr}{k:List Key}
def pJ:V->Key|.int n=>.inl n|.str x=>.inr x|_=>.inl 0
theorem wA (k:Key):pJ (kV k)=k:=by cases k<;>rfl
def Ug (H:Hp) (bs:AX) (ks:List (List Key)):Prop:=bs.length=ks.length/\∀(i:Nat) (b:Addr) (k:List Key),bs[i]?=some b->ks[i]?=some k->H b=some (.tup (k.map kV))
def uF (H:Hp):Value->List Key
 | .ref b=>match H b with|some (.tup ys)=>ys.map pJ|_=>[]
 | _=>[]
theorem uO (e:H b=some (.tup (k.map kV))):uF H (.ref b)=k:=by
 show (match H b with|some (.tup ys)=>ys.map pJ|_=>[])=k;rw[e];show (k.map kV).map pJ=k;rw[Qr];exact (QB λx _=>wA x).trans (List.map_id _)
theorem MR:∀{ks:List Key} {us:AW},jA (ks.map kV) us->U9 ks us
 | [],_,h=>by rw[Wh] at h;cases h;exact .nil
 | k::ks,_,h=>by
  rw[yH] at h;cases h with
  | cons r t =>
   refine .cons ?_ (MR t);cases k with
   | inl n=>exact r
   | inr x=>exact r
theorem g9 {P:Be}{w:World}{h:Heap} (ok:Ji P w H h) (e:H b=some (.tup (k.map kV))):TS.TupAt h (.ref b) k:=by
 obtain⟨_,Bi,r,o,h1,h2,n,h3⟩:=(show j8 P w H h b (.tup (k.map kV)) from ok b _ e);exact#[b,o,Bi,n,rfl,h1,h2,h3,MR r]
def zf:Value->Addr|.ref b=>b|_=>0
theorem gV {vs out:AW}{ks:List (List Key)} (hv:∀v∈vs,∃(b:Addr) (k:List Key),v=.ref b/\H b=some (.tup (k.map kV))) (hk:vs.map (uF H)=ks) (pm:out.Perm vs) (up:out.Pairwise λu v=>lx (uF H v) (uF H u)=false) :
  jA ((out.map zf).map V.ref) out/\Ug H (out.map zf) (out.map (uF H))/\(out.map (uF H)).Perm ks/\(out.map (uF H)).Pairwise λa b=>lx b a=false:=by
 have ho:∀v∈out,∃(b:Addr) (k:List Key),v=.ref b/\H b=some (.tup (k.map kV)):=λv h=>hv v (pm.mem_iff.mp h);refine#[?_,#[by rw[yb,yb],λi b k h1 h2=>?_],hk▸pm.map _,Qo.mpr up]
 ·clear pm up hk
  induction out with
  | nil=>exact .nil
  | cons v r ih =>
   obtain⟨b,k,rfl,_⟩:=ho v (yD ..);exact .cons rfl (ih λu hu=>ho u (yA _ hu))
 ·rw[yj] at h1 h2;obtain⟨v,e1,rfl⟩:=yl.mp h1;rw[e1] at h2;cases h2;obtain⟨b,k,rfl,e⟩:=ho v (yT e1);rw[uO e];exact e
theorem zz {α β:Type}{F:α->β->Prop}:∀{l:List α} {m:List β} {y:β},Paired F l m->y∈m->∃x∈l,F x y
 | _,_,_,.nil,h=>by cases h
 | _,_,y,.cons r t,h=>by
  rcases yM.mp h with rfl|h
  ·exact#[_,yD ..,r]
  ·obtain⟨x,hx,hf⟩:=zz t h;exact#[x,yA _ hx,hf]
theorem zy {α β γ:Type}{F:α->β->Prop}{g:α->γ}{g':β->γ}:∀{l:List α} {m:List β},Paired F l m->(∀x y,F x y->g' y=g x)->l.map g=m.map g'
 | _,_,.nil,_=>rfl
 | _,_,.cons r t,h=>by rw[yH,yH,h _ _ r,zy t h]
section
variable {X:Cx}
theorem Us (hc:X.calm=true):uH X (.builtin "sorted") (λxs H Q=>∃p kvs d,xs=[.ref p]/\H p=some (.dT kvs)/\(∀kv∈kvs,sd kv.1=d)/\d≠[] /\
  ∀l bs ks,H l=none->Ug H bs ks->ks.Perm (kvs.map (·.1))->(ks.Pairwise λa b=>lx b a=false)->Q (.ref l) (upd H l (.lst (bs.map V.ref)))):=by
 intro pins s σ H xs us Q I r h;obtain⟨p,kvs,d,rfl,e,hs,hd,q⟩:=h;obtain⟨u,rfl,ru⟩:=UB r;cases ru;obtain⟨hl,hm,ys,kt,ob,es,ep,h1,h2,h3,h4,h5,h6⟩:=Gn I.hok e;have hv:∀v∈es.toList.map (·.key),∃(b:Addr) (k:List Key),v=.ref b/\H b=some (.tup (k.map kV))/\k∈kvs.map (·.1):=λv hv=>by
  rw[h4,Qr] at hv;obtain⟨y,hy,rfl⟩:=yf.mp hv;obtain⟨x,hx,e2,e3,_⟩:=zz kt hy;exact#[y.2.1,x.1,rfl,e3,yf.mpr #[x,hx,rfl]]
 have hk:(es.toList.map (·.key)).map (uF H)=kvs.map (·.1):=by
  rw[h4,Qr,Qr];exact (zy kt λx y u₁=>uO u₁.2.1).symm
 have Lf:∀v∈es.toList.map (·.key),sd (uF H v)=d:=λv CY=>by
  obtain⟨b,k,rfl,e1,hm⟩:=hv v CY;obtain⟨kv,h7,rfl⟩:=yf.mp hm;rw[uO e1];exact hs kv h7
 have hlen:es.size=kvs.length:=by
  have:=congrArg List.length h4;rw[yr,yb] at this;rw[this,Paired.length kt]
 refine ZG (kc:=uF H) (λR hR=>Nt (A:=X.A.in1) (I.ok.hd hc) hm #[ob,h1,h2,h3] (by rw[hlen];exact hl) hR) (λv CY=>?_) Lf hd (by rw[yb,yr,hlen];exact hl) λh' tk c p' out kp hp e' pm up=>?_
 ·obtain⟨b,k,rfl,e1,_⟩:=hv v CY;rw[uO e1];exact g9 I.hok e1
 ·obtain⟨rv,ka,Dt,Ep⟩:=gV (λv h=>by obtain⟨b,k,e1,e2,_⟩:=hv v h;exact#[b,k,e1,e2]) hk pm up;refine#[.ref p',_,I.laid (t':=tk) (o:=.lst ((out.map zf).map V.ref)) kp hp #[?_,out,c,rv,e'],rfl,q p' _ _ (I.hok.fresh hp) ka Dt Ep];rw[yb,yb,pm.length_eq,yb,yr,hlen];exact hl
end
end L2
namespace L2
open PySem PySem.Spec PyProof.Rows
section
variable {X:Cx}{pins:AU}{σ:St}{H:Hp}{s:Shared}
structure LT (K:AQ) (H:Hp) (a:Addr) (BE:List (List Int)):Prop where
 ex:∃ps:List Addr,jo K H a (ps.map V.ref)/\Za K H ps BE
end
end L2
namespace TS
open PySem PyProof.Rows L2
theorem Gq {K V:Type} [DecidableEq K]:∀{xs:List (K×V)} {j:Nat} {k:K} {p:V},(xs.map (·.1)).Nodup->xs[j]?=some (k,p)->xs.eraseIdx j=xs.filter λx=>decide (x.1≠k)
 | [],j,k,p,_,h=>by simp at h
 | x::r,0,k,p,n,h=>by
  cases h;have hn:=(Qu.mp n).1;rw[List.eraseIdx_cons_zero,Qf (by simp)];refine (Wo.mpr λy hy=>?_).symm;have:y.1≠k:=λe=>hn (yf.mpr #[y,hy,e]);simpa using this
 | x::r,j+1,k,p,n,h=>by
  obtain⟨hn,n2⟩:=Qu.mp n;rw[List.getElem?_cons_succ] at h;have hx:x.1≠k:=λe=>hn (yf.mpr #[(k,p),yT h,e.symm]);rw[List.eraseIdx_cons_succ,Qg (by simpa using hx),Gq n2 h]
theorem Km {α β:Type} (g:α->β):∀(l:List α) (j:Nat),(l.map g).eraseIdx j=(l.eraseIdx j).map g
 | [],j=>rfl
 | a::r,0=>rfl
 | a::r,j+1=>congrArg (g a::·) (Km g r j)
section
variable {prog:Be}{w:World}{A:Around}{E:AL}{s:Shared}{K:Type} [DecidableEq K] {knd:HeapKind prog w K}
theorem qZ {d a:Addr}{xs:List (K×Addr×Value)}{k:K}{Q:Option DictEntry->Shared->Prop} (hu:knd.room A) (Ek:knd.is s.heap k a) (hm:s.heap.DictOfH knd d xs) (hsz:xs.length<=sizeLine)
  (none:(∀x∈xs,x.1≠k)->∀tk,Q none { s with toks:=tk }) (some:∀e h' tk,(∃x∈xs,e.val=x.2.2)->h'.DictOfH knd d (xs.filter λx=>decide (x.1≠k))->Heap.SameBut d s.heap h'->Q (some e) { s with heap:=h',toks:=tk }):wpAny (model prog w) A (Builtin.Dict.takeOut d (.ref a)) Q E s:=by
 obtain⟨ob,es,ep,ho,hc,hd,he,E1,hn⟩:=hm;refine wpAny_holding (Bf (knd.pyHash hu Ek (Bf (wpAny_dictFind_heap (s:={ s with toks:=s.toks+knd.draws k }) hu Ek ho hd he E1 hn (λno=>?_) λj p hj=>?_))))
 ·refine Bg (none (λx hx e=>?_) _);obtain⟨j,hj,e2⟩:=Q8.mp hx;exact no j x.2 (by rw[yc hj,e2,<-e])
 ·have hz:es.size<=sizeLine:=by
   have:=congrArg List.length he;rw[yr,yb] at this;omega
  refine Bf (wpAny_dictEntries (s:={ s with toks:=s.toks+knd.draws k }) ho hd ?_);have Em:es[j]?=Option.some (entryOfKey knd (k,p)):=by
   rw[<-yI,he,yj,hj];rfl
  rw[Em];refine Bf (wpAny_updateDictKeys (s:={ s with toks:=s.toks+knd.draws k }) ho hd ?_ hz (by rw[<-yr,Array.toList_eraseIdxIfInBounds,We,yr];split<;>omega));refine Bg (some _ _ _ #[_,yT hj,rfl] #[_,_,ep+1,Qt _ ho (Obj.isFreed_of_dict (Obj.data_mapDictKeys hd _)),hc.mapDictKeys _,Obj.data_mapDictKeys hd _,?_,λx hx=>?_,?_] (Heap.SameBut.update ..))
  ·rw[Array.toList_eraseIdxIfInBounds,he,<-Gq hn hj,Km]
  ·exact knd.keeps (E1 x (yZ.mp hx).1) ho hd (Heap.SameBut.update ..)
  ·exact (List.filter_sublist.map _).nodup hn
end
end TS
namespace L2
open PySem PyProof.Rows TS
theorem KT.dropped {H:Hp}{kvs:List (List Key×V)}{xs:List (List Key×Addr×Value)} (r:KT H kvs xs) (k:List Key):KT H (uJ kvs k) (xs.filter λx=>decide (x.1≠k)):=by
 unfold KT at *
 induction r with
 | nil=>exact .nil
 | @cons p q ps qs h t ih =>
  unfold uJ at ih ⊢;by_cases e:p.1=k
  ·rw[Qf (by simpa using e),Qf (by rw[<-h.1];simpa using e)];exact ih
  ·rw[Qg (by simpa using e),Qg (by rw[<-h.1];simpa using e)];exact .cons h ih
section
variable {X:Cx}
def xg:V->List V->Hp->VK->Prop:=λx vs H Q=>∃(a b:Addr) (kvs:List (List Key×V)) (k:List Key),x=.ref a/\vs=[.ref b,.non]/\H a=some (.dT kvs)/\H b=some (.tup (k.map kV))/\∀v,Q v (upd H a (.dT (uJ kvs k)))
theorem aL (hu:X.A.units+64<cLine):rF X "dict.pop" xg:=by
 intro pins s σ H x vs v us Q I rx rv h;obtain⟨a,b,kvs,k,rfl,rfl,ea,eb,q⟩:=h;cases rx;cases rv with
 | cons r1 t=>cases t with
  | cons r2 t=>cases t with
   | nil =>
 cases r1;obtain rfl:=(show _=Value.none from r2);obtain⟨z,hd,xs,rel,dd⟩:=Gn I.hok ea;have ty:s.TypeIs (.ref a) "dict":=dd.typeIs;have hz:xs.length<=sizeLine:=by rw[<-Paired.length rel];exact z
 have same:(∀x∈xs,x.1≠k)->upd H a (.dT (uJ kvs k))=H:=λno=>by
  have e:uJ kvs k=kvs:=Wo.mpr λkv Bv=>by
   have:kv.1≠k:=λe=>by
    have hm:kv.1∈kvs.map (·.1):=yf.mpr #[kv,Bv,rfl];rw[zy rel λx y h=>h.1.symm] at hm;obtain⟨x,hx,e2⟩:=yf.mp hm;exact no x hx (e2.trans e)
   simpa using this
  rw[e];funext c;by_cases hc:c=a
  ·rw[hc,jb,ea]
  ·rw[jl hc]
 refine wpAny_call_entry PySem.F.slot_dict_pop ty PySem.F.entry_dict_pop (Bf (Bf (wpAny_notOrdered_dict ty ?_))) (PySem.F.args_dict_pop_3 _ _ _);show wpAny _ _ (pure (a,Value.ref b,some Value.none)) _ _ s;refine Bg ?_;simp only[show (keyPart (Value.ref b)).isSome=false from rfl,Qb,if_false];obtain⟨ob,es,ep,ho,hc,DL,he,_⟩:=id dd;have Tp:(∀x∈xs,x.1≠k)->∀tk,EP X pins σ Q .none { s with toks:=tk }:=λno tk=>#[.non,H,I.tok _,rfl,same no▸q .non];refine Bf (wpAny_dictEntries ho DL (Bf (Bg ?_)));cases hE:es.isEmpty with
 | true =>
  have hx:xs=[]:=by
   have h1:es.size=0:=by simpa [Array.isEmpty] using hE
   have:=congrArg List.length he;rw[yr,yb,h1] at this;exact List.eq_nil_of_length_eq_zero this.symm
  rw[if_pos rfl];refine Bf (wpAny_rule (Bf (Bg ?_)));rw[if_pos (show (none:Option DictEntry).isNone=true from rfl)];exact Bf (wpAny_missedRemoval_other hd (Bf (wpAny_rule (Bg #[_,rfl,Tp (by rw[hx];simp) s.toks]))))
 | false =>
  rw[if_neg yo];refine Bf (qZ (tupleKind_room_in1 (by omega)) (ux I.hok eb) dd hz (λno tk=>?_) λe h' tk hv EX hs=>?_)
  ·rw[if_pos (show (none:Option DictEntry).isNone=true from rfl)];exact Bf (wpAny_missedRemoval_other hd (Bf (wpAny_rule (Bg #[_,rfl,Tp no tk]))))
  ·rw[if_neg (show ¬(some e).isNone=true from yo)];obtain⟨x,hx,ev⟩:=hv;obtain⟨kv,_,_,_,rv⟩:=zz rel hx;rw[<-ev] at rv;refine Bf (wpAny_letGo (Bg #[_,rfl,kv.2,_,?_,rv,q kv.2]));obtain⟨o2,Ow,u₂,hq,h2,h3,h4,_,h5⟩:=EX;refine ZM I (by rw[ea];exact True.intro) hs #[o2,hq] #[yp (yX _ _) z,hd,_,(rel.dropped k).keeps λc ys ec=>?_,o2,Ow,u₂,hq,h2,h3,h4,h5];rw[jl (jq ec ea)];exact ec
end
end L2
namespace L2
open PySem PySem.Spec PyProof.Rows
section
variable {P:Be}{w:World}{K:AQ}{mg:AT}{base:Heap}
theorem rS {fd:FuncData}{ps:A1}{D:Addr}{od:Obj}{items:A2}{n:Nat} (hf:fd.defaults=.ref D) (dl:K.lookup D=some od) (hd:od.data=.seq items n)
  (h:∀us:List Value,us.length+1=ps.length->∃k:Option (Array Value)->Sem (List (Str×Value)),bindArgs fd ⟨us,[]⟩=seqItems? fd.defaults>>=k/\k (some items)=pure (ps.zip (us++[Value.none]))):Uf K fd ps [Value.none]:=by
 intro s us KX hl;rw[ye] at hl;obtain⟨k,h1,h2⟩:=h us hl;exact BindsTo.of_defaults hf (KX D od dl) hd h1 h2
structure m7 (P:Be) (w:World) (K:AQ) (mg:AT) (base:Heap) (k:Nat) (C:Addr) (m:Str) (ps:A1) (sp:Sp):Prop where
 cl:vi K C
 ex:∃f fd,ke K C m f/\UG P w K mg base (XC P w) k f fd ps sp/\Uf K fd ps [Value.none]
end
section
variable {X:Cx}{k:Nat}{m:Str}{C:Addr}{ps:A1}{sp:Sp}{E:XK}
def tP (C:Addr) (m:Str) (sp:Sp) (E:XK):V->Hp->VK->Prop:=λx H Q=>∃a dx fs,x=.ref a/\H a=some (.ins C dx fs)/\fs.lookup m=none/\sp [x,.non] H Q E
theorem GM (G:m7 X.prog X.w X.K X.mg X.base k C m ps sp) (hr:zd k X.A:=by exact hr.mono (by decide)) (hx:uX (XC X.prog X.w) X E:=by first|exact vF|exact Zz):rE X m (tP C m sp E):=by
 intro pins s σ H x u Q pl pos I r h;obtain⟨f,fd,M,F,b⟩:=G.ex;obtain⟨a,dx,fs,rfl,ea,l,q⟩:=h;obtain rfl:u=Value.ref a:=r;refine wpAny_holding (vX I ea G.cl M l ?_);exact callWith_K0 (first:=[.ref a]) I.kIn M.kp (GZ (us:=[.ref a]) (vs:=[.ref a]) (dvs:=[.non]) F hr b (.cons rfl .nil) hx I (.cons rfl .nil) q)
end
theorem lI {X:Cx}{K:AQ} (h:X.K=K):JZ X (binaryOp .Add) (o6 K):=h▸aO
end L2
namespace L2
open PySem PySem.Spec PyProof.Rows TS
variable {pins:AU}{σ:St}{H:Hp}{s:Shared}
section
variable {X:Cx}
theorem Zd:uH X (.builtin "sorted") (λxs H Q=>∃p bs ks d,xs=[.ref p]/\H p=some (.lst (bs.map V.ref))/\Ug H bs ks/\(∀k∈ks,sd k=d)/\d≠[] /\
  ∀l BQ Bm,H l=none->Ug H BQ Bm->Bm.Perm ks->(Bm.Pairwise λa b=>lx b a=false)->Q (.ref l) (upd H l (.lst (BQ.map V.ref)))):=by
 intro pins s σ H xs us Q I r h;obtain⟨p,bs,ks,d,rfl,e,ka,hs,hd,q⟩:=h;obtain⟨u,rfl,ru⟩:=UB r;cases ru;obtain⟨Bi,rv,pl,hz⟩:=I.list (jo.of e);obtain rfl:=uc rv;have hv:∀v∈bs.map Value.ref,∃(b:Addr) (k:List Key),v=.ref b/\H b=some (.tup (k.map kV))/\k∈ks:=λv hv=>by
  obtain⟨b,hb,rfl⟩:=yf.mp hv;obtain⟨i,hi,eb⟩:=Qj hb;have uZ:i<ks.length:=by rw[<-ka.1];exact hi
  exact#[b,ks[i],rfl,ka.2 i b ks[i] (by rw[yc hi,eb]) (yc uZ),yY uZ]
 have hk:(bs.map Value.ref).map (uF H)=ks:=by
  refine List.ext_getElem (by rw[yb,yb,ka.1]) λi h1 h2=>?_;rw[Qd,Qd];have hb:i<bs.length:=by simpa using h1
  exact uO (ka.2 i bs[i] ks[i] (yc hb) (yc h2))
 have Lf:∀v∈bs.map Value.ref,sd (uF H v)=d:=λv CY=>by
  obtain⟨b,k,rfl,e1,hm⟩:=hv v CY;rw[uO e1];exact hs k hm
 have hlen:(bs.map Value.ref).length<=sizeLine:=by
  have:=hz;simpa using this
 refine ZG (kc:=uF H) (λR hR=>collect_list (A:=X.A.in1) pl.isList (hR _ s.toks (λb o e=>?_) ?_) hlen) (λv CY=>?_) Lf hd hlen λh' tk c p' out kp hp e' pm up=>?_
 ·exact (yN _ _ (Wg (yq e))).trans (yd _ e)
 ·show s.heap.objs.size<((s.heap.push _).update _ _).objs.size;simp [Heap.update,Heap.push]
 ·obtain⟨b,k,rfl,e1,_⟩:=hv v CY;rw[uO e1];exact g9 I.hok e1
 ·obtain⟨rv,ka,Dt,Ep⟩:=gV (λv h=>by obtain⟨b,k,e1,e2,_⟩:=hv v h;exact#[b,k,e1,e2]) hk pm up;refine#[.ref p',_,I.laid (t':=tk) (o:=.lst ((out.map zf).map V.ref)) kp hp #[?_,out,c,rv,e'],rfl,q p' _ _ (I.hok.fresh hp) ka Dt Ep];rw[yb,yb,pm.length_eq];exact hlen
def Ab (K:AQ) (neg:Bool):R2:=λx y H Q=>∃(p a:Addr) (ns:List Int) (BE:List (List Int)),x=.ref p/\y=.ref a/\jD K H p (ns.map V.int)/\LT K H a BE/\Q (.bl (if neg then !decide (ns∈BE) else decide (ns∈BE))) H
open Classical in
theorem rd (I:jn X pins σ H s):∃f:Addr->List Int,∀p ns,jD X.K H p (ns.map V.int)->f p=ns :=
 #[λp=>if h:∃ns:List Int,jD X.K H p (ns.map V.int) then Classical.choose h else [],λp ns h=>by
  have hx:∃ns:List Int,jD X.K H p (ns.map V.int):=#[ns,h];show (if h:∃ns:List Int,jD X.K H p (ns.map V.int) then Classical.choose h else [])=ns;rw[dif_pos hx];have e:=I.tuple_inj (Classical.choose_spec hx) h;exact (List.map_inj_right (f:=V.int) λx y h=>V.int.inj h).mp e]
theorem qc (I:jn X pins σ H s) (hu:X.A.units+2<cLine) {p a:Addr} {ns:List Int} {BE:List (List Int)} (hp:jD X.K H p (ns.map V.int)) (ha:LT X.K H a BE) :
  ∃(Bi:AW) (e:Value->Bool),s.heap.IsList a Bi.toArray/\(∀y,y∈Bi.toArray->SeqAt.EqAt X.A.in1 s y (.ref p) (e y))/\Bi.toArray.any e=decide (ns∈BE):=by
 obtain⟨ps,h1,T⟩:=ha.ex;obtain⟨Bi,r1,p1,_⟩:=I.list h1;obtain rfl:=uc r1;obtain⟨f,hf⟩:=rd I;have Ot:X.A.in1.units<cLine:=by show X.A.units+1<cLine;omega
 have at_:∀q∈ps,∃ms∈BE,jD X.K H q (ms.map V.int):=λq hq=>by
  obtain⟨i,hi,e⟩:=Qj hq;have uZ:i<BE.length:=by rw[<-T.len];exact hi
  exact#[BE[i],yY uZ,T.at_ i q BE[i] (by rw[yc hi,e]) (yc uZ)]
 refine#[ps.map Value.ref,λv=>match v with|.ref q=>decide (f q=ns)|_=>false,p1.isList,λy hy=>?_,?_]
 ·obtain⟨q,hq,rfl⟩:=yf.mp (by simpa using hy:y∈ps.map Value.ref);obtain⟨ms,_,Ox⟩:=at_ q hq;show SeqAt.EqAt _ _ _ _ (decide (f q=ns));rw[hf q ms Ox];exact Ms I Ot Ox hp
 ·rw[yR,decide_eq_true_iff];constructor
  ·intro h;obtain⟨q,hq,e2⟩:∃q,q∈ps/\f q=ns:=by simpa using h
   obtain⟨ms,hm,Ox⟩:=at_ q hq;rw[hf q ms Ox] at e2;rw[<-e2];exact hm
  ·intro h;obtain⟨i,hi,e⟩:=Qj h;have uZ:i<ps.length:=by rw[T.len];exact hi
   have hq:=T.at_ i ps[i] ns (yc uZ) (by rw[yc hi,e]);have:∃q,q∈ps/\f q=ns:=#[ps[i],yY uZ,hf _ ns hq];simpa using this
theorem nu (hu:X.A.units+64<cLine):JZ X (compareOp .In) (Ab X.K false):=by
 intro pins s σ H x y v u Q I rx ry h;obtain⟨p,a,ns,BE,rfl,rfl,hp,ha,q⟩:=h;cases rx;cases ry;obtain⟨Bi,e,hl,he,ev⟩:=qc I (by omega) hp ha;refine SeqAt.in_listAt e hl he #[.bl _,H,I,rfl,?_];rw[ev];exact q
end
end L2
namespace L2
open PySem PySem.Spec PyProof.Rows
theorem gb {lo:Int}{n:Nat}{g:TG}{tc:TT}{te:TE}{k:Nat}{σ:St}{H:Hp}{Q:VK} (Pv:Addr->Nat->List V->Hp->Prop) (hn:n<=sizeLine)
  (h0:∀D,H D=none->Pv D 0 [] (upd H D (.lst []))) (hD:∀D i ys H',Pv D i ys H'->H' D=some (.lst ys)/\ys.length<=i)
  (step:∀D i ys H' (Qy:VK) (Qn:Hp->Prop),i<n->Pv D i ys H'->(∀y H4,H4 D=some (.lst ys)->Pv D (i+1) (ys++[y]) (upd H4 D (.lst (ys++[y])))->Qy y H4)->(∀H4,Pv D (i+1) ys H4->Qn H4) ->
   g (.int (lo+i)) (σ++List.replicate k none) H' λσ2 H2=>(∃zs,σ2=σ++zs/\zs.length=k)/\tc σ2 H2 λb H3=>if b=true then te σ2 H3 Qy else Qn H3)
  (q:∀D ys H',H D=none->Pv D n ys H'->Q (.ref D) H'):vb k g tc te σ Q (zL lo n) H:=by
 intro D DG;refine#[λi m ys H'=>m=n - i/\i<=n/\Pv D i ys H',#[n,by simp,yV _,h0 D DG],?_];rintro i m ys H' ⟨rfl,hi,p⟩;obtain⟨e,hl⟩:=hD D i ys H' p;refine#[e,?_];by_cases Bj:i<n
 ·refine .inr #[Bj,by omega,λx H2 y=>?_];obtain⟨rfl,rfl⟩:=y;exact step D i ys H2 _ _ Bj p (λy H4 e4 p4=>#[e4,n - (i+1),by omega,rfl,Bj,p4]) λH4 p4=>#[n - (i+1),by omega,rfl,Bj,p4]
 ·obtain rfl:i=n:=by omega
  exact .inl #[yg _,q D ys H' DG p]
end L2
namespace L2
open PySem PySem.Spec PyProof.Rows TS
section
variable {X:Cx}{pos:Pos}
def wo (tk tv:TE):TE:=λσ H Q=>∀p,H p=none->tk σ (upd H p (.dT [])) λx H1=>tv σ H1 λy H2=>∃b k,x=.ref b/\H2 p=some (.dT [])/\H2 b=some (.tup (k.map kV))/\Q (.ref p) (upd H2 p (.dT [(k,y)]))
theorem lJ {k v:Expr}{tk tv:TE} (hu:X.A.units+1<cLine) (hk:PE X k tk) (hv:PE X v tv):PE X (.Dict [some k] [v] pos) (wo tk tv):=by
 intro pins s σ H Q I q;have hn:=I.hok.fresh (yg s.heap.objs.size);have I1:=I.laid (a:=s.heap.objs.size) (o:=.dT []) (h':=s.heap.push { cls:=.type "dict",data:=.dict (List.toArray []) }) (t':=s.toks) (λ_ _ q=>yd _ q) (yg _) (gM s.heap I.big);refine wpAny_Dict_any rfl rfl (by simp) (Qh rfl) (pairTrees_cons_walk (jC (hk pins _ σ _ _ I1 (q _ hn)) λu s1 #[x,H1,U',rx,q1]=>jC (hv pins s1 σ H1 _ U' q1) λw2 s2 #[y,H2,I2,ry,b,k,ex,ep,eb,q2]=>pairTrees_nil_walk ?_));subst ex;cases (show u=Value.ref b from rx);obtain⟨z,hd,xs,rel,dd⟩:=Gn I2.hok ep;have hz:xs.length<=sizeLine:=by rw[<-Paired.length rel];exact z
 unfold storeAll;rw[List.forIn_cons];refine Bf (Bf (wpAny_dictSet_heap (hsz:=hz) (knd:=tupleKind (jW X.prog X.w)) (show X.A.units<cLine by omega) (ux I2.hok eb) dd λh' EX hs=>Bg ?_));dsimp only;rw[List.forIn_nil];refine Bg #[.ref s.heap.objs.size,_,?_,rfl,q2];obtain⟨q,es,Ej,hq,h2,h3,h4,_,h5⟩:=EX;have hl:(j4 ([]:List (List Key×V)) k y).length<=sizeLine:=by show 1<=sizeLine;decide
 refine ZM I2 (by rw[ep];exact True.intro) hs #[q,hq] #[hl,hd,_,(rel.put k eb ry).keeps λc ys ec=>?_,q,es,Ej,hq,h2,h3,h4,h5];rw[jl (jq ec ep)];exact ec
end
section
variable {X:Cx}{pins:AU}{σ:St}{H:Hp}{s:Shared}
theorem fL (hu:X.A.units<cLine):JZ X (compareOp .Eq) (λx y H Q=>E3 λa b xs=>A5 (x=.ref a) (y=.ref b) (jo X.K H a xs) (jo X.K H b []) (Q (.bl xs.isEmpty) H)):=by
 intro pins s σ H x y v u Q I rx ry h;obtain⟨a,b,xs,rfl,rfl,ha,hb,q⟩:=h;cases rx;cases ry;obtain⟨Bi,rv,p,_⟩:=I.list ha;obtain⟨XG,Cd,p',_⟩:=I.list hb;cases Cd;cases rv with
 | nil=>exact EqBoolInt.of_rc (SeqAt.RcAt.lists (e:=λ_=>true) p.isList p'.isList rfl hu (λj h1=>absurd h1 (by simp))) #[.bl true,H,I,rfl,q]
 | cons r t=>exact EqBoolInt.of_rc (SeqAt.RcAt.lists_lengths p.isList p'.isList (by simp) hu) #[.bl false,H,I,rfl,q]
open Classical in
end
end L2
namespace STb
open PySem SetTable
local macro_rules|`(tactic|omega)=>`(tactic|first|lia|omega +splitNatSub)
variable {mask k n x i j p r:Nat}{h:Int}{xs:Array Nat}{hs:Nat->Int}{owner:Bb}{l:List (Nat×Nat)}
def sm:Nat->Nat
 | 0=>0
 | n+1=>5*sm n+1
theorem G2 (m:Nat):∀n,sm (n+m)=5^n*sm m+sm n
 | 0=>by simp [sm]
 | n+1=>by
  have e:n+1+m=(n+m)+1:=by omega
  rw[e];show 5*sm (n+m)+1=5^(n+1)*sm m+(5*sm n+1);rw[G2 m n,QN,Nat.mul_add,Wm (5^n) 5,QH];omega
theorem MJ (n:Nat):5^n % 4=1:=by
 induction n with
 | zero=>rfl
 | succ n ih=>rw[QN];omega
theorem nX:∀k,∃d,sm (2^k)=2^k*(2*d+1)
 | 0=>#[0,rfl]
 | k+1=>by
  obtain⟨d,hd⟩:=nX k;have e:2^(k+1)=2^k+2^k:=by rw[QN];omega
  have h4:=MJ (2^k);obtain⟨q,hq⟩:∃q,5^(2^k)=4*q+1:=#[5^(2^k) / 4,by omega];refine#[2*d*q+d+q,?_];rw[e,G2,hd,hq];have:(4*q+1)*(2^k*(2*d+1))+2^k*(2*d+1)=2^k*((4*q+2)*(2*d+1)):=by
   rw[<-QH,Wm (4*q+1),QH,<-Nat.mul_add];congr 1;rw[show (4*q+2)=(4*q+1)+1 by omega,Nat.add_mul (4*q+1) 1,Nat.one_mul]
  rw[this,<-Nat.two_mul,Wm 2 (2^k),QH];congr 1;have:(4*q+2)*(2*d+1)=2*((2*q+1)*(2*d+1)):=by rw[<-QH];congr 1;omega
  rw[this];congr 1;rw[Nat.add_mul,Nat.mul_add,Nat.one_mul,show 2*q*(2*d)=2*(2*d*q) by rw[QH,Wm q (2*d)]];omega
theorem f9:∀(k b:Nat),∃n,n<2^k/\sm n % 2^k=b % 2^k
 | 0,b=>#[0,by decide,by simp [Nat.mod_one]]
 | k+1,b=>by
  obtain⟨n,hn,he⟩:=f9 k b;have e:2^(k+1)=2^k+2^k:=by rw[QN];omega
  have hp:0<2^k:=Nat.pow_pos (by decide);obtain⟨d,hd⟩:=nX k;by_cases h:sm n % 2^(k+1)=b % 2^(k+1)
  ·exact#[n,by omega,h]
  ·refine#[n+2^k,by omega,?_];obtain⟨c,hc⟩:∃c,5^n=2*c+1:=#[5^n / 2,by have:=MJ n;omega];have e1:sm (n+2^k)=sm n+2^k+2^(k+1)*(2*c*d+c+d):=by
    rw[G2,hd,hc,<-QH,Wm (2*c+1),QH];have:(2*c+1)*(2*d+1)=2*(2*c*d+c+d)+1:=by
     rw[Nat.add_mul,Nat.mul_add,Nat.one_mul,show 2*c*(2*d)=2*(2*c*d) by rw[Nat.mul_left_comm]];omega
    rw[this,Nat.mul_add,Nat.mul_one,<-QH,<-QN];show 2^(k+1)*_+2^k+sm n=_;omega
   rw[e1,Nat.add_mul_mod_self_left];have d1:=Nat.div_add_mod (sm n) (2^(k+1));have d2:=Nat.div_add_mod b (2^(k+1));have m1:=Nat.mod_lt (sm n) (show 0<2^(k+1) by omega);have m2:=Nat.mod_lt b (show 0<2^(k+1) by omega);have q1:sm n % 2^(k+1) % 2^k=sm n % 2^k:=Nat.mod_mod_of_dvd _ #[2,by rw[QN]];have q2:b % 2^(k+1) % 2^k=b % 2^k:=Nat.mod_mod_of_dvd _ #[2,by rw[QN]];rw[Nat.add_mod];generalize sm n % 2^(k+1)=x at *;generalize b % 2^(k+1)=y at *;rw[e] at *;generalize 2^k=p at *;have hx:x % p=y % p:=by omega
   have px:x % p=if x<p then x else x - p:=by
    split
    ·exact QO ‹_›
    ·rw[Nat.mod_eq_sub_mod (by omega),QO (by omega)]
   have py:y % p=if y<p then y else y - p:=by
    split
    ·exact QO ‹_›
    ·rw[Nat.mod_eq_sub_mod (by omega),QO (by omega)]
   have pp:p % (p+p)=p:=QO (by omega);rw[pp];rw[px,py] at hx;by_cases h1:x<p
   ·rw[QO (by omega)]
    split at hx<;>split at hx<;>omega
   ·rw[Nat.mod_eq_sub_mod (by omega),QO (by omega)]
    split at hx<;>split at hx<;>omega
def Fm (mask i:Nat):Nat:=(i*5+1) % (mask+1)
def Zm (mask:Nat) (a:Nat):Nat->Nat
 | 0=>a
 | n+1=>Fm mask (Zm mask a n)
theorem GB (hm:mask+1=2^k) (a:Nat) (ha:a<=mask):∀n,Zm mask a n=(5^n*a+sm n) % 2^k
 | 0=>by
  show a=(5^0*a+0) % 2^k;rw[Nat.pow_zero,Nat.one_mul,Nat.add_zero,QO (by omega +splitNatSub)]
 | n+1=>by
  show (Zm mask a n*5+1) % (mask+1)=(5^(n+1)*a+(5*sm n+1)) % 2^k;rw[GB hm a ha n,hm,Nat.add_mod,Nat.mod_mul_mod,<-Nat.add_mod];congr 1;rw[Nat.add_mul,QN,Wm (5^n*a) 5,Wm (5^n) 5,QH];omega
theorem kx (mask a m:Nat):∀n,Zm mask (Zm mask a m) n=Zm mask a (m+n)
 | 0=>rfl
 | n+1=>by show Fm mask _=Fm mask _;rw[kx mask a m n];rfl
theorem az (hm:mask+1=2^k) {a b:Nat} (ha:a<=mask) (hb:b<=mask):∃n,n<=mask/\Zm mask a n=b:=by
 have z:∀c,c<=mask->∃n,n<2^k/\Zm mask 0 n=c:=λc hc=>by
  obtain⟨n,h1,h2⟩:=f9 k c;refine#[n,h1,?_];rw[GB hm 0 (yV _),Nat.mul_zero,Wl,h2,QO (by omega)]
 have U₁:∀n,Zm mask 0 (n+2^k)=Zm mask 0 n:=λn=>by
  obtain⟨d,hd⟩:=nX k;rw[GB hm 0 (yV _),GB hm 0 (yV _),Nat.mul_zero,Wl,Nat.mul_zero,Wl,G2,hd,<-QH,Wm (5^n),QH,Nat.add_comm,Nat.add_mul_mod_self_left]
 obtain⟨m,m1,rfl⟩:=z a ha;obtain⟨m',m2,rfl⟩:=z b hb;by_cases h:m<=m'
 ·exact#[m' - m,by omega,by rw[kx];congr 1;omega]
 ·refine#[m'+2^k - m,by omega,?_];rw[kx,<-U₁ m'];congr 1;omega
def va (mask:Nat) (p:Probe):Probe :=
 if p.more > 0 then { p with j:=p.j+1,more:=p.more - 1 } else { p with j:=(leap mask p.i p.perturb).1,more:=runEnd mask (leap mask p.i p.perturb).1 - (leap mask p.i p.perturb).1,i:=(leap mask p.i p.perturb).1,perturb:=(leap mask p.i p.perturb).2 }
theorem dB (t:SetTable) (p:Probe):t.advance p=va t.mask p:=by
 unfold SetTable.advance va
 split<;>rfl
def AE (mask:Nat) (h:Int):Probe:={ j:=bits h % (mask+1),more:=runEnd mask (bits h % (mask+1)) - bits h % (mask+1),i:=bits h % (mask+1),perturb:=bits h,dummy:=none }
def jK (mask:Nat) (h:Int):Nat->Probe
 | 0=>AE mask h
 | n+1=>va mask (jK mask h n)
def lp (mask:Nat) (h:Int):Nat->Nat×Nat
 | 0=>(bits h % (mask+1),bits h)
 | m+1=>leap mask (lp mask h m).1 (lp mask h m).2
def Gf (mask:Nat) (x:Nat×Nat):Probe:={ j:=x.1,more:=runEnd mask x.1 - x.1,i:=x.1,perturb:=x.2,dummy:=none }
theorem kL {x:Nat×Nat} (e:jK mask h n=Gf mask x):∀d,d<=runEnd mask x.1 - x.1->jK mask h (n+d)={ Gf mask x with j:=x.1+d,more:=runEnd mask x.1 - x.1 - d }
 | 0,_=>e
 | d+1,hd=>by
  show va mask (jK mask h (n+d))=_;rw[kL e d (by omega +splitNatSub)];unfold va;rw[if_pos (by show runEnd mask x.1 - x.1 - d > 0;omega)];simp only[Gf,Probe.mk.injEq,true_and,and_true];omega
theorem f7 (mask i:Nat):runEnd mask i - i<=9:=by unfold runEnd;split<;>omega
theorem nM (mask:Nat) (h:Int):∀m,∃n,n<=10*m/\jK mask h n=Gf mask (lp mask h m)
 | 0=>#[0,yg _,rfl]
 | m+1=>by
  obtain⟨n,hn,e⟩:=nM mask h m;have hr:=f7 mask (lp mask h m).1;refine#[n+(runEnd mask (lp mask h m).1 - (lp mask h m).1)+1,by omega,?_];show va mask (jK mask h (n+(runEnd mask (lp mask h m).1 - (lp mask h m).1)))=_;rw[kL e _ (yg _)];unfold va;rw[if_neg (by show ¬(runEnd mask (lp mask h m).1 - (lp mask h m).1 - (runEnd mask (lp mask h m).1 - (lp mask h m).1) > 0);omega)]
  rfl
theorem aH (mask:Nat) (h:Int):∀m,(lp mask h m).2=bits h / 32^m
 | 0=>by show bits h=_;rw[Nat.pow_zero,Nat.div_one]
 | m+1=>by
  show (lp mask h m).2 / 32=_;rw[aH mask h m,Nat.div_div_eq_div_mul,QN]
theorem pP (h:Int):bits h<2^64:=by
 unfold bits;have h1:=Q4 h (show ((2:Int)^64)≠0 by decide);have h2:=QX h (show (0:Int)<2^64 by decide);omega
theorem oU (mask:Nat) (h:Int):∀m,(lp mask h m).1<=mask
 | 0=>Q7 (Nat.mod_lt _ (Ql _))
 | m+1=>Q7 (Nat.mod_lt _ (Ql _))
theorem qi (mask:Nat) (h:Int) (m:Nat):(lp mask h (13+m)).2=0:=by
 rw[aH];refine Nat.div_eq_of_lt (yF (pP h) ?_);exact yp (by decide:2^64<=32^13) (Nat.pow_le_pow_right (by decide) (by omega))
theorem cF (mask:Nat) (h:Int):∀m,(lp mask h (13+m)).1=Zm mask (lp mask h 13).1 m
 | 0=>rfl
 | m+1=>by
  show (leap mask (lp mask h (13+m)).1 (lp mask h (13+m)).2).1=Fm mask _;rw[qi,cF mask h m]
  rfl
theorem qx (hm:mask+1=2^k) (h:Int) {b:Nat} (hb:b<=mask):∃n,n<10*turns mask/\(jK mask h n).j=b:=by
 obtain⟨m,m1,e⟩:=az hm (oU mask h 13) hb;obtain⟨n,n1,e2⟩:=nM mask h (13+m);refine#[n,by unfold turns;omega,?_];rw[e2];show (lp mask h (13+m)).1=b;rw[cF,e]
theorem ZB (mask:Nat) (h:Int):∀n,(jK mask h n).dummy=none
 | 0=>rfl
 | n+1=>by
  show (va mask (jK mask h n)).dummy=none;unfold va;split
  ·exact ZB mask h n
  ·exact ZB mask h n
theorem tI (n:Nat):(jK mask h n).j+(jK mask h n).more<=mask:=by
 have run:∀i,i<=mask->i+(runEnd mask i - i)<=mask:=λi hi=>by unfold runEnd;split<;>omega
 induction n with
 | zero=>exact run _ (Q7 (Nat.mod_lt _ (Ql _)))
 | succ n ih =>
  show (va mask (jK mask h n)).j+(va mask (jK mask h n)).more<=mask;unfold va;split
  ·show (jK mask h n).j+1+((jK mask h n).more - 1)<=mask;omega
  ·exact run _ (Q7 (Nat.mod_lt _ (Ql _)))
theorem cS (n:Nat):(jK mask h n).j<=mask:=by have:=tI (mask:=mask) (h:=h) n;omega
def vP (xs:Array Nat):Prop:=∀i k,i<k->k<xs.size->xs.getD i 0<xs.getD k 0
theorem pZ (h:i<xs.size) (a b:Nat):xs.getD i a=xs.getD i b:=by simp [Array.getD,h]
theorem vP.le (R:vP xs) (h:i<=k) (hk:k<xs.size):xs.getD i 0<=xs.getD k 0:=by
 rcases Nat.lt_or_eq_of_le h with h|h
 ·exact Nat.le_of_lt (R i k h hk)
 ·rw[h];exact yg _
theorem gH (R:vP xs):∀(fuel lo hi:Nat),lo<=hi->hi<=xs.size->hi - lo<=fuel->(∀i,i<lo->xs.getD i 0<j)->(∀i,hi<=i->i<xs.size->j<=xs.getD i 0) ->
  below.go xs j fuel lo hi<=xs.size/\(∀i,i<below.go xs j fuel lo hi->xs.getD i 0<j)/\∀i,below.go xs j fuel lo hi<=i->i<xs.size->j<=xs.getD i 0
 | 0,lo,hi,h1,h2,h3,h4,h5=>by
  obtain rfl:lo=hi:=by omega
  exact#[h2,h4,h5]
 | fuel+1,lo,hi,h1,h2,h3,h4,h5=>by
  unfold below.go;split
  ·rename_i Bj;have m1:(lo+hi) / 2<hi:=by omega
   have m2:lo<=(lo+hi) / 2:=by omega
   generalize (lo+hi) / 2=mid at m1 m2;dsimp only;rw[pZ (by omega) j 0];split
   ·rename_i hm;exact gH R fuel (mid+1) hi (by omega) h2 (by omega) (λi uZ=>yL (R.le (show i<=mid by omega) (by omega)) hm) h5
   ·rename_i hm;exact gH R fuel lo mid m2 (by omega) (by omega) h4 λi h6 h7=>yp (by omega) (R.le h6 h7)
  ·obtain rfl:lo=hi:=by omega
   exact#[h2,h4,h5]
theorem Vl (R:vP xs) (j:Nat):below xs j<=xs.size/\(∀i,i<below xs j->xs.getD i 0<j)/\∀i,below xs j<=i->i<xs.size->j<=xs.getD i 0 :=
 gH R _ _ _ (yV _) (yg _) (yg _) (λi h=>absurd h (QS i)) λi h1 h2=>by omega
def At (xs:Array Nat) (i j:Nat):Prop:=i<xs.size/\xs.getD i 0=j
def Uh (xs:Array Nat) (j:Nat):Prop:=∃i,At xs i j
theorem At.uniq (R:vP xs) (a:At xs i j) (b:At xs k j):i=k:=by
 rcases Nat.lt_trichotomy i k with h|h|h
 ·have:=R i k h b.1;rw[a.2,b.2] at this;omega
 ·exact h
 ·have:=R k i h a.1;rw[a.2,b.2] at this;omega
theorem Vp:(xs[i]?=some j)↔At xs i j:=by
 unfold At;constructor
 ·intro h;obtain⟨h1,h2⟩:=Qk.mp h;exact#[h1,by simp [Array.getD,h1,h2]]
 ·rintro⟨h1,h2⟩;rw[Qk];exact#[h1,by simpa [Array.getD,h1] using h2]
theorem ZF {t:SetTable} (R:vP t.place) (a:At t.place i j):t.slot j=.live i:=by
 obtain⟨b1,b2,b3⟩:=Vl R j;have e:below t.place j=i:=by
  rcases Nat.lt_trichotomy i (below t.place j) with h|h|h
  ·have:=b2 i h;rw[a.2] at this;omega
  ·exact h.symm
  ·have h1:=b3 (below t.place j) (yg _) (by have:=a.1;omega);have h2:=R (below t.place j) i h a.1;rw[a.2] at h2;omega
 unfold SetTable.slot;rw[e];dsimp only;rw[Vp.mpr a,if_pos (by simp)]
theorem cW {t:SetTable} (R:vP t.place) (dm:t.dummies=(List.toArray [])) (n:¬Uh t.place j):t.slot j=.empty:=by
 unfold SetTable.slot;dsimp only;rw[if_neg (λz=>n #[_,Vp.mp (by simpa using z)]),dm]
 rfl
theorem u4 {α:Type} (xs:Array α) (hp:p<=xs.size) (x:α):(insertAt xs p x).size=xs.size+1:=by
 unfold insertAt;simp;omega
theorem getElem?_insertAt {α:Type} (xs:Array α) (hp:p<=xs.size) (x:α) (i:Nat):(insertAt xs p x)[i]?=if i<p then xs[i]? else if i=p then some x else xs[i - 1]?:=by
 unfold insertAt;rw[Array.getElem?_append,Array.size_push,Array.size_extract];have e:min p xs.size - 0=p:=by omega
 rw[e,Array.getElem?_push,Array.size_extract,e];by_cases h1:i<p
 ·rw[if_pos (by omega),if_neg (by omega),if_pos h1,Array.getElem?_extract,if_pos (by omega),Wl]
 ·rw[if_neg h1];by_cases h2:i=p
  ·rw[if_pos (by omega),if_pos h2,if_pos h2]
  ·rw[if_neg (by omega),if_neg h2,Array.getElem?_extract];have e2:p+(i - (p+1))=i - 1:=by omega
   rw[e2];by_cases h3:i - 1<xs.size
   ·rw[if_pos (by omega)]
   ·rw[if_neg (by omega),Array.getElem?_eq_none (by omega)]
theorem Vo (xs:Array Nat) (i:Nat):xs.getD i 0=(xs[i]?).getD 0:=by
 rw[Array.getD_getElem?]
 rfl
theorem MO (hp:p<=xs.size) (x i:Nat):(insertAt xs p x).getD i 0=if i<p then xs.getD i 0 else if i=p then x else xs.getD (i - 1) 0:=by
 rw[Vo,getElem?_insertAt xs hp,Vo,Vo];split
 ·rfl
 ·split<;>rfl
theorem qC (R:vP xs) (n:¬Uh xs j):vP (insertAt xs (below xs j) j):=by
 obtain⟨b1,b2,b3⟩:=Vl R j;intro i k DK hk;rw[u4 xs b1] at hk;rw[MO b1,MO b1];have up:∀m,below xs j<=m->m<xs.size->j<xs.getD m 0:=λm h1 h2=>by
  rcases Nat.lt_or_eq_of_le (b3 m h1 h2) with h|h
  ·exact h
  ·exact absurd #[m,h2,h.symm] n
 by_cases h1:i<below xs j
 ·rw[if_pos h1];by_cases h2:k<below xs j
  ·rw[if_pos h2];exact R i k DK (by omega)
  ·rw[if_neg h2];by_cases h3:k=below xs j
   ·rw[if_pos h3];exact b2 i h1
   ·rw[if_neg h3];exact R i (k - 1) (by omega) (by omega)
 ·rw[if_neg h1,if_neg (show ¬k<below xs j by omega),if_neg (show ¬k=below xs j by omega)];by_cases h3:i=below xs j
  ·rw[if_pos h3];exact up (k - 1) (by omega) (by omega)
  ·rw[if_neg h3];exact R (i - 1) (k - 1) (by omega) (by omega)
theorem Zc (hp:p<=xs.size):At (insertAt xs p x) i j↔if i<p then At xs i j else if i=p then x=j else At xs (i - 1) j/\0<i:=by
 rw[<-Vp,getElem?_insertAt xs hp];split
 ·exact Vp
 ·split
  ·simp
  ·rw[Vp];exact#[λh=>#[h,by omega],λh=>h.1]
theorem bj (hp:p<=xs.size):Uh (insertAt xs p x) j↔Uh xs j\/j=x:=by
 constructor
 ·rintro⟨i,h⟩;rw[Zc hp] at h
  split at h
  ·exact .inl #[i,h]
  ·split at h
   ·exact .inr h.symm
   ·exact .inl #[i - 1,h.1]
 ·rintro (⟨i,h⟩|rfl)
  ·by_cases h1:i<p
   ·exact#[i,(Zc hp).mpr (by rw[if_pos h1];exact h)]
   ·exact#[i+1,(Zc hp).mpr (by rw[if_neg (by omega),if_neg (by omega)];exact#[h,by omega])]
  ·exact#[p,(Zc hp).mpr (by rw[if_neg (by omega),if_pos rfl])]
structure vR (t:SetTable) (hs:Nat->Int) (n:Nat):Prop where
 size:t.place.size=n
 ris:vP t.place
 le:∀j,Uh t.place j->j<=t.mask
 dm:t.dummies=(List.toArray [])
 pw:∃k,t.mask+1=2^k
 room:n<=t.mask
 reach:∀i j,At t.place i j->∃m,(jK t.mask (hs i) m).j=j/\∀m',m'<m->Uh t.place (jK t.mask (hs i) m').j
theorem nG:∀(n:Nat) (f:Nat->Nat),(∀j,j<=n->∃i,i<n/\f i=j)->False
 | 0,f,h=>by obtain⟨i,hi,_⟩:=h 0 (yg _);omega
 | n+1,f,h=>by
  obtain⟨i0,h0,e0⟩:=h (n+1) (yg _);refine nG n (λi=>if i=i0 then f n else f i) λj hj=>?_;obtain⟨i,hi,e⟩:=h j (by omega);have ne:i≠i0:=λz=>by rw[z,e0] at e;omega
  by_cases hn:i=n
  ·refine#[i0,by omega,?_];show (if i0=i0 then f n else f i0)=j;rw[if_pos rfl,<-hn];exact e
  ·refine#[i,by omega,?_];show (if i=i0 then f n else f i)=j;rw[if_neg ne];exact e
theorem vR.free {t:SetTable} (T:vR t hs n):∃j,j<=t.mask/\¬Uh t.place j:=by
 refine Classical.byContradiction λz=>?_;refine nG t.mask (λi=>t.place.getD i 0) λj hj=>?_;have h1:Uh t.place j:=Classical.byContradiction λq=>z #[j,hj,q];obtain⟨i,h2,h3⟩:=h1;exact#[i,by have:=T.room;have:=T.size;omega,h3]
def rK (t:SetTable) (hs:Nat->Int) (h:Int) (m:Nat):Prop:=¬Uh t.place (jK t.mask h m).j\/∃i,At t.place i (jK t.mask h m).j/\hs i=h
theorem nJ {t:SetTable} (T:vR t hs n):∀(d fuel m:Nat),d<fuel->rK t hs h (m+d)->(∀d',d'<d->¬rK t hs h (m+d')) ->
  (¬Uh t.place (jK t.mask h (m+d)).j/\SetTable.probe.go t hs h fuel (jK t.mask h m)=some (.empty (jK t.mask h (m+d)).j none)) \/
  ∃i,At t.place i (jK t.mask h (m+d)).j/\hs i=h/\SetTable.probe.go t hs h fuel (jK t.mask h m)=some (.candidate (jK t.mask h (m+d)).j i (jK t.mask h (m+d+1)))
 | 0,fuel+1,m,_,BK,_=>by
  rcases BK with BK|⟨i,ha,hh⟩
  ·refine .inl #[BK,?_];rw[SetTable.probe.go];rw[show m+0=m from rfl] at BK ⊢;rw[cW T.ris T.dm BK];show some (Met.empty _ (jK t.mask h m).dummy)=_;rw[ZB]
  ·refine .inr #[i,ha,hh,?_];rw[SetTable.probe.go];rw[show m+0=m from rfl] at ha ⊢;rw[ZF T.ris ha];dsimp only;rw[if_pos (by rw[hh];exact beq_self_eq_true _),dB]
   rfl
 | d+1,fuel+1,m,hf,BK,Cm=>by
  have h0:=Cm 0 (by omega);have ht:Uh t.place (jK t.mask h m).j:=Classical.byContradiction λz=>h0 (.inl z);obtain⟨i,ha⟩:=ht;have BA:hs i≠h:=λz=>h0 (.inr #[i,ha,z]);have e:m+1+d=m+(d+1):=by omega
  have ih:=nJ T d fuel (m+1) (by omega) (by rw[e];exact BK) λd' D7=>by
   have:=Cm (d'+1) (by omega);rwa [show m+(d'+1)=m+1+d' by omega] at this
  rw[e] at ih;have go:SetTable.probe.go t hs h (fuel+1) (jK t.mask h m)=SetTable.probe.go t hs h fuel (jK t.mask h (m+1)):=by
   rw[SetTable.probe.go,ZF T.ris ha];dsimp only;rw[if_neg (by simpa using BA),dB]
   rfl
  rw[go];exact ih
theorem wX {p:Nat->Prop}:∀(n:Nat),p n->∃m,m<=n/\p m/\∀k,k<m->¬p k:=by
 intro n
 induction n using Nat.strongRecOn with
 | _ n ih =>
  intro h;by_cases z:∃k,k<n/\p k
  ·obtain⟨k,hk,pk⟩:=z;obtain⟨m,h1,h2,h3⟩:=ih k hk pk;exact#[m,by omega,h2,h3]
  ·exact#[n,yg _,h,λk hk pk=>z #[k,hk,pk]]
theorem vR.probe {t:SetTable} (T:vR t hs n) (h:Int) {m:Nat} (ahead:∀m',m'<m->Uh t.place (jK t.mask h m').j):∃m2,m<=m2/\m2<10*turns t.mask/\(∀m',m<=m'->m'<m2->Uh t.place (jK t.mask h m').j/\∀i,At t.place i (jK t.mask h m').j->hs i≠h) /\
  ((¬Uh t.place (jK t.mask h m2).j/\t.probe hs h (jK t.mask h m)=some (.empty (jK t.mask h m2).j none)) \/
   ∃i,At t.place i (jK t.mask h m2).j/\hs i=h/\t.probe hs h (jK t.mask h m)=some (.candidate (jK t.mask h m2).j i (jK t.mask h (m2+1)))):=by
 obtain⟨b,hb,nb⟩:=T.free;obtain⟨k,hk⟩:=T.pw;obtain⟨BB,h1,e1⟩:=qx hk h hb;have hm:m<=BB:=Classical.byContradiction λz=>nb (by rw[<-e1];exact ahead BB (by omega));obtain⟨d,hd,HY,Dz⟩:=wX (p:=λd=>rK t hs h (m+d)) (BB - m) (.inl (by rw[show m+(BB - m)=BB by omega,e1];exact nb));refine#[m+d,by omega,by omega,λm' g1 g2=>?_,nJ T d _ m (by omega) HY Dz];have:=Dz (m' - m) (by omega);rw[show m+(m' - m)=m' by omega] at this;refine#[Classical.byContradiction λz=>this (.inl z),λi ha z=>this (.inr #[i,ha,z])]
def VS (owner:Bb) (j:Nat):Prop:=(owner.getD j (some 0)).isNone=true
theorem au {mb:Nat} (nb:VS owner (lp mask h mb).1):∀(fuel m n:Nat),mb<m+fuel->m<=mb->jK mask h n=Gf mask (lp mask h m)->(∀n',n'<n->¬VS owner (jK mask h n').j) ->
  ∃n2,layClean.free mask owner fuel (lp mask h m).1 (lp mask h m).2=some (jK mask h n2).j/\VS owner (jK mask h n2).j/\∀n',n'<n2->¬VS owner (jK mask h n').j
 | 0,m,n,hf,hm,_,_=>absurd hf (by omega +splitNatSub)
 | fuel+1,m,n,hf,hm,hn,ahead=>by
  have run:=kL hn;have ge:(lp mask h m).1<=runEnd mask (lp mask h m).1:=by unfold runEnd;split<;>omega
  have jd:∀d,d<=runEnd mask (lp mask h m).1 - (lp mask h m).1->(jK mask h (n+d)).j=(lp mask h m).1+d:=λd hd=>by rw[run d hd]
  rw[layClean.free];cases e:(List.range (runEnd mask (lp mask h m).1+1 - (lp mask h m).1)).find? λk=>(owner.getD ((lp mask h m).1+k) (some 0)).isNone with
  | some k =>
   obtain⟨h1,as,bs,h2,h3⟩:=List.find?_eq_some_iff_append.mp e;have hk:k∈List.range (runEnd mask (lp mask h m).1+1 - (lp mask h m).1):=by rw[h2];simp
   rw[Qa] at hk;have hlen:as.length=k:=by
    have h4:(List.range (runEnd mask (lp mask h m).1+1 - (lp mask h m).1))[as.length]?=some k:=by rw[h2];simp
    have h5:as.length<(List.range (runEnd mask (lp mask h m).1+1 - (lp mask h m).1)).length:=(yi.mp h4).1;rw[QQ] at h5;rw[List.getElem?_range h5] at h4;exact Option.some.inj h4
   refine#[n+k,?_,?_,λn' FL=>?_]
   ·rw[jd k (by omega)]
   ·rw[jd k (by omega)];exact h1
   ·by_cases hl:n'<n
    ·exact ahead n' hl
    ·obtain⟨d,rfl⟩:∃d,n'=n+d:=#[n' - n,by omega];rw[jd d (by omega)];intro z;have hd:d∈as:=by
      have h5:d<(List.range (runEnd mask (lp mask h m).1+1 - (lp mask h m).1)).length:=by rw[QQ];omega
      have h6:(List.range (runEnd mask (lp mask h m).1+1 - (lp mask h m).1))[d]?=some d:=List.getElem?_range (by rw[QQ] at h5;exact h5);rw[h2,yK (by omega)] at h6;exact yT h6
     have:=h3 d hd;rw[z] at this;cases this
  | none =>
   dsimp only;have Lg:=List.find?_eq_none.mp e;have Bw:∀d,d<=runEnd mask (lp mask h m).1 - (lp mask h m).1->¬VS owner ((lp mask h m).1+d):=λd hd=>Lg d (Qa.mpr (by omega));have Bj:m<mb:=by
    rcases Nat.lt_or_eq_of_le hm with h1|h1
    ·exact h1
    ·have:=Bw 0 (yV _);rw[Nat.add_zero,h1] at this;exact absurd nb this
   refine au nb fuel (m+1) (n+(runEnd mask (lp mask h m).1 - (lp mask h m).1)+1) (by omega) (by omega) ?_ λn' FL=>?_
   ·show va mask (jK mask h (n+(runEnd mask (lp mask h m).1 - (lp mask h m).1)))=_;rw[run _ (yg _)];unfold va;rw[if_neg (by show ¬(runEnd mask (lp mask h m).1 - (lp mask h m).1 - (runEnd mask (lp mask h m).1 - (lp mask h m).1) > 0);omega)]
    rfl
   ·by_cases hl:n'<n
    ·exact ahead n' hl
    ·obtain⟨d,rfl⟩:∃d,n'=n+d:=#[n' - n,by omega];rw[jd d (by omega)];exact Bw d (by omega)
theorem pV (hm:mask+1=2^k) (h:Int) {b:Nat} (hb:b<=mask) (nb:VS owner b):∃n2,layClean.free mask owner (turns mask) (bits h % (mask+1)) (bits h)=some (jK mask h n2).j/\VS owner (jK mask h n2).j/\∀n',n'<n2->¬VS owner (jK mask h n').j:=by
 obtain⟨m,m1,e⟩:=az hm (oU mask h 13) hb;exact au (mb:=13+m) (by rw[cF,e];exact nb) (turns mask) 0 0 (by unfold turns;omega) (by omega) rfl λn' h=>absurd h (QS _)
structure VU (mask:Nat) (hs:Nat->Int) (owner:Bb) (r:Nat):Prop where
 size:owner.size=mask+1
 val:∀(j k:Nat),owner[j]?=some (some k)->k<r
 ex:∀k:Nat,k<r->∃j:Nat,owner[j]?=some (some k)
 uq:∀(j j' k:Nat),owner[j]?=some (some k)->owner[j']?=some (some k)->j=j'
 reach:∀(j k:Nat),owner[j]?=some (some k)->∃n,(jK mask (hs k) n).j=j/\∀n',n'<n->∃k':Nat,owner[(jK mask (hs k) n').j]?=some (some k')
theorem ao (hj:j<owner.size):VS owner j↔owner[j]?=some none:=by
 unfold VS;rw[Qi hj];simp only[Array.getD,hj,dite_true];show (owner[j]).isNone=true↔some owner[j]=some none;generalize owner[j]=x;cases x<;>simp
theorem aM (hj:j<owner.size) (h:¬VS owner j):∃k,owner[j]?=some (some k):=by
 rw[ao hj,Qi hj] at h;rw[Qi hj];cases e:owner[j] with
 | none=>rw[e] at h;exact absurd rfl h
 | some k=>exact#[k,rfl]
theorem VU.free (O:VU mask hs owner r) (hr:r<=mask):∃j,j<=mask/\VS owner j:=by
 refine Classical.byContradiction λz=>?_;refine nG mask (λi=>if h:i<r then Classical.choose (O.ex i h) else 0) λj hj=>?_;have BA:¬VS owner j:=λq=>z #[j,hj,q];obtain⟨k,hk⟩:=aM (by rw[O.size];omega) BA;have Tq:=O.val j k hk;refine#[k,by omega,?_];show (if h:k<r then Classical.choose (O.ex k h) else 0)=j;rw[dif_pos Tq];exact O.uq _ _ k (Classical.choose_spec (O.ex k Tq)) hk
theorem VU.step {mask p:Nat}{hs:Nat->Int}{owner:Bb}{r:Nat} (hm:mask+1=2^p) (O:VU mask hs owner r) (hr:r<=mask):∃j,layClean.free mask owner (turns mask) (bits (hs r) % (mask+1)) (bits (hs r))=some j/\VU mask hs (owner.setIfInBounds j (some r)) (r+1):=by
 obtain⟨b,hb,nb⟩:=O.free hr;obtain⟨n2,e1,e2,e3⟩:=pV hm (hs r) hb nb;refine#[_,e1,?_];have hj:(jK mask (hs r) n2).j<owner.size:=by rw[O.size];have:=cS (mask:=mask) (h:=hs r) n2;omega
 have ej:=(ao hj).mp e2;generalize U₂:(jK mask (hs r) n2).j=j at hj ej;have get:∀i:Nat,(owner.setIfInBounds j (some r))[i]?=if i=j then some (some r) else owner[i]?:=λi=>by
  rw[Array.getElem?_setIfInBounds];by_cases h:j=i
  ·subst h;rw[if_pos rfl,if_pos hj,if_pos rfl]
  ·rw[if_neg h,if_neg (λz=>h z.symm)]
 have keep:∀(i k:Nat),owner[i]?=some (some k)->(owner.setIfInBounds j (some r))[i]?=some (some k):=λi k h=>by
  rw[get,if_neg (λz=>by rw[z,ej] at h;cases h)];exact h
 refine#[by rw[Array.size_setIfInBounds];exact O.size,λi k h=>?_,λk hk=>?_,λi i' k h h'=>?_,λi k h=>?_]
 ·rw[get] at h
  split at h
  ·cases h;omega
  ·have:=O.val i k h;omega
 ·by_cases h:k=r
  ·exact#[j,by rw[get,if_pos rfl,h]]
  ·obtain⟨i,hi⟩:=O.ex k (by omega);exact#[i,keep i k hi]
 ·rw[get] at h h'
  split at h
  ·cases h
   split at h'
   ·rename_i a b;rw[a,b]
   ·have:=O.val i' r h';omega
  ·split at h'
   ·cases h';have:=O.val i r h;omega
   ·exact O.uq i i' k h h'
 ·rw[get] at h
  split at h
  ·rename_i e;cases h;refine#[n2,by rw[U₂,e],λn' FL=>?_];obtain⟨k',En⟩:=aM (by rw[O.size];have:=cS (mask:=mask) (h:=hs r) n';omega) (e3 n' FL);exact#[k',keep _ _ En]
  ·obtain⟨n,a1,a2⟩:=O.reach i k h;refine#[n,a1,λn' FL=>?_];obtain⟨k',En⟩:=a2 n' FL;exact#[k',keep _ _ En]
theorem VU.start (mask:Nat) (hs:Nat->Int):VU mask hs (Array.replicate (mask+1) none) 0:=by
 have no:∀(j k:Nat),(Array.replicate (mask+1) (none:Option Nat))[j]?=some (some k)->False:=λj k h=>by
  rw[Array.getElem?_replicate] at h
  split at h<;>cases h
 exact#[by simp,λj k h=>(no j k h).elim,λk h=>absurd h (QS _),λj j' k h=>(no j k h).elim,λj k h=>(no j k h).elim]
theorem MW (hm:mask+1=2^p) {f:Option (Array (Option Nat)×Nat)->Int->Option (Array (Option Nat)×Nat)}
  (hf:∀owner k h,f (some (owner,k)) h=(layClean.free mask owner (turns mask) (bits h % (mask+1)) (bits h)).bind λj=>some (owner.setIfInBounds j (some k),k+1)) :
  ∀(l:List Int) (r:Nat) (owner:Bb),(∀i h,l[i]?=some h->hs (r+i)=h)->r+l.length<=mask+1->VU mask hs owner r->∃DM,l.foldl f (some (owner,r))=some (DM,r+l.length)/\VU mask hs DM (r+l.length)
 | [],r,owner,_,_,O=>#[owner,rfl,O]
 | h::l,r,owner,hh,hr,O=>by
  have h0:=hh 0 h rfl;rw[Nat.add_zero] at h0;rw[yU] at hr;obtain⟨j,e,O'⟩:=O.step hm (by omega);rw[h0] at e;obtain⟨o2,e2,O2⟩:=MW hm hf l (r+1) _ (λi x hx=>by
   have:=hh (i+1) x hx
   rwa [show r+(i+1)=r+1+i by omega] at this) (by omega) O'
  refine#[o2,?_,by rw[yU,show r+(l.length+1)=r+1+l.length by omega];exact O2];rw[List.foldl_cons,hf,e,yU,show r+(l.length+1)=r+1+l.length by omega];exact e2
theorem NN (hm:mask+1=2^p) (hashes:Array Int) (hn:hashes.size<=mask+1):∃owner,layClean mask hashes=some owner/\VU mask (λi=>hashes.getD i 0) owner hashes.size:=by
 unfold layClean;obtain⟨o,e,O⟩:=MW (hs:=λi=>hashes.getD i 0) hm (f:=λacc h=>do
  let (owner,k) <-acc
  let j <-layClean.free mask owner (turns mask) (bits h % (mask+1)) (bits h)
  pure (owner.setIfInBounds j (some k),k+1)) (λowner k h=>rfl) hashes.toList 0 (Array.replicate (mask+1) none) (λi h hi=>by
   rw[Wl];rw[yI] at hi;obtain⟨h1,h2⟩:=Qk.mp hi
   simp [Array.getD,h1,h2]) (by rw[yr];omega) (VU.start mask _)
 rw[Wl,yr] at e O;refine#[o,?_,O];rw[<-Array.foldl_toList,e]
 rfl
def Ut (mask:Nat) (owner:Bb):List (Nat×Nat):=(List.range (mask+1)).filterMap λj=>(owner.getD j none).map (j,·)
theorem Vs (O:VU mask hs owner n):(j,k)∈Ut mask owner↔owner[j]?=some (some k):=by
 unfold Ut;rw[List.mem_filterMap];constructor
 ·rintro⟨a,ha,e⟩;obtain⟨x,e1,e2⟩:=yl.mp e;cases e2;rw[Qa] at ha;have hs:j<owner.size:=by rw[O.size];exact ha
  rw[Qi hs];simp only[Array.getD,hs,dite_true] at e1;rw[<-e1];rfl
 ·intro h;obtain⟨h1,h2⟩:=Qk.mp h;refine#[j,Qa.mpr (by rw[<-O.size];exact h1),?_];simp only[Array.getD,h1,dite_true];show Option.map _ owner[j]=_;rw[h2];rfl
theorem aG (mask:Nat) (owner:Bb):(Ut mask owner).Pairwise λa b=>a.1<b.1:=by
 unfold Ut;refine List.Pairwise.filterMap _ (λa a' h b hb b' Er=>?_) List.pairwise_lt_range;obtain⟨x,_,rfl⟩:=yl.mp hb;obtain⟨x',_,rfl⟩:=yl.mp Er;exact h
theorem eV (O:VU mask hs owner n):((Ut mask owner).map (·.2)).Perm (List.range n):=by
 refine (Qq ?_ List.nodup_range).mpr λk=>?_
 ·refine Qo.mpr ((aG mask owner).imp_of_mem λ{a b} ha hb h e=>?_);have h1:=(Vs O).mp (show (a.1,a.2)∈Ut mask owner from ha);have h2:=(Vs O).mp (show (b.1,b.2)∈Ut mask owner from hb);rw[e] at h1;have:=O.uq _ _ _ h1 h2;omega
 ·rw[yf,Qa];constructor
  ·rintro⟨⟨j,k'⟩,h,rfl⟩;exact O.val j k' ((Vs O).mp h)
  ·intro hk;obtain⟨j,hj⟩:=O.ex k hk;exact#[(j,k),(Vs O).mpr hj,rfl]
theorem aF (a:At (l.map (·.1)).toArray i j):∃k,l[i]?=some (j,k):=by
 have:=Vp.mpr a;rw[QY,yj] at this;obtain⟨x,h1,h2⟩:=yl.mp this;exact#[x.2,by rw[h1,<-h2]]
theorem pN (h:l[i]?=some (j,k)):At (l.map (·.1)).toArray i j:=by
 refine Vp.mp ?_;rw[QY,yj,h];rfl
theorem lS (h:l.Pairwise λa b=>a.1<b.1):vP (l.map (·.1)).toArray:=by
 intro i k DK hk;rw[yk,yb] at hk;rw[Vo,Vo,QY,QY,yj,yj,yc (by omega),yc hk];exact QM.mp h i k (by omega) hk DK
theorem Zy {α:Type}{es:Array α}:∀{l:List Nat},(∀k∈l,k<es.size)->∀i:Nat,(l.filterMap (λk:Nat=>es[k]?))[i]?=(l[i]?).bind (λk:Nat=>es[k]?)
 | [],_,i=>by simp
 | k::l,h,i=>by
  have hk:=h k (yD ..);have e:es[k]?=some es[k]:=Qi hk;rw[List.filterMap_cons,e];dsimp only;cases i with
  | zero=>simp [e]
  | succ i =>
   rw[List.getElem?_cons_succ,List.getElem?_cons_succ];exact Zy (λk hk=>h k (yA _ hk)) i
structure xO (mask n:Nat) (hashes:Array Int) (place:Array Nat) (order:Array Nat):Prop where
 size:place.size=n
 ris:vP place
 le:∀j,Uh place j->j<=mask
 perm:order.toList.Perm (List.range n)
 reach:∀i j,At place i j->∃k,order[i]?=some k/\∃m,(jK mask (hashes.getD k 0) m).j=j/\∀m',m'<m->Uh place (jK mask (hashes.getD k 0) m').j
theorem qh (hm:mask+1=2^p) (hashes:Array Int) (hn:hashes.size<=mask+1) (finger moves:Nat) (led plain:Bool) :
  ∃place order,laid mask finger moves led plain hashes=some ({ mask,place,dummies:=(List.toArray []),finger,led,moves,plain },order)/\xO mask hashes.size hashes place order:=by
 obtain⟨owner,e,O⟩:=NN hm hashes hn;have lp:=eV O;have mem:∀j k,(j,k)∈Ut mask owner↔owner[j]?=some (some k):=λj k=>Vs O;have tk:∀j,Uh ((Ut mask owner).map (·.1)).toArray j↔∃k:Nat,owner[j]?=some (some k):=λj=>by
  constructor
  ·rintro⟨i,a⟩;obtain⟨k,hk⟩:=aF a;exact#[k,(mem j k).mp (yT hk)]
  ·rintro⟨k,hk⟩;obtain⟨i,hi,ei⟩:=Qj ((mem j k).mpr hk);exact#[i,pN (k:=k) (by rw[yc hi,ei])]
 refine#[((Ut mask owner).map (·.1)).toArray,((Ut mask owner).map (·.2)).toArray,?_,?_,lS (aG mask owner),λj hj=>?_,lp,λi j a=>?_]
 ·unfold laid;rw[e]
  rfl
 ·have:=lp.length_eq;rw[yb,QQ] at this;rw[yk,yb,this]
 ·obtain⟨k,hk⟩:=(tk j).mp hj;have:=(Qk.mp hk).1;rw[O.size] at this;omega
 ·obtain⟨k,hk⟩:=aF a;obtain⟨m,h1,h2⟩:=O.reach j k ((mem j k).mp (yT hk));refine#[k,by rw[QY,yj,hk];rfl,m,h1,λm' Oy=>?_];exact (tk _).mpr (h2 m' Oy)
theorem ZE (n:Nat):∀(fuel q:Nat),n<2^(q+fuel)->∃k,sizeAbove.go n fuel (2^q)=2^k/\q<=k/\n<2^k/\(k=q\/2^k<=2*n)
 | 0,q,h=>#[q,rfl,yg _,h,.inl rfl]
 | fuel+1,q,h=>by
  rw[sizeAbove.go];split
  ·rename_i hle;obtain⟨k,h1,h2,h3,h4⟩:=ZE n fuel (q+1) (by rw[show q+1+fuel=q+(fuel+1) by omega];exact h);refine#[k,by rw[<-h1,QN],by omega,h3,.inr ?_];rcases h4 with h4|h4
   ·rw[h4,QN];omega
   ·exact h4
  ·rename_i Bj;exact#[q,rfl,yg _,by omega,.inl rfl]
theorem nV (h:n<2^60):∃k,sizeAbove n=2^k/\3<=k/\n<2^k/\(k=3\/2^k<=2*n):=by
 have:=ZE n 64 3 (yF h (Nat.pow_le_pow_right (by decide) (by decide)));exact this
end STb
namespace STb
open PySem PySem.Spec PyProof.Rows L2 SetTable
local macro_rules|`(tactic|omega)=>`(tactic|first|lia|omega +splitNatSub)
variable {ks k:List Key}{vs:AW}{a b:Addr}{Q:AN}{v:Value}{hs:Nat->Int}{n ep:Nat}{h h':Heap}{o:Obj}{es:AZ}{xs:List (List Key×Addr)}{adr:Nat->Addr}{led:Bool}
section
variable {P:Be}{w:World}{A:Around}{E:AL}{s:Shared}
abbrev tk (P:Be) (w:World):HeapKind P w (List Key):=tupleKind (jW P w)
theorem cw (h:ItemsAre (jW P w) ks vs):∀v∈vs,v.scannable=true:=by
 induction h with
 | nil=>intro v hv;cases hv
 | cons h1 _ ih =>
  intro v hv;rcases yM.mp hv with rfl|hv
  ·rcases Jq h1 with ⟨i,t,_,rfl⟩|⟨x,t,_,rfl⟩<;>rfl
  ·exact ih v hv
theorem iW (hk:(tk P w).is s.heap k a) (h:∀b,Q b s):wpAny (model P w) A (hashByValue 8 (.ref a)) Q E s:=by
 have hk:IsTupleKey (jW P w) s.heap k a:=hk;have hT:=hk.typeIs;obtain⟨o,items,n,ho,_,hd,hi⟩:=hk;unfold hashByValue;refine Bf (wpAny_specialOf hT PySem.F.slot_tuple_hash.lookup ?_);show wpAny _ _ (seqItems? (.ref a)>>=_) _ _ s;refine Bf (wpAny_seqItems ho hd ?_);refine Bf ?_;show wpAny _ _ (forIn items _ _) _ _ s;rw[<-Array.forIn_toList];refine wpAny_forIn_list _ (λrest r s'=>r.1=none/\s'=s/\∀v∈rest,v.scannable=true) _ ?_ ?_ _ _ #[rfl,rfl,cw hi]
 ·rintro v rest r s' ⟨hr,rfl,Bw⟩;rw[hashByValue_scannable _ (Bw v yD)];refine Bf (Bg ?_);cases plainKind v with
  | true =>
   simp only[Wp,Qb,if_false];exact Bg #[rfl,rfl,λu Lh=>Bw u (yA _ Lh)]
  | false =>
   simp only[Bool.not_false,if_true]
   first|exact Bg (Bg (h _))|exact Bf (Bg (Bg (h _)))|exact Bg (h _)
 ·rintro⟨r1,r2⟩ s' ⟨hr,rfl,_⟩;simp only at hr;subst hr;exact Bg (h _)
def zc (k:List Key):Prop:=∀x∈k,∃i,x=Sum.inl i
theorem NL (h:ItemsAre (jW P w) ks vs) (hi:zc ks):∀v∈vs,v.scannable=true/\plainKind v=true:=by
 induction h with
 | nil=>intro v hv;cases hv
 | cons h1 _ ih =>
  intro v hv;rcases yM.mp hv with rfl|hv
  ·obtain⟨i,e0⟩:=hi _ yD;rcases Jq h1 with ⟨i,t,_,rfl⟩|⟨x,t,e,rfl⟩
   ·exact#[rfl,rfl]
   ·rw[e0] at e;cases e
  ·exact ih (λx hx=>hi x (yA _ hx)) v hv
theorem d6 (hk:(tk P w).is s.heap k a) (h:∀b,(zc k->b=true)->Q b s):wpAny (model P w) A (hashByValue 8 (.ref a)) Q E s:=by
 by_cases hz:zc k
 ·have h:=h true λ_=>rfl;have hk:IsTupleKey (jW P w) s.heap k a:=hk;have hT:=hk.typeIs;obtain⟨o,items,n,ho,_,hd,hi⟩:=hk;unfold hashByValue;refine Bf (wpAny_specialOf hT PySem.F.slot_tuple_hash.lookup ?_);show wpAny _ _ (seqItems? (.ref a)>>=_) _ _ s;refine Bf (wpAny_seqItems ho hd ?_);refine Bf ?_;show wpAny _ _ (forIn items _ _) _ _ s;rw[<-Array.forIn_toList];refine wpAny_forIn_list _ (λrest r s'=>r.1=none/\s'=s/\∀v∈rest,v.scannable=true/\plainKind v=true) _ ?_ ?_ _ _ #[rfl,rfl,NL hi hz]
  ·rintro v rest r s' ⟨hr,rfl,Bw⟩;rw[hashByValue_scannable _ (Bw v yD).1,(Bw v yD).2];refine Bf (Bg ?_);simp only[Wp,Qb,if_false];exact Bg #[rfl,rfl,λu Lh=>Bw u (yA _ Lh)]
  ·rintro⟨r1,r2⟩ s' ⟨hr,rfl,_⟩;simp only at hr;subst hr;exact Bg h
 ·exact iW hk λb=>h b λz=>absurd z hz
theorem oB (n:Nat) (h:carriedByValue v=true):ofAClassStatement n v=pure false:=by
 cases v with
 | ref a=>cases h
 | _=>first|rfl|(unfold ofAClassStatement;rfl)
theorem n5 (hk:(tk P w).is s.heap k a) (h:Q false s):wpAny (model P w) A (ofAClassStatement 8 (.ref a)) Q E s:=by
 have hk:IsTupleKey (jW P w) s.heap k a:=hk;have hT:=hk.typeIs;obtain⟨o,items,n,ho,_,hd,hi⟩:=hk;unfold ofAClassStatement;refine Bf (wpAny_typeOf hT ?_);dsimp only;rw[if_pos (show (("tuple":String)=="tuple")=true by decide)];refine Bf (Bg ?_);simp only[Wp,Qb,if_false];refine Bf (wpAny_seqItems ho hd ?_);dsimp only;refine Bf ?_;rw[<-Array.forIn_toList];refine wpAny_forIn_list _ (λrest r s'=>r.1=none/\s'=s/\∀v∈rest,carriedByValue v=true) _ ?_ ?_ _ _ #[rfl,rfl,hi.byValue]
 ·rintro v rest r s' ⟨hr,rfl,Bw⟩;rw[oB _ (Bw v yD)];refine Bf (Bg ?_);simp only[Qb,if_false];exact Bg #[rfl,rfl,λu Lh=>Bw u (yA _ Lh)]
 ·rintro⟨r1,r2⟩ s' ⟨hr,rfl,_⟩;simp only at hr;subst hr;exact Bg h
theorem lV {stored:AW} (hk:(tk P w).is s.heap k a) (BK:∀v∈stored,∃k' b,v=.ref b/\(tk P w).is s.heap k' b) (h:Q false s):wpAny (model P w) A (searchCouldBeSeen (.ref a) stored) Q E s:=by
 unfold searchCouldBeSeen;refine Bf ?_;refine wpAny_forIn_list _ (λrest r s'=>s'=s/\r.1=none/\∀v∈rest,∃k' b,v=.ref b/\(tk P w).is s.heap k' b) _ ?_ ?_ _ _ #[rfl,rfl,BK]
 ·rintro x rest r s' ⟨rfl,hr,Bw⟩;obtain⟨k',b,rfl,hb⟩:=Bw x yD;have Fb:∀v∈rest,∃k' b,v=.ref b/\(tk P w).is s'.heap k' b:=λv hv=>Bw v (yA _ hv);dsimp only;split
  ·exact Bg #[rfl,rfl,Fb]
  ·refine Bf ((tk P w).quiet hk ?_);simp only[Wp,Qb,if_false];refine Bf ((tk P w).quiet hb ?_);simp only[Wp,Qb,if_false];refine Bf (n5 hk ?_);simp only[Qb,if_false];refine Bf (n5 hb ?_);simp only[Qb,if_false];exact Bg #[rfl,rfl,Fb]
 ·rintro⟨r1,r2⟩ s' ⟨rfl,hr,_⟩;simp only at hr;subst hr;exact Bg h
end
section
variable {P:Be}{w:World}{A:Around}{E:AL}{s:Shared}
def UJ (es:AZ) (i:Nat):Int:=(es[i]?.map (·.1)).getD 0
theorem vR.fits {t:SetTable} (T:vR t hs n):t.fits n=true:=by
 unfold SetTable.fits SetTable.fill;rw[T.dm,T.size];have:=T.room;simp;exact this
theorem vR.odd {t:SetTable} (T:vR t hs n) (h1:1<=n\/1<=t.mask):t.gaveWay=false:=by
 unfold SetTable.gaveWay;obtain⟨k,hk⟩:=T.pw;have:=T.room;cases k with
 | zero=>simp at hk;omega
 | succ k =>
  rw[QN] at hk;have:t.mask % 2=1:=by omega
  rw[this];rfl
structure aa (P:Be) (w:World) (h:Heap) (a:Addr) (o:Obj) (es:AZ) (ep:Nat) (t:SetTable) (xs:List (List Key×Addr)):Prop where
 get:h.get? a=some o
 ex:o.ExactSet
 data:o.data=.set es ep t
 ent:es.toList=xs.map λx=>((tk P w).hash x.1,Value.ref x.2)
 tb:vR t (UJ es) es.size
 msk:7<=t.mask/\t.mask<=9000
 load:es.size*5<t.mask*3
 is:∀x∈xs,(tk P w).is h x.1 x.2
 nd:(xs.map (·.1)).Nodup
theorem aa.at {t:SetTable} (I:aa P w h a o es ep t xs) (i:Nat):es[i]?=(xs[i]?).map λx=>((tk P w).hash x.1,Value.ref x.2):=by
 rw[<-yI,I.ent,yj]
theorem gu {t:SetTable}{Q:SetFound->Shared->Prop} (hu:A.units<cLine) (I:aa P w s.heap a o es ep t xs) (hk:(tk P w).is s.heap k b)
  (q1:k∈xs.map (·.1)->Q (.there none) s) (q2:k ∉ xs.map (·.1)->∀n,¬Uh t.place (jK t.mask ((tk P w).hash k) n).j->(∀m',m'<n->Uh t.place (jK t.mask ((tk P w).hash k) m').j)->Q (.free (jK t.mask ((tk P w).hash k) n).j false) s) :
  ∀(fuel m:Nat) (CO:Option Probe),10*turns t.mask - m<fuel->CO.getD (t.probeStart ((tk P w).hash k))=jK t.mask ((tk P w).hash k) m ->
   (∀m',m'<m->Uh t.place (jK t.mask ((tk P w).hash k) m').j/\∀i,At t.place i (jK t.mask ((tk P w).hash k) m').j->∀x,xs[i]?=some x->x.1≠k) ->
   wpAny (model P w) A (setSearchFrom a (.ref b) ((tk P w).hash k) true fuel CO) Q E s
 | 0,m,CO,hf,_,_=>absurd hf (by omega +splitNatSub)
 | fuel+1,m,CO,hf,BK,ahead=>by
  have T:=I.tb;obtain⟨m2,g1,g2,g3,g4⟩:=T.probe ((tk P w).hash k) (m:=m) λm' h=>(ahead m' h).1;unfold setSearchFrom;refine Bf (wpAny_setState_of I.get I.data T.fits ?_);dsimp only;rw[T.odd (.inr (by have:=I.msk.1;omega))];simp only[Qb,if_false];rw[BK];have FU:es.size=xs.length:=by rw[<-yr,I.ent,yb]
  have P4:∀i x,xs[i]?=some x->UJ es i=(tk P w).hash x.1:=λi x hx=>by unfold UJ;rw[I.at,hx];rfl
  rcases g4 with ⟨ne,e⟩|⟨i,ha,hh,e⟩
  ·split
   ·rename_i met heq;have DN:t.probe (UJ es) ((tk P w).hash k) (jK t.mask ((tk P w).hash k) m)=some met:=heq;rw[e] at DN;cases DN;dsimp only;refine Bg (q2 (λBn=>?_) m2 ne λm' Oy=>?_)
    ·obtain⟨x,hx,rfl⟩:=yf.mp Bn;obtain⟨i0,Bq,v₁⟩:=Qj hx;have ex:xs[i0]?=some x:=by rw[yc Bq,v₁]
     have DE:At t.place i0 (t.place.getD i0 0):=#[by rw[T.size,FU];exact Bq,rfl];obtain⟨m0,r1,r2⟩:=T.reach i0 _ DE;rw[P4 i0 x ex] at r1 r2;rw[<-r1] at DE;have h0:m0<m2:=by
      rcases Nat.lt_trichotomy m0 m2 with h|h|h
      ·exact h
      ·exact absurd #[i0,h▸DE] ne
      ·exact absurd (r2 m2 h) ne
     by_cases h1:m0<m
     ·exact (ahead m0 h1).2 i0 DE x ex rfl
     ·exact (g3 m0 (by omega) h0).2 i0 DE (P4 i0 x ex)
    ·by_cases h1:m'<m
     ·exact (ahead m' h1).1
     ·exact (g3 m' (by omega) Oy).1
   ·rename_i heq;exact absurd e (heq _)
  ·have hi:i<xs.length:=by rw[<-FU,<-T.size];exact ha.1
   have ex:=yc hi;generalize xs[i]=x at ex;have hx:x∈xs:=yT ex;have Tr:es[i]?=some ((tk P w).hash x.1,Value.ref x.2):=by rw[I.at,ex];rfl
   have BK:∀v∈List.map (λx=>x.snd) (Array.filter (λx=>x.fst==(tk P w).hash k) es).toList,∃k' b,v=.ref b/\(tk P w).is s.heap k' b:=λv hv=>by
    obtain⟨y,hy,rfl⟩:=yf.mp hv;have Ts:y∈es.toList:=by
     rw[Array.toList_filter] at hy;exact (yZ.mp hy).1
    rw[I.ent] at Ts;obtain⟨z,hz,rfl⟩:=yf.mp Ts;exact#[z.1,z.2,rfl,I.is z hz]
   split
   ·rename_i met heq;have DN:t.probe (UJ es) ((tk P w).hash k) (jK t.mask ((tk P w).hash k) m)=some met:=heq;rw[e] at DN;cases DN;dsimp only;split
    all_goals (first|(refine Bf (lV hk BK ?_);simp only[Qb,if_false])|skip)
    all_goals
     rw[Tr];dsimp only;refine Bf (wpAny_holding ((tk P w).eqBool hu (I.is x hx) hk ?_));refine Bf (wpAny_setState_of I.get I.data T.fits ?_);dsimp only;by_cases Oz:x.1=k
     ·rw[decide_eq_true Oz,if_pos (show (true&&true)=true from rfl)];exact Bg (q1 (yf.mpr #[x,hx,Oz]))
     ·rw[decide_eq_false Oz,if_neg (by decide)];have v₂:t.sameMemory t.moves t.mask=some true:=by unfold SetTable.sameMemory;rw[if_pos (beq_self_eq_true _)]
      rw[v₂];dsimp only;rw[if_pos rfl,ZF T.ris ha];dsimp only;rw[Tr];dsimp only;refine Bf (wpAny_isSame_ref_self ?_);refine Bf (Bg ?_);rw[if_pos rfl];dsimp only;rw[if_neg (by decide)];refine gu hu I hk q1 q2 fuel (m2+1) _ (by omega) rfl λm' Oy=>?_;by_cases h1:m'<m
      ·exact ahead m' h1
      ·by_cases h2:m'<m2
       ·obtain⟨g5,g6⟩:=g3 m' (by omega) h2;exact#[g5,λi' Li x' FV z=>g6 i' Li (by rw[P4 i' x' FV,z])]
       ·obtain rfl:m'=m2:=by omega
        refine#[#[i,ha],λi' Li x' FV z=>?_];rw[Li.uniq T.ris ha,ex] at FV;cases FV;exact Oz z
   ·rename_i heq;exact absurd e (heq _)
end
section
variable {P:Be}{w:World}{A:Around}{E:AL}{s:Shared}
theorem vR.put {t:SetTable} (T:vR t (UJ es) es.size) {h:Int} (hr:es.size+1<=t.mask) (ne:¬Uh t.place (jK t.mask h n).j) (ahead:∀m',m'<n->Uh t.place (jK t.mask h m').j) :
  vR (t.put (jK t.mask h n).j).1 (UJ (insertAt es (t.put (jK t.mask h n).j).2 (h,v))) (insertAt es (t.put (jK t.mask h n).j).2 (h,v)).size/\(t.put (jK t.mask h n).j).2<=es.size/\(t.put (jK t.mask h n).j).1.mask=t.mask:=by
 obtain⟨b1,b2,b3⟩:=Vl T.ris (jK t.mask h n).j;have V':=cS (mask:=t.mask) (h:=h) n;have hp:(t.put (jK t.mask h n).j).2=below t.place (jK t.mask h n).j:=rfl;have Bx:(t.put (jK t.mask h n).j).1.place=insertAt t.place (below t.place (jK t.mask h n).j) (jK t.mask h n).j:=rfl;have Fc:(t.put (jK t.mask h n).j).1.mask=t.mask:=rfl;have OA:below t.place (jK t.mask h n).j<=es.size:=by rw[<-T.size];exact b1
 have V₁:(t.put (jK t.mask h n).j).1.dummies=(List.toArray []):=by
  show (if has t.dummies _ then eraseAt t.dummies _ else t.dummies)=(List.toArray []);rw[T.dm];rfl
 have hs:∀i,UJ (insertAt es (below t.place (jK t.mask h n).j) (h,v)) i=if i<below t.place (jK t.mask h n).j then UJ es i else if i=below t.place (jK t.mask h n).j then h else UJ es (i - 1):=λi=>by
  unfold UJ;rw[getElem?_insertAt es OA];split
  ·rfl
  ·split<;>rfl
 refine#[#[?_,?_,λj hj=>?_,V₁,T.pw,?_,λi j a=>?_],OA,Fc]
 ·rw[Bx,hp,u4 _ b1,u4 _ OA,T.size]
 ·rw[Bx];exact qC T.ris ne
 ·rw[Bx,bj b1] at hj;rcases hj with hj|rfl
  ·exact T.le j hj
  ·exact V'
 ·rw[hp,u4 _ OA,Fc];exact hr
 ·rw[Bx,Zc b1] at a;rw[hp,hs,Fc,Bx];have up:∀{j'},Uh t.place j'->Uh (insertAt t.place (below t.place (jK t.mask h n).j) (jK t.mask h n).j) j':=λq=>(bj b1).mpr (.inl q)
  split at a
  ·rename_i Bj;rw[if_pos Bj];obtain⟨m,r1,r2⟩:=T.reach i j a;exact#[m,r1,λm' h'=>up (r2 m' h')]
  ·rename_i Bj;rw[if_neg Bj]
   split at a
   ·rename_i he;rw[if_pos he];exact#[n,a,λm' h'=>up (ahead m' h')]
   ·rename_i he;rw[if_neg he];obtain⟨m,r1,r2⟩:=T.reach (i - 1) j a.1;exact#[m,r1,λm' h'=>up (r2 m' h')]
theorem fX {α:Type} (es:Array α):(List.range es.size).filterMap (λk:Nat=>es[k]?)=es.toList:=by
 refine Q6 λi=>?_;rw[Zy (λk hk=>Qa.mp hk)];by_cases h:i<es.size
 ·rw[List.getElem?_range h,yI];rfl
 ·have h1:(List.range es.size)[i]?=none:=List.getElem?_eq_none (by rw[QQ];omega);have h2:es.toList[i]?=none:=List.getElem?_eq_none (by rw[yr];omega);rw[h1,h2];rfl
theorem lQ {t:SetTable} (h1:1<=es.size) (h2:es.size<=1000) :
  ∃t' order,t.relaid (es.map (·.1)) (grown es.size)=some (t',order)/\(order.filterMap (λk:Nat=>es[k]?)).toList.Perm es.toList/\(order.filterMap (λk:Nat=>es[k]?)).size=es.size/\vR t' (UJ (order.filterMap (λk:Nat=>es[k]?))) (order.filterMap (λk:Nat=>es[k]?)).size/\7<=t'.mask/\t'.mask<=9000/\4*es.size<=t'.mask/\t'.led=t.led/\sizeAbove (grown es.size)<=9000/\t'.plain=t.plain:=by
 have hg:grown es.size=es.size*4:=by unfold grown;rw[if_neg (by omega)]
 obtain⟨k,e1,k3,k4,k5⟩:=nV (n:=grown es.size) (by rw[hg];exact yL (show es.size*4<=4000 by omega) (by decide));have hle:2^k<=8000:=by
  rcases k5 with rfl|k5
  ·decide
  ·rw[hg] at k5;omega
 have h8:8<=2^k:=yp (by decide:8<=2^3) (Nat.pow_le_pow_right (by decide) k3);have hm:2^k - 1+1=2^k:=by omega
 rw[hg] at k4;obtain⟨place,order,e2,La⟩:=qh hm (es.map (·.1)) (by rw[Array.size_map];omega) t.finger (t.movedTo (2^k - 1)) t.led t.plain;rw[Array.size_map] at La;have Lj:∀x∈order.toList,x<es.size:=λx hx=>Qa.mp (La.perm.mem_iff.mp hx);have tl:(order.filterMap (λk:Nat=>es[k]?)).toList=order.toList.filterMap (λk:Nat=>es[k]?):=Array.toList_filterMap;have pm:(order.filterMap (λk:Nat=>es[k]?)).toList.Perm es.toList:=by
  rw[tl,<-fX es];exact La.perm.filterMap _
 have sz:(order.filterMap (λk:Nat=>es[k]?)).size=es.size:=by rw[<-yr,pm.length_eq,yr]
 refine#[{ mask:=2^k - 1,place:=place,dummies:=(List.toArray []),finger:=t.finger,led:=t.led,moves:=t.movedTo (2^k - 1),plain:=t.plain },order,by unfold relaid;rw[e1];exact e2,pm,sz,#[by rw[sz];exact La.size,La.ris,La.le,rfl,#[k,hm],by rw[sz];show es.size<=2^k - 1;omega,λi j a=>?_],by show 7<=2^k - 1;omega,by show 2^k - 1<=9000;omega,by show 4*es.size<=2^k - 1;omega,rfl,by rw[e1];omega,rfl];obtain⟨x,o1,m,r1,r2⟩:=La.reach i j a;have hx:x<es.size:=Lj x (by rw[<-yI] at o1;exact yT o1);have hh:UJ (order.filterMap (λk:Nat=>es[k]?)) i=(es.map (·.1)).getD x 0:=by
  unfold UJ;rw[<-yI,tl,Zy Lj,yI,o1];show (Option.map _ es[x]?).getD 0=_;rw[Qi hx];simp [Array.getD,hx]
 rw[hh];exact#[m,r1,r2]
end
section
variable {P:Be}{w:World}{A:Around}{E:AL}{s:Shared}
theorem gU {t:SetTable} (x:(tk P w).is h k b) (ho:h.get? a=some o) (hd:o.data=.set es ep t) (hs:Heap.SameBut a h h'):(tk P w).is h' k b:=by
 obtain⟨o',items,n,BP,hc,D7,hi⟩:=x;have BA:b≠a:=by
  rintro rfl;obtain rfl:o'=o:=Option.some.inj (BP.symm.trans ho);rw[hd] at D7;exact nomatch D7
 exact#[o',items,n,(hs.2 b BA).trans BP,hc,D7,hi]
theorem G5 {α:Type} (xs:Array α) {p:Nat} (hp:p<=xs.size) (x:α):(insertAt xs p x).toList=xs.toList.take p++x::xs.toList.drop p:=by
 refine Q6 λi=>?_;rw[yI,getElem?_insertAt xs hp,List.getElem?_append,yO,yr];have e:min p xs.size=p:=by omega
 rw[e];split
 ·rw[List.getElem?_take_of_lt (by assumption),yI]
 ·split
  ·rename_i h;subst h;simp
  ·rename_i h1 h2;obtain⟨d,rfl⟩:∃d,i=p+d+1:=#[i - p - 1,by omega];rw[show p+d+1 - p=d+1 by omega,List.getElem?_cons_succ,List.getElem?_drop,yI]
   rfl
theorem lL {α β:Type}{f:α->β}{l l':List β} (p:l.Perm l'):∀xs:List α,l'=xs.map f->∃FW:List α,FW.Perm xs/\l=FW.map f:=by
 induction p with
 | nil=>intro xs h;exact#[xs,.refl _,h]
 | cons x _ ih =>
  intro xs h;cases xs with
  | nil=>cases h
  | cons y ys =>
   rw[yH] at h;injection h with h1 h2
   obtain⟨zs,q,e⟩:=ih ys h2;exact#[y::zs,q.cons y,by rw[yH,<-h1,e]]
 | swap x y l =>
  intro xs h
  match xs,h with
  | [],h=>cases h
  | [_],h=>cases h
  | u::v::zs,h =>
   rw[yH,yH] at h;injection h with h1 h
   injection h with h2 h3
   exact#[v::u::zs,List.Perm.swap u v zs,by rw[yH,yH,h1,h2,h3]]
 | trans _ _ ih1 ih2 =>
  intro xs h;obtain⟨ys,q,e⟩:=ih2 xs h;obtain⟨zs,q2,e2⟩:=ih1 ys e;exact#[zs,q2.trans q,e2]
theorem KD {t:SetTable} (ho:h.get? a=some o) (hd:o.data=.set es ep t) (CW:AZ) (t':SetTable):(h.update a (Obj.putSet CW t')).get? a=some { o with data:=.set CW (ep+1) t' }:=by
 have:=Qt (Obj.putSet CW t') ho (by rw[putSet_of CW t' hd];rfl);rw[putSet_of CW t' hd] at this;exact this
theorem pM {t:SetTable} (hu:A.units<cLine) (I:aa P w s.heap a o es ep t xs) (hk:(tk P w).is s.heap k b) (hn:xs.length<=990)
  (q1:k∈xs.map (·.1)->Q false s) (q2:k ∉ xs.map (·.1)->∀h' o' CW Ej t' FW,aa P w h' a o' CW Ej t' FW->FW.Perm ((k,b)::xs)->Heap.SameBut a s.heap h'->t'.led=t.led->(zc k->t.plain=true->t'.plain=true)->Q true { s with heap:=h' }) :
  wpAny (model P w) A (setAddHashed a (.ref b) ((tk P w).hash k)) Q E s:=by
 have FU:es.size=xs.length:=by rw[<-yr,I.ent,yb]
 unfold setAddHashed setAddHashedIn;refine wpAny_holding (Bf (wpAny_setState_of I.get I.data I.tb.fits ?_));dsimp only;rw[show byScan (Value.ref b) es=false from rfl];simp only[Qb,if_false];unfold setSearch;refine Bf (gu hu I hk (λBn=>?_) (λOB n ne ahead=>?_) 100000 0 none (by have:=I.msk.2;unfold turns;omega) rfl (λm' h=>absurd h (QS _)))
 ·dsimp only;exact Bg (q1 Bn)
 ·dsimp only;refine Bf (wpAny_setState_of I.get I.data I.tb.fits ?_);dsimp only;have hload:=I.load;have P5:=I.msk;obtain⟨T1,hp,Fc⟩:=I.tb.put (v:=Value.ref b) (by omega) ne ahead;have Bx:(t.put (jK t.mask ((tk P w).hash k) n).j).1.led=t.led:=rfl;have HZ:(t.put (jK t.mask ((tk P w).hash k) n).j).1.plain=t.plain:=rfl;generalize (t.put (jK t.mask ((tk P w).hash k) n).j).1=t1 at T1 Fc Bx HZ ⊢;generalize (t.put (jK t.mask ((tk P w).hash k) n).j).2=p at T1 hp ⊢;have Es:(insertAt es p ((tk P w).hash k,Value.ref b)).toList=(xs.take p++(k,b)::xs.drop p).map λx=>((tk P w).hash x.1,Value.ref x.2):=by
   rw[G5 es hp,I.ent,yn,yH,List.map_take,List.map_drop]
  have Lk:(xs.take p++(k,b)::xs.drop p).Perm ((k,b)::xs):=by
   refine List.perm_middle.trans ?_;rw[y9]
  have OC:(insertAt es p ((tk P w).hash k,Value.ref b)).size=es.size+1:=u4 es hp _;generalize insertAt es p ((tk P w).hash k,Value.ref b)=es1 at T1 Es OC ⊢;generalize xs.take p++(k,b)::xs.drop p=xs1 at Es Lk;have tail:∀t2:SetTable,vR t2 (UJ es1) es1.size->t2.mask=t.mask->t2.led=t.led->(zc k->t.plain=true->t2.plain=true)->wpAny (model P w) A (do
    storeSet a es1 t2
    if (!false&&t2.tooFull)=true then do
      setRelay a (grown (es.size+1))
      pure true
     else pure true) Q E s:=λt2 T2 m2 l2 p2=>by
   refine Bf (wpAny_storeSet_of I.get I.data ?_ (by rw[OC];exact yp (show _<=1000 by omega) (by decide)));have g1:=KD I.get I.data es1 t2;have Fd:=Heap.SameBut.update s.heap a (Obj.putSet es1 t2);have P6:∀x∈xs1,(tk P w).is (s.heap.update a (Obj.putSet es1 t2)) x.1 x.2:=λx hx=>by
    rcases yM.mp (Lk.mem_iff.mp hx) with rfl|hx
    ·exact gU hk I.get I.data Fd
    ·exact gU (I.is x hx) I.get I.data Fd
   have Tt:(xs1.map (·.1)).Nodup:=((Lk.map (·.1)).nodup_iff).mpr (Qu.mpr #[OB,I.nd]);generalize s.heap.update a (Obj.putSet es1 t2)=h1 at g1 Fd P6 ⊢;cases hf:t2.tooFull with
   | false =>
    rw[if_neg (by decide)];refine Bg (q2 OB h1 _ es1 (ep+1) t2 xs1 #[g1,I.ex,rfl,Es,T2,by rw[m2];exact P5,?_,P6,Tt] Lk Fd l2 p2);unfold SetTable.tooFull SetTable.fill at hf;rw[T2.size,T2.dm] at hf;have:=of_decide_eq_false hf;simp at this;omega
   | true =>
    rw[if_pos (by rfl)];obtain⟨t3,order,e3,V₂,P7,T3,k7,k9,k4,l3,ks,p3⟩:=lQ (t:=t2) (es:=es1) (by omega) (by omega);unfold setRelay;refine Bf (Bf (wpAny_setState_of (s:={ s with heap:=h1 }) g1 rfl T2.fits ?_));dsimp only;rw[OC] at e3 ks;rw[if_neg (by have:(9000:Nat)<=sizeLine:=(by decide);omega),e3];refine Bf (wpAny_of_eq (show _=pure (order.filterMap (λk:Nat=>es1[k]?),t3) from ?_) ?_)
    ·show (if ((order.filterMap (λk:Nat=>es1[k]?)).size != es1.size)=true then _ else pure (order.filterMap (λk:Nat=>es1[k]?),t3))=_;rw[if_neg (by rw[P7];simp)]
    obtain⟨z₁,px,z₂⟩:=lL V₂ xs1 Es;dsimp only;refine wpAny_storeSet_of (s:={ s with heap:=h1 }) g1 rfl (Bg ?_) (by rw[P7,OC];exact yp (show _<=1000 by omega) (by decide));have Tu:=Heap.SameBut.update h1 a (Obj.putSet (order.filterMap (λk:Nat=>es1[k]?)) t3);refine q2 OB _ _ _ (ep+1+1) t3 z₁ #[KD g1 rfl _ t3,I.ex,rfl,z₂,T3,#[k7,k9],by rw[P7];omega,λx hx=>gU (P6 x (px.mem_iff.mp hx)) g1 rfl Tu,((px.map (·.1)).nodup_iff).mpr Tt] (px.trans Lk) (Fd.trans Tu) (l3.trans l2) λz1 z2=>p3.trans (p2 z1 z2)
  split
  ·refine Bf (d6 hk λbv Z₁=>?_);cases bv with
   | true=>exact tail t1 T1 Fc Bx λ_ z=>HZ.trans z
   | false=>exact tail { t1 with plain:=false } #[T1.size,T1.ris,T1.le,T1.dm,T1.pw,T1.room,T1.reach] Fc Bx λz=>Bool.noConfusion (Z₁ z)
  ·refine Bf (Bg ?_);exact tail t1 T1 Fc Bx λ_ z=>HZ.trans z
end
section
variable {P:Be}{w:World}
theorem Uy (x:(tk P w).is h k b) (e:∀o,h.get? b=some o->h'.get? b=some o):(tk P w).is h' k b:=by
 obtain⟨o',items,m',ho,hc,hd,hi⟩:=x;exact#[o',items,m',e _ ho,hc,hd,hi]
def Mt (P:Be) (w:World) (S:Addr) (n:Nat) (val:Nat->List Key) (adr:Nat->Addr) (led:Bool) (i:Nat) (h:Heap):Prop :=
 ∃o es ep t xs,aa P w h S o es ep t xs/\(t.led=led/\((∀j,j<n->zc (val j))->t.plain=true))/\xs.length<=i/\(∀x∈xs,∃j,j<n/\x.2=adr j)/\∀k,k∈xs.map (·.1)↔∃j,j<i/\val j=k
theorem Mt.keep {S:Addr}{val:Nat->List Key}{i:Nat} (m:Mt P w S n val adr led i h) (hS:∀o,h.get? S=some o->h'.get? S=some o) (hj:∀j,j<n->∀o,h.get? (adr j)=some o->h'.get? (adr j)=some o):Mt P w S n val adr led i h':=by
 obtain⟨o,es,ep,t,xs,I,l1,l2,l3,l4⟩:=m;refine#[o,es,ep,t,xs,#[hS _ I.get,I.ex,I.data,I.ent,I.tb,I.msk,I.load,λx hx=>?_,I.nd],l1,l2,l3,l4];obtain⟨j,h1,h2⟩:=l3 x hx;exact Uy (I.is x hx) (by rw[h2];exact hj j h1)
variable {A:Around}{R:Result->Shared->Prop}{It:Addr}{fp wr:AX}{G:Array GenState->Array GenState->Prop}{n:Nat}{Pr:Nat->Value->Prop}{St:Nat->Shared->Prop}
theorem MX (W:WalksS P w A.in1 It fp wr G n Pr St) (hu:A.in1.units<cLine) (S:Addr) (OD:S ∉ fp) (val:Nat->List Key) (adr:Nat->Addr) (led:Bool) (DO:∀i v,Pr i v->v=.ref (adr i)) (hb:n<=990) (ha:∀j,j<n->adr j ∉ wr/\adr j≠S) :
  ∀(d i:Nat) (s:Shared),n - i=d->i<=n->St i s->(∀j,j<n->(tk P w).is s.heap (val j) (adr j))->Mt P w S n val adr led i s.heap->(∀s',Moved (S::wr) G s s'->Mt P w S n val adr led n s'.heap->R (.ok (.ret .none)) s') ->
   codeAny (model P w) A (.builtin "set.update.loop" #[[.ref S,.ref It],[]]) R s
 | 0,i,s,hd,hi,st,ks,m,hR=>by
  obtain rfl:i=n:=by omega
  refine codeAny_builtin PyProof.Rows.F.entry_set_update_loop ?_;rw[Around.under_plainId PyProof.Rows.F.plain_set_update_loop _];refine Bf (W.done s _ _ st λs' mv=>Bg (hR s' (mv.mono λb hb=>yA _ hb) ?_));exact m.keep (λo e=>mv.heap S o (λz=>OD (W.sub _ z)) e) λj hj o e=>mv.heap _ o (ha j hj).1 e
 | d+1,i,s,hd,hi,st,ks,m,hR=>by
  have Bj:i<n:=by omega
  refine codeAny_builtin PyProof.Rows.F.entry_set_update_loop ?_;rw[Around.under_plainId PyProof.Rows.F.plain_set_update_loop _];refine Bf (W.item i s _ _ Bj st λv s' hP Ca mv=>?_);obtain rfl:=DO i v hP;have Bm:∀j,j<n->(tk P w).is s'.heap (val j) (adr j):=λj hj=>Uy (ks j hj) λo e=>mv.heap _ o (ha j hj).1 e;obtain⟨o,es,ep,t,xs,I,l1,l2,l3,l4⟩:=m.keep (h':=s'.heap) (λo e=>mv.heap S o (λz=>OD (W.sub _ z)) e) λj hj o e=>mv.heap _ o (ha j hj).1 e;have P8:∀b∈wr,b∈S::wr:=λb hb=>yA _ hb;refine Bf (wpAny_holding ?_);unfold setAdd;refine wpAny_holding (Bf ((tk P w).pyHash hu (Bm i Bj) ?_));have go:∀h':Heap,Heap.SameBut S s'.heap h'->Mt P w S n val adr led (i+1) h'->codeAny (model P w) A (.builtin "set.update.loop" #[[.ref S,.ref It],[]]) R { s' with heap:=h',toks:=s'.toks+(tk P w).draws (val i) }:=λh' sb m'=>by
   refine MX W hu S OD val adr led DO hb ha d (i+1) _ (by omega) Bj (W.frame _ s' _ _ Ca (Nat.le_add_right _ _) λb hb o e=>?_) (λj hj=>Uy (Bm j hj) λo e=>?_) m' λs2 P9 m2=>hR s2 (Moved.trans W.gtrans ((mv.mono P8).then_heap (Nat.le_add_right _ _) λb o hb e=>?_) P9) m2
   ·rw[sb.2 b (λz:b=S=>OD (by rw[<-z];exact hb))];exact e
   ·rw[sb.2 _ (ha j hj).2];exact e
   ·rw[sb.2 b (λz:b=S=>hb (by rw[z];exact yD))];exact e
  refine pM (s:={ s' with toks:=s'.toks+(tk P w).draws (val i) }) hu I (Bm i Bj) (by omega) (λBn=>?_) (λOB h' o' CW Ej t' FW I' pm sb hl hp=>?_)
  ·refine Bg #[plainId_quiet PyProof.Rows.F.plain_set_update_loop _,go s'.heap (Heap.SameBut.refl S s'.heap) #[o,es,ep,t,xs,I,l1,by omega,l3,λk=>?_]];rw[l4 k];constructor
   ·rintro⟨j,h1,h2⟩;exact#[j,by omega,h2]
   ·rintro⟨j,h1,h2⟩;by_cases e:j=i
    ·subst e;rw[<-h2];exact (l4 _).mp Bn
    ·exact#[j,by omega,h2]
  ·refine Bg #[plainId_quiet PyProof.Rows.F.plain_set_update_loop _,go h' sb #[o',CW,Ej,t',FW,I',#[hl.trans l1.1,λz=>hp (z i Bj) (l1.2 z)],?_,λx hx=>?_,λk=>?_]]
   ·rw[pm.length_eq,yU];omega
   ·rcases yM.mp (pm.mem_iff.mp hx) with rfl|hx
    ·exact#[i,Bj,rfl]
    ·exact l3 x hx
   ·rw[(pm.map (·.1)).mem_iff,yH,yM,l4 k];constructor
    ·rintro (rfl|⟨j,h1,h2⟩)
     ·exact#[i,by omega,rfl]
     ·exact#[j,by omega,h2]
    ·rintro⟨j,h1,h2⟩;by_cases e:j=i
     ·subst e;exact .inl h2.symm
     ·exact .inr #[j,by omega,h2]
end
section
variable {P:Be}{w:World}{A:Around}{E:AL}{s:Shared}
abbrev zv (led:Bool):Obj:={ cls:=.type "set",dict:=none,data:=.set (List.toArray []) 0 (.fresh 0 0 led) }
theorem tm {S:Nat}{val:Nat->List Key} (e:h.get? S=some (zv led)):Mt P w S n val adr led 0 h:=by
 refine#[_,(List.toArray []),0,_,[],#[e,#[rfl,rfl,rfl],rfl,rfl,#[rfl,λi k _ hk=>absurd hk (by simp [SetTable.fresh]),λj hj=>?_,rfl,#[3,rfl],by show 0<=7;omega,λi j a=>?_],by show 7<=7/\7<=9000;omega,by show 0*5<7*3;omega,(λx hx=>by cases hx),Wf],#[rfl,λ_=>rfl],yg _,(λx hx=>by cases hx),λk=>#[(λh=>by cases h),(λ⟨j,h,_⟩=>by omega)]]
 ·obtain⟨i,hi,_⟩:=hj;exact absurd hi (by simp [SetTable.fresh])
 ·exact absurd a.1 (by simp [SetTable.fresh])
theorem ki (a:Value) {Q₁:AL}
  (h:Q₁ (.ref s.heap.objs.size) { s with heap:=s.heap.push (zv (!w.params.followText "set-order")) }) :
  codeAny (model P w) A (.call (.builtin "set.__new__") #[[.type "set",a],[]]) (wants Q₁ E) s:=by
 refine codeAny_of_tree ?_;show wpAny _ A.in1 (do checkBuiltinCall "set.__new__" #[[.type "set",a],[]];again (.builtin "set.__new__" #[[.type "set",a],[]])) _ _ s;refine Bf (wpAny_of_eq (PySem.F.newCall_set_1 a) (Bg #[plainId_quiet PySem.F.plain_set_new _,codeAny_builtin PySem.F.entry_set_new ?_]));rw[Around.under_plainId PySem.F.plain_set_new _];unfold Builtin.«set.__new__» Builtin.Frozenset.newClass;have hsub:=sub_set_self;obtain⟨hp,g,d,tk,os⟩:=s;dsimp only
 wp_walk
 refine wpAny_askSetting (Bg ?_);dsimp only;simp only[newObj];refine Bf (wpAny_alloc (Bg ?_));exact Bg h
theorem K0 {l:Addr}{items:A2}{val:Nat->List Key}{Q:AL} (hh:A.handled=none) (hu:A.units+8<cLine) (hl:s.heap.IsList l items) (hit:∀(i:Nat) v,items[i]?=some v->v=.ref (adr i)) (E1:∀j,j<items.size->(tk P w).is s.heap (val j) (adr j)) (hb:items.size<=990)
  (h:∀(h':Heap) (tok:Nat) (led:Bool),led=(!w.params.followText "set-order")->Mt P w s.heap.objs.size items.size val adr led items.size h'->(∀b o,b<s.heap.objs.size->s.heap.get? b=some o->h'.get? b=some o)->s.heap.objs.size<h'.objs.size->Q (.ref s.heap.objs.size) { s with heap:=h',toks:=tok }) :
  wpAny (model P w) A (call (.type "set") [.ref l]) Q E s:=by
 obtain⟨c,tl,hm⟩:=PySem.F.called_set.mro;have hm1:=PySem.F.called_set.made;have Ra:=PySem.F.called_set.sub;refine wpAny_call (codeAny_of_tree ?_);show wpAny _ _ (callAny (.type "set") _) _ _ _;refine Bg #[Code.quiet_builtin _ (by decide +kernel),codeAny_builtin PySem.F.entry_type_call ?_];rw[Around.under_plain (weight_type_call_type "set" [.ref l] []) rfl];have g1:=PySem.F.called_set.notType;have g2:=PySem.F.called_set.canCreate;have g3:=PySem.F.typeCall_set_1 (.ref l)
 repeat (any_goals (first|assumption|wp_step))
 refine codeAny_mono (ki (.ref l) (E:=E) (Q₁:=λv s1=>∃led:Bool,led=(!w.params.followText "set-order")/\v=.ref s.heap.objs.size/\s1={ s with heap:=s.heap.push (zv led) }) #[_,rfl,rfl,rfl]) λr s1 hr=>?_;cases r with
 | error e=>exact hr
 | ok f1 =>
  cases f1 with
  | ret v =>
   obtain⟨led,FX,rfl,rfl⟩:=hr;have e1:(s.heap.push (zv led)).get? s.heap.objs.size=some (zv led):=yz _ rfl;have ty:Shared.TypeIs { s with heap:=s.heap.push (zv led) } (.ref s.heap.objs.size) "set":=#[_,e1,rfl];have g4:=PySem.F.called_set.init.lookup;have g5:=PySem.F.called_set.init.bind (.ref s.heap.objs.size)
   repeat (any_goals (first|assumption|wp_step))
   refine codeAny_mono (codeAny_call_builtin (R:=wants (λr s2=>r=.none/\∃h' tok,s2={ s with heap:=h',toks:=tok }/\Mt P w s.heap.objs.size items.size val adr led items.size h'/\(∀b o,b<s.heap.objs.size->s.heap.get? b=some o->h'.get? b=some o)) E) PySem.F.called_set.init.plain F.entry_set_init (check_set_init_1 ty ?_)) λr2 s2 Ll=>?_
   ·obtain⟨ol,HJ,OE,nl,HK⟩:=hl;obtain⟨o1,o2,o3,o4⟩:=ol;simp only at OE HK;subst OE;subst HK;have Rb:(s.heap.push (zv led)).get? l=some { cls:=.type "list",dict:=o2,data:=.seq items nl,slots:=o4 }:=yd _ HJ;have g6:=PySem.F.sub_list_set;have g7:=PySem.F.sub_list_frozenset;have g8:(Value.type "list"==Value.type "dict")=false:=by decide
    have Lm:(s.heap.push (zv led)).IsList l items:=#[_,Rb,rfl,nl,rfl];unfold Builtin.«set.__init__» noKeywords Builtin.Frozenset.updateFrom;generalize Z₂:pyIter=PI
    wp_walk
    subst Z₂;refine wpAny_pyIter_list Lm (Bf (wpAny_runValue ?_));have OF:l<s.heap.objs.size:=yq HJ;have CZ:(s.heap.push (zv led)).objs.size=s.heap.objs.size+1:=Heap.size_push ..;have a1:∀j,j<items.size->adr j<s.heap.objs.size:=λj hj=>by
     obtain⟨oj,_,_,Rc,_⟩:=E1 j hj;exact yq Rc
    refine MX ((Walks.list (by simp [hh]) _ l (by rw[CZ];exact yE (Nat.lt_succ_of_lt OF)) items).toS) ?hu s.heap.objs.size ?hS val adr led hit hb (λj hj=>?hA) (items.size - 0) 0 _ (by omega) (yV _) #[#[_,yz _ rfl,rfl,rfl],(Lm.push _)] (λj hj=>?hI) (tm (yd _ e1)) ?hR
    case hu=>show A.units+1+1+1<cLine;omega
    case hS=>rw[CZ];simp only[yM,QG,or_false,not_or];exact#[yE (Nat.lt_succ_self _),Wg OF]
    case hA=>have:=a1 j hj;rw[CZ];simp only[yM,QG,or_false];exact#[yE (Nat.lt_succ_of_lt this),yE this]
    case hI=>exact Uy (E1 j hj) λo e=>yd _ (yd _ e)
    case hR =>
     intro s' mv m';obtain⟨h',g',d',Ie,IS⟩:=s';have eg:g'=s.gens:=mv.gens;have ed:d'=s.drawn:=mv.drawn;have eo:IS=s.os:=mv.os;subst eg;subst ed;subst eo;refine Bg (Bg #[rfl,h',Ie,rfl,m',λb o hb e=>?_]);refine mv.heap b o ?_ (yd _ (yd _ e));rw[CZ];simp only[yM,QG,or_false,not_or];exact#[yE hb,yE (Nat.lt_succ_of_lt hb)]
   ·cases r2 with
    | error e=>exact Ll
    | ok f2 =>
     cases f2 with
     | ret r =>
      obtain⟨rfl,h',tok,rfl,m',keep⟩:=Ll
      repeat (any_goals (first|assumption|wp_step))
      have m2:=m';obtain⟨o',_,_,_,_,I',_⟩:=m2;exact h h' tok led FX m' keep (yq I'.get)
     | _=>exact Ll.elim
  | _=>exact hr.elim
end
end STb
namespace L2
open PySem PySem.Spec PyProof.Rows TS STb
def VJ (P:Be) (w:World) (S:Addr) (us:List (List Key×Addr)) (led:Bool) (h:Heap):Prop :=
 ∃o es ep t,h.get? S=some o/\o.ExactSet/\o.data=.set es ep t/\es.toList=us.map (λx=>((tk P w).hash x.1,Value.ref x.2))/\vR t (UJ es) es.size/\t.led=led/\led=(!w.params.followText "set-order")/\((∀x∈us,zc x.1)->t.plain=true)
theorem VJ.keep {P:Be}{w:World}{S:Addr}{us:List (List Key×Addr)}{led:Bool}{h h':Heap} (x:VJ P w S us led h) (k:∀o,h.get? S=some o->h'.get? S=some o):VJ P w S us led h':=by
 obtain⟨o,es,ep,t,e,r⟩:=x;exact#[o,es,ep,t,k _ e,r]
section
variable {X:Cx}
theorem dG (hc:X.calm=true) (hu:X.A.units+64<cLine):uH X (.type "set") (λxs H Q=>∃p bs ks,xs=[.ref p]/\H p=some (.lst (bs.map V.ref))/\Ug H bs ks/\ks.length<=990 /\
  ∀S us led,H S=none->(us.map (·.1)).Nodup->(∀k,k∈us.map (·.1)↔k∈ks)->(∀x∈us,H x.2=some (.tup (x.1.map kV)))->Q (.ref S) (upd H S (.ext (VJ X.prog X.w S us led)))):=by
 intro pins s σ H xs us Q I r h;obtain⟨p,bs,ks,rfl,e,ka,hn,q⟩:=h;obtain⟨u,rfl,ru⟩:=UB r;cases ru;obtain⟨Bi,rv,pl,hz⟩:=I.list (jo.of e);obtain rfl:=uc rv;have lb:bs.length=ks.length:=ka.1;have at_:∀j,j<bs.length->∃b k,bs[j]?=some b/\ks[j]?=some k/\bs.getD j 0=b/\ks.getD j []=k/\H b=some (.tup (k.map kV)):=λj hj=>by
  have h1:=yc hj;have h2:=yc (show j<ks.length by omega);exact#[_,_,h1,h2,by rw[yu,h1];rfl,by rw[yu,h2];rfl,ka.2 j _ _ h1 h2]
 have sz:(bs.map Value.ref).toArray.size=bs.length:=by simp
 refine K0 (val:=λj=>ks.getD j []) (adr:=λj=>bs.getD j 0) (I.ok.hd hc) (by omega) pl.isList (λi v hv=>?_) (λj hj=>?_) (by rw[sz];omega) λh' tok led FX m keep Bj=>?_
 ·rw[QY,yj] at hv;obtain⟨b,h1,h2⟩:=yl.mp hv;rw[<-h2];show Value.ref b=Value.ref (bs.getD i 0);rw[yu,h1];rfl
 ·rw[sz] at hj;obtain⟨b,k,_,_,e1,e2,e3⟩:=at_ j hj;show (tk X.prog X.w).is s.heap (ks.getD j []) (bs.getD j 0);rw[e1,e2];exact ux I.hok e3
 ·rw[sz] at m;obtain⟨o,es,ep,t,us,J,l1,l2,l3,l4⟩:=m;have fresh:=I.hok.fresh (yg s.heap.objs.size);refine#[.ref s.heap.objs.size,_,I.laid (a:=s.heap.objs.size) (o:=.ext (VJ X.prog X.w s.heap.objs.size us led)) (t':=tok) (λb u hb=>keep b u (yq hb) hb) (yg _) #[#[o,es,ep,t,J.get,J.ex,J.data,J.ent,J.tb,l1.1,FX,λz=>l1.2 λj hj=>(by obtain⟨x,hx,e⟩:=yf.mp ((l4 _).mpr #[j,hj,rfl]);have:=z x hx;rw[e] at this;exact this)],#[o,J.get],λh1 h2 x k=>x.keep k],rfl,q _ us led fresh J.nd (λk=>?_) λx hx=>?_]
  ·rw[l4 k];constructor
   ·rintro⟨j,hj,rfl⟩;obtain⟨b,k,_,h2,_,e2,_⟩:=at_ j hj;show ks.getD j []∈ks;rw[e2];exact yT h2
   ·intro hk;obtain⟨j,hj,ej⟩:=Qj hk;exact#[j,by omega,by show ks.getD j []=k;rw[yu,yc hj,ej];rfl]
  ·obtain⟨j,hj,ej⟩:=l3 x hx;obtain⟨b,k,_,_,e1,e2,e3⟩:=at_ j hj;have ej:x.2=b:=ej.trans e1;have i1:=J.is x hx;have i2:(tk X.prog X.w).is h' k b:=Uy (ux I.hok e3) λob he=>keep _ _ (yq he) he;rw[ej] at i1;rw[ej,(tk X.prog X.w).inj i1 i2];exact e3
end
end L2
namespace L2
open PySem PySem.Spec PyProof.Rows
section
variable {P:Be}{w:World}{K:AQ}{mg:AT}{base:Heap}{N ps:A1}{qual:Str}{params:Arguments}{body:Expr}{scope:Scope}{cl:AY}{cvs:List V}{f c:Addr}{k:Nat}
 {A:Around} {outer:List Env} {s:Shared} {H:Hp} {us:AW} {vs:List V} {Q:VK} {E:XK}
end
end L2
namespace STb
open PySem PySem.Spec PyProof.Rows L2 SetTable TS
local macro_rules|`(tactic|omega)=>`(tactic|first|lia|omega +splitNatSub)
variable {w:World}{S:Addr}{es:AZ}{ep i:Nat}{s:Shared}{xs:Array Nat}{Q:AN}
theorem kj:entryFor table "set.__iter__"=some Builtin.«frozenset.__iter__» :=
 entryFor_alias (id':="frozenset.__iter__") (by kernel_rfl) rfl (by decide +kernel) (by kernel_rfl)
theorem vE:Manifest.owners.lookup (String.ofList ['r','o','t','a','r','e','t','i','_','t','e','s'].reverse)=some Manifest.sig_set_iterator:=by kernel_rfl
theorem Je:Slot "set_iterator" "__next__" "set_iterator.__next__" :=
 .of (owner:="set_iterator") (n:="__next__") (by rw[typeLookup_type,builtinLookup_eq_fast];kernel_rfl) (by decide +kernel) (by decide +kernel) (by decide +kernel)
  (by first|exact .inl (by decide +kernel)|exact .inr (by decide +kernel)) (by rw[isSubtype_type];kernel_rfl)
theorem UE:entryFor table "set_iterator.__next__"=some Builtin.«set_iterator.__next__»:=entryFor_of_tree (by kernel_rfl)
theorem Uo (a:Value):argsOk "set_iterator.__next__" #[[a],[]]:=by
 unfold argsOk;rw[signature?_of (id:="set_iterator.__next__") (n:=['_','_','t','x','e','n','_','_']) (o:=['r','o','t','a','r','e','t','i','_','t','e','s']) (by kernel_rfl) vE];kernel_rfl
theorem UT:Slot "set_iterator" "__iter__" "set_iterator.__iter__" :=
 .of (owner:="set_iterator") (n:="__iter__") (by rw[typeLookup_type,builtinLookup_eq_fast];kernel_rfl) (by decide +kernel) (by decide +kernel) (by decide +kernel)
  (by first|exact .inl (by decide +kernel)|exact .inr (by decide +kernel)) (by rw[isSubtype_type];kernel_rfl)
theorem VB:entryFor table "set_iterator.__iter__"=some Builtin.«dict_keyiterator.__iter__» :=
 entryFor_alias (id':="dict_keyiterator.__iter__") (by kernel_rfl) rfl (by decide +kernel) (by kernel_rfl)
theorem Vk (a:Value):argsOk "set_iterator.__iter__" #[[a],[]]:=by
 unfold argsOk;rw[signature?_of (id:="set_iterator.__iter__") (n:=['_','_','r','e','t','i','_','_']) (o:=['r','o','t','a','r','e','t','i','_','t','e','s']) (by kernel_rfl) vE];kernel_rfl
theorem Gr {α:Type}:∀(l:List α) (i:Nat) (h:i<l.length),(l[i]::l.eraseIdx i).Perm l
 | a::l,0,_=>List.Perm.refl _
 | a::l,i+1,h=>by
  have hl:i<l.length:=by simpa using h
  have:=Gr l i hl;rw[List.getElem_cons_succ,List.eraseIdx_cons_succ];exact (List.Perm.swap a l[i] _).trans (this.cons a)
theorem aQ {α:Type} (next:Nat->Nat):∀(fuel k:Nat) (left:List α) (out:Array α),left.length=fuel->(pickOrder.go next fuel k left out).toList.Perm (out.toList++left)
 | 0,k,left,out,h=>by
  have:left=[]:=List.length_eq_zero_iff.mp h;subst this;unfold pickOrder.go;rw[yB]
 | fuel+1,k,left,out,h=>by
  have Bj:next k % left.length<left.length:=Nat.mod_lt _ (by omega);unfold pickOrder.go;rw[yc Bj];refine (aQ next fuel (k+1) _ _ (by rw[List.length_eraseIdx_of_lt Bj];omega)).trans ?_;rw[Array.toList_push,yt];refine List.Perm.append_left _ ?_;exact Gr _ _ Bj
theorem fT {α:Type} (next:Nat->Nat) (xs:Array α):(pickOrder next xs).toList.Perm xs.toList:=by
 have:=aQ next xs.size 0 xs.toList (List.toArray []) rfl;rw[show ((List.toArray []):Array α).toList++xs.toList=xs.toList from rfl] at this;exact this
def Ud (w:World) (S ep:Nat) (es:AZ):Array (Int×Value):=if w.params.followText "set-order" then pickOrder (w.params.setOrder S ep) es else es
theorem nv (w:World) (S ep:Nat) (es:AZ):(Ud w S ep es).toList.Perm es.toList:=by
 unfold Ud;split
 ·exact fT _ _
 ·exact List.Perm.refl _
theorem UX (w:World) (S ep:Nat) (es:AZ):(Ud w S ep es).size=es.size:=by
 rw[<-yr,(nv w S ep es).length_eq,yr]
def Wk (w:World) (h:Heap) (S:Addr) (es:AZ) (ep:Nat) (t:SetTable):Prop :=
 ∃o,h.get? S=some o/\o.ExactSet/\o.data=.set es ep t/\t.fits es.size=true/\vP t.place/\t.place.size=es.size/\t.led=(!w.params.followText "set-order")/\t.plain=true
theorem Wk.keep {h h':Heap}{t:SetTable} (x:Wk w h S es ep t) (k:∀o,h.get? S=some o->h'.get? S=some o):Wk w h' S es ep t:=by
 obtain⟨o,e,r⟩:=x;exact#[o,k _ e,r]
theorem Wk.typeIs {t:SetTable} (x:Wk w s.heap S es ep t):s.TypeIs (.ref S) "set":=by
 obtain⟨o,e,c,_⟩:=x;exact#[o,e,c.1]
def Wi (w:World) (h:Heap) (it S i n ep:Nat) (t:SetTable):Prop :=
 ∃o slot,h.get? it=some o/\o.cls=.type "set_iterator"/\o.data=.fields (List.toArray [.int (slot:Nat) 0,.int (i:Nat) 0,.ref S,.int (n:Nat) 0,.int (ep:Nat) 0])/\(w.params.followText "set-order"=false->below t.place slot=i)
theorem Wi.typeIs {it S n:Nat}{t:SetTable} (x:Wi w s.heap it S i n ep t):s.TypeIs (.ref it) "set_iterator":=by
 obtain⟨o,slot,e,c,_⟩:=x;exact#[o,e,c]
theorem bJ (R:vP xs) (h:i<xs.size):below xs (xs.getD i 0+1)=i+1:=by
 obtain⟨h1,h2,h3⟩:=Vl R (xs.getD i 0+1);rcases Nat.lt_trichotomy (below xs (xs.getD i 0+1)) (i+1) with z|z|z
 ·have:=h3 i (by omega) h;omega
 ·exact z
 ·have:=h2 (i+1) z;have:=R i (i+1) (by omega) (by omega);omega
theorem bK (R:vP xs):below xs 0=0:=by
 obtain⟨h1,h2,h3⟩:=Vl R 0;rcases Nat.eq_zero_or_pos (below xs 0) with z|z
 ·exact z
 ·have:=h2 0 z;omega
section
variable {prog:Be}{w:World}{A:Around}{E:AL}{s:Shared}{S t it:Addr}{es:AZ}{ep i:Nat}{tb:SetTable}
theorem ZJ (q:Q (w.params.followText "set-order") s):wpAny (model prog w) A setsByText Q E s:=by
 unfold setsByText;exact Bf (wpAny_askSetting (Bg q))
theorem oJ (x:Wk w s.heap S es ep tb) (q:Q false s):wpAny (model prog w) A (setDrawn S) Q E s:=by
 obtain⟨o,e,_,d,f,_,_,_,p⟩:=x;unfold setDrawn;refine Bf (wpAny_setState_of e d f (Bf (ZJ (Bg ?_))));have:(!w.params.followText "set-order"&&(!tb.plain&&decide (es.size > 1)))=false:=by rw[p];simp
 exact this.symm▸q
theorem oK {Q:Nat->Shared->Prop} (x:Wk w s.heap S es ep tb) (q:Q ep s):wpAny (model prog w) A (setEpoch S) Q E s:=by
 obtain⟨o,e,_,d,f,_⟩:=x;unfold setEpoch;exact Bf (wpAny_setState_of e d f (Bg q))
theorem zJ {Q:Array (Int×Value)->Shared->Prop} (x:Wk w s.heap S es ep tb) (q:Q es s):wpAny (model prog w) A (setEntries S) Q E s:=by
 obtain⟨o,e,_,d,f,_⟩:=x;exact wpAny_setEntries_of e d f q
theorem i8 {Q:AL} (x:Wk w s.heap S es ep tb)
  (q:Q (.ref s.heap.objs.size) { s with heap:=s.heap.push { cls:=.type "set_iterator",data:=.fields (List.toArray [.int (0:Nat) 0,.int (0:Nat) 0,.ref S,.int es.size 0,.int ep 0]) } }):wpAny (model prog w) A (pyIter (.ref S)) Q E s:=by
 have ty:=x.typeIs;refine wpAny_pyIter_slot ty PySem.F.slot_set_iter (wpAny_call_entry PySem.F.slot_set_iter ty kj ?_ (PySem.F.args_set_iter_1 _));unfold Builtin.«frozenset.__iter__»;refine Bf (m:=Builtin.Frozenset.slot0 "__iter__" _) (wpAny_of_eq (a:=S) rfl ?_);refine Bf (m:=Builtin.Frozenset.sizeOf S) (Bf (zJ x (Bg ?_)));refine Bf (oJ x ?_);rw[if_neg (by decide)];refine Bf (Bg (Bf (oK x ?_)));exact Bf (wpAny_newObj_type (Bg #[_,rfl,"set_iterator",_,#[_,yz _ rfl,rfl],Je.lookup,q]))
theorem M4 {Q:Option (Value×Nat)->Shared->Prop}{slot:Nat} (x:Wk w s.heap S es ep tb) (hs:w.params.followText "set-order"=false->below tb.place slot=i)
  (q1:∀hi:i<es.size,∀Bs,(w.params.followText "set-order"=false->below tb.place Bs=i+1)->Q (some (((Ud w S ep es)[i]'(by rw[UX];exact hi)).2,Bs)) s) (q2:es.size<=i->Q none s):wpAny (model prog w) A (setNext S slot i ep) Q E s:=by
 have x0:=x;obtain⟨o,e,_,d,f,R,pz,l,p⟩:=x;unfold setNext;refine Bf (wpAny_setState_of e d f (Bf (ZJ ?_)));cases hb:w.params.followText "set-order" with
 | true =>
  rw[if_pos rfl];dsimp only;rw[if_neg (by simp)];refine Bf ?_;unfold setWalk;refine Bf (wpAny_setState_of e d f (Bf (ZJ ?_)));rw[hb,if_pos rfl];refine Bf (wpAny_askSetting (Bg (Bg ?_)));have eo:Ud w S ep es=pickOrder (w.params.setOrder S ep) es:=by unfold Ud;rw[if_pos hb]
  show Q (Option.map (λe=>(e.2,slot)) (pickOrder (w.params.setOrder S ep) es)[i]?) s;rw[<-eo];rcases yC i es.size with hi|hi
  ·rw[Qi (by rw[UX];exact hi)];exact q1 hi slot λz=>by rw[hb] at z;cases z
  ·rw[Array.getElem?_eq_none (by rw[UX];exact hi)];exact q2 hi
 | false =>
  rw[if_neg (by decide)];dsimp only;refine wpAny_ite_split (λz=>absurd (show (!tb.plain&&decide (es.size > 1))=true from z) (by rw[p];simp)) λ_=>?_;have eo:Ud w S ep es=es:=by unfold Ud;rw[if_neg (by rw[hb];decide)]
  refine Bf ?_;refine wpAny_ite_split (M:=model prog w) (λz=>absurd (show (!tb.led&&!es.isEmpty)=true from z) (by rw[l,hb];simp)) λ_=>Bg ?_;rw[hs hb];refine Bg ?_;rcases yC i es.size with hi|hi
  ·have h1:=q1 hi (tb.place.getD i 0+1) λ_=>bJ R (by rw[pz];exact hi);have h2:i<tb.place.size:=by rw[pz];exact hi
   rw[show (Ud w S ep es)[i]'(by rw[UX];exact hi)=es[i] by simp only[eo]] at h1;rw[Qi hi,Qi h2];rw[show tb.place.getD i 0=tb.place[i] by simp [Array.getD,h2]] at h1;exact h1
  ·rw[Array.getElem?_eq_none hi];exact q2 hi
theorem lC {Q:AO} (k:Wi w s.heap it S i es.size ep tb) (x:Wk w s.heap S es ep tb) (hi:i<es.size)
  (q:∀h',Wi w h' it S (i+1) es.size ep tb->Heap.SameBut it s.heap h'->Q (some ((Ud w S ep es)[i]'(by rw[UX];exact hi)).2) { s with heap:=h' }):wpAny (model prog w) A (pyNext (.ref it)) Q E s:=by
 have ty:=k.typeIs;obtain⟨oi,slot,e,c,dt,hs⟩:=id k;refine Bf (wpAny_attempt (wpAny_callSpecial?_slot (name:=Str.ofString "__next__") ty Je (wpAny_call_entry Je ty UE ?_ (Uo _))));unfold Builtin.«set_iterator.__next__»;refine Bf (m:=slotArgs "__next__" 0 _) (wpAny_of_eq (a:=(Value.ref it,[])) rfl (Bf (wpAny_fieldsOf e dt ?_)));dsimp only;refine Bf (zJ x ?_);rw[if_neg (by simp)];refine Bf (M4 (i:=i) x (by simpa using hs) (λLi Bs Tv=>?_) λz=>absurd hi (by omega));show wpAny _ _ (setField (.ref it) 0 (rawInt (Bs:Nat))>>=λ_=>setField (.ref it) 1 (rawInt ((i:Int)+1))>>=λ_=>ret _) _ _ s;refine Bf (wpAny_setField e dt (by simp) ?_);have g1:=Qt (Obj.mapFields (·.setIfInBounds 0 (rawInt (Bs:Nat)))) e (Obj.isFreed_of_fields (Obj.data_mapFields dt _));have d1:(Obj.mapFields (·.setIfInBounds 0 (rawInt (Bs:Nat))) oi).data=.fields (List.toArray [.int (Bs:Nat) 0,.int (i:Nat) 0,.ref S,.int es.size 0,.int ep 0]):=by rw[Obj.data_mapFields dt];simp [rawInt]
 have c1:(Obj.mapFields (·.setIfInBounds 0 (rawInt (Bs:Nat))) oi).cls=.type "set_iterator":=(Obj.cls_mapFields ..).trans c;have Fd:=Heap.SameBut.update s.heap it (Obj.mapFields (·.setIfInBounds 0 (rawInt (Bs:Nat))));generalize s.heap.update it (Obj.mapFields (·.setIfInBounds 0 (rawInt (Bs:Nat))))=h1 at g1 Fd ⊢;generalize Obj.mapFields (·.setIfInBounds 0 (rawInt (Bs:Nat))) oi=o1 at g1 d1 c1;refine Bf (wpAny_setField (s:={ s with heap:=h1 }) g1 d1 (by simp) ?_);have g2:=Qt (Obj.mapFields (·.setIfInBounds 1 (rawInt ((i:Int)+1)))) g1 (Obj.isFreed_of_fields (Obj.data_mapFields d1 _));refine Bg #[_,rfl,Bg (q _ #[_,Bs,g2,(Obj.cls_mapFields ..).trans c1,by rw[Obj.data_mapFields d1];simp [rawInt],Tv] (Fd.trans (Heap.SameBut.update ..)))]
theorem oC {Q:AO} (hh:A.handled=none) (k:Wi w s.heap it S i es.size ep tb) (x:Wk w s.heap S es ep tb) (hi:es.size<=i)
  (q:∀h',Heap.ExtBut it s.heap h'->Q none { s with heap:=h' }):wpAny (model prog w) A (pyNext (.ref it)) Q E s:=by
 have ty:=k.typeIs;obtain⟨oi,slot,e,c,dt,hs⟩:=id k;refine Bf (wpAny_attempt (wpAny_callSpecial?_slot (name:=Str.ofString "__next__") ty Je (wpAny_call_entry Je ty UE ?_ (Uo _))));unfold Builtin.«set_iterator.__next__»;refine Bf (m:=slotArgs "__next__" 0 _) (wpAny_of_eq (a:=(Value.ref it,[])) rfl (Bf (wpAny_fieldsOf e dt ?_)));dsimp only;refine Bf (zJ x ?_);rw[if_neg (by simp)];refine Bf (M4 (i:=i) x (by simpa using hs) (λLi Bs Tv=>absurd hi (by omega)) λz=>?_);show wpAny _ _ (setField (.ref it) 2 .none>>=_) _ _ s;refine Bf (wpAny_setField e dt (by simp) ?_);show wpAny _ _ (newExc (.type "StopIteration") []>>=_) _ _ _;refine Bf ?_;simp only[newExc,newTuple];refine Bf (wpAny_newObj_type (Bf (m:=firstArgMember _ _) (wpAny_of_eq (a:=Value.none) (by simp only[firstArgMember];rfl) (wpAny_newObj_type ?_ (by size_fits)))) (by size_fits));simp only[raiseNew];refine Bf (wpAny_handled ?_);rw[show A.in1.handled=none from hh];refine Bf (Bg (wpAny_throw ?_));exact Bf (wpAny_isInstance (T:="StopIteration") (b:=true) #[_,yz _ rfl,rfl] isSubtype_stop (Bg (q _ (((Heap.SameBut.update ..).extBut.push _).push _))))
theorem eP {Q:AL} (k:Wi w s.heap it S i es.size ep tb) (q:Q (.ref it) s):wpAny (model prog w) A (pyIter (.ref it)) Q E s:=by
 refine wpAny_pyIter_slot k.typeIs UT (wpAny_call_entry UT k.typeIs VB ?_ (Vk _));show wpAny _ _ (ret (.ref it)) _ _ s;exact Bg #[_,rfl,"set_iterator",_,k.typeIs,Je.lookup,q]
theorem iZ (hT:s.TypeIs (.ref S) "set") (h:Q false s):wpAny (model prog w) A (Builtin.List.listLengthHint (.ref S)) Q E s:=by
 unfold Builtin.List.listLengthHint;refine Bf (wpAny_specialOf hT PySem.F.slot_set_len.lookup ?_);generalize Tw:("set.__len__":String)=id0
 wp_delta
 rw[show splitId id0=some ("set","__len__") from by subst Tw;decide +kernel];subst Tw;refine Bf (wpAny_isInstance (T:="set") (b:=true) hT (by rw[isSubtype_type];kernel_rfl) ?_);refine wpAny_ite_split (λDs=>absurd Ds (by decide)) (λ_=>?_);refine wpAny_ite_split (λ_=>?_) (λDs=>absurd (by decide +kernel) Ds);refine Bf (wpAny_typeOf hT ?_);exact Bg h
theorem qW:KdlSrc prog w "set" S S es.size (λi v=>∃hi:i<(Ud w S ep es).size,v=(Ud w S ep es)[i].2) (λh=>Wk w h S es ep tb) where
 type:=λ_ x=>x.typeIs
 there:=λ_ x=>by obtain⟨ob,e,_⟩:=x;exact#[yq e,yq e]
 keep:=λ_ _ x k=>x.keep λo e=>k S (.inl rfl) o e
 notList:=by decide
 notTuple:=by decide
 hint:=λ_ _ _ _ x q=>iZ x.typeIs q
 iter:=λA s hh x=>by
  have Bj:S<s.heap.objs.size:=by obtain⟨ob,e,_⟩:=x;exact yq e
  have hR:vP tb.place:=by obtain⟨_,_,_,_,_,R,_⟩:=x;exact R
  refine#[{ cls:=.type "set_iterator",data:=.fields (List.toArray [.int (0:Nat) 0,.int (0:Nat) 0,.ref S,.int es.size 0,.int ep 0]) },λi h=>Wi w h s.heap.objs.size S i es.size ep tb/\Wk w h S es ep tb,λE Q q=>i8 x q,?_,#[_,0,yz _ rfl,rfl,rfl,λ_=>bK hR],x.keep λo e=>yd _ e];refine#[λb hb=>by simp at hb;simp [hb],λi h h' st k=>#[?_,st.2.keep λo e=>k S (by simp) o e],λi s' Q E hi st q=>?_,λs' Q E st q=>?_,λi s' Q E st q=>eP st.1 q]
  ·obtain⟨ob,slot,e,r⟩:=st.1;exact#[ob,slot,k _ (by simp) ob e,r]
  ·refine lC st.1 st.2 hi λh' k' sb=>q _ h' s'.toks #[by rw[UX];exact hi,rfl] #[k',st.2.keep λo e=>sb.extBut S o (yE Bj) e] λb o hb e=>sb.extBut b o (λz=>hb (by simp [z])) e
  ·refine oC hh st.1 st.2 (yg _) λh' eb=>q h' s'.toks λb o hb e=>eb b o (λz=>hb (by simp [z])) e
theorem qE {Q:AL} (hh:A.handled=none) (x:Wk w s.heap S es ep tb) (hn:es.size<=sizeLine)
  (q:∀h' tk acc c,(∀b o,s.heap.get? b=some o->h'.get? b=some o)->h'.get? s.heap.objs.size=some { cls:=.type "list",dict:=none,data:=.seq acc c,slots:=(List.toArray []) }->ItemsOf (λi v=>∃hi:i<(Ud w S ep es).size,v=(Ud w S ep es)[i].2) acc es.size->Q (.ref s.heap.objs.size) { s with heap:=h',toks:=tk }) :
  wpAny (model prog w) A (runValue (.builtin "proto.collect" #[[.ref S],[]])) Q E s:=by
 have Bj:S<s.heap.objs.size:=by obtain⟨ob,e,_⟩:=x;exact yq e
 have ne:s.heap.objs.size≠S:=Wg Bj;refine wpAny_runValue (codeAny_builtin F.entry_proto_collect ?_);rw[Around.under_plainId F.plain_proto_collect _];refine Bf (m:=newList []) (wpAny_newObj_type (Bg #[plainId_quiet F.plain_list_iadd _,codeAny_builtin F.entry_list_iadd ?_]));rw[Around.under_plainId F.plain_list_iadd _];have x2:Wk w (s.heap.push { cls:=.type "list",data:=.seq ([]:AW).toArray }) S es ep tb:=x.keep λo e=>yd _ e;exact kdl_extend (s:={ s with heap:=s.heap.push { cls:=.type "list",data:=.seq ([]:AW).toArray } }) (R:=λr s'=>match r with|.ok (.ret v)=>Q v s'|.ok _=>False|.error e=>E e s') (qW (es:=es) (ep:=ep) (tb:=tb)) hh x2 _ ne ne (.ref s.heap.objs.size) 0 (yz _ rfl)
  (λh' tk acc c kp e items=>q h' tk acc c (λb o hb=>kp b o (yE (yq hb)) (yd _ hb)) e items) hn
theorem Nu {Q:List Value->Shared->Prop} (hh:A.handled=none) (x:Wk w s.heap S es ep tb) (hn:es.size<=sizeLine)
  (q:∀h' tk,(∀b o,s.heap.get? b=some o->h'.get? b=some o)->s.heap.objs.size<h'.objs.size->Q ((Ud w S ep es).toList.map (·.2)) { s with heap:=h',toks:=tk }):wpAny (model prog w) A (collect (.ref S)) Q E s:=by
 refine Bf (qE hh x hn λh' tk acc c kp e items=>?_);show wpAny _ A (load s.heap.objs.size>>=_) _ _ _;refine Bf (wpAny_load e (Bg ?_));have oz:=UX w S ep es;generalize Ud w S ep es=os at items oz q;have ea:acc.toList=os.toList.map (·.2):=by
  apply Q6
  intro k;rw[yj,yI,yI];rcases yC k os.size with hk|hk
  ·have h1:k<acc.size:=by rw[items.1,<-oz];exact hk
   rw[getElem?_pos os k hk,getElem?_pos acc k h1];obtain⟨_,e2⟩:=items.2 k acc[k] (getElem?_pos acc k h1);rw[e2];rfl
  ·rw[getElem?_neg os k (by omega),getElem?_neg acc k (by rw[items.1];omega)];rfl
 rw[ea];exact q h' tk kp (yq e)
end
end STb
namespace L2
open PySem PySem.Spec PyProof.Rows TS STb
section
variable {X:Cx}
theorem Mm (hc:X.calm=true):uH X (.builtin "sorted") (λxs H Q=>∃S us led d,xs=[.ref S]/\H S=some (.ext (VJ X.prog X.w S us led))/\(∀x∈us,H x.2=some (.tup (x.1.map kV)))/\(∀x∈us,zc x.1/\sd x.1=d)/\d≠[]/\us.length<=1000000 /\
  ∀l BQ Bm,H l=none->Ug H BQ Bm->Bm.Perm (us.map (·.1))->(Bm.Pairwise λa b=>lx b a=false)->Q (.ref l) (upd H l (.lst (BQ.map V.ref)))):=by
 intro pins s σ H xs us Q I r h;obtain⟨S,vs,led,d,rfl,e,ht,hi,hd,hn,q⟩:=h;obtain⟨u,rfl,ru⟩:=UB r;cases ru;obtain⟨⟨o,es,ep,t,h1,h2,h3,h4,h5,h6,h7,h8⟩,_⟩:=(show j8 X.prog X.w H s.heap S (.ext (VJ X.prog X.w S vs led)) from I.hok S _ e);have sz:es.size=vs.length:=by rw[<-yr,h4,yb]
 have x:Wk X.w s.heap S es ep t:=#[o,h1,h2,h3,h5.fits,h5.ris,h5.size,h6.trans h7,h8 λx hx=>(hi x hx).1];have OG:((Ud X.w S ep es).toList.map (·.2)).Perm (vs.map λx=>Value.ref x.2):=by
  have:=(nv X.w S ep es).map (·.2);rw[h4,Qr] at this;exact this
 generalize g₁:(Ud X.w S ep es).toList.map (·.2)=os at OG;have hv:∀v∈os,∃x∈vs,v=.ref x.2/\H x.2=some (.tup (x.1.map kV)):=λv hv=>by
  obtain⟨x,hx,rfl⟩:=yf.mp (OG.mem_iff.mp hv);exact#[x,hx,rfl,ht x hx]
 have Lf:∀v∈os,sd (uF H v)=d:=λv CY=>by
  obtain⟨x,hx,rfl,e1⟩:=hv v CY;rw[uO e1];exact (hi x hx).2
 have CI:(1000000:Nat)<=sizeLine:=by decide
 have hlen:os.length<=sizeLine:=by
  rw[OG.length_eq,yb];omega
 refine ZG (kc:=uF H) (λR hR=>Nu (A:=X.A.in1) (I.ok.hd hc) x (by rw[sz];omega) λh' tk kp lt=>g₁▸hR h' tk kp lt) (λv CY=>?_) Lf hd hlen λh' tk c p' out kp hp e' pm up=>?_
 ·obtain⟨x,hx,rfl,e1⟩:=hv v CY;rw[uO e1];exact g9 I.hok e1
 ·obtain⟨rv,ka,Dt,Ep⟩:=gV (λv h=>by obtain⟨x,hx,e1,e2⟩:=hv v h;exact#[x.2,x.1,e1,e2]) rfl pm up;have pk:(os.map (uF H)).Perm (vs.map (·.1)):=by
   have:=OG.map (uF H);rw[Qr,QB (g:=λx=>x.1) (f:=uF H∘λx=>Value.ref x.2) λx hx=>uO (ht x hx)] at this;exact this
  refine#[.ref p',_,I.laid (t':=tk) (o:=.lst ((out.map zf).map V.ref)) kp hp #[?_,out,c,rv,e'],rfl,q p' _ _ (I.hok.fresh hp) ka (Dt.trans pk) Ep];rw[yb,yb,pm.length_eq];exact hlen
end
end L2
namespace L2
open PySem PySem.Spec PyProof.Rows
theorem iq {P:Be}{w:World}{K:AQ}{tg:Expr} (it:Addr) (lo:Int) (n:Nat):gD P w K tg (zL lo n) [it] it (λi h=>IsLongIter h it (lo+(i:Nat)) ((n:Int) - (i:Nat)) 1) true where
 mem:=by simp
 obj:=λi h st b hb=>by
  have e:b=it:=by simpa using hb
  subst e;exact#[_,st,λv z=>by
   have z':Data.fields _=Data.cell v:=z;cases z']
 keep:=λi h h' st k=>k it (by simp) _ st
 item:=by
  intro X hP hw hK hc i pins s σ H E I hf st hg;subst hP hw hK;obtain⟨f0,f1,f2,f3,f4,f5⟩:=hf it (by simp);refine wpAny_pyNext_long_item st (by have:i<n:=hg;omega) λh' Ca sb=>?_;obtain⟨tk,HP⟩:∃tk,tk=s.toks+1:=#[_,rfl];rw[<-HP];have I1:jn X pins σ H { s with heap:=h',toks:=tk }:=I.turned (λb o hb e=>(sb.2 b hb).trans e) f0 f1 f3 f4 f5;have CG:IsLongIter h' it (lo+((i+1:Nat):Int)) ((n:Int) - ((i+1:Nat):Int)) 1:=by
   rw[show lo+((i+1:Nat):Int)=lo+(i:Int)+1 by omega,show (n:Int) - ((i+1:Nat):Int)=(n:Int) - (i:Int) - 1 by omega];exact Ca
  exact#[_,rfl,Gy (s:={ s with heap:=h',toks:=tk }) (n:="longrange_iterator") Ca rfl rfl (by decide) #[.int (lo+i),H,I1,#[s.toks,rfl],#[rfl,rfl],CG,λb hb=>(hf b hb).1]]
 done:=by
  intro X hP hw hK hc i pins s σ H E I hf st hg;subst hP hw hK;obtain⟨f0,f1,f2,f3,f4,f5⟩:=hf it (by simp);exact wpAny_pyNext_long_end (I.ok.hd (hc rfl)) st (by have:n<=i:=hg;omega) λh' eb=>#[rfl,I.turned (t':=s.toks) (λb o hb e=>eb b o hb e) f0 f1 f3 f4 f5]
 self:=λ_ _ _ _ _ st h=>wpAny_pyIter_longiter st h
section
variable {X:Cx}{tg:Expr}
theorem fY (hc:X.calm=true) {pins:AU} {σ:St} {H:Hp} {s:Shared} {R:It->Hp->Prop} {E:AL} {lo hi:Int} {t u v:Tok} {tk:Nat} (I:jn X pins σ H s)
  (q:R (zL lo (hi - lo).toNat) H):wpAny (model X.prog X.w) X.A (pyIter (.ref s.heap.objs.size)) (rG X pins σ tg R) E { s with heap:=s.heap.push { cls:=.type "range",data:=.fields (List.toArray [.int lo t,.int hi u,.int 1 v]) },toks:=tk }:=by
 have I1:jn X pins σ H { s with heap:=s.heap.push { cls:=.type "range",data:=.fields (List.toArray [.int lo t,.int hi u,.int 1 v]) },toks:=tk }:=I.kept λb o e=>yd _ e;have e2:(((hi - lo).toNat:Nat):Int) - ((0:Nat):Int)=Builtin.Range.rangeSize lo hi 1:=by rw[rangeSize_one];split<;>omega
 cases hs:Builtin.Range.small lo hi 1 with
 | true =>
  refine wpAny_pyIter_range (IsRange.new ..) hs ?_;refine#[(s.heap.push { cls:=.type "range",data:=.fields (List.toArray [.int lo t,.int hi u,.int 1 v]) }).objs.size,[(s.heap.push { cls:=.type "range",data:=.fields (List.toArray [.int lo t,.int hi u,.int 1 v]) }).objs.size],_,_,H,rfl,
   I1.kept (t':=tk) λb o e=>yd _ e,ze.of (G6 _ lo (hi - lo).toNat),?_,λb hb=>?_,q]
  ·have e1:lo+((0:Nat):Int)*1=lo:=by simp
   show IsRangeIter _ _ (lo+((0:Nat):Int)*1) ((((hi - lo).toNat:Nat):Int) - ((0:Nat):Int)) 1;rw[e1,e2];exact yz _ rfl
  ·have e:b=(s.heap.push { cls:=.type "range",data:=.fields (List.toArray [.int lo t,.int hi u,.int 1 v]) }).objs.size:=by simpa using hb
   subst e;exact I1.fpOk (yg _) (I1.hok.fresh (yg _))
 | false =>
  refine wpAny_pyIter_longrange (IsRange.new ..) hs ?_;refine#[(s.heap.push { cls:=.type "range",data:=.fields (List.toArray [.int lo t,.int hi u,.int 1 v]) }).objs.size,[(s.heap.push { cls:=.type "range",data:=.fields (List.toArray [.int lo t,.int hi u,.int 1 v]) }).objs.size],_,_,H,rfl,
   I1.kept (t':=tk) λb o e=>yd _ e,#[true,iq _ lo (hi - lo).toNat,λ_=>hc],?_,λb hb=>?_,q]
  ·have e1:lo+((0:Nat):Int)=lo:=by simp
   show IsLongIter _ _ (lo+((0:Nat):Int)) ((((hi - lo).toNat:Nat):Int) - ((0:Nat):Int)) 1;rw[e1,e2];exact yz _ rfl
  ·have e:b=(s.heap.push { cls:=.type "range",data:=.fields (List.toArray [.int lo t,.int hi u,.int 1 v]) }).objs.size:=by simpa using hb
   subst e;exact I1.fpOk (yg _) (I1.hok.fresh (yg _))
def wV (ta:TA):TI:=λσ H R=>ta σ H λvs H1=>∃i j:Int,vs=[.int i,.int j]/\R (zL i (j - i).toNat) H1
theorem Kx (hc:X.calm=true) {a b:Expr} {ta:TA} {p pos:Pos} (hg:Gl X "range") (hm:X.mg "range"=none) (ha:PA X [a,b] ta) (hs:starEach [a,b] X.env=[(false,eval a X.env),(false,eval b X.env)]:=by rfl) (Dz:starEach [b] X.env=[(false,eval b X.env)]:=by rfl) :
  PI X tg (.Call (.Name "range" p) [a,b] [] pos) (wV ta):=by
 intro pins s σ H R I h;refine Call_ (VY I hg hm boot_range (PyProof.Rows.callWith_type1 (jC (ha pos pins s σ H _ I h) λus s1 #[vs,H1,I1,r1,q1]=>?_) (by rw[hs,Dz]) (by rw[Dz];rfl)));obtain⟨i,j,e,q⟩:=q1;subst e;cases r1 with
 | cons r rr =>
  cases rr with
  | cons r' rr =>
   cases rr;obtain⟨t,rfl⟩:=r;obtain⟨t',rfl⟩:=r';exact call_range_2 (fY hc I1 q)
end
end L2
namespace L2
open PySem PySem.Spec PyProof.Rows TS
variable {P:Be}{w:World}
def UC (a:Addr) (o:Obj):HO:=.ext λh=>h.get? a=some o
def bo (P:Be) (w:World) (o:Obj) (xs:List (List Key×Addr×Value)):Prop:=∃es ep,o.ExactDict/\o.data=.dict es ep/\es.toList=xs.map (entryOfKey (tupleKind (jW P w)))/\(xs.map (·.1)).Nodup
def Mb (a:Addr) (o:Obj) (xs:List (List Key×Addr×Value)):It:=#[λi H=>H a=some (UC a o)/\i<xs.length,λi H x H'=>H'=H/\∃y,xs[i]?=some y/\x=.ref y.2.1,λi H=>H a=some (UC a o)/\xs.length<=i]
theorem VV {H:Hp}{h:Heap}{a:Addr}{o:Obj} (ok:Ji P w H h) (e:H a=some (UC a o)):h.get? a=some o:=(show j8 P w H h a (UC a o) from ok a _ e).1
theorem io {K:AQ}{tg:Expr} (a it:Addr) (o:Obj) (xs:List (List Key×Addr×Value)) {es:Array DictEntry} {ep:Nat} (ex:o.ExactDict) (hd:o.data=.dict es ep) (he:es.toList=xs.map (entryOfKey (tupleKind (jW P w)))) :
  gD P w K tg (Mb a o xs) [it] it (λi h=>h.IsKeyIter it a i es.size ep) true where
 mem:=by simp
 obj:=λi h st b hb=>by
  obtain rfl:b=it:=by simpa using hb
  obtain⟨o,e,c,d⟩:=st;exact#[o,e,λv z=>by rw[d] at z;cases z]
 keep:=λi h h' st k=>by
  obtain⟨o,e,r⟩:=st;exact#[o,k it (by simp) o e,r]
 item:=by
  intro X hP hw hK hc i pins s σ H E I hf st hg;subst hP hw hK;obtain⟨ea,hi⟩:=hg;have sz:=size_of_entries he;have uZ:i<es.size:=by omega
  obtain⟨f0,f1,f2,f3,f4,f5⟩:=hf it (by simp);refine M3 st #[o,VV I.hok ea,ex,hd] uZ λh' Ca sb=>?_;have I1:jn X pins σ H { s with heap:=h' }:=I.turned (t':=s.toks) (λb o hb e=>(sb.2 b hb).trans e) f0 f1 f3 f4 f5;obtain⟨oi,e,c,d⟩:=id Ca;have ey:es[i]?=some (entryOfKey (tupleKind (jW X.prog X.w)) xs[i]):=by rw[entry_at he,yc hi];rfl
  have ek:es[i].key=.ref xs[i].2.1:=by
   have:=(yi.mp (by rw[yI];exact ey)).2;rw[QZ] at this;rw[this];rfl
  exact#[_,rfl,Gy (s:={ s with heap:=h' }) e c d (by decide) #[.ref xs[i].2.1,H,I1,ek,#[rfl,xs[i],yc hi,rfl],Ca,λb hb=>(hf b hb).1]]
 done:=by
  intro X hP hw hK hc i pins s σ H E I hf st hg;subst hP hw hK;obtain⟨ea,hi⟩:=hg;have sz:=size_of_entries he;obtain⟨f0,f1,f2,f3,f4,f5⟩:=hf it (by simp);exact n6 (I.ok.hd (hc rfl)) st #[o,VV I.hok ea,ex,hd] (by omega) λh' eb=>#[rfl,I.turned (t':=s.toks) (λb o hb e=>eb b o hb e) f0 f1 f3 f4 f5]
 self:=λ_ _ _ _ _ st h=>wpAny_pyIter_keyiter st h
section
variable {X:Cx}{tg:Expr}
def wR (P:Be) (w:World) (te:TE):TI:=λσ H R=>te σ H λx H1=>∃a kvs,x=.ref a/\H1 a=some (.dT kvs)/\∀o xs,kvs.length<=sizeLine->(a==sysModules)=false->KT H1 kvs xs->bo P w o xs->R (Mb a o xs) (upd H1 a (UC a o))
theorem zC {l:Expr}{tl:TE} (hc:X.calm=true) (hl:PE X l tl):PI X tg l (wR X.prog X.w tl):=by
 intro pins s σ H R I h;refine jC (hl pins s σ H _ I h) λv s1 hh=>?_;obtain⟨x,H1,I1,r1,a,kvs,e,ha,q⟩:=hh;subst e;cases r1;obtain⟨z,hm,xs,kt,o,es,ep,h1,h2,h3,h4,h5,h6⟩:=Gn I1.hok ha;refine MQ hm #[o,h1,h2,h3] ?_;have I2:jn X pins σ (upd H1 a (UC a o)) { s1 with heap:=s1.heap,toks:=s1.toks }:=I1.write (x:=a) (e:=a) (h':=s1.heap) (t':=s1.toks) (by rw[ha];exact True.intro) (.inl rfl) (λb u _ e=>e) #[o,h1] #[h1,#[o,h1],λg1 g2 x k=>k _ x];have I3:jn X pins σ (upd H1 a (UC a o)) { s1 with heap:=s1.heap.push { cls:=.type "dict_keyiterator",data:=.fields (List.toArray [.ref a,.int 0 0,.int es.size 0,.int ep 0]) } }:=I2.kept (t':=s1.toks) λb o e=>yd _ e;refine#[s1.heap.objs.size,[s1.heap.objs.size],_,_,_,rfl,I3,#[true,io a _ o xs h2 h3 h4,λ_=>hc],#[_,yz _ rfl,rfl,rfl],λb hb=>?_,q o xs z hm kt #[es,ep,h2,h3,h4,h6]];obtain rfl:b=s1.heap.objs.size:=by simpa using hb
 exact I2.fpOk (yg _) (I2.hok.fresh (yg _))
def xr (P:Be) (w:World) (t:TE):TE:=λσ H Q=>t σ H λv H'=>∃a o kvs xs,H' a=some (UC a o)/\(a==sysModules)=false/\KT H' kvs xs/\bo P w o xs/\kvs.length<=sizeLine/\Q v (upd H' a (.dT kvs))
theorem qu {e:Expr}{t:TE} (h:PE X e t):PE X e (xr X.prog X.w t):=by
 intro pins s σ H Q I q;refine jC (h pins s σ H _ I q) λv s1 hh=>?_;obtain⟨x,H1,I1,r1,a,o,kvs,xs,ha,hm,kt,⟨es,ep,h2,h3,h4,h6⟩,hz,q⟩:=hh;have g:=VV I1.hok ha;have I2:jn X pins σ (upd H1 a (.dT kvs)) { s1 with heap:=s1.heap,toks:=s1.toks }:=I1.write (x:=a) (e:=a) (h':=s1.heap) (t':=s1.toks) (by rw[ha];exact True.intro) (.inl rfl) (λb u _ e=>e) #[o,g] #[hz,hm,xs,Paired.mapP kt λx y r=>#[r.1,?_,r.2.2],o,es,ep,g,h2,h3,h4,h6]
 ·exact#[x,_,I2,r1,q]
 ·rw[jl (jq r.2.1 ha)];exact r.2.1
end
end L2
namespace L2
open PySem
variable {i:Nat}{σ:St}{H:Hp}{Q:VK}{o C dx:Addr}{a b:TS}{D:za}
abbrev oR (a:Addr):Option V:=some (.ref a)
abbrev oI (n:Int):Option V:=some (.int n)
theorem zV:0<=sizeLine:=by decide
theorem nU:1<=sizeLine:=by decide
theorem V9:2<=sizeLine:=by decide
theorem Ul:3<=sizeLine:=by decide
theorem pj:4<=sizeLine:=by decide
theorem Vn {K:AQ}{f:Str}{fs:List (Str×V)} (v:V) (e:H o=some (.ins C dx fs)) (c:vi K C) (n:Jm K C f) (q:Q v H) (e0:σ[i]?=some (oR o):=by rfl) (l:fs.lookup f=some v:=by kernel_rfl):wp K (kT i) f σ H Q:=#[_,e0,o,C,dx,fs,v,rfl,e,c,n,l,q]
theorem Jz {K:AQ}{j:Int}{p:Addr}{xs:List V} (v:V) (e:jD K H p xs) (q:Q v H) (e0:σ[i]?=some (oR p):=by rfl) (a:ga xs j=some v:=by first|rfl|exact vp rfl):bi (tN K) (kT i) (tC (.int j)) σ H Q:=#[_,e0,p,xs,j,v,rfl,rfl,e,a,q]
theorem ZS {m:Str}{sp:Sp}{dvs:List V}{E:XK}{t:TA}{fs:List (Str×V)} (e:H o=some (.ins C dx fs)) (q:t σ H λvs H2=>sp (.ref o::(vs++dvs)) H2 Q E) (e0:σ[i]?=some (oR o):=by rfl) (l:fs.lookup m=none:=by rfl):de C m sp dvs E (kT i) t σ H Q:=#[_,e0,o,dx,fs,rfl,e,l,q]
theorem vV (s:St) (I:Hp->Prop) (h1:∀B:TS,(∀H,I H->B D s H)->UZ a B D σ H) (h2:∀H,I H->b D s H):UZ a b D σ H:=h1 b h2
theorem uP {α:Type} (s:α->St) (I:α->Hp->Prop) (h1:∀B:TS,(∀x H,I x H->B D (s x) H)->UZ a B D σ H) (h2:∀x H,I x H->b D (s x) H):UZ a b D σ H:=h1 b h2
theorem KA {α β:Type} (s:α->β->St) (I:α->β->Hp->Prop) (h1:∀B:TS,(∀x y H,I x y H->B D (s x y) H)->UZ a B D σ H) (h2:∀x y H,I x y H->b D (s x y) H):UZ a b D σ H:=h1 b h2
theorem KB {α β γ:Type} (s:α->β->γ->St) (I:α->β->γ->Hp->Prop) (h1:∀B:TS,(∀x y z H,I x y z H->B D (s x y z) H)->UZ a B D σ H) (h2:∀x y z H,I x y z H->b D (s x y z) H):UZ a b D σ H:=h1 b h2
theorem G1 {α β γ δ:Type} (s:α->β->γ->δ->St) (I:α->β->γ->δ->Hp->Prop) (h1:∀B:TS,(∀x y z u H,I x y z u H->B D (s x y z u) H)->UZ a B D σ H) (h2:∀x y z u H,I x y z u H->b D (s x y z u) H):UZ a b D σ H:=h1 b h2
theorem tT {α β γ δ ε:Type} (s:α->β->γ->δ->ε->St) (I:α->β->γ->δ->ε->Hp->Prop) (h1:∀B:TS,(∀x y z u v H,I x y z u v H->B D (s x y z u v) H)->UZ a B D σ H) (h2:∀x y z u v H,I x y z u v H->b D (s x y z u v) H):UZ a b D σ H:=h1 b h2
end L2
namespace L2
open PySem PySem.Spec PyProof.Rows TS STb
variable {A:Around}{s:Shared}{k j:List Key}{Bi Bl:AW}
theorem Mr {k j:Key}{u v:Value} (hu:jF (kV k) u) (hv:jF (kV j) v):SeqAt.EqAt A s u v (decide (k=j)):=by
 cases k with
 | inl a =>
  obtain⟨t,rfl⟩:=hu;cases j with
  | inl b =>
   obtain⟨t',rfl⟩:=hv;have:=SeqAt.EqAt.int_int (A:=A) (s:=s) a t b t';rwa [show (a==b)=decide ((Sum.inl a:Key)=Sum.inl b) from yR.mpr (by rw[beq_iff_eq,decide_eq_true_eq];exact#[λz=>by rw[z],λz=>Sum.inl.inj z])] at this
  | inr b =>
   obtain⟨t',rfl⟩:=hv;rw[decide_eq_false (λz=>by cases z)];exact SeqAt.EqAt.int_str a t b t'
 | inr a =>
  obtain⟨t,rfl⟩:=hu;cases j with
  | inl b =>
   obtain⟨t',rfl⟩:=hv;rw[decide_eq_false (λz=>by cases z)];exact SeqAt.EqAt.str_int a t b t'
  | inr b =>
   obtain⟨t',rfl⟩:=hv;have:=SeqAt.EqAt.str_str (A:=A) (s:=s) a t b t';rwa [show (a==b)=decide ((Sum.inr a:Key)=Sum.inr b) from yR.mpr (by rw[beq_iff_eq,decide_eq_true_eq];exact#[λz=>by rw[z],λz=>Sum.inr.inj z])] at this
theorem dM (r1:jA (k.map kV) Bi) (r2:jA (j.map kV) Bl) (n:Nat) (h1:n<Bi.toArray.size) (h2:n<Bl.toArray.size) :
  SeqAt.EqAt A s Bi.toArray[n] Bl.toArray[n] (decide (k.getD n (.inl 0)=j.getD n (.inl 0))):=by
 have l1:=r1.length;have l2:=r2.length;rw[yb] at l1 l2;rw[yk] at h1 h2;have g1:n<k.length:=by omega
 have g2:n<j.length:=by omega
 obtain⟨u,hu,ru⟩:=r1.get (i:=n) (x:=kV k[n]) (by simp [g1]);obtain⟨v,hv,rv⟩:=r2.get (i:=n) (x:=kV j[n]) (by simp [g2]);rw[yc h1] at hu;rw[yc h2] at hv;cases hu;cases hv;rw[yW,yW,yu,yu,yc g1,yc g2];exact Mr ru rv
theorem eS (r1:jA (k.map kV) Bi) (r2:jA (j.map kV) Bl):((List.range (min Bi.toArray.size Bl.toArray.size)).all (λn=>decide (k.getD n (.inl 0)=j.getD n (.inl 0)))&&Bi.toArray.size==Bl.toArray.size)=decide (k=j):=by
 have l1:=r1.length;have l2:=r2.length;rw[yb] at l1 l2;rw[yk,yk,<-l1,<-l2];exact gF _ k j
section
variable {X:Cx}{pins:AU}{σ:St}{H:Hp}{s:Shared}
theorem dO (I:jn X pins σ H s) {a b:Addr} (hu:A.units<cLine) (ha:H a=some (.tup (k.map kV))) (hb:H b=some (.tup (j.map kV))):SeqAt.EqAt A s (.ref a) (.ref b) (decide (k=j)):=by
 by_cases Ds:a=b
 ·subst Ds;rw[ha] at hb;have e:k=j:=(List.map_inj_right (f:=kV) λx y h=>ss h).mp (HO.tup.inj (Option.some.inj hb));rw[decide_eq_true e];exact SeqAt.EqAt.same _
 ·obtain⟨Bi,r1,p1,_⟩:=I.tuple (jD.of ha);obtain⟨Bl,r2,p2,_⟩:=I.tuple (jD.of hb);rw[<-eS r1 r2];exact SeqAt.EqAt.of_refs Ds (SeqAt.RcAt.tuples p1 p2 hu λn h1 h2=>dM r1 r2 n h1 h2)
end
end L2
namespace PySem.SeqAt
open PySem PySem.Spec
open MeetsSeq MeetsSeq2 MeetsSeq3 SeqRoads2
variable {l b:Addr}{items Bh:A2}{e:Nat->Bool}{r:Bool}
def LtAt (A:Around) (s:Shared) (y x:Value) (b:Bool):Prop :=
 ∀(prog:Be) (w:World) (E:AL) (Q:AL),Q (.bool b) s->wpAny (model prog w) A (richCompare .Lt y x) Q E s
theorem dg (l b:Addr) (items Bh:A2) (n n2:Nat) (dd D8:Bc) (sl D9:A0) (e:Nat->Bool) (r:Bool) :
  Meets (Builtin.«tuple.__lt__» #[[.ref l,.ref b],[]])
   (λA R s=>s.heap.get? l=some { cls:=.type "tuple",dict:=dd,data:=.seq items n,slots:=sl }/\s.heap.get? b=some { cls:=.type "tuple",dict:=D8,data:=.seq Bh n2,slots:=D9 } /\
    (∀j (h1:j<items.size) (h2:j<Bh.size),(∀i,i<j->e i=true)->EqAt A.in1 s items[j] Bh[j] (e j)) /\
    (∀j (h1:j<items.size) (h2:j<Bh.size),(∀i,i<j->e i=true)->e j=false->LtAt A.in1 s items[j] Bh[j] r) /\
    ((∀i,i<min items.size Bh.size->e i=true)->r=decide (items.size<Bh.size)) /\
    R (.ok (.ret (.bool r))) s) :=
 .of_wp λprog w A R s h=>by
  obtain⟨hp,g,d,tk,os⟩:=s;obtain⟨hl,hb,he,Bj,hr,h⟩:=h;have f2:=AutoSeq1.sub_tuple_tuple;have hZ:(items.toList.zip Bh.toList).length=min items.size Bh.size:=by simp
  wp_walk using AutoSeq1.wpAny_loadPart' hl,AutoSeq1.wpAny_loadPart' hb,wpAny_forIn_list _ (λrest b s'=>b.1=none/\s'=#[hp,g,d,tk,os]/\∃i,rest=(items.toList.zip Bh.toList).drop i/\∀j,j<i->e j=true) _
  case turn =>
   rintro⟨y,x⟩ rest b s' ⟨Er,rfl,i,hz,hR⟩;have Cu:i<(items.toList.zip Bh.toList).length:=by
    rcases yC i (items.toList.zip Bh.toList).length with h'|h'
    ·exact h'
    ·rw[List.drop_of_length_le h'] at hz;cases hz
   have hm:i<min items.size Bh.size:=hZ▸Cu;have h1:i<items.size:=yF hm (Nat.min_le_left _ _);have h2:i<Bh.size:=yF hm (Nat.min_le_right _ _);rw[Qc Cu] at hz;injection hz with Ln DP
   have hy:y=items[i]:=by have:=congrArg Prod.fst Ln;simpa using this
   have hx:x=Bh[i]:=by have:=congrArg Prod.snd Ln;simpa using this
   subst hy hx;refine Bf (he i h1 h2 hR prog w _ _ ?_);cases hy:e i with
   | true =>
    wp_walk
    exact#[rfl,rfl,i+1,DP,λj hj=>by
     rcases Nat.lt_or_eq_of_le (Q7 hj) with z|rfl
     ·exact hR j z
     ·exact hy]
   | false =>
    have q:=Bj i h1 h2 hR hy prog w;generalize richCompare CmpOp.Lt items[i] Bh[i]=m at q ⊢
    wp_walk using q _ _
    wp_walk
    exact#[_,rfl,h]
  case fin =>
   rintro⟨b1,b2⟩ s' ⟨Er,rfl,i,hz,hR⟩;simp only at Er;subst Er;have Lo:min items.size Bh.size<=i:=by
    rcases yC i (items.toList.zip Bh.toList).length with h'|h'
    ·rw[Qc h'] at hz;cases hz
    ·exact hZ▸h'
   rw[hr λj hj=>hR j (yF hj Lo)] at h
   wp_walk
   exact#[_,rfl,by simpa [Builtin.Tuple.tupleCompareSizes] using h]
  case h =>
   exact#[rfl,rfl,0,rfl,λj hj=>absurd hj (QS _)]
theorem N5 (l b:Addr) (items Bh:A2) (n n2:Nat) (dd D8:Bc) (sl D9:A0) (e:Nat->Bool) (r:Bool) :
  Meets (Builtin.«tuple.__eq__» #[[.ref l,.ref b],[]])
   (λA R s=>s.heap.get? l=some { cls:=.type "tuple",dict:=dd,data:=.seq items n,slots:=sl }/\s.heap.get? b=some { cls:=.type "tuple",dict:=D8,data:=.seq Bh n2,slots:=D9 } /\
    (∀j (h1:j<items.size) (h2:j<Bh.size),(∀i,i<j->e i=true)->EqAt A.in1 s items[j] Bh[j] (e j)) /\
    (∀j (h1:j<items.size) (h2:j<Bh.size),(∀i,i<j->e i=true)->e j=false->r=false) /\
    ((∀i,i<min items.size Bh.size->e i=true)->r=(items.size==Bh.size)) /\
    R (.ok (.ret (.bool r))) s) :=
 .of_wp λprog w A R s h=>by
  obtain⟨hp,g,d,tk,os⟩:=s;obtain⟨hl,hb,he,Bj,hr,h⟩:=h;have f2:=AutoSeq1.sub_tuple_tuple;have hZ:(items.toList.zip Bh.toList).length=min items.size Bh.size:=by simp
  wp_walk using AutoSeq1.wpAny_loadPart' hl,AutoSeq1.wpAny_loadPart' hb,wpAny_forIn_list _ (λrest b s'=>b.1=none/\s'=#[hp,g,d,tk,os]/\∃i,rest=(items.toList.zip Bh.toList).drop i/\∀j,j<i->e j=true) _
  case turn =>
   rintro⟨y,x⟩ rest b s' ⟨Er,rfl,i,hz,hR⟩;have Cu:i<(items.toList.zip Bh.toList).length:=by
    rcases yC i (items.toList.zip Bh.toList).length with h'|h'
    ·exact h'
    ·rw[List.drop_of_length_le h'] at hz;cases hz
   have hm:i<min items.size Bh.size:=hZ▸Cu;have h1:i<items.size:=yF hm (Nat.min_le_left _ _);have h2:i<Bh.size:=yF hm (Nat.min_le_right _ _);rw[Qc Cu] at hz;injection hz with Ln DP
   have hy:y=items[i]:=by have:=congrArg Prod.fst Ln;simpa using this
   have hx:x=Bh[i]:=by have:=congrArg Prod.snd Ln;simpa using this
   subst hy hx;refine Bf (he i h1 h2 hR prog w _ _ ?_);cases hy:e i with
   | true =>
    wp_walk
    exact#[rfl,rfl,i+1,DP,λj hj=>by
     rcases Nat.lt_or_eq_of_le (Q7 hj) with z|rfl
     ·exact hR j z
     ·exact hy]
   | false =>
    rw[Bj i h1 h2 hR hy] at h
    wp_walk
    exact#[_,rfl,h]
  case fin =>
   rintro⟨b1,b2⟩ s' ⟨Er,rfl,i,hz,hR⟩;simp only at Er;subst Er;have Lo:min items.size Bh.size<=i:=by
    rcases yC i (items.toList.zip Bh.toList).length with h'|h'
    ·rw[Qc h'] at hz;cases hz
    ·exact hZ▸h'
   rw[hr λj hj=>hR j (yF hj Lo)] at h
   wp_walk
   exact#[_,rfl,by simpa [Builtin.Tuple.tupleCompareSizes] using h]
  case h =>
   exact#[rfl,rfl,0,rfl,λj hj=>absurd hj (QS _)]
section
variable {A:Around}{s:Shared}
theorem LtAt.tuples (hl:s.heap.IsTuple l items) (hb:s.heap.IsTuple b Bh) (hu:A.units<cLine)
  (he:∀j (h1:j<items.size) (h2:j<Bh.size),(∀i,i<j->e i=true)->EqAt A.in1 s items[j] Bh[j] (e j))
  (Bj:∀j (h1:j<items.size) (h2:j<Bh.size),(∀i,i<j->e i=true)->e j=false->LtAt A.in1 s items[j] Bh[j] r)
  (hr:(∀i,i<min items.size Bh.size->e i=true)->r=decide (items.size<Bh.size)):LtAt A s (.ref l) (.ref b) r:=λprog w E Q h=>by
 obtain⟨⟨cls,dd,data,sl⟩,ho,hc,n,hd⟩:=id hl;obtain⟨⟨IV,D8,data2,D9⟩,CH,EU,n2,hd2⟩:=id hb;simp only at hc hd EU hd2;subst hc hd EU hd2;exact richCompare_meets_room (op:=.Lt) #[_,ho,rfl] #[_,CH,rfl] F.slot_tuple_lt F.entry_tuple_lt (F.args_tuple_lt_2 _ _) (dg l b items Bh n n2 dd D8 sl D9 e r)
  #[ho,CH,he,Bj,hr,show Value.bool r≠Value.notImplemented/\Q (.bool r) s from#[(λx=>nomatch x),h]] hu
theorem EqAt.tuplesP (BA:l≠b) (hl:s.heap.IsTuple l items) (hb:s.heap.IsTuple b Bh) (hu:A.units<cLine)
  (he:∀j (h1:j<items.size) (h2:j<Bh.size),(∀i,i<j->e i=true)->EqAt A.in1 s items[j] Bh[j] (e j))
  (Bj:∀j (h1:j<items.size) (h2:j<Bh.size),(∀i,i<j->e i=true)->e j=false->r=false)
  (hr:(∀i,i<min items.size Bh.size->e i=true)->r=(items.size==Bh.size)):EqAt A s (.ref l) (.ref b) r:=EqAt.of_refs BA λprog w E Q h=>by
 obtain⟨⟨cls,dd,data,sl⟩,ho,hc,n,hd⟩:=id hl;obtain⟨⟨IV,D8,data2,D9⟩,CH,EU,n2,hd2⟩:=id hb;simp only at hc hd EU hd2;subst hc hd EU hd2;exact richCompare_meets_room (op:=.Eq) #[_,ho,rfl] #[_,CH,rfl] F.slot_tuple_eq F.entry_tuple_eq (F.args_tuple_eq_2 _ _) (N5 l b items Bh n n2 dd D8 sl D9 e r)
  #[ho,CH,he,Bj,hr,show Value.bool r≠Value.notImplemented/\Q (.bool r) s from#[(λx=>nomatch x),h]] hu
end
end PySem.SeqAt
namespace L2
open PySem PySem.Spec PyProof.Rows TS
variable {k:List Key}{j:Nat}{vs:AW}{d:Bool}{Q:AL}{M:Od}{σ:St}{o:Obj}{kvs:List (List Key×V)}{xs:List (List Key×Addr×Value)}{g:TG}
structure Od where
 α:Type
 deq:DecidableEq α
 lt:α->α->Bool
 irr:∀a,lt a a=false
 trans:∀{a b c},lt a b=true->lt b c=true->lt a c=true
 tot:∀{a b},lt a b=false->lt b a=false->a=b
 R:Heap->Value->α->Prop
 V_:Hp->V->α->Prop
 cmp:α->α->Prop
 deep:Nat
 keep:∀{h h':Heap} {u a},(∀b o,h.get? b=some o->o.cls=.type "tuple"->h'.get? b=some o)->R h u a->R h' u a
 mono:∀{H H':Hp} {x a},(∀p xs,H p=some (.tup xs)->H' p=some (.tup xs))->V_ H x a->V_ H' x a
 raw:∀{P w H h x u a},Ji P w H h->V_ H x a->jF x u->R h u a
 uniq:∀{h u a b},R h u a->R h u b->a=b
 eq:∀{A:Around} {s:Shared} {u v a b},A.units+deep<cLine->cmp a b->R s.heap u a->R s.heap v b->SeqAt.EqAt A s u v (@decide (a=b) (deq a b))
 less:∀{A:Around} {s:Shared} {u v a b},A.units+deep<cLine->cmp a b->R s.heap u a->R s.heap v b->SeqAt.LtAt A s u v (lt a b)
instance (O:Od):DecidableEq O.α:=O.deq
theorem zq {k:Key}{u:Value}:jF (kV k) u↔uK k u:=by cases k<;>exact Iff.rfl
abbrev uw:Od where
 α:=Key
 deq:=inferInstance
 lt:=Zn
 irr:=kz
 trans:=Zo
 tot:=kA
 R:=λ_ u k=>uK k u
 V_:=λ_ x k=>x=kV k
 cmp:=λa b=>a.isLeft=b.isLeft
 deep:=0
 keep:=λ_ h=>h
 mono:=λ_ h=>h
 raw:=λ_ h r=>by rw[h] at r;exact zq.mp r
 uniq:=λ{h u a b} h1 h2=>by
  cases a<;>cases b<;>(obtain⟨t,rfl⟩:=h1;obtain⟨t',e⟩:=h2;first|(cases e;done)|(cases e;rfl))
 eq:=λ_ _ h1 h2=>Mr (zq.mpr h1) (zq.mpr h2)
 less:=λ{A s u v a b} _ hc h1 h2 prog w E Q h=>by
  cases a with
  | inl a=>cases b with
   | inl b =>
    obtain⟨t,rfl⟩:=h1;obtain⟨t',rfl⟩:=h2;exact richCompare_gives (op:=.Lt) (typeIs_int s a t) (typeIs_int s b t') F.slot_int_lt F.entry_int_lt (F.args_int_lt_2 _ _) (gives_int_lt a b t t') (λz=>nomatch z) h
   | inr b=>cases hc
  | inr a=>cases b with
   | inl b=>cases hc
   | inr b =>
    obtain⟨t,rfl⟩:=h1;obtain⟨t',rfl⟩:=h2;exact richCompare_gives (op:=.Lt) (typeIs_str s a t) (typeIs_str s b t') F.slot_str_lt F.entry_str_lt (F.args_str_lt_2 _ _) (gives_str_lt a b t t') (λz=>nomatch z) h
section
variable (O:Od)
def JC:List O.α->List O.α->Bool
 | _,[]=>false
 | [],_::_=>true
 | a::as,b::bs=>if a=b then JC as bs else O.lt a b
def uM:List O.α->List O.α->Prop
 | [],_=>True
 | _::_,[]=>True
 | a::as,b::bs=>O.cmp a b/\(a=b->uM as bs)
variable {O}
theorem Od.ne_ {a b:O.α} (h:O.lt a b=true):a≠b:=λe=>by rw[e,O.irr] at h;cases h
theorem aI:∀a:List O.α,JC O a a=false
 | []=>rfl
 | a::as=>by unfold JC;rw[if_pos rfl];exact aI as
theorem aJ:∀{a b:List O.α},JC O a b=false->JC O b a=false->a=b
 | [],[],_,_=>rfl
 | [],b::bs,h,_=>by unfold JC at h;cases h
 | a::as,[],_,h=>by unfold JC at h;cases h
 | a::as,b::bs,h1,h2=>by
  unfold JC at h1 h2;by_cases e:a=b
  ·rw[if_pos e] at h1;rw[if_pos e.symm] at h2;rw[e,aJ h1 h2]
  ·rw[if_neg e] at h1;rw[if_neg (yP e)] at h2;exact absurd (O.tot h1 h2) e
theorem Ks:∀{a b c:List O.α},JC O a b=true->JC O b c=true->JC O a c=true
 | a,b,[],_,h=>by unfold JC at h;cases h
 | a,[],c,h,_=>by unfold JC at h;cases h
 | [],b::bs,c::cs,_,_=>by unfold JC;rfl
 | a::as,b::bs,c::cs,h1,h2=>by
  unfold JC at h1 h2 ⊢;by_cases e1:a=b
  ·subst e1;rw[if_pos rfl] at h1;by_cases e2:a=c
   ·rw[if_pos e2] at h2 ⊢;exact Ks h1 h2
   ·rw[if_neg e2] at h2 ⊢;exact h2
  ·rw[if_neg e1] at h1;by_cases e2:b=c
   ·subst e2;rw[if_neg e1];exact h1
   ·rw[if_neg e2] at h2;have h3:=O.trans h1 h2;rw[if_neg (Od.ne_ h3)];exact h3
theorem Vc {α β:Type}{F G:α->β->Prop} (f:∀x y,F x y->G x y):∀{l:List α} {m:List β},Paired F l m->Paired G l m
 | _,_,.nil=>.nil
 | _,_,.cons r t=>.cons (f _ _ r) (Vc f t)
theorem VQ {α β:Type}{F:α->β->Prop} (f:∀x y z,F x y->F x z->y=z):∀{l:List α} {m n:List β},Paired F l m->Paired F l n->m=n
 | _,_,_,.nil,.nil=>rfl
 | _,_,_,.cons r t,.cons r' t'=>by rw[f _ _ _ r r',VQ f t t']
theorem Jl {α β:Type}{F:α->β->Prop}:∀{l:List α} {m:List β},Paired F l m->l.length=m.length
 | _,_,.nil=>rfl
 | _,_,.cons _ t=>by rw[yU,yU,Jl t]
theorem uB {α β:Type}{F:α->β->Prop}:∀{l:List α} {m:List β} (p:Paired F l m) {i:Nat} (h1:i<l.length) (h2:i<m.length),F l[i] m[i]
 | _,_,.cons r _,0,_,_=>r
 | _,_,.cons _ t,i+1,h1,h2=>uB t (by simpa using h1) (by simpa using h2)
theorem nS {P:Be}{w:World}{H:Hp}{h:Heap} (ok:Ji P w H h):∀{xs:List V} {us:AW} {l:List O.α},Paired (O.V_ H) xs l->jA xs us->Paired (O.R h) us l
 | _,_,_,.nil,.nil=>.nil
 | _,_,_,.cons r t,.cons r' t'=>.cons (O.raw ok r r') (nS ok t t')
theorem ZL:∀{as bs:List O.α},uM O as bs->∀(j:Nat) (h1:j<as.length) (h2:j<bs.length),(∀i (g1:i<as.length) (g2:i<bs.length),i<j->as[i]=bs[i])->O.cmp as[j] bs[j]
 | a::as,b::bs,h,0,_,_,_=>by unfold uM at h;exact h.1
 | a::as,b::bs,h,j+1,h1,h2,e=>by
  unfold uM at h;exact ZL (h.2 (e 0 (Ql _) (Ql _) (Ql _))) j (by simpa using h1) (by simpa using h2) λi g1 g2 hi=>by
   have:=e (i+1) (by simpa using g1) (by simpa using g2) (by omega);simpa using this
theorem fh:∀{as bs:List O.α} (j:Nat) (h1:j<as.length) (h2:j<bs.length),(∀i (g1:i<as.length) (g2:i<bs.length),i<j->as[i]=bs[i])->as[j]≠bs[j]->JC O as bs=O.lt as[j] bs[j]
 | a::as,b::bs,0,_,_,_,n=>by unfold JC;rw[if_neg (by simpa using n)];rfl
 | a::as,b::bs,j+1,h1,h2,e,n=>by
  have e0:a=b:=e 0 (Ql _) (Ql _) (Ql _);unfold JC;rw[if_pos e0];refine (fh j (by simpa using h1) (by simpa using h2) (λi g1 g2 hi=>?_) (by simpa using n)).trans (by simp);have:=e (i+1) (by simpa using g1) (by simpa using g2) (by omega);simpa using this
theorem kD:∀{as bs:List O.α},(∀i (g1:i<as.length) (g2:i<bs.length),as[i]=bs[i])->JC O as bs=decide (as.length<bs.length)
 | as,[],_=>by unfold JC;exact (decide_eq_false (QS _)).symm
 | [],b::bs,_=>by unfold JC;exact (decide_eq_true (Ql _)).symm
 | a::as,b::bs,e=>by
  have e0:a=b:=e 0 (Ql _) (Ql _);unfold JC;rw[if_pos e0,kD (λi g1 g2=>by
   have:=e (i+1) (by simpa using g1) (by simpa using g2);simpa using this)]
  simp
theorem dP {as bs:List O.α}:as=bs↔as.length=bs.length/\∀i (g1:i<as.length) (g2:i<bs.length),as[i]=bs[i] :=
 #[λe=>by subst e;exact#[rfl,λ_ _ _=>rfl],λh=>List.ext_getElem h.1 λi h1 h2=>h.2 i h1 h2]
def dL (as bs:List O.α) (j:Nat):Bool:=decide (as[j]?=bs[j]?)
theorem vt {as bs:List O.α} (h1:j<as.length) (h2:j<bs.length):dL as bs j=decide (as[j]=bs[j]):=by
 unfold dL;rw[yc h1,yc h2,yR,decide_eq_true_iff,decide_eq_true_iff];exact#[λe=>Option.some.inj e,λe=>by rw[e]]
theorem ZN {as bs:List O.α} (h:∀i,i<j->dL as bs i=true):∀i (g1:i<as.length) (g2:i<bs.length),i<j->as[i]=bs[i]:=λi g1 g2 hi=>by
 have:=h i hi;rw[vt g1 g2] at this;exact of_decide_eq_true this
end
abbrev JG (O:Od):Od where
 α:=List O.α
 deq:=inferInstance
 lt:=JC O
 irr:=aI
 trans:=Ks
 tot:=aJ
 R:=λh u l=>∃a vs,u=.ref a/\h.IsTuple a vs.toArray/\Paired (O.R h) vs l
 V_:=λH x l=>∃a xs,x=.ref a/\H a=some (.tup xs)/\Paired (O.V_ H) xs l
 cmp:=uM O
 deep:=O.deep+1
 keep:=λk #[a,vs,e,#[o,h1,h2,h3],p]=>#[a,vs,e,#[o,k a o h1 h2,h2,h3],Vc (λ_ _ r=>O.keep k r) p]
 mono:=λk #[a,xs,e,h,p]=>#[a,xs,e,k _ _ h,Vc (λ_ _ r=>O.mono k r) p]
 raw:=λ{P w H h x u l} ok ⟨a,xs,e,hh,p⟩ r=>by
  subst e;cases r;obtain⟨_,Bi,rv,it⟩:=(show j8 P w H h a (.tup xs) from ok a _ hh);exact#[a,Bi,rfl,it,nS ok p rv]
 uniq:=λ⟨a,vs,e,⟨o,h1,_,n,h3⟩,p⟩ ⟨a',g₂,e',⟨o',Tx,_,n',Tz⟩,p'⟩=>by
  subst e;cases e';rw[h1] at Tx;cases Tx;rw[h3] at Tz;injection Tz with e1 _
  have e2:vs=g₂:=by simpa using e1
  subst e2;exact VQ (F:=O.R _) (λ_ _ _ r r'=>O.uniq r r') p p'
 eq:=λ{A s u v as bs} hu hc h1 h2=>by
  obtain⟨a,vs,rfl,t1,p1⟩:=id h1;obtain⟨b,ws,rfl,t2,p2⟩:=id h2;have l1:=Jl p1;have l2:=Jl p2;by_cases Ds:a=b
  ·subst Ds;have e:as=bs:=by
    obtain⟨o,g1,_,n,g3⟩:=t1;obtain⟨o',TB,_,n',TC⟩:=t2;rw[g1] at TB;cases TB;rw[g3] at TC;injection TC with e1 _
    have e2:vs=ws:=by simpa using e1
    subst e2;exact VQ (F:=O.R s.heap) (λ_ _ _ r r'=>O.uniq r r') p1 p2
   rw[decide_eq_true e];exact SeqAt.EqAt.same _
  ·refine SeqAt.EqAt.tuplesP (e:=dL as bs) Ds t1 t2 (by omega) (λj g1 g2 pre=>?_) (λj g1 g2 pre ej=>?_) λall=>?_
   ·have k1:j<as.length:=by rw[<-l1];simpa using g1
    have k2:j<bs.length:=by rw[<-l2];simpa using g2
    rw[vt k1 k2,yW,yW];exact O.eq (by show A.units+1+O.deep<cLine;omega) (ZL hc j k1 k2 (ZN pre)) (uB p1 _ k1) (uB p2 _ k2)
   ·have k1:j<as.length:=by rw[<-l1];simpa using g1
    have k2:j<bs.length:=by rw[<-l2];simpa using g2
    refine decide_eq_false λe=>?_;subst e;rw[vt k1 k2] at ej;exact absurd rfl (of_decide_eq_false ej)
   ·rw[yk,yk,l1,l2] at all ⊢;rw[yR,decide_eq_true_iff,beq_iff_eq,dP];refine#[λz=>z.1,λz=>#[z,λi g1 g2=>?_]];have:=all i (by omega);rw[vt g1 g2] at this;exact of_decide_eq_true this
 less:=λ{A s u v as bs} hu hc h1 h2=>by
  obtain⟨a,vs,rfl,t1,p1⟩:=id h1;obtain⟨b,ws,rfl,t2,p2⟩:=id h2;have l1:=Jl p1;have l2:=Jl p2;refine SeqAt.LtAt.tuples (e:=dL as bs) t1 t2 (by omega) (λj g1 g2 pre=>?_) (λj g1 g2 pre ej=>?_) λall=>?_
  ·have k1:j<as.length:=by rw[<-l1];simpa using g1
   have k2:j<bs.length:=by rw[<-l2];simpa using g2
   rw[vt k1 k2,yW,yW];exact O.eq (by show A.units+1+O.deep<cLine;omega) (ZL hc j k1 k2 (ZN pre)) (uB p1 _ k1) (uB p2 _ k2)
  ·have k1:j<as.length:=by rw[<-l1];simpa using g1
   have k2:j<bs.length:=by rw[<-l2];simpa using g2
   rw[vt k1 k2] at ej;have ne:=of_decide_eq_false ej;rw[fh j k1 k2 (ZN pre) ne,yW,yW];exact O.less (by show A.units+1+O.deep<cLine;omega) (ZL hc j k1 k2 (ZN pre)) (uB p1 _ k1) (uB p2 _ k2)
  ·rw[yk,yk,l1,l2] at all ⊢;refine kD λi g1 g2=>?_;have:=all i (by omega);rw[vt g1 g2] at this;exact of_decide_eq_true this
theorem Gp {A:Around}{s:Shared}{u v:Value}{p q:Prop}{d:Decidable p}{d':Decidable q} (h:p↔q) (x:SeqAt.EqAt A s u v (@decide p d)):SeqAt.EqAt A s u v (@decide q d'):=(@decide_eq_decide p q d d').mpr h▸x
abbrev Jx (O:Od) (hd:∀h u l,¬(uK l u/\∃a,O.R h u a)):Od where
 α:=Key ⊕ O.α
 deq:=inferInstance
 lt:=λa b=>match a,b with|.inl a,.inl b=>Zn a b|.inl _,.inr _=>true|.inr _,.inl _=>false|.inr a,.inr b=>O.lt a b
 irr:=λa=>by cases a<;>first|exact kz _|exact O.irr _
 trans:=λ{a b c} h1 h2=>by
  cases a<;>cases b<;>cases c<;>first|exact Zo h1 h2|exact O.trans h1 h2|rfl|exact absurd h1 yo|exact absurd h2 yo
 tot:=λ{a b} h1 h2=>by
  cases a<;>cases b<;>first|exact congrArg _ (kA h1 h2)|exact congrArg _ (O.tot h1 h2)|exact absurd h1.symm yo|exact absurd h2.symm yo
 R:=λh u a=>match a with|.inl k=>uK k u|.inr a=>O.R h u a
 V_:=λH x a=>match a with|.inl k=>x=kV k|.inr a=>O.V_ H x a
 cmp:=λa b=>match a,b with|.inl a,.inl b=>a.isLeft=b.isLeft|.inr a,.inr b=>O.cmp a b|_,_=>False
 deep:=O.deep
 keep:=λ{h h' u a} k r=>by cases a<;>first|exact r|exact O.keep k r
 mono:=λ{H H' x a} k r=>by cases a<;>first|exact r|exact O.mono k r
 raw:=λ{P w H h x u a} ok r q=>by
  cases a with
  | inl k=>rw[show x=kV k from r] at q;exact zq.mp q
  | inr a=>exact O.raw ok r q
 uniq:=λ{h u a b} r q=>by
  cases a with
  | inl a=>cases b with
   | inl b=>exact congrArg _ (uw.uniq (h:=h) r q)
   | inr b=>exact absurd #[r,_,q] (hd h u a)
  | inr a=>cases b with
   | inl b=>exact absurd #[q,_,r] (hd h u b)
   | inr b=>exact congrArg _ (O.uniq r q)
 eq:=λ{A s u v a b} hu hc r q=>by
  cases a with
  | inl a=>cases b with
   | inl b =>
    exact Gp #[λe=>by rw[e],λe=>Sum.inl.inj e] (uw.eq (A:=A) (s:=s) (by show A.units+0<cLine;omega) hc r q)
   | inr b=>exact absurd hc id
  | inr a=>cases b with
   | inl b=>exact absurd hc id
   | inr b =>
    exact Gp #[λe=>by rw[e],λe=>Sum.inr.inj e] (O.eq (A:=A) (s:=s) hu hc r q)
 less:=λ{A s u v a b} hu hc r q=>by
  cases a with
  | inl a=>cases b with
   | inl b=>exact uw.less (A:=A) (s:=s) (by show A.units+0<cLine;omega) hc r q
   | inr b=>exact absurd hc id
  | inr a=>cases b with
   | inl b=>exact absurd hc id
   | inr b=>exact O.less hu hc r q
theorem VO (O:Od):∀h u l,¬(uK l u/\∃a,(JG O).R h u a):=λh u l #[k,a,b,_,e,_]=>by
 subst e;cases l<;>(obtain⟨t,z⟩:=k;cases z)
abbrev gl:Od:=Jx (JG uw) (VO uw)
theorem Od.neg (O:Od) {a b c:O.α} (h:O.lt a c=true):O.lt a b=true\/O.lt b c=true:=by
 cases h1:O.lt a b with
 | true=>exact .inl rfl
 | false =>
  right
  cases h2:O.lt b a with
  | true=>exact O.trans h2 h
  | false=>rw[<-O.tot h1 h2];exact h
theorem sO {O:Od}{a b:O.α}{as bs:List O.α} (e:a=b):JC O (a::as) (b::bs)=JC O as bs:=by
 show (if a=b then JC O as bs else O.lt a b)=_;rw[if_pos e]
theorem sP {O:Od}{a b:O.α}{as bs:List O.α} (e:a≠b):JC O (a::as) (b::bs)=O.lt a b:=by
 show (if a=b then JC O as bs else O.lt a b)=_;rw[if_neg e]
def GE (O:Od) (kc:Value->O.α) (d:O.α):KeyKind where
 α:=O.α
 blt:=O.lt
 irrefl:=O.irr
 trans:=λ_ _ _=>O.trans
 negTrans:=λ_ _ _=>O.neg
 total:=λ_ _=>O.tot
 keyOf:=λv=>some (kc v)
 dflt:=d
section
variable {prog:Be}{w:World}{A:Around}{E:AL}{s:Shared}
def xD (h:Heap) (d:Bool) (v:Value):Prop:=∃a u us k,v=.ref a/\h.IsTuple a (u::us).toArray/\uK k u/\k.isLeft=d
theorem iU (h2:2<=vs.length) (ht:∀v∈vs,xD s.heap d v) {R:SortKind->Shared->Prop} (q:R (tuples' true) s):wpAny (model prog w) A (keyKind' vs.toArray) R E s:=by
 have fx:∃fv:Value->Value,∀v∈vs,∃k,k.isLeft=d/\uK k (fv v)/\∀R:Option Value->Shared->Prop,R (some (fv v)) s->wpAny (model prog w) A (firstOfTuple' v) R E s:=by
  have one:∀v∈vs,∃x:Value,∃k,k.isLeft=d/\uK k x/\∀R:Option Value->Shared->Prop,R (some x) s->wpAny (model prog w) A (firstOfTuple' v) R E s:=λv hv=>by
   obtain⟨a,u,us,k,rfl,⟨ob,ho,hc,n,Ea⟩,hk,hl⟩:=ht v hv;refine#[u,k,hl,hk,λR hR=>?_];rw[MI];refine Bf (wpAny_typeOf (T:="tuple") #[ob,ho,hc] ?_);rw[if_neg (by decide)];exact Bf (listItems_at ho Ea (Bg hR))
  refine#[λv=>if hv:v∈vs then (one v hv).choose else .none,λv hv=>?_];simp only[dif_pos hv];exact (one v hv).choose_spec
 obtain⟨fv,I8⟩:=fx;rw[keyKind'_eq,List.mapM_toArray,<-bind_pure_comp];refine Bf (Bf (VZ (r:=λv=>some (fv v)) (λv hv R hR=>by obtain⟨_,_,_,f⟩:=I8 v hv;exact f R hR) (Bg ?_)));rw[if_pos (by simp)];refine Bf (wpAny_rule (Bf ?_));rw[show (vs.map λv=>some (fv v)).toArray.filterMap id=(vs.map fv).toArray by simp [List.filterMap_map,Function.comp_def]];rw[oneTypeOnly'_eq,List.mapM_toArray,<-bind_pure_comp];refine Bf (Bf (VZ (r:=λ_=>Value.type (if d then "int" else "str")) (λx hx R hR=>?_) (Bg ?_)))
 ·obtain⟨v,hv,rfl⟩:=yf.mp hx;obtain⟨k,e,hk,_⟩:=I8 v hv;rw[<-e] at hR;exact bm hk hR
 ·match vs,h2 with
  | a::b::r,_ =>
   have e0:((List.map fv (a::b::r)).map λ_=>Value.type (if d then "int" else "str")).toArray[0]?=some (Value.type (if d then "int" else "str")):=by simp
   rw[e0];have ea:(((List.map fv (a::b::r)).map λ_=>Value.type (if d then "int" else "str")).toArray.all λx=>x==Value.type (if d then "int" else "str"))=true:=by
    simp only[List.all_toArray,List.all_map,Qx];intro _ _;cases d<;>rfl
   show wpAny _ _ (pure (if (((List.map fv (a::b::r)).map λ_=>Value.type (if d then "int" else "str")).toArray.all λx=>x==Value.type (if d then "int" else "str"))=true then some (Value.type (if d then "int" else "str")) else none)) _ _ _;rw[if_pos ea];refine Bg (Bg ?_);have en:((some (Value.type (if d then "int" else "str"))).any λx=>x != Value.type "tuple")=true:=by cases d<;>rfl
   rw[en];exact q
theorem lG {u v:Value}{r:Bool}{Q:AN} (h:SeqAt.LtAt A s u v r) (q:Q r s):wpAny (model prog w) A (oneLt' false u v) Q E s:=by
 rw[oneLt'_eq];rw[if_neg yo];exact Bf (h prog w E _ (wpAny_truthy_bool q))
def Pe {α:Type} (cs ds:List α):Prop:=∀i (g1:i<cs.length) (g2:i<ds.length),cs[i]=ds[i]
theorem Pe.cons {α:Type}{c d:α}{cs ds:List α} (e:c=d) (h:Pe cs ds):Pe (c::cs) (d::ds):=λi g1 g2=>by
 cases i with
 | zero=>exact e
 | succ i=>exact h i (by simpa using g1) (by simpa using g2)
theorem Pe.tail {α:Type}{c d:α}{cs ds:List α} (h:Pe (c::cs) (d::ds)):Pe cs ds:=λi g1 g2=>by
 have:=h (i+1) (by simpa using g1) (by simpa using g2);simpa using this
theorem Kl {u v:Value}{p:Prop}{d:Decidable p} (h:p) (x:SeqAt.EqAt A s u v (@decide p d)):SeqAt.EqAt A s u v true:=by rw[decide_eq_true h] at x;exact x
theorem bR {u v:Value}{p:Prop}{d:Decidable p} (h:¬p) (x:SeqAt.EqAt A s u v (@decide p d)):SeqAt.EqAt A s u v false:=by rw[decide_eq_false h] at x;exact x
theorem Kr {O:Od} (f:Bool) (hu:A.units+O.deep<cLine):∀{cs ds:List O.α} {ps qs:AW} (k:Nat),0<k->uM O cs ds->Paired (O.R s.heap) ps cs->Paired (O.R s.heap) qs ds->∀{R:Option Bool×Unit->Shared->Prop},(¬Pe cs ds->R (some (JC O cs ds),()) s)->(Pe cs ds->R (none,()) s) ->
  wpAny (model prog w) A (forIn ((ps.zip qs).zipIdx k) ((none,()):Option Bool×Unit) λx _ =>
   match x with
   | ((u,v),i)=>do
    let r <-eqBool u v
    if (!r)=true then do
      let r <-oneLt' (f&&i==0) u v
      pure (ForInStep.done (some r,()))
     else pure (ForInStep.yield (none,()))) R E s
 | [],_,_,_,k,_,_,.nil,_,R,_,h=>by
  rw[List.zip_nil_left];show wpAny _ _ (forIn [] _ _) _ _ _;rw[List.forIn_nil];exact Bg (h λi g1=>absurd g1 (QS _))
 | _::_,[],_,_,k,_,_,.cons _ _,.nil,R,_,h=>by
  rw[List.zip_nil_right];show wpAny _ _ (forIn [] _ _) _ _ _;rw[List.forIn_nil];exact Bg (h λi g1 g2=>absurd g2 (QS _))
 | c::cs,d::ds,_,_,k,hk,hc,.cons r1 t1,.cons r2 t2,R,h1,h2=>by
  unfold uM at hc;rw[List.zip_cons_cons,List.zipIdx_cons,List.forIn_cons];refine Bf (Bf (O.eq hu hc.1 r1 r2 prog w _ _ ?_));by_cases e:c=d
  ·rw[decide_eq_true e];refine Bg (Kr f hu (k+1) (Ql _) (hc.2 e) t1 t2 (λn=>?_) λz=>h2 (Pe.cons e z));have:=h1 λz=>n z.tail;unfold JC at this;rw[if_pos e] at this;exact this
  ·rw[decide_eq_false e];rw[show (k==0)=false from beq_eq_false_iff_ne.mpr (Nat.pos_iff_ne_zero.mp hk),Q1];refine Bf (lG (O.less hu hc.1 r1 r2) (Bg (Bg ?_)));have:=h1 λz=>e (z 0 (Ql _) (Ql _));unfold JC at this;rw[if_neg e] at this;exact this
section
variable {O:Od}{hd:∀h u l,¬(uK l u/\∃a,O.R h u a)}
theorem wy (f:Bool) {u v:Value} {cs ds:List (Key ⊕ O.α)} {c d:Key} {cr dr:List (Key ⊕ O.α)} (ec:cs=.inl c::cr) (ed:ds=.inl d::dr) (hu:A.units+O.deep<cLine) (hc:uM (Jx O hd) cs ds) (h1:(JG (Jx O hd)).R s.heap u cs) (h2:(JG (Jx O hd)).R s.heap v ds)
  {Q:AN} (h:Q (JC (Jx O hd) cs ds) s):wpAny (model prog w) A (keyLt' (tuples' f) u v) Q E s:=by
 obtain⟨a,ps,rfl,⟨o,ho,_,n,Ea⟩,p1⟩:=h1;obtain⟨b,qs,rfl,⟨o2,CH,_,n2,Rf⟩,p2⟩:=h2;rw[MS];refine Bf (listItems_at ho Ea (Bf (listItems_at CH Rf ?_)));have l1:=Jl p1;have l2:=Jl p2;have fin:Pe cs ds->Q (decide (ps.toArray.size<qs.toArray.size)) s:=λz=>by
  rw[kD (O:=Jx O hd) z] at h;rw[yk,yk,l1,l2];exact h
 subst ec ed;cases p1 with
 | @cons u0 _ us _ r1 t1=>cases p2 with
  | @cons v0 _ vs _ r2 t2 =>
   have Dq:=hc;unfold uM at Dq;show wpAny _ _ (forIn (((u0::us).zip (v0::vs)).zipIdx) _ _>>=_) _ _ _;rw[List.zip_cons_cons,List.zipIdx_cons,List.forIn_cons];have qe:=(Jx O hd).eq (A:=A) (s:=s) hu Dq.1 r1 r2;by_cases e:(Sum.inl c:Key ⊕ O.α)=.inl d
   ·refine Bf (Bf (Bf (Kl e qe prog w _ _ (Bg ?_))));refine (Kr (O:=Jx O hd) f hu 1 Nat.one_pos (Dq.2 e) t1 t2 (λn=>Bg ?_) λz=>Bg (fin (Pe.cons e z)));rw[sO (O:=Jx O hd) e] at h;exact h
   ·refine Bf (Bf (Bf (bR e qe prog w _ _ ?_)));refine Bf (aN _ Dq.1 r1 r2 (Bg (Bg (Bg ?_))));rw[sP (O:=Jx O hd) e] at h;exact h
end
end
section
variable {prog:Be}{w:World}{A:Around}{E:AL}{s:Shared}{O:Od}{hd:∀h u l,¬(uK l u/\∃a,O.R h u a)}
theorem qm {kc:Value->M.α}{d:M.α}{y:AV} (pm:y.Perm (pairsOf vs)) (up:Up (GE M kc d) y.toList) :
  ∃out:List Value,(y.map (·.2))=out.toArray/\out.Perm vs/\out.Pairwise λu v=>M.lt (kc v) (kc u)=false:=by
 have pl:y.toList.Perm (vs.zip vs):=pairsOf_toList vs▸Array.perm_iff_toList_perm.mp pm;have hm:∀p∈y.toList,p.1=p.2:=λp hp=>(mem_zip_self (pl.mem_iff.mp hp)).1;refine#[y.toList.map (·.2),by rw[<-Array.toList_map,Array.toArray_toList],?_,?_]
 ·have:=pl.map Prod.snd;rwa [List.map_snd_zip (yg _)] at this
 ·refine Qo.mpr (up.imp_of_mem λ{p q} hp hq h=>?_);rw[<-hm p hp,<-hm q hq];exact h
structure z7 (hd:∀h u l,¬(uK l u/\∃a,O.R h u a)) (h:Heap) (vs:AW) (kc:Value->List (Key ⊕ O.α)) (d:Bool):Prop where
 at_:∀v∈vs,(JG (Jx O hd)).R h v (kc v)
 fst:∀v∈vs,∃c r,kc v=.inl c::r/\c.isLeft=d
 cm:∀u∈vs,∀v∈vs,uM (Jx O hd) (kc u) (kc v)
theorem z7.keep {h h':Heap}{kc:Value->List (Key ⊕ O.α)} (x:z7 hd h vs kc d) (k:∀b o,h.get? b=some o->o.cls=.type "tuple"->h'.get? b=some o):z7 hd h' vs kc d :=
 #[λv hv=>(JG (Jx O hd)).keep k (x.at_ v hv),x.fst,x.cm]
theorem z7.fsts {h:Heap}{kc:Value->List (Key ⊕ O.α)} (x:z7 hd h vs kc d):∀v∈vs,xD h d v:=λv hv=>by
 obtain⟨c,r,e,l⟩:=x.fst v hv;obtain⟨a,us,rfl,t,p⟩:=x.at_ v hv;rw[e] at p;cases p with
 | cons r1 t1=>exact#[a,_,_,c,rfl,t,r1,l]
theorem z7.orc {kc:Value->List (Key ⊕ O.α)} (x:z7 hd s.heap vs kc d) (hu:A.units+O.deep<cLine) (f:Bool):UD prog w A s f (GE (JG (Jx O hd)) kc []) (pairsOf vs):=λE p q Q hp hq h=>by
 have m1:=(VF hp).2;have m2:=(VF hq).2;obtain⟨c,r,e,_⟩:=x.fst _ m1;obtain⟨c',r',e',_⟩:=x.fst _ m2;exact wy (hd:=hd) f e e' hu (x.cm _ m1 _ m2) (x.at_ _ m1) (x.at_ _ m2) h
theorem hG {a:Addr}{n:Nat}{P:Fin->Shared->Prop}{kc:Value->List (Key ⊕ O.α)} (hu:A.units+O.deep<cLine) (ho:s.heap.get? a=some (seqObj "list" vs.toArray n)) (x:z7 hd s.heap vs kc d) (hl:vs.length<=sizeLine)
  (q:∀out:List Value,out.Perm vs->(out.Pairwise λu v=>JC (Jx O hd) (kc v) (kc u)=false)->P (.done (.ret .none)) { s with heap:=sortedHeap s.heap a vs out.toArray }):wpAny (model prog w) A (Builtin.«list.sort» #[[.ref a],[]]) P E s:=by
 rw[list_sort_plain];refine Bf (listItems_at ho rfl (Bf (listUpdate_at ho rfl ?_ (by rw[yk];exact hl))));have g1:=get?_update_seq ho (λ_=>(List.toArray []));refine Bf (seqEpoch_at g1 rfl (Bf (wpAny_newTuple (Bf (wpAny_newList (wpAny_holding ?_))))));have g2:(((s.heap.update a (Obj.mapSeq λ_=>(List.toArray []))).push (seqObj "tuple" vs.toArray 0)).push (seqObj "list" (List.toArray []) 0)).get? a=_:=yd _ (yd _ g1);have FT:z7 hd (((s.heap.update a (Obj.mapSeq λ_=>(List.toArray []))).push (seqObj "tuple" vs.toArray 0)).push (seqObj "list" (List.toArray []) 0)) vs kc d:=x.keep λb o e c=>by
  have ne:a≠b:=λz=>by
   rw[z,e] at ho;cases ho;exact absurd (show Value.type "list"=Value.type "tuple" from c) (by decide)
  exact yd _ (yd _ ((yN _ _ ne).trans e))
 have room:∀y:Array Keyed,y.Perm (pairsOf vs)->(y.map (·.2)).size<=sizeLine+1:=λy hy=>by
  rw[Array.size_map,hy.size_eq,pairsOf_size];omega
 have fin:∀y:SortSt,(arrOf y).Perm (pairsOf vs)->Up (GE (JG (Jx O hd)) kc []) (arrOf y).toList->P (.done (.ret .none)) { s with heap:=sortedHeap s.heap a vs ((arrOf y).map (·.2)) }:=λy pm up=>by
  obtain⟨out,e,p,w⟩:=qm pm up;rw[e];exact q out p w
 rcases yC vs.length 2 with h2|h2
 ·rw[if_pos (by simpa using h2),if_pos (by simpa using h2)];refine Bf (Bg ?_);dsimp only;rw[StateT.run_pure];refine Bf (Bg (Bf (seqEpoch_at g2 rfl (Bf (listUpdate_at g2 rfl ?_ (hsz2:=room _ (Array.Perm.refl _)))))));simp only[bne_self_eq_false,Qb,if_false];refine Bg (fin (SortSt.mk' general' (pairsOf vs) (List.toArray []) 7 none) (Array.Perm.refl _) ?_);show Up _ (pairsOf vs).toList;rw[pairsOf_toList];exact nN (by rw[List.length_zip,Nat.min_self];exact h2)
 ·rw[if_neg (by simpa using h2),if_neg (by simpa using h2)];refine Bf (iU h2 FT.fsts ?_);refine Bf (wpAny_mono (aY (o:=GE (JG (Jx O hd)) kc []) (z:=pairsOf vs) (f:=true) (st:=SortSt.mk' (tuples' true) (vs.toArray.zip vs.toArray) (List.toArray []) 7 none) (Q:=λ_ y=>Gd true (pairsOf vs) y/\Up (GE (JG (Jx O hd)) kc []) (arrOf y).toList) (FT.orc hu true) #[Array.Perm.refl _,rfl,rfl] rfl (by rw[pairsOf_size];exact h2) λy p1 p2=>#[p1,p2]) ?_ λ_ _ e=>e);rintro⟨⟨⟩,y⟩ s2 ⟨rfl,gd,up⟩;refine Bf (seqEpoch_at g2 rfl (Bf (listUpdate_at g2 rfl ?_ (hsz2:=room _ gd.pm))));rw[gd.fl];simp only[bne_self_eq_false,Qb,if_false];exact Bg (fin y gd.pm up)
theorem cX {x:Value}{kc:Value->List (Key ⊕ O.α)}{d:Bool}{Q:AL} (hu:A.units+8+O.deep<cLine) (hc:∀R:List Value->Shared->Prop,(∀h' tk,(∀b o,s.heap.get? b=some o->h'.get? b=some o)->s.heap.objs.size<h'.objs.size->R vs { s with heap:=h',toks:=tk })->wpAny (model prog w) A.in1 (collect x) R E s)
  (X:z7 hd s.heap vs kc d) (hl:vs.length<=sizeLine)
  (q:∀(h':Heap) (tk c:Nat) (p:Addr) (out:AW),(∀b o,s.heap.get? b=some o->h'.get? b=some o)->s.heap.objs.size<=p->h'.get? p=some (seqObj "list" out.toArray c)->out.Perm vs->(out.Pairwise λu v=>JC (Jx O hd) (kc v) (kc u)=false)->Q (.ref p) { s with heap:=h',toks:=tk }) :
  wpAny (model prog w) A (call (.builtin "sorted") [x]) Q E s:=by
 refine Calls.call_function_entry kind_sorted plain_sorted entry_sorted (args_sorted1 _) ?_;refine Bf (m:=checkCount "sorted" 1 1 _) (Bg ?_);refine Bf (hc _ λh' tk kp lt=>?_);refine Bf (wpAny_newList ?_);have e1:(h'.push (seqObj "list" vs.toArray 0)).get? h'.objs.size=some (seqObj "list" vs.toArray 0):=yz _ rfl;have Eo:∀b o,s.heap.get? b=some o->(h'.push (seqObj "list" vs.toArray 0)).get? b=some o:=λb o e=>yd _ (kp b o e);refine Bf (wpAny_holding (wpAny_call_entry slot_list_sort #[_,e1,rfl] entry_list_sort (hG (d:=d) (by show A.units+1+1+O.deep<cLine;omega) e1 (X.keep λb o e _=>Eo b o e) hl λout pm up=>#[_,rfl,Bg #[_,rfl,?_]]) (args_list_sort _)));obtain⟨c,g1,g2⟩:=TS.sortedHeap_at (out:=out.toArray) e1;exact q _ tk c _ out (λb o e=>g2 b o (yE (Nat.lt_trans (yq e) lt)) (Eo b o e)) (Nat.le_of_lt lt) g1 pm up
end
def jv (M:Od) (H:Hp) (bs:AX) (ks:List M.α):Prop:=Paired (λb k=>M.V_ H (.ref b) k) bs ks
theorem jv.mono {H H':Hp}{bs:AX}{ks:List M.α} (x:jv M H bs ks) (k:∀p xs,H p=some (.tup xs)->H' p=some (.tup xs)):jv M H' bs ks:=Vc (λ_ _ r=>M.mono k r) x
theorem GU {α β:Type}{F:α->β->Prop}:∀{a b:List α} {c d:List β},Paired F a c->Paired F b d->Paired F (a++b) (c++d)
 | _,_,_,_,.nil,s=>s
 | _,_,_,_,.cons r t,s=>.cons r (GU t s)
theorem jv.app {H:Hp}{bs BQ:AX}{ks Bm:List M.α} (x:jv M H bs ks) (y:jv M H BQ Bm):jv M H (bs++BQ) (ks++Bm):=GU x y
theorem GV {α β γ:Type}{F:α->β->Prop}{g:α->γ}{f:γ->β} (h:∀x y,F x y->f (g x)=y):∀{l:List α} {m:List β},Paired F l m->(l.map g).map f=m
 | _,_,.nil=>rfl
 | _,_,.cons r t=>by rw[yH,yH,h _ _ r,GV h t]
theorem VP {α β:Type}{F:α->β->Prop}:∀{l:List α} {m:List β} {x:α},Paired F l m->x∈l->∃y∈m,F x y
 | _,_,_,.nil,h=>by cases h
 | _,_,x,.cons r t,h=>by
  rcases yM.mp h with rfl|h
  ·exact#[_,yD ..,r]
  ·obtain⟨y,hy,hf⟩:=VP t h;exact#[y,yA _ hy,hf]
theorem zU {α β:Type}{F:α->β->Prop}{f:α->β}:∀{l:List α},(∀x∈l,F x (f x))->Paired F l (l.map f)
 | [],_=>.nil
 | a::l,h=>.cons (h a (yD ..)) (zU λx hx=>h x (yA _ hx))
open Classical in
noncomputable def gf (M:Od) (h:Heap) (d:M.α) (v:Value):M.α:=if x:∃k,M.R h v k then x.choose else d
theorem sv {h:Heap}{d:M.α}{v:Value}{k:M.α} (x:M.R h v k):gf M h d v=k:=by
 have hx:∃k,M.R h v k:=#[k,x];unfold gf;rw[dif_pos hx];exact M.uniq hx.choose_spec x
section
variable {X:Cx}{O:Od}{hd:∀h u l,¬(uK l u/\∃a,O.R h u a)}
theorem Ze (hu:X.A.units+64<cLine) (Rg:O.deep<=8):uH X (.builtin "sorted") (λxs H Q=>∃(p:Addr) (bs:AX) (ks:List (List (Key ⊕ O.α))) (d:Bool),xs=[.ref p]/\H p=some (.lst (bs.map V.ref))/\jv (JG (Jx O hd)) H bs ks/\(∀k∈ks,∃c r,k=.inl c::r/\c.isLeft=d)/\(∀a∈ks,∀b∈ks,uM (Jx O hd) a b) /\
  ∀l BQ Bm,H l=none->jv (JG (Jx O hd)) H BQ Bm->Bm.Perm ks->(Bm.Pairwise λa b=>JC (Jx O hd) b a=false)->Q (.ref l) (upd H l (.lst (BQ.map V.ref)))):=by
 intro pins s σ H xs us Q I r h;obtain⟨p,bs,ks,d,rfl,e,ka,hf,G',q⟩:=h;obtain⟨u,rfl,ru⟩:=UB r;cases ru;obtain⟨Bi,rv,pl,hz⟩:=I.list (jo.of e);obtain rfl:=uc rv;have hlen:(bs.map Value.ref).length<=sizeLine:=by
  have:=hz;simpa using this
 let M:=JG (Jx O hd)
 have hr:∀b k,M.V_ H (.ref b) k->M.R s.heap (.ref b) k:=λb k h=>M.raw I.hok h rfl;have hb:∀v∈bs.map Value.ref,∃b∈bs,∃k∈ks,v=.ref b/\M.V_ H (.ref b) k:=λv hv=>by
  obtain⟨b,hb,rfl⟩:=yf.mp hv;obtain⟨k,hk,x⟩:=VP ka hb;exact#[b,hb,k,hk,rfl,x]
 have Ig:∀b k,M.V_ H (.ref b) k->gf M s.heap [] (.ref b)=k:=λb k h=>sv (hr b k h);have hk:(bs.map Value.ref).map (gf M s.heap [])=ks:=GV (λb k h=>Ig b k h) ka;have X1:z7 hd s.heap (bs.map Value.ref) (gf M s.heap []) d:=#[λv hv=>by
   obtain⟨b,_,k,_,rfl,x⟩:=hb v hv;rw[Ig b k x];exact hr b k x,λv hv=>by
   obtain⟨b,_,k,hk,rfl,x⟩:=hb v hv;rw[Ig b k x];exact hf k hk,λu hu v hv=>by
   obtain⟨b,_,k,hk,rfl,x⟩:=hb u hu;obtain⟨b',_,k',En,rfl,x'⟩:=hb v hv;rw[Ig b k x,Ig b' k' x'];exact G' k hk k' En]
 refine cX (hd:=hd) (kc:=gf M s.heap []) (d:=d) (by omega) (λR hR=>collect_list (A:=X.A.in1) pl.isList (hR _ s.toks (λb o e=>?_) ?_) hlen) X1 hlen λh' tk c p' out kp hp e' pm up=>?_
 ·exact (yN _ _ (Wg (yq e))).trans (yd _ e)
 ·show s.heap.objs.size<((s.heap.push _).update _ _).objs.size;simp [Heap.update,Heap.push]
 ·have ho:∀v∈out,∃b,v=.ref b/\M.V_ H (.ref b) (gf M s.heap [] v):=λv h=>by
   obtain⟨b,_,k,_,rfl,x⟩:=hb v (pm.mem_iff.mp h);exact#[b,rfl,by rw[Ig b k x];exact x]
  have G₁:jA ((out.map zf).map V.ref) out:=by
   clear pm up e'
   induction out with
   | nil=>exact .nil
   | cons v r ih =>
    obtain⟨b,rfl,_⟩:=ho v (yD ..);exact .cons rfl (ih λu hu=>ho u (yA _ hu))
  have Lp:jv M H (out.map zf) (out.map (gf M s.heap [])):=by
   have:out.map (gf M s.heap [])=(out.map zf).map λb=>gf M s.heap [] (.ref b):=by
    rw[Qr];refine QB λv hv=>?_;obtain⟨b,rfl,_⟩:=ho v hv
    rfl
   rw[this];refine zU λb hb=>?_;obtain⟨v,hv,rfl⟩:=yf.mp hb;obtain⟨b,rfl,x⟩:=ho v hv;exact x
  refine#[.ref p',_,I.laid (t':=tk) (o:=.lst ((out.map zf).map V.ref)) kp hp #[?_,out,c,G₁,e'],rfl,q p' _ _ (I.hok.fresh hp) Lp (hk▸pm.map _) (Qo.mpr up)];rw[yb,yb,pm.length_eq];exact hlen
end
section
variable {X:Cx}{M:Od}
theorem fM (M:Od) (hu:X.A.units+64<cLine) (Rg:M.deep<=8):JZ X (compareOp .Lt) (λx y H Q=>E2 λa b=>A4 (M.V_ H x a) (M.V_ H y b) (M.cmp a b) (Q (.bl (M.lt a b)) H)):=by
 intro pins s σ H x y v u Q I rx ry h;obtain⟨a,b,ha,hb,hc,q⟩:=h;exact M.less (by omega) hc (M.raw I.hok ha rx) (M.raw I.hok hb ry) _ _ _ _ #[.bl _,H,I,rfl,q]
theorem Kk {pins:AU}{H:Hp}{s:Shared} (I:jn X pins σ H s) {A:Around} (hu:A.units+M.deep<cLine) (hc:∀a,M.cmp a a) {ps qs:AX} {ks:List M.α} (h1:jv M H ps ks) (h2:jv M H qs ks) (j:Nat) (g1:j<ps.length) (g2:j<qs.length):SeqAt.EqAt A s (.ref ps[j]) (.ref qs[j]) true:=by
 have l1:=Jl h1;have g3:j<ks.length:=by omega
 have r1:=M.raw I.hok (uB h1 g1 g3) (u:=.ref ps[j]) rfl;have r2:=M.raw I.hok (uB h2 g2 g3) (u:=.ref qs[j]) rfl;exact Kl rfl (M.eq (A:=A) (s:=s) hu (hc _) r1 r2)
theorem fJ (M:Od) (hu:X.A.units+64<cLine) (Rg:M.deep<=8) (hc:∀a,M.cmp a a):JZ X (compareOp .Eq) (λx y H Q=>E5 λ(a b:Addr) (ps qs:AX) (ks:List M.α)=>A7 (x=.ref a) (y=.ref b) (jo X.K H a (ps.map V.ref)) (jo X.K H b (qs.map V.ref)) (jv M H ps ks) (jv M H qs ks) (Q (.bl true) H)):=by
 intro pins s σ H x y v u Q I rx ry h;obtain⟨a,b,ps,qs,ks,rfl,rfl,ha,hb,T1,T2,q⟩:=h;cases rx;cases ry;obtain⟨Bi,r1,p1,_⟩:=I.list ha;obtain⟨Bl,r2,p2,_⟩:=I.list hb;obtain rfl:=uc r1;obtain rfl:=uc r2;have l1:=Jl T1;have l2:=Jl T2;have hz:(ps.map Value.ref).toArray.size=(qs.map Value.ref).toArray.size:=by simp;omega
 refine EqBoolInt.of_rc (SeqAt.RcAt.lists (e:=λ_=>true) p1.isList p2.isList hz (by omega) λn h1 h2=>?_) #[.bl _,H,I,rfl,?_]
 ·rw[yk,yb] at h1 h2;rw[yW,yW,Qd,Qd];exact Kk I (by show X.A.units+1+M.deep<cLine;omega) hc T1 T2 n h1 h2
 ·rw[show (List.range (ps.map Value.ref).toArray.size).all (λ_=>true)=true from Qx.mpr λ_ _=>rfl];exact q
theorem fN (M:Od) (hu:X.A.units+64<cLine) (Rg:M.deep<=8) (hc:∀a,M.cmp a a):JZ X (compareOp .NotEq) (λx y H Q=>E5 λ(a b:Addr) (ps qs:AX) (ks:List M.α)=>A7 (x=.ref a) (y=.ref b) (jo X.K H a (ps.map V.ref)) (jo X.K H b (qs.map V.ref)) (jv M H ps ks) (jv M H qs ks) (Q (.bl false) H)):=by
 intro pins s σ H x y v u Q I rx ry h;obtain⟨a,b,ps,qs,ks,rfl,rfl,ha,hb,T1,T2,q⟩:=h;cases rx;cases ry;obtain⟨Bi,r1,p1,_⟩:=I.list ha;obtain⟨Bl,r2,p2,_⟩:=I.list hb;obtain rfl:=uc r1;obtain rfl:=uc r2;have l1:=Jl T1;have l2:=Jl T2;have hz:(ps.map Value.ref).toArray.size=(qs.map Value.ref).toArray.size:=by simp;omega
 refine EqBoolInt.of_rcne (SeqAt.RcNeAt.lists (e:=λ_=>true) p1.isList p2.isList hz (by omega) λn h1 h2=>?_) #[.bl _,H,I,rfl,?_]
 ·rw[yk,yb] at h1 h2;rw[yW,yW,Qd,Qd];exact Kk I (by show X.A.units+1+M.deep<cLine;omega) hc T1 T2 n h1 h2
 ·rw[show (List.range (ps.map Value.ref).toArray.size).all (λ_=>true)=true from Qx.mpr λ_ _=>rfl];exact q
end
theorem G3:∀{a b:List M.α},a.Perm b->(a.Pairwise λx y=>M.lt y x=false)->(b.Pairwise λx y=>M.lt y x=false)->a=b:=λ{a b} pm h1 h2=>by
 refine List.Perm.eq_of_pairwise (le:=λx y=>M.lt y x=false) (λx y _ _ g1 g2=>M.tot g2 g1) h1 h2 pm
structure Fz (P:Be) (w:World) (H:Hp) (a:Addr) (o:Obj) (kvs:List (List Key×V)) (xs:List (List Key×Addr×Value)):Prop where
 e:H a=some (UC a o)
 hm:(a==sysModules)=false
 kt:KT H kvs xs
 dr:bo P w o xs
 hz:kvs.length<=sizeLine
theorem Fz.len {P:Be}{w:World}{H:Hp}{a:Addr} (F:Fz P w H a o kvs xs):xs.length=kvs.length:=(Paired.length F.kt).symm
theorem cz {H:Hp}:∀{kvs:List (List Key×V)} {xs:List (List Key×Addr×Value)} {i:Nat} {y:List Key×Addr×Value},KT H kvs xs->xs[i]?=some y->∃kv,kvs[i]?=some kv/\H y.2.1=some (.tup (kv.1.map kV))
 | _,_,_,_,.nil,e=>by simp at e
 | _,_,0,_,.cons r _,e=>by simp at e;subst e;exact#[_,rfl,r.2.1]
 | _,_,i+1,y,.cons _ t,e=>by
  obtain⟨kv,h1,h2⟩:=cz (i:=i) t (by simpa using e);exact#[kv,by simpa using h1,h2]
theorem zl {P:Be}{w:World}{H:Hp}{a:Addr} (ha:H a=some (.dT kvs)) (hz:kvs.length<=sizeLine) (hm:(a==sysModules)=false) (kt:KT H kvs xs) (dr:bo P w o xs) :
  Fz P w (upd H a (UC a o)) a o kvs xs/\(∀b u,b≠a->H b=some u->upd H a (UC a o) b=some u)/\(∀b,upd H a (UC a o) b=none->H b=none)/\∀H',jc (upd H a (UC a o)) H'->jc H (upd H' a (.dT kvs)):=by
 refine#[#[jb,hm,kt.keeps λb ys e=>jw (jq e ha) e,dr,hz],λb u n e=>jw n e,λb e=>?_,λH' s b u e=>?_]
 ·by_cases h:b=a
  ·subst h;rw[jb] at e;cases e
  ·rwa [jl h] at e
 ·by_cases h:b=a
  ·subst h;rw[ha] at e;cases e;exact jb
  ·rw[jl h];exact s b u (jw h e)
theorem gR {P:Be}{w:World}{a:Addr}{tb:TS}{D:za}{H:Hp} (F:Fz P w H a o kvs xs) (Pv:Nat->St->Hp->Prop) (h0:Pv 0 σ H) (hl:∀i σ H',i<=kvs.length->Pv i σ H'->H' a=some (UC a o))
  (hs:∀i kv p σ H',kvs[i]?=some kv->H p=some (.tup (kv.1.map kV))->Pv i σ H'->g (.ref p) σ H' λσ2 H2=>tb { D with nx:=Pv (i+1),ct:=Pv (i+1),bk:=D.nx } σ2 H2) (hd:∀σ H',Pv kvs.length σ H'->D.nx σ H') :
  ∃W:Nat->Nat->St->Hp->Prop,(∃m,W 0 m σ H)/\∀i m σ H,W i m σ H ->
   ((Mb a o xs).stop i H/\D.nx σ H)\/((Mb a o xs).go i H/\∃N:St->Hp->Prop,(∀σ' H',N σ' H'->∃m',m'<m/\W (i+1) m' σ' H')/\∀x H',(Mb a o xs).yld i H x H'->g x σ H' λσ2 H2=>tb { D with nx:=N,ct:=N,bk:=D.nx } σ2 H2):=by
 have le:=F.len;refine#[λi m σ H=>m=kvs.length - i/\i<=kvs.length/\Pv i σ H,#[kvs.length,by simp,yV _,h0],?_];rintro i m σ H1 ⟨rfl,hi,p⟩;have q:=hl i σ H1 hi p;by_cases Bj:i<kvs.length
 ·refine .inr #[#[q,by omega],Pv (i+1),λσ' H' p'=>#[kvs.length - (i+1),by omega,rfl,Bj,p'],λx H' y=>?_];obtain⟨e,z,hz,rfl⟩:=y;subst e;obtain⟨kv,h1,h2⟩:=cz F.kt hz;exact hs i kv _ σ _ h1 h2 p
 ·have e:i=kvs.length:=by omega
  subst e;exact .inl #[#[q,by omega],hd σ H1 p]
theorem pR {P:Be}{w:World}{a:Addr}{tc:TT}{te:TE}{k:Nat}{H:Hp}{Q:VK} (F:Fz P w H a o kvs xs) (Pv:Addr->Nat->List V->Hp->Prop)
  (h0:∀D,H D=none->Pv D 0 [] (upd H D (.lst []))) (hD:∀D i ys H',Pv D i ys H'->H' D=some (.lst ys)/\ys.length<=i/\H' a=some (UC a o))
  (step:∀D i kv p ys H' (Qy:VK) (Qn:Hp->Prop),kvs[i]?=some kv->H p=some (.tup (kv.1.map kV))->Pv D i ys H'->(∀y H4,H4 D=some (.lst ys)->Pv D (i+1) (ys++[y]) (upd H4 D (.lst (ys++[y])))->Qy y H4)->(∀H4,Pv D (i+1) ys H4->Qn H4) ->
   g (.ref p) (σ++List.replicate k none) H' λσ2 H2=>(∃zs,σ2=σ++zs/\zs.length=k)/\tc σ2 H2 λb H3=>if b=true then te σ2 H3 Qy else Qn H3)
  (q:∀D ys H',H D=none->Pv D kvs.length ys H'->Q (.ref D) H'):vb k g tc te σ Q (Mb a o xs) H:=by
 have le:=F.len;have hz:=F.hz;intro D DG;refine#[λi m ys H'=>m=kvs.length - i/\i<=kvs.length/\Pv D i ys H',#[kvs.length,by simp,yV _,h0 D DG],?_];rintro i m ys H' ⟨rfl,hi,p⟩;obtain⟨e,hl,q1⟩:=hD D i ys H' p;refine#[e,?_];by_cases Bj:i<kvs.length
 ·refine .inr #[#[q1,by omega],by omega,λx H2 y=>?_];obtain⟨rfl,z,hz,rfl⟩:=y;obtain⟨kv,h1,h2⟩:=cz F.kt hz;exact step D i kv _ ys _ _ _ h1 h2 p (λy H4 e4 p4=>#[e4,kvs.length - (i+1),by omega,rfl,Bj,p4]) λH4 p4=>#[kvs.length - (i+1),by omega,rfl,Bj,p4]
 ·obtain rfl:i=kvs.length:=by omega
  exact .inl #[#[q1,by omega],q D ys H' DG p]
section
variable {X:Cx}
def xj (P:Be) (w:World) (t:TS):TS:=λD σ H=>t { D with nx:=λσ' H'=>∃a o kvs xs,Fz P w H' a o kvs xs/\D.nx σ' (upd H' a (.dT kvs)) } σ H
theorem kK {st:Stmt}{t:TS} (h:PS X st t):PS X st (xj X.prog X.w t):=by
 intro pins s σ H D I q;refine jC (h pins s σ H _ I q) λf s1 hh=>?_;cases f with
 | next =>
  obtain⟨σ',H1,I1,a,o,kvs,xs,F,q⟩:=hh;obtain⟨es,ep,h2,h3,h4,h6⟩:=F.dr;have g:=VV I1.hok F.e;have I2:jn X pins σ' (upd H1 a (.dT kvs)) { s1 with heap:=s1.heap,toks:=s1.toks }:=I1.write (x:=a) (e:=a) (h':=s1.heap) (t':=s1.toks) (by rw[F.e];exact True.intro) (.inl rfl) (λb u _ e=>e) #[o,g] #[F.hz,F.hm,xs,Paired.mapP F.kt λx y r=>#[r.1,?_,r.2.2],o,es,ep,g,h2,h3,h4,h6]
  ·exact#[σ',_,I2,q]
  ·rw[jl (jq r.2.1 F.e)];exact r.2.1
 | ret v=>exact hh
 | brk=>exact hh
 | cont=>exact hh
def UF (P:Be) (w:World) (H:Hp) (a:Addr) (y:V) (r:Option V):Prop:=JN H a y r\/∃o kvs xs k b,Fz P w H a o kvs xs/\y=.ref b/\H b=some (.tup (k.map kV))/\r=jM kvs k
theorem UF.z {P:Be}{w:World}{H:Hp}{a b:Addr} (F:Fz P w H a o kvs xs) (eb:H b=some (.tup (k.map kV))):UF P w H a (.ref b) (jM kvs k):=.inr #[o,kvs,xs,k,b,F,rfl,eb,rfl]
theorem UF.t {P:Be}{w:World}{H:Hp}{a b:Addr} (e:H a=some (.dT kvs)) (eb:H b=some (.tup (k.map kV))):UF P w H a (.ref b) (jM kvs k):=.inl (JN.t e eb)
theorem mK {P:Be}{w:World}{H:Hp}{h:Heap}{a:Addr} (ok:Ji P w H h) (F:Fz P w H a o kvs xs):h.DictOfH (tupleKind (jW P w)) a xs:=by
 obtain⟨es,ep,h2,h3,h4,h6⟩:=F.dr;refine#[o,es,ep,VV ok F.e,h2,h3,h4,λx hx=>?_,h6];have all:∀{l:List (List Key×V)} {m:List (List Key×Addr×Value)},KT H l m->∀x∈m,(tupleKind (jW P w)).is h x.1 x.2.1:=by
  intro l m q
  induction q with
  | nil=>intro x hx;exact nomatch hx
  | @cons p q ps qs hq t ih =>
   intro x hx;rcases yM.mp hx with e|hx
   ·subst e;exact ux ok (by rw[<-hq.1];exact hq.2.1)
   ·exact ih x hx
 exact all F.kt x hx
variable {pins:AU}{σ:St}{H:Hp}{s:Shared}{a:Addr}{y v:V}{u r:Value}{o:Option V}{A:Around}{E:AL}
theorem iy (hu:A.units+1<cLine) (I:jn X pins σ H s) (g:UF X.prog X.w H a y (some v)) (ry:jF y u) (h:∀w' s',jn X pins σ H s'->jF v w'->Q w' s') :
  wpAny (model X.prog X.w) A (getItem (.ref a) u) Q E s:=by
 rcases g with g|⟨o,kvs,xs,k,b,F,ey,eb,l⟩
 ·exact Kh hu I g ry h
 ·subst ey;cases (show u=Value.ref b from ry);have dd:=mK I.hok F;obtain⟨w',hw,Cd⟩:=Um.some_of (v:=v) (o:=(atKey xs k).map (·.2)) (by rw[l];exact F.kt.val k);obtain⟨p,hp,BV⟩:=yl.mp hw;refine wpAny_getItem_heap (tupleKind_room_in1 hu) (ux I.hok eb) dd hp ?_;rw[BV];exact h w' _ (I.tok _) Cd
theorem Ar (hu:A.units+1<cLine) (I:jn X pins σ H s) (g:UF X.prog X.w H a y o) (ry:jF y u) (h:∀s',jn X pins σ H s'->Q (.bool o.isSome) s') :
  wpAny (model X.prog X.w) A (compareOp .In u (.ref a)) Q E s:=by
 rcases g with g|⟨ob,kvs,xs,k,b,F,ey,eb,l⟩
 ·exact rU hu I g ry h
 ·subst ey;cases (show u=Value.ref b from ry);have dd:=mK I.hok F;refine wpAny_in_heap (tupleKind_room_in1 hu) (ux I.hok eb) F.hm dd ?_;have q:=(F.kt.val k).isSome_eq;rw[Option.isSome_map] at q;rw[<-q,<-l];exact h _ (I.tok _)
theorem rg (hu:A.units+1<cLine) (I:jn X pins σ H s) (g:UF X.prog X.w H a y o) (ry:jF y u) (h:∀s',jn X pins σ H s'->Q (.bool (!o.isSome)) s') :
  wpAny (model X.prog X.w) A (compareOp .NotIn u (.ref a)) Q E s:=by
 rcases g with g|⟨ob,kvs,xs,k,b,F,ey,eb,l⟩
 ·exact ah hu I g ry h
 ·subst ey;cases (show u=Value.ref b from ry);have dd:=mK I.hok F;refine wpAny_notIn_heap (tupleKind_room_in1 hu) (ux I.hok eb) F.hm dd ?_;have q:=(F.kt.val k).isSome_eq;rw[Option.isSome_map] at q;rw[<-q,<-l];exact h _ (I.tok _)
theorem oM (I:jn X pins σ H s) (g:UF X.prog X.w H a y o):s.TypeIs (.ref a) "dict":=by
 rcases g with g|⟨ob,kvs,xs,k,b,F,_⟩
 ·exact gc I g
 ·exact (mK I.hok F).typeIs
end
def xu (P:Be) (w:World) (td ty:TE):TE:=λσ H Q=>td σ H λx H1=>ty σ H1 λy H2=>∃a v,x=.ref a/\UF P w H2 a y (some v)/\Q v H2
def Aq (P:Be) (w:World) (ty td:TE):TE:=λσ H Q=>ty σ H λy H1=>td σ H1 λx H2=>∃a o,x=.ref a/\UF P w H2 a y o/\Q (.bl o.isSome) H2
def bn (P:Be) (w:World) (ty td:TE):TE:=λσ H Q=>ty σ H λy H1=>td σ H1 λx H2=>∃a o,x=.ref a/\UF P w H2 a y o/\Q (.bl (!o.isSome)) H2
section
variable {X:Cx}{o i e value:Expr}{pos pos' IQ:Pos}{td ty tv:TE}
theorem nA (ho:PE X o td) (hi:PE X i ty) (hu:X.A.units+1<cLine:=by exact vA hr) (hs:iE i:=by exact λ_ _=>rfl):PE X (.Subscript o i pos) (xu X.prog X.w td ty):=by
 intro pins s σ H Q I h;refine ba PySem.F.slot_dict_getitem.lookup hs (jC (ho pins s σ H _ I h) λu s1 #[x,H1,I1,rx,q1]=>jC (hi pins s1 σ H1 _ I1 q1) λiv s2 hh=>?_);obtain⟨y,H2,I2,ry,a,v,ex,g,q2⟩:=hh;subst ex;obtain rfl:u=Value.ref a:=rx;exact#[oM I2 g,iy hu I2 g ry λw' s3 I3 Cd=>#[v,H2,I3,Cd,q2]]
theorem qo (hi:PE X i ty) (ho:PE X o td) (hu:X.A.units+1<cLine:=by exact vA hr):PC X .In i o (Aq X.prog X.w ty td):=by
 intro pins s σ H Q I h;refine jC (hi pins s σ H _ I h) λiv s1 #[y,H1,I1,ry,q1]=>jC (ho pins s1 σ H1 _ I1 q1) λu s2 hh=>?_;obtain⟨x,H2,I2,rx,a,ov,ex,g,q2⟩:=hh;subst ex;obtain rfl:u=Value.ref a:=rx;exact Ar hu I2 g ry λs3 I3=>#[.bl ov.isSome,H2,I3,rfl,q2]
theorem cP (hi:PE X i ty) (ho:PE X o td) (hu:X.A.units+1<cLine:=by exact vA hr):PC X .NotIn i o (bn X.prog X.w ty td):=by
 intro pins s σ H Q I h;refine jC (hi pins s σ H _ I h) λiv s1 #[y,H1,I1,ry,q1]=>jC (ho pins s1 σ H1 _ I1 q1) λu s2 hh=>?_;obtain⟨x,H2,I2,rx,a,ov,ex,g,q2⟩:=hh;subst ex;obtain rfl:u=Value.ref a:=rx;exact rg hu I2 g ry λs3 I3=>#[.bl (!ov.isSome),H2,I3,rfl,q2]
end
end L2
namespace PySem.SeqAt
open PySem PySem.Spec
open MeetsSeq MeetsSeq2 MeetsSeq3 SeqRoads2
theorem mD (l:Addr) (items:A2) (n:Nat) (x:Value) (e:Value->Bool) (j:Nat) (hj:j<items.size) (hit:e items[j]=true) (k:Nat) (HY:items.size<=sizeLine) :
  ∀i:Nat,j - i=k->i<=j->(∀m (hm:m<items.size),i<=m->m<j->e items[m]=false)->Meets (Builtin.«list.remove.loop» #[[.ref l,x,rawInt i],[]])
   (λA R s=>s.heap.get? l=some { cls:=.type "list",dict:=none,data:=.seq items n,slots:=(List.toArray []) }/\(∀y,y∈items->EqAt A.in1 s y x (e y))/\R (.ok (.ret .none)) { s with heap:=s.heap.update l (Obj.mapSeq λxs=>xs.eraseIdxIfInBounds j) }):=by
 induction k with
 | zero =>
  intro i hk By Cm prog w A R s h;obtain⟨hp,g,d,tk,os⟩:=s;obtain⟨hl,he,h⟩:=h;have Rh:i=j:=by omega
  subst Rh
  wp_walk using AutoSeq1.wpAny_loadPart' hl
  have hi:items[((i:Nat):Int).toNat]?=some items[i]:=by simp [hj]
  rw[hi];refine Bf (he _ (Array.getElem_mem hj) prog w _ _ ?_);rw[hit];have TH:(items.eraseIdxIfInBounds i).size<=sizeLine+1:=yp (size_erased items _) (Nat.le_succ_of_le HY)
  wp_walk using (wpAny_updateSeq hl rfl (hz:=HY) (_hz':=TH)),AutoSeq1.wpAny_loadPart' hl
  simpa using h
 | succ k ih =>
  intro i hk By Cm prog w A R s h;obtain⟨hp,g,d,tk,os⟩:=s;obtain⟨hl,he,h⟩:=h;have Bj:i<items.size:=by omega
  wp_walk using AutoSeq1.wpAny_loadPart' hl
  have hi:items[((i:Nat):Int).toNat]?=some items[i]:=by simp [Bj]
  have hc:((i:Int)+1)=((i+1:Nat):Int):=by push_cast;rfl
  rw[hi];refine Bf (he _ (Array.getElem_mem Bj) prog w _ _ ?_);rw[Cm i Bj (yg _) (by omega)]
  wp_walk
  rw[hc];exact#[plainId_quiet plain_remove_loop _,codeAny_builtin entry_remove_loop (by
   rw[Around.under_plainId plain_remove_loop _]
   exact ih (i+1) (by omega) (by omega) (λm hm h1 h2=>Cm m hm (by omega) h2) prog w A R _ #[hl,he,h])]
theorem list_removeAt (l:Addr) (items:A2) (n:Nat) (x:Value) (e:Value->Bool) (j:Nat) (hj:j<items.size)
  (hit:e items[j]=true) (Cm:∀m (hm:m<items.size),m<j->e items[m]=false) (HY:items.size<=sizeLine) :
  Meets (Builtin.«list.remove» #[[.ref l,x],[]])
   (λA R s=>s.heap.get? l=some { cls:=.type "list",dict:=none,data:=.seq items n,slots:=(List.toArray []) }/\(∀y,y∈items->EqAt A.in1 s y x (e y))/\R (.ok (.ret .none)) { s with heap:=s.heap.update l (Obj.mapSeq λxs=>xs.eraseIdxIfInBounds j) }):=by
 intro prog w A R s h;obtain⟨hp,g,d,tk,os⟩:=s;obtain⟨hl,he,h⟩:=h
 wp_walk using AutoSeq1.wpAny_loadPart' hl
 exact#[plainId_quiet plain_remove_loop _,codeAny_builtin entry_remove_loop (by
  rw[Around.under_plainId plain_remove_loop _];exact mD l items n x e j hj hit _ HY 0 rfl (yV _) (λm hm _ h2=>Cm m hm h2) prog w A R _ #[hl,he,h])]
end PySem.SeqAt
namespace L2
open PySem PySem.Spec PyProof.Rows TS
theorem dD {bs:List Bool}:(List.range bs.length).any (λj=>bs.getD j false)=bs.any id:=by
 rw[yR,Q2,Q2];constructor
 ·rintro⟨j,hj,e⟩;have hj:=Qa.mp hj;rw[yu,yc hj] at e;exact#[_,yY hj,e]
 ·rintro⟨b,hb,e⟩;obtain⟨j,hj,rfl⟩:=Qj hb;exact#[j,Qa.mpr hj,by rw[yu,yc hj];exact e]
theorem dQ {α β:Type} (f:α->β):∀(l:List α) (j:Nat),(l.map f).eraseIdx j=(l.eraseIdx j).map f
 | [],_=>rfl
 | _::_,0=>rfl
 | a::l,j+1=>by simp [dQ f l j]
theorem wI:bootBuiltins "any"=some (.builtin "any"):=by decide +kernel
section
variable {X:Cx}
theorem kh (hc:X.calm=true):uH X (.builtin "any") (λxs H Q=>E2 λ(p:Addr) (bs:List Bool)=>A3 (xs=[.ref p]) (jo X.K H p (bs.map V.bl)) (Q (.bl (bs.any id)) H)):=by
 intro pins s σ H xs us Q I r h;obtain⟨p,bs,rfl,hq,q⟩:=h;obtain⟨u,rfl,ru⟩:=UB r;cases ru;obtain⟨Bi,rv,pl,_⟩:=I.list hq;have hlen:Bi.length=bs.length:=by rw[<-rv.length,yb]
 have DE:∀(i:Nat) (v:Value),Bi.toArray[i]?=some v->v=.bool (bs.getD i false):=λi v e=>by
  have e':Bi[i]?=some v:=by simpa using e
  have hi:i<bs.length:=by rw[<-hlen];exact (yi.mp e').1
  obtain⟨u,hu,ru⟩:=rv.get (i:=i) (x:=V.bl bs[i]) (by simp [hi]);rw[e'] at hu;cases hu;obtain rfl:=ru;rw[yu,yc hi];rfl
 have Bj:p<s.heap.objs.size:=by obtain⟨_,e,_⟩:=pl.isList;exact yq e
 refine call_any_walk (wpAny_pyIter_list pl.isList ?_);refine#[_,_,_,_,_,_,λj=>bs.getD j false,rfl,Walks.list (A:=X.A.in1) (I.ok.hd hc) s.heap.objs.size p (yE Bj) Bi.toArray,#[#[_,yz _ rfl,rfl,rfl],pl.isList.push _],?_,λh' tk hk=>?_]
 ·intro i v s' Q' E' hP El;obtain rfl:=DE i v hP;exact wpAny_of_eq rfl El
 ·rw[yk,hlen,dD];exact#[.bl _,H,I.kept λb o e=>hk b o (λhm=>by simp at hm;exact absurd (hm▸yq e) (QP _)) (yd _ e),rfl,q]
def qB:V->List V->Hp->VK->Prop:=λx vs H Q=>∃(l b:Addr) (ps:AX) (ks:List (List Key)) (k:List Key) (j:Nat),x=.ref l/\vs=[.ref b]/\H l=some (.lst (ps.map V.ref))/\Ug H ps ks/\H b=some (.tup (k.map kV))/\ks[j]?=some k/\(∀m,m<j->ks[m]?≠some k)/\Q .non (upd H l (.lst ((ps.eraseIdx j).map V.ref)))
theorem Ku (hu:X.A.units+64<cLine):dz X "list.remove" qB:=by
 intro pins s σ H x vs v us Q I rx rv h;obtain⟨l,b,ps,ks,k,j,rfl,rfl,hH,ka,eb,ej,nj,q⟩:=h;cases rx;obtain⟨u,rfl,ru⟩:=rv.one;cases ru;obtain⟨z,Bi,n,r,hl,e⟩:=I.lstM hH;obtain rfl:=uc r;rw[yb] at z;have G₂:j<ks.length:=(yi.mp ej).1;have TJ:j<ps.length:=by rw[ka.1];exact G₂
 have at_:∀m (hm:m<ps.length),H ps[m]=some (.tup ((ks[m]'(by rw[<-ka.1];exact hm)).map kV)):=λm hm=>ka.2 m _ _ (yc hm) (yc (by rw[<-ka.1];exact hm));have kc:∀m (hm:m<ps.length),uF H (.ref ps[m])=ks[m]'(by rw[<-ka.1];exact hm):=λm hm=>uO (at_ m hm);refine call_meets F.slot_list_remove #[_,e,rfl] F.entry_list_remove (F.args_list_remove_2 _ _) (SeqAt.list_removeAt l (ps.map Value.ref).toArray n (.ref b) (λv=>decide (uF H v=k)) j (by simpa using TJ) ?_ (λm hm K'=>?_) (by simpa using z)) #[e,λy hy=>?_,?_]
 ·rw[yW,Qd,kc j TJ];exact decide_eq_true (yi.mp ej).2
 ·have Ra:m<ps.length:=by simpa using hm
  rw[yW,Qd,kc m Ra];refine decide_eq_false λz=>nj m K' ?_;rw[yc (by rw[<-ka.1];exact Ra),z]
 ·obtain⟨p,hp,rfl⟩:=yf.mp (by simpa using hy:y∈ps.map Value.ref);obtain⟨m,hm,rfl⟩:=Qj hp;show SeqAt.EqAt _ _ _ _ (decide (uF H (.ref ps[m])=k));rw[kc m hm];exact dO I (by show X.A.units+1<cLine;omega) (at_ m hm) eb
 ·refine#[.non,_,I.lset (its':=(ps.eraseIdx j).map Value.ref) (ys:=(ps.eraseIdx j).map V.ref) hH e ?_ ?_ ?_,rfl,q]
  ·show (ps.map Value.ref).toArray.eraseIdxIfInBounds j=_;rw[List.eraseIdxIfInBounds_toArray,dQ]
  ·clear q;generalize ps.eraseIdx j=l
   induction l with
   | nil=>exact .nil
   | cons a l ih=>exact .cons rfl ih
  ·rw[yb];have:=List.length_eraseIdx_le ps j;omega
end
end L2
namespace TS
open PySem PySem.Spec PyProof.Rows L2 STb
variable {k:Nat}
theorem kC:typeLookup (.type "list") "keys"=pure none:=by rw[typeLookup_type,builtinLookup_eq_fast];kernel_rfl
theorem UN:entryFor table "dict.update.loop"=some Builtin.«dict.update.loop»:=entryFor_of_tree (by kernel_rfl)
theorem JP:plainId "dict.update.loop"=true:=by decide +kernel
theorem eT {prog:Be}{w:World}{A:Around}{E:AL}{s:Shared}{a:Addr}{o:Obj}{xs:A2}{Q:AO}
  (hx:s.heap.get? a=some o) (hc:o.cls=.type "list") (Lq:o.data=.seq xs k) (hd:o.dict=none) (hA:A.handled=none)
  (h:∀h' tk,(∀b o,s.heap.get? b=some o->h'.get? b=some o)->Q none { s with heap:=h',toks:=tk }) :
  wpAny (model prog w) A (getAttr? (.ref a) "keys") Q E s:=by
 obtain⟨c,dct,dat,sl⟩:=o;simp only at hc Lq hd;subst hc Lq hd;obtain⟨hp,g,d,tk,os⟩:=s;have hT:∀Ie,(#[hp,g,d,Ie,os]:Shared).TypeIs (.ref a) "list":=λ_=>#[_,hx,rfl];have f1:=sub_AttributeError;have f3:=F.slot_list_getattribute.lookup;have f4:=F.slot_list_getattribute.bind (.ref a);have f5:=am_list_getattr_none;unfold getAttr? getAttrBy? getAttrBy
 repeat (any_goals (first|assumption|exact hT _|((with_reducible show wpAny _ _ (call (Value.builtin "list.__getattribute__") _ _) _ _ _);refine call_meets F.slot_list_getattribute (hT _) am_entry_list_getattribute (F.args_list_getattribute_2 _ _) (meets_getattribute_miss_list a xs k sl "keys" _ kC (by decide) (by size_fits)) #[hx,hA,λh' Ie e FV=>?_])|wp_step))
 obtain⟨t',u',he⟩:=FV.there;show wpAny _ _ (getattributeRaised _ _ _ _ _ _ _) _ _ _;unfold getattributeRaised
 repeat (any_goals (first|assumption|wp_step))
 exact h _ _ FV.of.keeps
section
variable {P:Be}{w:World}{A:Around}{R:Result->Shared->Prop}{It:Addr}{fp wr:AX}{G:Array GenState->Array GenState->Prop}{n:Nat}{Pr:Nat->Value->Prop}{St:Nat->Shared->Prop}
def VL (val:Nat->List L2.Key) (adr:Nat->Addr) (vv:Nat->Value):Nat->List (List L2.Key×Addr×Value)
 | 0=>[]
 | i+1=>storedH (VL val adr vv i) (val i) (adr i) (vv i)
abbrev vm (P:Be) (w:World):=tupleKind (jW P w)
theorem Mc (val:Nat->List L2.Key) (adr:Nat->Addr) (vv:Nat->Value):∀i,(VL val adr vv i).length<=i
 | 0=>yg _
 | i+1=>by
  have ih:=Mc val adr vv i;show (storedH _ _ _ _).length<=_;unfold storedH;split
  ·rw[yb];omega
  ·rw[ye];simp;omega
theorem gE (val:Nat->List L2.Key) (adr:Nat->Addr) (vv:Nat->Value):∀i,∀x∈VL val adr vv i,∃j,j<i/\x.1=val j/\x.2.1=adr j
 | 0,x,h=>by cases h
 | i+1,x,h=>by
  have ih:=gE val adr vv i;have h:x∈storedH (VL val adr vv i) (val i) (adr i) (vv i):=h;unfold storedH at h
  split at h
  ·obtain⟨y,hy,rfl⟩:=yf.mp h;obtain⟨j,h1,h2,h3⟩:=ih y hy;refine#[j,by omega,?_];unfold putAt;split
   ·exact#[h2,h3]
   ·exact#[h2,h3]
  ·rcases ym.mp h with h|h
   ·obtain⟨j,h1,h2⟩:=ih x h;exact#[j,by omega,h2]
   ·obtain rfl:x=(val i,adr i,vv i):=by simpa using h
    exact#[i,by omega,rfl,rfl]
theorem al {h h':Heap}{D:Addr}{xs:List (List L2.Key×Addr×Value)} (m:h.DictOfH (vm P w) D xs) (hD:∀o,h.get? D=some o->h'.get? D=some o) (is:∀x∈xs,(vm P w).is h' x.1 x.2.1):h'.DictOfH (vm P w) D xs:=by
 obtain⟨o,es,ep,g,c,d,e,_,nd⟩:=m;exact#[o,es,ep,hD _ g,c,d,e,is,nd]
theorem GH (W:WalksS P w A.in1 It fp wr G n Pr St) (hu:A.units+8<cLine) (D:Addr) (OH:D ∉ fp) (val:Nat->List L2.Key) (adr qa:Nat->Addr) (vv:Nat->Value) (DO:∀i v,Pr i v->v=.ref (qa i)) (hb:n<=sizeLine) (ha:∀j,j<n->adr j ∉ wr/\adr j≠D/\qa j ∉ wr/\qa j≠D) :
  ∀(d i:Nat) (s:Shared),n - i=d->i<=n->St i s->(∀j,j<n->(vm P w).is s.heap (val j) (adr j)/\s.heap.IsTuple (qa j) (List.toArray [.ref (adr j),vv j]))->s.heap.DictOfH (vm P w) D (VL val adr vv i)->(∀s',Moved (D::wr) G s s'->s'.heap.DictOfH (vm P w) D (VL val adr vv n)->R (.ok (.ret .none)) s') ->
   codeAny (model P w) A (.builtin "dict.update.loop" #[[.ref D,.ref It,rawInt i,.none],[]]) R s
 | 0,i,s,hd,hi,st,ks,m,hR=>by
  obtain rfl:i=n:=by omega
  refine codeAny_builtin UN ?_;rw[Around.under_plainId JP _];refine Bf (W.done s _ _ st λs' mv=>?_);show wpAny _ _ (Builtin.Dict.addKeywords D []>>=_) _ _ _;refine Bf (Bg (Bg (hR s' (mv.mono λb hb=>yA _ hb) ?_)));refine al m (λo e=>mv.heap D o (λz=>OH (W.sub _ z)) e) λx hx=>?_;obtain⟨j,h1,h2,h3⟩:=gE val adr vv _ x hx;rw[h2,h3];exact Uy (ks j h1).1 λo e=>mv.heap _ o (ha j h1).1 e
 | d+1,i,s,hd,hi,st,ks,m,hR=>by
  have Bj:i<n:=by omega
  refine codeAny_builtin UN ?_;rw[Around.under_plainId JP _];refine Bf (W.item i s _ _ Bj st λv s' hP Ca mv=>?_);obtain rfl:=DO i v hP;have Bm:∀j,j<n->(vm P w).is s'.heap (val j) (adr j)/\s'.heap.IsTuple (qa j) (List.toArray [.ref (adr j),vv j]):=λj hj=>#[Uy (ks j hj).1 λo e=>mv.heap _ o (ha j hj).1 e,by
   obtain⟨o,e,r⟩:=(ks j hj).2;exact#[o,mv.heap _ o (ha j hj).2.2.1 e,r]]
  have m':s'.heap.DictOfH (vm P w) D (VL val adr vv i):=al m (λo e=>mv.heap D o (λz=>OH (W.sub _ z)) e) λx hx=>by
   obtain⟨j,h1,h2,h3⟩:=gE val adr vv _ x hx;rw[h2,h3];exact (Bm j (by omega)).1
  have P8:∀b∈wr,b∈D::wr:=λb hb=>yA _ hb;obtain⟨o,ho,hc,m2,Ea⟩:=(Bm i Bj).2;dsimp only;refine Bf (wpAny_holding (Bf (wpAny_tryCatch ?_)));unfold Builtin.Dict.pairItems;refine Bf (wpAny_typeOf (T:="tuple") #[o,ho,hc] ?_);rw[if_pos (by decide)];refine Bf (wpAny_seqItems ho Ea (Bg ?_));show wpAny _ _ (holding _ (dictSet D (.ref (adr i)) (vv i))) _ _ _;have lz:=Mc val adr vv i;refine wpAny_holding (wpAny_dictSet_heap (knd:=vm P w) (hsz:=by omega) (show A.units+1<cLine by omega) (Bm i Bj).1 m' λh2 dd sb=>Bg #[plainId_quiet JP _,?_]);have K₁:((i:Int)+1)=((i+1:Nat):Int):=by push_cast;rfl
  rw[K₁];refine GH W hu D OH val adr qa vv DO hb ha d (i+1) _ (by omega) Bj (W.frame _ s' _ _ Ca (Nat.le_add_right _ _) λb hb o e=>?_) (λj hj=>#[Uy (Bm j hj).1 λo e=>?_,?_]) dd λs2 P9 m2=>hR s2 (Moved.trans W.gtrans ((mv.mono P8).then_heap (Nat.le_add_right _ _) λb o hb e=>?_) P9) m2
  ·rw[sb.2 b (λz:b=D=>OH (by rw[<-z];exact hb))];exact e
  ·rw[sb.2 _ (ha j hj).2.1];exact e
  ·obtain⟨o,e,r⟩:=(Bm j hj).2;exact#[o,by rw[sb.2 _ (ha j hj).2.2.2];exact e,r]
  ·rw[sb.2 b (λz:b=D=>hb (by rw[z];exact yD))];exact e
end
section
variable {P:Be}{w:World}{A:Around}{E:AL}{s:Shared}
theorem bQ {l:Addr}{ol:Obj}{items:A2}{val:Nat->List L2.Key}{adr qa:Nat->Addr}{vv:Nat->Value}{Q:AL} (hA:A.handled=none) (hu:A.units+16<cLine) (ho:s.heap.get? l=some ol) (hc:ol.cls=.type "list") (Ea:ol.data=.seq items k) (DL:ol.dict=none)
  (hit:∀(i:Nat) v,items[i]?=some v->v=.ref (qa i)) (E1:∀j,j<items.size->(vm P w).is s.heap (val j) (adr j)/\s.heap.IsTuple (qa j) (List.toArray [.ref (adr j),vv j])) (hb:items.size<=sizeLine)
  (q:∀h' tk,(∀b u,s.heap.get? b=some u->h'.get? b=some u)->h'.DictOfH (vm P w) s.heap.objs.size (VL val adr vv items.size)->Q (.ref s.heap.objs.size) { s with heap:=h',toks:=tk }):wpAny (model P w) A (call (.type "dict") [.ref l]) Q E s:=by
 refine callType_codes (Q₁:=λobj s₁=>obj=.ref s.heap.objs.size/\s₁={ s with heap:=s.heap.push { cls:=.type "dict",data:=.dict (List.toArray []) } }) F.kt_called_dict (F.kt_typeCall_dict_1 _) F.entry_dict_init (kt_code_dict_new _ #[rfl,rfl]) ?_;rintro obj s₁ ⟨rfl,rfl⟩;have Lr:(s.heap.push { cls:=.type "dict",data:=.dict (List.toArray []) }).get? s.heap.objs.size=some { cls:=.type "dict",data:=.dict (List.toArray []) }:=yz _ rfl;have eo:(s.heap.push { cls:=.type "dict",data:=.dict (List.toArray []) }).get? l=some ol:=yd _ ho;have tn:Shared.TypeIs { s with heap:=s.heap.push { cls:=.type "dict",data:=.dict (List.toArray []) } } (.ref s.heap.objs.size) "dict":=#[_,Lr,rfl];have tl:Shared.TypeIs { s with heap:=s.heap.push { cls:=.type "dict",data:=.dict (List.toArray []) } } (.ref l) "list":=#[_,eo,hc];refine#[tn,F.args_dict_init_2 _ _,?_];unfold Builtin.«dict.__init__»;refine Bf ?_;unfold Builtin.Dict.selfAndRest;refine Bf (wpAny_notOrdered_dict tn ?_);show wpAny _ _ (pure (s.heap.objs.size,[Value.ref l])) _ _ _;refine Bg ?_;show wpAny _ _ (Builtin.Dict.updateFrom "dict.__init__" s.heap.objs.size (.ref l) [] .none) _ _ _;unfold Builtin.Dict.updateFrom;refine Bf (wpAny_typeOf tl ?_);rw[if_pos (by decide)];refine Bf (eT eo hc Ea DL (by show A.handled=none;exact hA) λh1 tk1 kp=>?_);rw[if_pos (show (none:Option Value).isNone=true from rfl)];have TK:=kp _ _ eo;have Lm:h1.IsList l items:=#[ol,TK,hc,k,Ea];have TL:=kp _ _ Lr;have OF:l<h1.objs.size:=yq TK;have OI:s.heap.objs.size<h1.objs.size:=yq TL;have lD:l<s.heap.objs.size:=yq ho;have a1:∀j,j<items.size->adr j<s.heap.objs.size/\qa j<s.heap.objs.size:=λj hj=>by
  obtain⟨⟨oj,_,_,Rc,_⟩,oq,K₂,_⟩:=E1 j hj;exact#[yq Rc,yq K₂]
 refine Bf (wpAny_rule (Bf (wpAny_pyIter_list Lm (Bg #[plainId_quiet JP _,?_]))));refine GH (P:=P) (w:=w) (A:=A.in1) ((Walks.list (by show A.handled=none;exact hA) h1.objs.size l (yE OF) items).toS) (by show A.units+1+8<cLine;omega) s.heap.objs.size ?hS val adr qa vv hit hb (λj hj=>?hA) (items.size - 0) 0 _ (by omega) (yV _) #[#[_,yz _ rfl,rfl,rfl],(Lm.push _)] (λj hj=>?hI) ?hM ?hR
 case hS=>simp only[yM,QG,or_false,not_or];exact#[yE OI,Wg lD]
 case hA =>
  obtain⟨z1,z2⟩:=a1 j hj;simp only[yM,QG,or_false];exact#[yE (Nat.lt_trans z1 OI),yE z1,yE (Nat.lt_trans z2 OI),yE z2]
 case hI =>
  obtain⟨z1,o,e,r⟩:=E1 j hj;exact#[Uy z1 λo e=>yd _ (kp _ _ (yd _ e)),o,yd _ (kp _ _ (yd _ e)),r]
 case hM=>exact#[_,(List.toArray []),0,yd _ TL,#[rfl,rfl,rfl],rfl,rfl,(λx hx=>by cases hx),Wf]
 case hR =>
  intro s' mv m';obtain⟨h',g',d',Ie,IS⟩:=s';have eg:g'=s.gens:=mv.gens;have ed:d'=s.drawn:=mv.drawn;have eo:IS=s.os:=mv.os;subst eg;subst ed;subst eo;refine#[rfl,q h' Ie (λb o e=>?_) m'];refine mv.heap b o ?_ (yd _ (kp _ _ (yd _ e)));have Eb:b<s.heap.objs.size:=yq e;simp only[yM,QG,or_false,not_or];exact#[yE Eb,yE (Nat.lt_trans Eb OI)]
end
end TS
namespace L2
open PySem PySem.Spec PyProof.Rows TS STb
theorem GW {α β:Type}{F:α->β->Prop}:∀{l:List α} {m:List β},l.length=m.length->(∀i (h1:i<l.length) (h2:i<m.length),F l[i] m[i])->Paired F l m
 | [],[],_,_=>.nil
 | [],_::_,h,_=>by cases h
 | _::_,[],h,_=>by cases h
 | a::l,b::m,h,f=>.cons (f 0 (Ql _) (Ql _)) (GW (by simpa using h) λi h1 h2=>by
   have:=f (i+1) (by simpa using h1) (by simpa using h2);simpa using this)
theorem Md {val:Nat->List Key}{adr:Nat->Addr}{vv:Nat->Value}{n:Nat} (nd:∀i j,i<j->j<n->val i≠val j):∀i,i<=n->VL val adr vv i=(List.range i).map λj=>(val j,adr j,vv j)
 | 0,_=>rfl
 | i+1,h=>by
  have ih:=Md (adr:=adr) (vv:=vv) nd i (by omega);show storedH (VL val adr vv i) (val i) (adr i) (vv i)=_;have Cm:atKey ((List.range i).map λj=>(val j,adr j,vv j)) (val i)=none:=by
   unfold atKey;rw[Option.map_eq_none_iff,List.find?_eq_none];intro x hx z;obtain⟨j,hj,rfl⟩:=yf.mp hx;exact nd j i (Qa.mp hj) h (of_decide_eq_true z)
  rw[ih,storedH_new Cm,Qe,yn]
  rfl
def gh (kvs:List (List Key×V)) (i:Nat):List Key×V:=kvs.getD i (([]:List Key),V.non)
theorem GF {kvs:List (List Key×V)}{i:Nat} (h:i<kvs.length):gh kvs i=kvs[i]:=by unfold gh;rw[yu,yc h];rfl
section
variable {X:Cx}
theorem bM (hc:X.calm=true) (hu:X.A.units+64<cLine):uH X (.type "dict") (λxs H Q=>∃(p:Addr) (qs bs:AX) (kvs:List (List Key×V)),xs=[.ref p]/\H p=some (.lst (qs.map V.ref))/\qs.length=kvs.length/\bs.length=kvs.length /\
  (∀(i:Nat) (q b:Addr) (kv:List Key×V),qs[i]?=some q->bs[i]?=some b->kvs[i]?=some kv->H q=some (.tup [.ref b,kv.2])/\H b=some (.tup (kv.1.map kV)))/\(kvs.map (·.1)).Nodup/\∀l,H l=none->Q (.ref l) (upd H l (.dT kvs))):=by
 intro pins s σ H xs us Q I r h;obtain⟨p,qs,bs,kvs,rfl,e,hq,hb,DE,nd,q⟩:=h;obtain⟨u,rfl,ru⟩:=UB r;cases ru;obtain⟨z,Bi,n,rv,hl,eo⟩:=I.lstM e;obtain rfl:=uc rv;rw[yb] at z;have one:∀i,i<kvs.length->∃u,s.heap.IsTuple (qs.getD i 0) (List.toArray [.ref (bs.getD i 0),u])/\jF (gh kvs i).2 u/\(tupleKind (jW X.prog X.w)).is s.heap (gh kvs i).1 (bs.getD i 0)/\H (bs.getD i 0)=some (.tup ((gh kvs i).1.map kV)):=λi hi=>by
  have e1:qs[i]?=some (qs.getD i 0):=by rw[yu,yc (by omega)];rfl
  have e2:bs[i]?=some (bs.getD i 0):=by rw[yu,yc (by omega)];rfl
  have e3:kvs[i]?=some (gh kvs i):=by rw[GF hi,yc hi]
  obtain⟨h1,h2⟩:=DE i _ _ _ e1 e2 e3;generalize qs.getD i 0=q0 at h1;generalize bs.getD i 0=b0 at h1 h2;generalize gh kvs i=kv0 at h1 h2;obtain⟨Bi,r1,p1,_⟩:=I.tuple (jD.of h1);cases r1 with
  | cons rx t=>cases t with
   | cons ry t2=>cases t2 with
    | nil =>
     cases rx;exact#[_,p1,ry,ux I.hok h2,h2]
 obtain⟨vv,hv⟩:∃vv:Nat->Value,∀i,i<kvs.length->s.heap.IsTuple (qs.getD i 0) (List.toArray [.ref (bs.getD i 0),vv i])/\jF (gh kvs i).2 (vv i):=by
  classical
  refine#[λi=>if h:i<kvs.length then (one i h).choose else .none,λi hi=>?_];have:=(one i hi).choose_spec;simp only[dif_pos hi];exact#[this.1,this.2.1]
 have sz:(qs.map Value.ref).toArray.size=kvs.length:=by simp [hq]
 refine bQ (val:=λi=>(gh kvs i).1) (adr:=λi=>bs.getD i 0) (qa:=λi=>qs.getD i 0) (vv:=vv) (I.ok.hd hc) (by omega) eo rfl rfl rfl (λi v hi=>?_) (λj hj=>?_) (by simpa using z) λh' tk kp dd=>?_
 ·have:(qs.map Value.ref)[i]?=some v:=by simpa using hi
  rw[yj] at this;obtain⟨q',e1,rfl⟩:=yl.mp this;rw[yu,e1];rfl
 ·rw[sz] at hj;obtain⟨_,_,_,h3,_⟩:=one j hj;exact#[h3,(hv j hj).1]
 ·rw[sz,Md (n:=kvs.length) (λi j By hj z=>?_) _ (yg _)] at dd
  ·have fresh:=I.hok.fresh (yg s.heap.objs.size);obtain⟨o,es,ep,g1,g2,g3,g4,g5,g6⟩:=dd;have big:(s.heap.objs.size==sysModules)=false:=(gM (P:=X.prog) (w:=X.w) (H:=H) s.heap I.big).2.1;refine#[.ref s.heap.objs.size,_,I.laid (a:=s.heap.objs.size) (o:=.dT kvs) (t':=tk) kp (yg _) #[by omega,big,_,GW (by simp) λi h1 h2=>?_,o,es,ep,g1,g2,g3,g4,g6],rfl,q _ fresh];obtain⟨_,_,_,_,h4⟩:=one i h1;have e3:gh kvs i=kvs[i]:=GF h1;have h5:=(hv i h1).2;rw[e3] at h4 h5;rw[Qd,List.getElem_range];refine#[by rw[e3],?_,h5];rw[jl (ji h4 fresh)];exact h4
  ·have hi:i<kvs.length:=by omega
   rw[GF hi,GF hj] at z;have:=QM.mp nd i j (by simpa using hi) (by simpa using hj) By;simp at this;exact this z
end
end L2
namespace L2
open PySem PySem.Spec PyProof.Rows
variable {X:Cx}
section
variable {X:Cx}{P:Be}{w:World}{o i:Expr}{pos:Pos}{td ty:TE}
theorem gr (hP:X.prog=P) (hw:X.w=w) (hu:X.A.units+1<cLine) (hi:PE X i ty) (ho:PE X o td):PC X .NotIn i o (bn P w ty td):=by subst hP hw;exact cP hi ho hu
end
def mN (X:Cx):List (Str×Addr)->Prop
 | []=>True
 | y::r=>(X.env.cells.lookup y.1=some y.2/\X.env.kindOf y.1=some .cell)/\mN X r
theorem mN.of:∀{cl:AY},mN X cl->∀{x:Str} {c:Addr},cl.lookup x=some c->X.env.cells.lookup x=some c/\X.env.kindOf x=some .cell
 | (n,a)::r,h,x,c,e=>by
  rw[List.lookup_cons] at e
  split at e
  ·rename_i q;obtain rfl:x=n:=by simpa using q
   cases e;exact h.1
  ·exact mN.of h.2 e
theorem vc {N0:A1}{scope:Scope}{cl:AY} (hk:scope.kind=.function:=by rfl) (OE:closureFor scope X.env=pure cl:=by rfl)
  (hs:mN X cl:=by first|exact trivial|exact#[#[rfl,rfl],trivial]|exact#[#[rfl,rfl],#[rfl,rfl],trivial]|exact#[#[rfl,rfl],#[rfl,rfl],#[rfl,rfl],trivial]|exact#[#[rfl,rfl],#[rfl,rfl],#[rfl,rfl],#[rfl,rfl],trivial])
  (h1:(scope.names.all λy=>y.2 != .cell&&(y.2 != .free||(cl.lookup y.1).isSome)&&(y.2 != .local||scope.names.lookup y.1==some .local))=true:=by kernel_rfl)
  (hl:N0.length=X.N.length:=by rfl) (h3:((N0.zip X.N).all λy=>(y.1==y.2&&scope.names.lookup y.1 != some .local)||scope.names.lookup y.1==none)=true:=by kernel_rfl):uS X N0 scope cl:=by
 have H:∀y∈scope.names,(y.2≠.cell/\(y.2=.free->(cl.lookup y.1).isSome=true))/\(y.2=.local->scope.names.lookup y.1=some .local):=λy hy=>by
  have:=Qx.mp h1 y hy;simp only[Qz,Bool.or_eq_true,bne_iff_ne,ne_eq,beq_iff_eq] at this;exact#[#[this.1.1,λe=>this.1.2.resolve_left λn=>n e],λe=>this.2.resolve_left λn=>n e]
 have F:∀x,scope.names.lookup x=some .free->∃c,cl.lookup x=some c:=λx e=>Option.isSome_iff_exists.mp ((H _ (GG e)).1.2 rfl);refine#[OE,hk,λy hy=>(H y hy).1.1,λy hy=>(H y hy).2,λx c e=>(hs.of e).1,F,λx e=>.inl (hs.of (F x e).choose_spec).2,hl,λi x e=>?_];have hi:i<X.N.length:=by rw[<-hl];exact (yi.mp e).1
 have:=Qx.mp h3 (x,X.N[i]) (yT (List.getElem?_zip_eq_some.mpr #[e,yc hi]));simp only[Bool.or_eq_true,Qz,beq_iff_eq,bne_iff_ne] at this;rcases this with ⟨q1,q2⟩|q
 ·exact .inl #[by rw[yc hi,<-q1],q2]
 ·exact .inr q
section
variable {X:Cx}{scope:Scope}{cl:AY}{tg iter elt:Expr}{ifs:Ba}{own:A1}{wi:TI}{g:TG}{tc:TT}{te:TE}{pos:Pos}
theorem JE (S:uS X X.N scope cl) (hi:PI X tg iter wi)
  (hg:∀C s H fp pins,PG (X.blk scope cl C own s H fp pins) tg g) (ht:∀C s H fp pins,PF (X.blk scope cl C own s H fp pins) ifs tc) (he:∀C s H fp pins,PE (X.blk scope cl C own s H fp pins) elt te)
  (hs:∀x,foldedSetIterable iter X.env x=pure x:=by intro _;rfl):PE X (.ListComp elt [#[tg,iter,ifs,0]] scope pos) (G4 wi own.length g tc te):=zA S hi hg ht he hs
theorem aT (i:Nat) {x:Str} {pos' DJ:Pos} (S:uS X X.N scope cl) (hi:PI X tg iter wi)
  (hg:∀C s H fp pins,PG (X.blk scope cl C own s H fp pins) tg g) (ht:∀C s H fp pins,PF (X.blk scope cl C own s H fp pins) ifs tc) (he:∀C s H fp pins,PE (X.blk scope cl C own s H fp pins) elt te)
  (hN:X.N.Nodup:=by exact mL (by kernel_rfl)) (PR:X.N[i]?=some x:=by rfl) (hx:N9 X.env.scope x:=by first|exact .inl rfl|exact .inr rfl) (hs:∀x,foldedSetIterable iter X.env x=pure x:=by intro _;rfl)
  (PU:swapsWith (.ListComp elt [#[tg,iter,ifs,0]] scope pos) (some (.Name x pos')) DJ.line X.env=pure true:=by rfl) (hf:X.fn x=true\/X.env.scope.names.lookup x=some .local:=by first|exact .inl rfl|exact .inr rfl|assumption) :
  PS X (.Assign [.Name x pos'] (.ListComp elt [#[tg,iter,ifs,0]] scope pos) DJ) (c8 (G4 wi own.length g tc te) (Gw i)):=NX i S hi hg ht he hN PR hx hs PU hf
end
structure Df (K:AQ) (x q:Str) (st:Stmt) (f:Addr) (ps:A1) (ds:AW):Prop where
 ex:∃fd,gB K x q st f fd/\Uf K fd ps ds
structure TF (K:AQ) (mg:AT) (x:Str) (st:Stmt) (f:Addr) (ps:A1):Prop where
 g:mg x=some (.ref f)
 d:Df K x x st f ps []
structure TM (K:AQ) (C:Addr) (m q:Str) (st:Stmt) (f:Addr) (ps:A1) (ds:AW):Prop where
 at_:ke K C m f
 d:Df K m q st f ps ds
structure TN (K:AQ) (C:Addr) (q:Str) (st:Stmt) (f:Addr) (ps:A1):Prop where
 m:Mk K C f
 d:Df K "__init__" q st f ps []
section
variable {P:Be}{w:World}{K:AQ}{mg:AT}{base:Heap}{x m q:Str}{st:Stmt}{f C:Addr}{fd:FuncData}{N ps:A1}{ds:AW}{k:Nat}{sp:Sp}{c:Bool}
abbrev dq (P:Be) (w:World) (K:AQ) (mg:AT) (base:Heap) (N ps:A1) (q:Str) (st:Stmt) (f:Addr) (k:Nat) (sp:Sp) (c:Bool):Prop :=
 ∀(vs:List V) (H:Hp) (Q:VK) (E:XK),sp vs H Q E->vs.length=ps.length/\∀(Bk:Value) (A:Around) (outer:List Env) (s:Shared),Jj c k (A.deeper (envOfC q (Jb st) s.heap.objs.size f Bk)) ->
  ∃t,z6 (Mp P w K mg base N q (Jb st) f Bk A outer s H E c) (uN st) t/\t { nx:=λ_ H'=>Q .non H',rt:=Q } (start N vs) H
theorem gB.okY (F:gB K x q st f fd) (h:dq P w K mg base N ps q st f k sp c) (S:Uw N ps (Jb st):=by exact#[rfl,rfl,rfl,by decide +kernel,rfl,by decide +kernel,by decide +kernel]):UG P w K mg base (XC P w) (k+1) f fd ps sp c :=
 F.okX S (λvs H Q E y=>(h vs H Q E y).1) λBk A outer s H vs Q E hr y=>(h vs H Q E y).2 Bk A outer s hr
theorem TF.ok (T:TF K mg x st f ps) (N:A1) (h:dq P w K mg base N ps x st f k sp c) (S:Uw N ps (Jb st):=by exact#[rfl,rfl,rfl,by decide +kernel,rfl,by decide +kernel,by decide +kernel]):jR P w K mg base (k+1) x ps sp c :=
 let ⟨fd,F,b⟩:=T.d.ex;#[_,fd,F.okY h S,b,F.kp,T.g]
theorem TM.ok (T:TM K C m q st f ps []) (c:vi K C) (N:A1) (h:dq P w K mg base N ps q st f k sp true) (S:Uw N ps (Jb st):=by exact#[rfl,rfl,rfl,by decide +kernel,rfl,by decide +kernel,by decide +kernel]):uI P w K mg base (k+1) C m ps sp :=
 let ⟨fd,F,b⟩:=T.d.ex;#[c,_,fd,T.at_,F.okY h S,b]
theorem TM.okN (T:TM K C m q st f ps [Value.none]) (c:vi K C) (N:A1) (h:dq P w K mg base N ps q st f k sp true) (S:Uw N ps (Jb st):=by exact#[rfl,rfl,rfl,by decide +kernel,rfl,by decide +kernel,by decide +kernel]):m7 P w K mg base (k+1) C m ps sp :=
 let ⟨fd,F,b⟩:=T.d.ex;#[c,_,fd,T.at_,F.okY h S,b]
theorem TN.ok (T:TN K C q st f ps) (g:mg x=some (.ref C)) (N:A1) (h:dq P w K mg base N ps q st f k sp true) (S:Uw N ps (Jb st):=by exact#[rfl,rfl,rfl,by decide +kernel,rfl,by decide +kernel,by decide +kernel]):Gc P w K mg base (k+1) x C ps sp :=
 let ⟨fd,F,b⟩:=T.d.ex;#[_,fd,T.m,F.okY h S,b,g]
end
end L2
set_option genInjectivity false
namespace K33
open PySem L2
variable {p:List Value->Prop}{b:Bool}{A B:Prop}{H H':Hp}{o:HO}{a:Addr}
variable {P:Be}{w:World}{K:AQ}{mg:AT}{base:Heap}{t:Adr}
def jZ (i:Nat):Stmt:=PySem.Challenge.pw_copperbook_k33_whole_all_breaks.main.body.getD i (.Pass #[0,0,0,0])
structure Adr where
 (jr ur Jk dU pT iQ ME iO gQ bU bT MD Gu Mz Mu K2 iP MA K8 MF ko iN md dS dR Mv K3 K7 Nw Mx K6 Mw Z1 gP Z0 Zh gO zX Zi kn My km MC NH bW ND NG ce bX bZ NF MB Ny Nx b8 Nz b6 b7 b9 K9 dW NE NC Z2 bV:Addr)
 (Na n9 kU N3 mI N4 mH:Tok)
structure Txt (K:AQ) (mg:AT) (t:Adr):Prop where
 pX:mg "Board"=some (.ref t.jr)
 pW:mg "Block"=some (.ref t.ur)
 pY:mg "Rules"=some (.ref t.Jk)
 jI:vi K t.jr
 zR:Jm K t.jr "wide"
 zQ:Jm K t.jr "high"
 Ui:Jm K t.jr "layers"
 Jp:Jm K t.jr "copper"
 ug:Jm K t.jr "drilled"
 uT:vi K t.ur
 GO:Jm K t.ur "x"
 GP:Jm K t.ur "y"
 zP:Jm K t.ur "wide"
 zO:Jm K t.ur "high"
 uE:vi K t.Jk
 Zs:Jm K t.Jk "gap"
 V3:Jm K t.Jk "width"
 Zt:Jm K t.Jk "rim"
 V2:Jm K t.Jk "keeps"
 zS:Jm K t.Jk "kept"
 dw:TF K mg "islands" (jZ 8) t.dU ["board"]
 pK:TF K mg "homes" (jZ 9) t.pT ["board"]
 iD:TF K mg "spread" (jZ 10) t.iQ ["board","start"]
 mZ:TF K mg "neighbours" (jZ 11) t.ME ["board","cell"]
 iB:TF K mg "beside" (jZ 12) t.iO ["cell"]
 gA:TF K mg "over_and_under" (jZ 13) t.gQ ["cell","layers"]
 bq:TF K mg "is_whole" (jZ 15) t.bU ["value"]
 bp:TF K mg "is_short" (jZ 16) t.bT ["number"]
 mY:TF K mg "need_whole" (jZ 22) t.MD ["numbers"]
 Gb:TF K mg "need_from_one" (jZ 23) t.Gu ["numbers"]
 mU:TF K mg "box_places" (jZ 24) t.Mz ["x","y","wide","high"]
 mP:TN K t.ur "Block.__init__" (Jt (jZ 21) 0) t.Mu ["self","x","y","wide","high"]
 KO:TM K t.ur "cells" "Block.cells" (Jt (jZ 21) 1) t.K2 ["self"] []
 iC:TF K mg "breaks" (jZ 26) t.iP ["board","rules"]
 mV:TF K mg "gap_breaks" (jZ 27) t.MA ["board","gap"]
 KU:TF K mg "keep_breaks" (jZ 28) t.K8 ["board","keeps"]
 m5:TF K mg "rim_breaks" (jZ 29) t.MF ["board","rim"]
 G9:TF K mg "width_breaks" (jZ 30) t.ko ["board","width"]
 iA:TF K mg "around" (jZ 31) t.iN ["cell","far"]
 KY:TF K mg "square_from" (jZ 32) t.md ["corner","wide"]
 dv:TF K mg "is_kept" (jZ 33) t.dS ["cell","keeps"]
 du:TF K mg "in_keep" (jZ 34) t.dR ["cell","keep"]
 mQ:TN K t.jr "Board.__init__" (Jt (jZ 39) 0) t.Mv ["self","wide","high","layers"]
 KQ:TM K t.jr "cells" "Board.cells" (Jt (jZ 39) 10) t.K3 ["self","z"] [Value.none]
 KS:TM K t.jr "holes" "Board.holes" (Jt (jZ 39) 11) t.K7 ["self"] []
 Nh:TM K t.jr "put" "Board.put" (Jt (jZ 39) 3) t.Nw ["self","cells"] []
 mS:TM K t.jr "take" "Board.take" (Jt (jZ 39) 4) t.Mx ["self","cells"] []
 KR:TM K t.jr "drill" "Board.drill" (Jt (jZ 39) 5) t.K6 ["self","x","y"] []
 mR:TM K t.jr "plug" "Board.plug" (Jt (jZ 39) 6) t.Mw ["self","x","y"] []
 ZY:TM K t.jr "is_copper" "Board.is_copper" (Jt (jZ 39) 7) t.Z1 ["self","x","y","z"] []
 gx:TM K t.jr "has_hole" "Board.has_hole" (Jt (jZ 39) 8) t.gP ["self","x","y"] []
 ZX:TM K t.jr "has_layer" "Board.has_layer" (Jt (jZ 39) 16) t.Z0 ["self","z"] []
 zZ:TM K t.jr "has_square" "Board.has_square" (Jt (jZ 39) 17) t.Zh ["self","x","y"] []
 gw:TM K t.jr "has_cell" "Board.has_cell" (Jt (jZ 39) 18) t.gO ["self","cell"] []
 zW:TM K t.jr "need_square" "Board.need_square" (Jt (jZ 39) 19) t.zX ["self","x","y"] []
 z4:TM K t.jr "need_cells" "Board.need_cells" (Jt (jZ 39) 20) t.Zi ["self","cells"] []
 G8:TF K mg "need_measure" (jZ 40) t.kn ["measure","most"]
 mT:TN K t.Jk "Rules.__init__" (Jt (jZ 46) 0) t.My ["self","gap","width","rim","keeps"]
 G7:TF K mg "need_between" (jZ 47) t.km ["number","least","most"]
 mX:TF K mg "need_keeps" (jZ 48) t.MC ["keeps"]
 Nr:TF K mg "need_keep" (jZ 49) t.NH ["keep"]
 bu:TF K mg "_law_cell" (jZ 51) t.bW ["_law_script","_law_k"]
 Nn:TF K mg "_law_mixed" (jZ 52) t.ND ["_law_cell_here","_law_k"]
 Nq:TF K mg "_law_twice" (jZ 53) t.NG ["_law_cell_here","_law_k"]
 bG:TF K mg "_law_well" (jZ 54) t.ce ["_law_script","_law_k"]
 bz:TF K mg "_law_draw" (jZ 55) t.bX ["_law_well_here","_law_most"]
 bA:TF K mg "_law_flat" (jZ 56) t.bZ ["_law_size"]
 Np:TF K mg "_law_sized" (jZ 57) t.NF ["_law_well_here"]
 mW:TF K mg "_law_copper" (jZ 58) t.MB ["_law_script","_law_size"]
 Nj:TF K mg "_law_holes" (jZ 59) t.Ny ["_law_well_here","_law_size"]
 Ni:TF K mg "_law_board" (jZ 60) t.Nx ["_law_size","_law_copper_here","_law_holes_here"]
 bE:TF K mg "_law_near" (jZ 61) t.b8 ["_law_cell_here","_law_copper_here","_law_holes_here"]
 Nl:TF K mg "_law_homes" (jZ 62) t.Nz ["_law_copper_here","_law_holes_here"]
 bC:TF K mg "_law_gaps" (jZ 63) t.b6 ["_law_copper_here","_law_holes_here","_law_gap"]
 bD:TF K mg "_law_kept" (jZ 64) t.b7 ["_law_copper_here","_law_keeps_here"]
 bF:TF K mg "_law_rims" (jZ 65) t.b9 ["_law_size","_law_copper_here","_law_holes_here","_law_rim"]
 KW:TF K mg "_law_squares" (jZ 66) t.K9 ["_law_size","_law_copper_here","_law_width"]
 dy:TF K mg "_law_due" (jZ 67) t.dW ["_law_size","_law_copper_here","_law_holes_here","_law_told"]
 No:TF K mg "_law_right" (jZ 68) t.NE ["_law_board_here","_law_rules","_law_due_here"]
 Nm:TF K mg "_law_keeps" (jZ 69) t.NC ["_law_well_here"]
 ZZ:TF K mg "_law_hole_turned" (jZ 70) t.Z2 ["_law_board_here","_law_holes_here","_law_hole"]
 wQ:mg "law"=some (.ref t.bV)
 wE:∃fd,gB K "law" "law" (jZ 71) t.bV fd/\∀(s:Shared) (u:Value),BindsTo s fd #[[u],[]] [("_law_script",u)]
 JU:mg "isinstance"=none
 w5:mg "int"=none
 tq:mg "bool"=none
 M2:mg "list"=none
 Vg:mg "tuple"=none
 GN:mg "len"=none
 Jv:mg "range"=none
 w6:mg "min"=none
 uG:mg "sorted"=none
 xa:mg "set"=none
 wY:mg "abs"=none
 tw:mg "dict"=none
 wZ:mg "all"=none
 w4:mg "any"=none
 NK:mg "MOST_WIDE"=some (.int 12 t.Na)
 NJ:mg "MOST_HIGH"=some (.int 12 t.n9)
 me:mg "MOST_LAYERS"=some (.int 3 t.kU)
 ci:mg "MOST_GAP"=some (.int 2 t.N3)
 MN:mg "MOST_WIDTH"=some (.int 3 t.mI)
 cj:mg "MOST_RIM"=some (.int 1 t.N4)
 MM:mg "MOST_KEEPS"=some (.int 12 t.mH)
section
variable {K:AQ}{x q a:Str}{st:Stmt}{f D C:Addr}{oc kV dc pm cd ct u tt:Value}{od an dd:Bc}{sl ds:A0}{ps:A1}{n:Nat}
theorem VG (h:findIn K (.ref C) a=some none):Jm K C a:=h
theorem Aw (h:∀a,p [a]):∀us:List Value,us.length=1->p us
 | [a],_=>h a
theorem Ax (h:∀a b,p [a,b]):∀us:List Value,us.length=2->p us
 | [a,b],_=>h a b
theorem Ay (h:∀a b c,p [a,b,c]):∀us:List Value,us.length=3->p us
 | [a,b,c],_=>h a b c
theorem xG (h:∀a b c d,p [a,b,c,d]):∀us:List Value,us.length=4->p us
 | [a,b,c,d],_=>h a b c d
theorem Az (h:∀a b c d e,p [a,b,c,d,e]):∀us:List Value,us.length=5->p us
 | [a,b,c,d,e],_=>h a b c d e
theorem AA (h:∀a,p [a]):∀us:List Value,us.length+1=2->p us
 | [a],_=>h a
theorem j7 (l:K.lookup f=some ⟨oc,od,.func (fnOf x q (Ux st) (uN st) (Jb st) .none kV dc pm an cd ct),sl⟩) (e:codeIn K cd q=true) (k:keepIn K (.ref f)=true)
  (h:∀us:List Value,us.length=ps.length->bindArgs (fnOf x q (Ux st) (uN st) (Jb st) .none kV dc pm an cd ct) ⟨us,[]⟩=pure (ps.zip us):=by first|exact Aw λ_=>rfl|exact Ax λ_ _=>rfl|exact Ay λ_ _ _=>rfl|exact xG λ_ _ _ _=>rfl|exact Az λ_ _ _ _ _=>rfl):Df K x q st f ps [] :=
 ⟨_,ZO l e k,.all h⟩
theorem xH (l:K.lookup f=some ⟨oc,od,.func (fnOf x q (Ux st) (uN st) (Jb st) (.ref D) kV dc pm an cd ct),sl⟩) (e:codeIn K cd q=true) (k:keepIn K (.ref f)=true) (dl:K.lookup D=some ⟨tt,dd,.seq [u].toArray n,ds⟩)
  (h:∀us:List Value,us.length=ps.length->∃k:Option (Array Value)->Sem (List (Str×Value)),bindArgs (fnOf x q (Ux st) (uN st) (Jb st) (.ref D) kV dc pm an cd ct) ⟨us,[]⟩=seqItems? (.ref D)>>=k/\k (some [u].toArray)=pure (ps.zip us):=by first|exact xG λ_ _ _ _=>⟨_,rfl,rfl⟩):Df K x q st f ps [] :=
 ⟨_,ZO l e k,rR rfl dl rfl h⟩
theorem AB (l:K.lookup f=some ⟨oc,od,.func (fnOf x q (Ux st) (uN st) (Jb st) (.ref D) kV dc pm an cd ct),sl⟩) (e:codeIn K cd q=true) (k:keepIn K (.ref f)=true) (dl:K.lookup D=some ⟨tt,dd,.seq [Value.none].toArray n,ds⟩)
  (h:∀us:List Value,us.length+1=ps.length->∃k:Option (Array Value)->Sem (List (Str×Value)),bindArgs (fnOf x q (Ux st) (uN st) (Jb st) (.ref D) kV dc pm an cd ct) ⟨us,[]⟩=seqItems? (.ref D)>>=k/\k (some [Value.none].toArray)=pure (ps.zip (us++[Value.none])):=by first|exact AA λ_=>⟨_,rfl,rfl⟩):Df K x q st f ps [Value.none] :=
 ⟨_,ZO l e k,rS rfl dl rfl h⟩
end
theorem UK (h1:b=true->A) (h2:b=false->B):if b=true then A else B:=by
 cases b
 ·rw[if_neg yo];exact h2 rfl
 ·rw[if_pos rfl];exact h1 rfl
theorem JJ (h1:b=false->A) (h2:b=true->B):if (!b)=true then A else B:=by
 cases b
 ·exact (if_pos (show (!false)=true from rfl))▸h1 rfl
 ·rw[if_neg (by decide)];exact h2 rfl
theorem JS {c:Prop} [Decidable c] (h1:c->A) (h2:¬c->B):if decide c=true then A else B:=by
 by_cases h:c
 ·rw[if_pos (decide_eq_true h)];exact h1 h
 ·rw[if_neg (by simp [h])];exact h2 h
theorem jk {p:Addr} (x:jc H H') (hp:H' p=none):jc H (L2.upd H' p o):=λb u e=>by
 have:=x b u e;rw[jl (ji this hp)];exact this
abbrev jG:=List (List Key×V)
def fB (w h l:Int) (c d:Addr):List (Str×V):=[("wide",.int w),("high",.int h),("layers",.int l),("copper",.ref c),("drilled",.ref d)]
theorem rY (w h l:Int) (c d:Addr):Jy "drilled" (.ref d) (Jy "copper" (.ref c) (Jy "layers" (.int l) (Jy "high" (.int h) (Jy "wide" (.int w) []))))=fB w h l c d:=by kernel_rfl
def jO (x w:Int):Bool:=decide (0<=x)&&decide (x<w)
def Ja (H:Hp) (a:Addr):Prop:=∃m c j:Int,H a=some (.lst [.int m,.int c,.int j])
def Js (a:Addr) (H H':Hp):Prop:=∀b o,b≠a->H b=some o->H' b=some o
theorem Js.refl (a:Addr) (H:Hp):Js a H H:=λ_ _ _ e=>e
theorem Js.trans {H1 H2:Hp} (x:Js a H H1) (y:Js a H1 H2):Js a H H2:=λb o n e=>y b o n (x b o n e)
theorem jc.kp (x:jc H H'):Js a H H':=λb o _ e=>x b o e
theorem Js.upd (o:HO):Js a H (upd H a o):=λb u n e=>by rw[jl n];exact e
theorem Js.new {p:Addr} (x:Js a H H') (hp:H' p=none):Js a H (L2.upd H' p o):=λb u n e=>by
 have:=x b u n e;rw[jl (ji this hp)];exact this
theorem Ja.ne {p:Addr} (W:Ja H a) (hp:H p=none):a≠p:=by
 obtain⟨m,c,j,e⟩:=W;exact ji e hp
theorem Ja.new {p:Addr} (W:Ja H a) (hp:H p=none):Ja (L2.upd H p o) a:=by
 obtain⟨m,c,j,e⟩:=id W;exact#[m,c,j,jw (W.ne hp) e]
theorem Js.fresh {p:Addr} (k:Js a H H') (W:Ja H' a) (hp:H' p=none):H p=none:=by
 cases e:H p with
 | none=>rfl
 | some u=>rw[k p u (λz=>W.ne hp z.symm) e] at hp;cases hp
def hX:Sp:=λvs H Q _=>∃i:Int,vs=[.int i]/\Q (.bl true) H
theorem u8 (T:Txt K mg t):jR P w K mg base 1 "is_whole" ["value"] hX:=by
 refine T.bq.ok ["value"] ?_;rintro _ H Q E ⟨i,rfl,k⟩;refine#[rfl,λBk A outer s hr=>#[_,(jj (jB (UR (jT Uq (by rfl) T.JU JQ (ja (pv 0) (ja (U6 (v:=.ty "int") (by rfl) T.w5 wJ rfl) je))) (Vx (tG (jT Uq (by rfl) T.JU JQ (ja (pv 0) (ja (U6 (v:=.ty "bool") (by rfl) T.tq rO rfl) je)))))))),?_]];exact#[_,rfl,.int i,.ty "int",_,_,true,rfl,.int i,.ty _,by kernel_rfl,true,rfl,Ub #[_,rfl,.int i,.ty "bool",_,_,false,rfl,.int i,.ty _,by kernel_rfl,false,rfl,k]]
def mG:Sp:=λvs H Q _=>E2 λ(m most:Int)=>A4 (vs=[.int m,.int most]) (1<=m) (m<=most) (Q .non H)
theorem GR (T:Txt K mg t):jR P w K mg base 2 "need_measure" ["measure","most"] mG:=by
 refine T.G8.ok ["measure","most"] ?_;rintro _ H Q E ⟨m,most,rfl,l1,l2,q⟩;refine#[rfl,λBk A outer s hr=>#[_,(jj (jX (UU (JF (Jr (jm (u8 T) (ja (pv 0) je)))) (US (JF (nL vg vg jg (pv 0) (pv 1))))).pt (jj JX) jL)),?_]];exact#[_,rfl,m,rfl,_,rfl,JB #[_,rfl,1,m,rfl,rfl,_,rfl,JS (λ_=>#[_,rfl,m,most,rfl,rfl,_,rfl,JJ (λz=>of_decide_eq_false z l2) λ_=>q]) λz=>absurd l1 z]]
def qK (C:Addr):Sp:=λvs H Q _=>E5 λ(o dx:Addr) (w h l:Int)=>A6 (vs=[.ref o,.int w,.int h,.int l]) (H o=some (.ins C dx [])) (1<=w/\w<=12) (1<=h/\h<=12) (1<=l/\l<=3) (∀c d H',(∀b u,b≠o->H b=some u->H' b=some u)->H' o=some (.ins C dx (fB w h l c d))->H' c=some (.dT [])->H' d=some (.dT [])->H c=none->H d=none->c≠d->c≠o->d≠o->Q .non H')
theorem mi (T:Txt K mg t):Gc P w K mg base 3 "Board" t.jr ["self","wide","high","layers"] (qK t.jr):=by
 refine T.mQ.ok T.pX ["self","wide","high","layers"] ?_;rintro _ H Q E ⟨o,dx,w1,w2,w3,rfl,ho,g1,g2,g3,kQ⟩;refine#[rfl,λBk A outer s hr=>#[_,(jh (jE (jm (GR T) (ja (pv 1) (ja (vx (v:=.int 12) (by rfl) T.NK #[_,rfl]) je)))) (jh (jE (jm (GR T) (ja (pv 2) (ja (vx (v:=.int 12) (by rfl) T.NJ #[_,rfl]) je)))) (jh (jE (jm (GR T) (ja (pv 3) (ja (vx (v:=.int 3) (by rfl) T.me #[_,rfl]) je)))) (jh (uC (pv 0) (pv 1) rfl) (jh (uC (pv 0) (pv 2) rfl) (jh (uC (pv 0) (pv 3) rfl) (jh (uC (pv 0) UY rfl) (jj (uC (pv 0) UY rfl))))))))),?_]];refine#[_,rfl,w1,12,rfl,g1.1,g1.2,_,rfl,w2,12,rfl,g2.1,g2.2,_,rfl,w3,3,rfl,g3.1,g3.2,?_];refine#[_,rfl,_,rfl,o,_,dx,_,rfl,ho,T.jI,T.zR,(by decide),?_];refine#[_,rfl,_,rfl,o,_,dx,_,rfl,jb,T.jI,T.zQ,Qh (by kernel_rfl),?_];refine#[_,rfl,_,rfl,o,_,dx,_,rfl,jb,T.jI,T.Ui,Qh (by kernel_rfl),?_];intro c hc;have Ec:c≠o:=λz=>by rw[z,jb] at hc;cases hc
 have Hc:H c=none:=by rw[jl Ec,jl Ec,jl Ec] at hc;exact hc
 refine#[_,rfl,o,_,dx,_,rfl,jw (yP Ec) jb,T.jI,T.Jp,Qh (by kernel_rfl),?_];intro d hd;have Dc:d≠o:=λz=>by rw[z,jb] at hd;cases hd
 have OJ:d≠c:=λz=>by rw[z,jl Ec,jb] at hd;cases hd
 have Hd:H d=none:=by rw[jl Dc,jl OJ,jl Dc,jl Dc,jl Dc] at hd;exact hd
 refine#[_,rfl,o,_,dx,_,rfl,jw (yP Dc) jb,T.jI,T.ug,Qh (by kernel_rfl),?_];refine kQ c d _ (λb u hb e=>?_) ?_ ?_ ?_ Hc Hd (yP OJ) Ec Dc
 ·rw[jl hb,jl (ji e Hd),jl hb,jl (ji e Hc),jl hb,jl hb,jl hb];exact e
 ·rw[jb,rY]
 ·rw[jl Ec,jl (yP OJ),jl Ec];exact jb
 ·rw[jl Dc];exact jb
theorem xf:(10:Int)^(40:Int).toNat=10000000000000000000000000000000000000000:=by decide
def hW:Sp:=λvs H Q _=>∃n:Int,vs=[.int n]/\Q (.bl (decide (n<10000000000000000000000000000000000000000/\-10000000000000000000000000000000000000000<n))) H
theorem NQ (T:Txt K mg t):jR P w K mg base 1 "is_short" ["number"] hW:=by
 refine T.bp.ok ["number"] ?_;rintro _ H Q E ⟨n,rfl,q⟩;refine#[rfl,λBk A outer s hr=>#[_,(jj (jB (kJ Uj (jT iM (by rfl) T.wY wG (ja (pv 0) je)) (ju fP jg jg)))),?_]];refine#[_,rfl,n,rfl,10,40,rfl,rfl,#[by decide,by decide,by decide],_,_,rfl,rfl,?_];have e:decide (n<10000000000000000000000000000000000000000/\-10000000000000000000000000000000000000000<n)=decide ((if n<0 then -n else n)<(10:Int)^(40:Int).toNat):=by
  rw[xf];refine decide_eq_decide.mpr ?_
  split<;>omega
 rw[e] at q;exact q
def tU (K:AQ):Sp:=λvs H Q _=>E3 λ(a:Addr) (ns:List Int) (k:Int)=>A6 (vs=[.ref a,.int k]) (jo K H a (ns.map V.int)) (0<=k) (k<1000) (ns.length<=63) (Q (.int (ns.getD k.toNat 0)) H)
theorem NR (T:Txt K mg t):jR P w K mg base 1 "_law_cell" ["_law_script","_law_k"] (tU K):=by
 refine T.bu.ok ["_law_script","_law_k"] ?_;rintro _ H Q E ⟨a,ns,k,rfl,hq,h0,h1,hl,q⟩;refine#[rfl,λBk A outer s hr=>#[_,(jh (jX (jQ Uj (pv 1) (jT Ur (by rfl) T.GN Gg (ja (pv 0) je))) (jj (jB (jt jU (pv 0) (pv 1)))) jL) (jj (jB jg))),?_]];refine#[_,rfl,_,rfl,a,_,rfl,.inl hq,k,_,rfl,rfl,_,rfl,JS (λBj=>?_) λLo=>?_]
 ·rw[yb] at Bj;have e:((k.toNat:Nat):Int)=k:=by omega
  refine#[_,rfl,_,rfl,a,_,k,.int (ns.getD k.toNat 0),rfl,rfl,hq,?_,q];have Cu:k.toNat<ns.length:=by omega
  have hz:(ns.map V.int)[k.toNat]?=some (V.int (ns.getD k.toNat 0)):=by
   rw[yj,yu,yc Cu];rfl
  have M':=vp hz;rwa [e] at M'
 ·rw[yb] at Lo;have e:ns.getD k.toNat 0=0:=by rw[yu,List.getElem?_eq_none (by omega)];rfl
  rw[e] at q;exact q
def pq:Sp:=λvs H Q _=>E2 λc k=>vs=[.int c,.int k]/\∀r,0<=r->r<2147483647->Q (.int r) H
theorem nh (T:Txt K mg t):jR P w K mg base 1 "_law_mixed" ["_law_cell_here","_law_k"] pq:=by
 refine T.Nn.ok ["_law_cell_here","_law_k","_law_number"] ?_;rintro _ H Q E ⟨c,k,rfl,q⟩;refine#[rfl,λBk A outer s hr=>#[_,(jh (jz 2 (ju vD (ju UQ (ju jP (ju jP (pv 0) (ju UQ jg (pv 1))) jg) jg) jg)) (jj (jB (ju vD (ju UQ (pv 2) (ju jP (ju Vh (pv 2) jg) jg)) jg)))),?_]];refine#[_,rfl,_,rfl,7919,k,rfl,rfl,.inl #[by decide,by decide],_,_,rfl,rfl,_,_,rfl,rfl,_,48271,rfl,rfl,.inr #[by decide,by decide],_,_,rfl,rfl,(by show (0:Int)<2147483647;decide),?_];have h0:0<=(c+7919*k+1)*48271 % 2147483647:=Q4 _ (by decide);have h1:(c+7919*k+1)*48271 % 2147483647<2147483647:=QX _ (by decide);obtain⟨n,hn⟩:∃n,n=(c+7919*k+1)*48271 % 2147483647:=#[_,rfl];rw[<-hn] at h0 h1;refine#[_,rfl,_,rfl,n,1009,congrArg V.int hn.symm,rfl,#[by decide,by decide],_,_,rfl,rfl,n,_,congrArg V.int hn.symm,rfl,.inl #[by omega,by omega],_,_,rfl,rfl,(by show (0:Int)<2147483647;decide),?_];exact q _ (Q4 _ (by decide)) (QX _ (by decide))
theorem nq (T:Txt K mg t):jR P w K mg base 2 "_law_twice" ["_law_cell_here","_law_k"] pq:=by
 refine T.Nq.ok ["_law_cell_here","_law_k","_law_number"] ?_;rintro _ H Q E ⟨c,k,rfl,q⟩;refine#[rfl,λBk A outer s hr=>#[_,(jh (jz 2 (ju vD (ju UQ (ju jP (ju jP (jm (nh T) (ja (pv 0) (ja (pv 1) je))) (ju UQ jg (pv 1))) jg) jg) jg)) (jj (jB (ju vD (ju UQ (pv 2) (ju jP (ju Vh (pv 2) jg) jg)) jg)))),?_]];refine#[_,rfl,_,rfl,c,k,rfl,λr BS FY=>?_];refine#[_,rfl,104729,k,rfl,rfl,.inl #[by decide,by decide],r,_,rfl,rfl,_,_,rfl,rfl,_,69621,rfl,rfl,.inr #[by decide,by decide],_,_,rfl,rfl,(by show (0:Int)<2147483647;decide),?_];have h0:0<=(r+104729*k+11)*69621 % 2147483647:=Q4 _ (by decide);have h1:(r+104729*k+11)*69621 % 2147483647<2147483647:=QX _ (by decide);obtain⟨n,hn⟩:∃n,n=(r+104729*k+11)*69621 % 2147483647:=#[_,rfl];rw[<-hn] at h0 h1;refine#[_,rfl,_,rfl,n,1013,congrArg V.int hn.symm,rfl,#[by decide,by decide],_,_,rfl,rfl,n,_,congrArg V.int hn.symm,rfl,.inl #[by omega,by omega],_,_,rfl,rfl,(by show (0:Int)<2147483647;decide),?_];exact q _ (Q4 _ (by decide)) (QX _ (by decide))
def t9 (K:AQ):Sp:=λvs H Q _=>E3 λ(a:Addr) (ns:List Int) (k:Int)=>A6 (vs=[.ref a,.int k]) (jo K H a (ns.map V.int)) (0<=k) (k<1000) (ns.length<=63) (∀p m c,H p=none->Q (.ref p) (upd H p (.lst [.int m,.int c,.int 0])))
theorem gq (T:Txt K mg t):jR P w K mg base 2 "_law_well" ["_law_script","_law_k"] (t9 K):=by
 refine T.bG.ok ["_law_script","_law_k"] ?_;rintro _ H Q E ⟨a,ns,k,rfl,hq,h0,h1,hl,q⟩;refine#[rfl,λBk A outer s hr=>#[_,(jj (jB (j5 (ja (ju vD (jm (NR T) (ja (pv 0) (ja jg je))) jg) (ja (jm (NR T) (ja (pv 0) (ja (pv 1) je))) (ja jg je)))))),?_]];refine#[_,rfl,a,ns,0,rfl,hq,by decide,by decide,hl,_,2,rfl,rfl,(by show (0:Int)<2;decide),_,rfl,_,rfl,a,ns,k,rfl,hq,h0,h1,hl,(by show 3<=sizeLine;decide),λp hp=>q p _ _ hp]
def tV:Sp:=λvs H Q _=>E2 λa n=>A5 (vs=[.ref a,.int n]) (Ja H a) (0<n) (n<1073741824) (∀r H',0<=r->r<n->Ja H' a->Js a H H'->Q (.int r) H')
theorem UP (T:Txt K mg t):jR P w K mg base 3 "_law_draw" ["_law_well_here","_law_most"] tV:=by
 refine T.bz.ok ["_law_well_here","_law_most","_law_number"] ?_;rintro _ H Q E ⟨a,n,rfl,⟨m,c,j,hw⟩,hn,ET,q⟩;refine#[rfl,λBk A outer s hr=>#[_,(jh (jX (jQ GT (jt jU (pv 0) jg) jg) (jh (jz 2 (ju vD (jt jU (pv 0) jg) (pv 1))) (jh (GX (ju Vh (jt jU (pv 0) jg) (pv 1)) (nF (pv 0) jg gY)) (jj (jB (pv 2))))) jL) (jh (GX (ju jP (jt jU (pv 0) jg) jg) (nF (pv 0) jg gY)) (jj (jB (ju vD (jm (nq T) (ja (jt jU (pv 0) jg) (ja (jt jU (pv 0) jg) je))) (pv 1)))))),?_]];have S:jo K H a [.int m,.int c,.int j]:=jo.of hw;refine#[_,rfl,a,_,0,.int m,rfl,rfl,S,rfl,rfl,_,rfl,JS (λ_=>?_) λ_=>?_]
 ·refine#[_,rfl,a,_,1,.int c,rfl,rfl,S,rfl,_,rfl,c,n,rfl,rfl,hn,?_];refine#[_,rfl,a,_,1,.int c,rfl,rfl,S,rfl,_,rfl,c,n,rfl,rfl,#[hn,ET],_,rfl,a,_,1,1,rfl,rfl,hw,rfl,?_];exact#[_,rfl,q _ _ (Q4 _ (by omega)) (QX _ hn) #[m,c / n,j,jb] (Js.upd _)]
 ·refine#[_,rfl,a,_,2,.int j,rfl,rfl,S,rfl,j,1,rfl,rfl,_,rfl,a,_,2,2,rfl,rfl,hw,rfl,?_];have S2:jo K (upd H a (.lst [.int m,.int c,.int (j+1)])) a [.int m,.int c,.int (j+1)]:=jo.of jb;refine#[_,rfl,a,_,1,.int c,rfl,rfl,S2,rfl,_,rfl,a,_,2,.int (j+1),rfl,rfl,S2,rfl,c,j+1,rfl,λr h0 h1=>?_];exact#[_,rfl,r,n,rfl,rfl,hn,q _ _ (Q4 _ (by omega)) (QX _ hn) #[m,c,j+1,jb] (Js.upd _)]
variable {P:Be}{w:World}{K:AQ}{mg:AT}{base:Heap}{t:Adr}
def NZ (C:Addr):Sp:=λvs H Q _=>E9 λ(o dx c d:Addr) (w h l x y:Int)=>A3 (vs=[.ref o,.int x,.int y]) (H o=some (.ins C dx (fB w h l c d))) (Q (.bl (jO x w&&jO y h)) H)
theorem Uc (T:Txt K mg t):uI P w K mg base 2 t.jr "has_square" ["self","x","y"] (NZ t.jr):=by
 refine T.zZ.ok T.jI ["self","x","y"] ?_;rintro _ H Q E ⟨o,dx,c,d,w,h,l,x,y,rfl,ho,q⟩;refine#[rfl,λBk A outer s hr=>#[_,(jj (jB (UR (jm (u8 T) (ja (pv 1) je)) (UR (jm (u8 T) (ja (pv 2) je)) (UR (Vw vg Uj jg (pv 1) (Jd (pv 0))) (Vx (Vw vg Uj jg (pv 2) (Jd (pv 0))))))))),?_]];refine#[_,rfl,x,rfl,true,rfl,Ub #[_,rfl,y,rfl,true,rfl,Ub ?_]];have fin:∀b:Bool,(jO x w&&jO y h)=b->Q (.bl b) H:=λb e=>e▸q;refine#[_,rfl,0,x,rfl,rfl,_,rfl,JS (λh1=>#[_,rfl,o,_,dx,_,.int w,rfl,ho,T.jI,T.zR,rfl,x,w,rfl,rfl,_,rfl,JS (λh2=>?_) λh2=>fin _ (by simp [jO,h2])]) λh1=>#[_,rfl,JB (fin _ (by simp [jO,h1]))]];refine#[_,rfl,0,y,rfl,rfl,_,rfl,JS (λh3=>#[_,rfl,o,_,dx,_,.int h,rfl,ho,T.jI,T.zQ,rfl,y,h,rfl,rfl,fin _ (by simp [jO,h1,h2,h3])]) λh3=>fin _ (by simp [jO,h3])]
def cZ (C:Addr):Sp:=λvs H Q _=>E8 λ(o dx c d:Addr) (w h l z:Int)=>A3 (vs=[.ref o,.int z]) (H o=some (.ins C dx (fB w h l c d))) (Q (.bl (jO z l)) H)
theorem Zu (T:Txt K mg t):uI P w K mg base 2 t.jr "has_layer" ["self","z"] (cZ t.jr):=by
 refine T.ZX.ok T.jI ["self","z"] ?_;rintro _ H Q E ⟨o,dx,c,d,w,h,l,z,rfl,ho,q⟩;refine#[rfl,λBk A outer s hr=>#[_,(jj (jB (UR (jm (u8 T) (ja (pv 1) je)) (Vx (Vw vg Uj jg (pv 1) (Jd (pv 0))))))),?_]];have fin:∀b:Bool,jO z l=b->Q (.bl b) H:=λb e=>e▸q;refine#[_,rfl,z,rfl,true,rfl,Ub ?_];refine#[_,rfl,0,z,rfl,rfl,_,rfl,JS (λh1=>#[_,rfl,o,_,dx,_,.int l,rfl,ho,T.jI,T.Ui,rfl,z,l,rfl,rfl,fin _ (by simp [jO,h1])]) λh1=>fin _ (by simp [jO,h1])]
def hU (C:Addr):Sp:=λvs H Q _=>N7 λ(o dx c d p:Addr) (w h l x y z:Int)=>A4 (vs=[.ref o,.ref p]) (H o=some (.ins C dx (fB w h l c d))) (H p=some (.tup [.int x,.int y,.int z])) (Q (.bl (jO x w&&jO y h&&jO z l)) H)
theorem vU (T:Txt K mg t):uI P w K mg base 3 t.jr "has_cell" ["self","cell"] (hU t.jr):=by
 refine T.gw.ok T.jI ["self","cell"] ?_;rintro _ H Q E ⟨o,dx,c,d,p,w,h,l,x,y,z,rfl,ho,hp,q⟩;refine#[rfl,λBk A outer s hr=>#[_,(jh (jX (UU (JF (Jr (jT Uq (by rfl) T.JU JQ (ja (pv 1) (ja (U6 (v:=.ty "tuple") (by rfl) T.Vg Ve rfl) je))))) (US (jQ mM (jT Ur (by rfl) T.GN Gg (ja (pv 1) je)) jg))).pt (jj (jB Uk)) jL) (jj (jB (UR (Jf (pv 0) (Uc T) (ja (jt jy (pv 1) jg) (ja (jt jy (pv 1) jg) je))) (Vx (Jf (pv 0) (Zu T) (ja (jt jy (pv 1) jg) je))))))),?_]];have S:jD K H p [.int x,.int y,.int z]:=jD.of hp;refine#[_,rfl,.ref p,.ty "tuple",_,_,true,rfl,.tup hp,.ty _,by kernel_rfl,true,rfl,JB ?_];refine#[_,rfl,p,_,rfl,.inr S,rfl,_,rfl,JJ (λz=>absurd (of_decide_eq_false z rfl) (λz=>z)) λ_=>?_];have fin:∀b:Bool,(jO x w&&jO y h&&jO z l)=b->Q (.bl b) H:=λb e=>e▸q;refine#[_,rfl,o,dx,_,rfl,ho,rfl,_,rfl,p,_,0,.int x,rfl,rfl,S,rfl,_,rfl,p,_,1,.int y,rfl,rfl,S,rfl,o,dx,c,d,w,h,l,x,y,rfl,ho,_,rfl,?_];cases h1:(jO x w&&jO y h) with
 | false=>exact JB (fin _ (by rw[h1];rfl))
 | true=>exact Ub #[_,rfl,o,dx,_,rfl,ho,rfl,_,rfl,p,_,2,.int z,rfl,rfl,S,rfl,o,dx,c,d,w,h,l,z,rfl,ho,fin _ (by rw[h1];rfl)]
def c4 (C:Addr):Sp:=λvs H Q _=>N7 λ(o dx c d:Addr) (w h l x y z:Int) (cs:jG)=>A4 (vs=[.ref o,.int x,.int y,.int z]) (H o=some (.ins C dx (fB w h l c d))) (H c=some (.dT cs)) (∀H',jc H H'->Q (.bl (jO x w&&jO y h&&jO z l&&(jM cs [.inl x,.inl y,.inl z]).isSome)) H')
theorem Zv (T:Txt K mg t):uI P w K mg base 4 t.jr "is_copper" ["self","x","y","z"] (c4 t.jr):=by
 refine T.ZY.ok T.jI ["self","x","y","z"] ?_;rintro _ H Q E ⟨o,dx,c,d,w,h,l,x,y,z,cs,rfl,ho,hc,q⟩;refine#[rfl,λBk A outer s hr=>#[_,(jj (jB (UR (Jf (pv 0) (vU T) (ja (jJ (ja (pv 1) (ja (pv 2) (ja (pv 3) je)))) je)) (Vx (ny (Vv (jJ (ja (pv 1) (ja (pv 2) (ja (pv 3) je)))) (Jd (pv 0)))))))),?_]];refine#[_,rfl,o,dx,_,rfl,ho,rfl,_,rfl,_,rfl,_,rfl,(by show 3<=sizeLine;decide),λp hp=>?_];have s1:jc H (upd H p (.tup [.int x,.int y,.int z])):=jk (jc.refl H) hp;refine#[o,dx,c,d,p,w,h,l,x,y,z,rfl,s1 _ _ ho,jb,_,rfl,?_];cases h1:(jO x w&&jO y h&&jO z l) with
 | false=>exact JB (by have:=q _ s1;rw[h1] at this;exact this)
 | true =>
  refine Ub #[_,rfl,_,rfl,_,rfl,(by show 3<=sizeLine;decide),λp2 BV=>?_];have s2:=jk (o:=.tup [.int x,.int y,.int z]) s1 BV;refine#[_,rfl,o,_,dx,_,.ref c,rfl,s2 _ _ ho,T.jI,T.Jp,rfl,c,_,rfl,JN.t (k:=[.inl x,.inl y,.inl z]) (s2 _ _ hc) jb,?_];have:=q _ s2;rw[h1,QI] at this;exact this
def hV (C:Addr):Sp:=λvs H Q _=>Z7 λ(o dx c d:Addr) (w h l x y:Int) (ds:jG)=>A4 (vs=[.ref o,.int x,.int y]) (H o=some (.ins C dx (fB w h l c d))) (H d=some (.dT ds)) (∀H',jc H H'->Q (.bl (jO x w&&jO y h&&(jM ds [.inl x,.inl y]).isSome)) H')
theorem Z3 (T:Txt K mg t):uI P w K mg base 3 t.jr "has_hole" ["self","x","y"] (hV t.jr):=by
 refine T.gx.ok T.jI ["self","x","y"] ?_;rintro _ H Q E ⟨o,dx,c,d,w,h,l,x,y,ds,rfl,ho,hd,q⟩;refine#[rfl,λBk A outer s hr=>#[_,(jj (jB (UR (Jf (pv 0) (Uc T) (ja (pv 1) (ja (pv 2) je))) (Vx (ny (Vv (jJ (ja (pv 1) (ja (pv 2) je))) (Jd (pv 0)))))))),?_]];refine#[_,rfl,o,dx,_,rfl,ho,rfl,_,rfl,_,rfl,o,dx,c,d,w,h,l,x,y,rfl,ho,_,rfl,?_];cases h1:(jO x w&&jO y h) with
 | false=>exact JB (by have:=q _ (jc.refl H);rw[h1] at this;exact this)
 | true =>
  refine Ub #[_,rfl,_,rfl,(by show 2<=sizeLine;decide),λp2 BV=>?_];have s2:=jk (o:=.tup [.int x,.int y]) (jc.refl H) BV;refine#[_,rfl,o,_,dx,_,.ref d,rfl,s2 _ _ ho,T.jI,T.ug,rfl,d,_,rfl,JN.t (k:=[.inl x,.inl y]) (s2 _ _ hd) jb,?_];have:=q _ s2;rw[h1,QI] at this;exact this
variable {P:Be}{w:World}{K:AQ}{mg:AT}{base:Heap}{t:Adr}
theorem uD:bootBuiltins "sorted"=some (.builtin "sorted"):=by decide +kernel
def jp (H:Hp) (ps:AX) (cl:AR):Prop:=ps.length=cl.length/\∀(i:Nat) (p:Addr) (c:Int×Int×Int),ps[i]?=some p->cl[i]?=some c->H p=some (.tup [.int c.1,.int c.2.1,.int c.2.2])
theorem jp.same {ps:AX}{cl:AR} (C:jp H ps cl) (s:jc H H'):jp H' ps cl:=#[C.1,λi p c h1 h2=>s _ _ (C.2 i p c h1 h2)]
def k3 (c:Int×Int×Int):List Key:=[.inl c.1,.inl c.2.1,.inl c.2.2]
def JY (cs:jG) (cl:AR):jG:=cl.foldl (λt c=>j4 t (k3 c) (.bl true)) cs
theorem cT (cl:AR):∀cs:jG,(JY cs cl).length<=cs.length+cl.length:=by
 induction cl with
 | nil=>intro cs;exact yg _
 | cons c r ih =>
  intro cs;have h1:=ih (j4 cs (k3 c) (.bl true));have h2:=u6 cs (k3 c) (.bl true);show (JY (j4 cs (k3 c) (.bl true)) r).length<=_;rw[yU];omega
theorem gs (cs:jG) (cl:AR) (c:Int×Int×Int):JY cs (cl++[c])=j4 (JY cs cl) (k3 c) (.bl true):=by
 unfold JY;rw[List.foldl_append];rfl
def onB (w h l:Int) (c:Int×Int×Int):Bool:=jO c.1 w&&jO c.2.1 h&&jO c.2.2 l
def nY (C:Addr):Sp:=λvs H Q _=>E9 λ(o dx c d:Addr) (w h l x y:Int)=>A4 (vs=[.ref o,.int x,.int y]) (H o=some (.ins C dx (fB w h l c d))) ((jO x w&&jO y h)=true) (Q .non H)
theorem vf (T:Txt K mg t):uI P w K mg base 3 t.jr "need_square" ["self","x","y"] (nY t.jr):=by
 refine T.zW.ok T.jI ["self","x","y"] ?_;rintro _ H Q E ⟨o,dx,c,d,w,h,l,x,y,rfl,ho,hb,q⟩;refine#[rfl,λBk A outer s hr=>#[_,(jj (jX (JF (Jr (Jf (pv 0) (Uc T) (ja (pv 1) (ja (pv 2) je))))) (jj JX) jL)),?_]];exact#[_,rfl,o,dx,_,rfl,ho,rfl,_,rfl,_,rfl,o,dx,c,d,w,h,l,x,y,rfl,ho,_,rfl,JJ (λhf=>by rw[hb] at hf;cases hf) λ_=>q]
def ia (C:Addr):Sp:=λvs H Q _=>Z7 λ(o dx c d a:Addr) (ps:AX) (cl:AR) (w h l:Int)=>A6 (vs=[.ref o,.ref a]) (H o=some (.ins C dx (fB w h l c d))) (H a=some (.lst (ps.map V.ref))) (jp H ps cl) (cl.all (onB w h l)=true) (Q .non H)
theorem vj (T:Txt K mg t):uI P w K mg base 4 t.jr "need_cells" ["self","cells"] (ia t.jr):=by
 refine T.z4.ok T.jI ["self","cells","cell"] ?_;rintro _ H Q E ⟨o,dx,c,d,a,ps,cl,w,h,l,rfl,ho,ha,hp,hb,q⟩;refine#[rfl,λBk A outer s hr=>#[_,(jj (jS jH (jN (pv 1)) (js 2) (jj (jX (JF (Jr (Jf (pv 0) (vU T) (ja (pv 2) je)))) (jj JX) jL)))),?_]];refine#[_,rfl,a,rfl,#[_,jo.of ha],jY (xs:=ps.map V.ref) (λi σ H2=>∃v,σ=[oR o,oR a,v]/\H2=H) #[_,rfl,rfl] (λi σ H2 _ #[_,_,e]=>by rw[e];exact jo.of ha) ?_ ?_]
 ·rintro i v σ H2 hx ⟨u,rfl,rfl⟩;rw[yj] at hx;obtain⟨p,e1,rfl⟩:=yl.mp hx;have hi:i<cl.length:=by rw[<-hp.1];exact (yi.mp e1).1
  have on:onB w h l cl[i]=true:=Qx.mp hb _ (yY hi);exact#[_,rfl,o,dx,_,rfl,ho,rfl,_,rfl,o,dx,c,d,p,w,h,l,cl[i].1,cl[i].2.1,cl[i].2.2,rfl,ho,hp.2 i p _ e1 (yc hi),_,rfl,JJ (λhf=>by unfold onB at on;rw[on] at hf;cases hf) λ_=>#[_,rfl,rfl]]
 ·rintro σ H2 ⟨u,rfl,rfl⟩;exact q
def t5 (C:Addr):Sp:=λvs H Q _=>N7 λ(o dx c d a:Addr) (ps:AX) (cl:AR) (w h l:Int) (cs:jG)=>A8 (vs=[.ref o,.ref a]) (H o=some (.ins C dx (fB w h l c d))) (H a=some (.lst (ps.map V.ref))) (jp H ps cl) (H c=some (.dT cs)) (cs.length+cl.length<=1000) (cl.all (onB w h l)=true) (Q .non (upd H c (.dT (JY cs cl))))
theorem Zw (T:Txt K mg t):uI P w K mg base 5 t.jr "put" ["self","cells"] (t5 t.jr):=by
 refine T.Nh.ok T.jI ["self","cells","cell"] ?_;rintro _ H Q E ⟨o,dx,c,d,a,ps,cl,w,h,l,cs,rfl,ho,ha,hp,hc,hl,hb,q⟩;refine#[rfl,λBk A outer s hr=>#[_,(jh (jE (Jf (pv 0) (vj T) (ja (pv 1) je))) (jj (jS jH (jN (pv 1)) (js 2) (jj (UA (Jd (pv 0)) (pv 2) Uk))))),?_]];refine#[_,rfl,o,dx,_,rfl,ho,rfl,_,rfl,o,dx,c,d,a,ps,cl,w,h,l,rfl,ho,ha,hp,hb,?_];have Ri:a≠c:=jq ha hc;have Rj:o≠c:=jq ho hc;refine#[_,rfl,a,rfl,#[_,jo.of ha],jY (xs:=ps.map V.ref) (λi σ H2=>∃v,σ=[some (.ref o),some (.ref a),v]/\H2=upd H c (.dT (JY cs (cl.take i)))) #[_,rfl,?_] (λi σ H2 _ #[_,_,e]=>?_) ?_ ?_]
 ·funext x;by_cases e:x=c
  ·rw[e,jb,hc];rfl
  ·rw[jl e]
 ·subst e;exact jo.of (jw Ri ha)
 ·rintro i v σ H2 hx ⟨u,rfl,rfl⟩;rw[yj] at hx;obtain⟨p,e1,rfl⟩:=yl.mp hx;have hi:i<cl.length:=by rw[<-hp.1];exact (yi.mp e1).1
  have e2:=yc hi;have e3:=hp.2 i p _ e1 e2;have Rk:p≠c:=jq e3 hc;have hlen:=cT (cl.take i) cs;rw[yO] at hlen;refine#[_,rfl,o,_,dx,_,.ref c,rfl,jw Rj ho,T.jI,T.Jp,rfl,_,rfl,c,_,rfl,vn.t (kvs:=JY cs (cl.take i)) (k:=k3 cl[i]) jb (jw Rk e3) (yL (show _<=1000 by omega) (by decide)),_,rfl,?_];funext x;rw[y7,e2,show (some cl[i]).toList=[cl[i]] from rfl,gs];by_cases e:x=c
  ·rw[e,jb,jb]
  ·rw[jl e,jl e,jl e]
 ·rintro σ H2 ⟨u,rfl,rfl⟩;rw[yb,hp.1,QK (yg _)];exact q
def vq (cs:jG) (cl:AR):jG:=cl.foldl (λt c=>uJ t (k3 c)) cs
theorem Mq (cs:jG) (cl:AR) (c:Int×Int×Int):vq cs (cl++[c])=uJ (vq cs cl) (k3 c):=by
 unfold vq;rw[List.foldl_append];rfl
def t8 (C:Addr):Sp:=λvs H Q _=>N7 λ(o dx c d a:Addr) (ps:AX) (cl:AR) (w h l:Int) (cs:jG)=>A7 (vs=[.ref o,.ref a]) (H o=some (.ins C dx (fB w h l c d))) (H a=some (.lst (ps.map V.ref))) (jp H ps cl) (H c=some (.dT cs)) (cl.all (onB w h l)=true) (Q .non (upd H c (.dT (vq cs cl))))
theorem mn (T:Txt K mg t):uI P w K mg base 5 t.jr "take" ["self","cells"] (t8 t.jr):=by
 refine T.mS.ok T.jI ["self","cells","cell"] ?_;rintro _ H Q E ⟨o,dx,c,d,a,ps,cl,w,h,l,cs,rfl,ho,ha,hp,hc,hb,q⟩;refine#[rfl,λBk A outer s hr=>#[_,(jh (jE (Jf (pv 0) (vj T) (ja (pv 1) je))) (jj (jS jH (jN (pv 1)) (js 2) (jj (jE (JO PySem.F.plainAttrs_dict PySem.F.slot_dict_pop PySem.F.type_dict_pop (aL hr.units) (Jd (pv 0)) (ja (pv 2) (ja nB je)))))))),?_]];refine#[_,rfl,o,dx,_,rfl,ho,rfl,_,rfl,o,dx,c,d,a,ps,cl,w,h,l,rfl,ho,ha,hp,hb,?_];have Ri:a≠c:=jq ha hc;have Rj:o≠c:=jq ho hc;refine#[_,rfl,a,rfl,#[_,jo.of ha],jY (xs:=ps.map V.ref) (λi σ H2=>∃v,σ=[some (.ref o),some (.ref a),v]/\H2=upd H c (.dT (vq cs (cl.take i)))) #[_,rfl,?_] (λi σ H2 _ #[_,_,e]=>?_) ?_ ?_]
 ·funext x;by_cases e:x=c
  ·rw[e,jb,hc];rfl
  ·rw[jl e]
 ·subst e;exact jo.of (jw Ri ha)
 ·rintro i v σ H2 hx ⟨u,rfl,rfl⟩;rw[yj] at hx;obtain⟨p,e1,rfl⟩:=yl.mp hx;have hi:i<cl.length:=by rw[<-hp.1];exact (yi.mp e1).1
  have e2:=yc hi;have e3:=hp.2 i p _ e1 e2;have Rk:p≠c:=jq e3 hc;refine#[_,rfl,o,_,dx,_,.ref c,rfl,jw Rj ho,T.jI,T.Jp,rfl,.inr (.inr (.inl #[rfl,.inr #[_,jb]])),_,rfl,c,p,vq cs (cl.take i),k3 cl[i],rfl,rfl,jb,jw Rk e3,λv=>#[_,rfl,?_]];funext x;rw[y7,e2,show (some cl[i]).toList=[cl[i]] from rfl,Mq];by_cases e:x=c
  ·rw[e,jb,jb]
  ·rw[jl e,jl e,jl e]
 ·rintro σ H2 ⟨u,rfl,rfl⟩;rw[yb,hp.1,QK (yg _)];exact q
def qM (C:Addr):Sp:=λvs H Q _=>Z7 λ(o dx c d:Addr) (w h l x y:Int) (ds:jG)=>A6 (vs=[.ref o,.int x,.int y]) (H o=some (.ins C dx (fB w h l c d))) (H d=some (.dT ds)) (ds.length<=1000) ((jO x w&&jO y h)=true) (∀p,H p=none->Q .non (upd (upd H p (.tup [.int x,.int y])) d (.dT (j4 ds [.inl x,.inl y] (.bl true)))))
theorem V5 (T:Txt K mg t):uI P w K mg base 4 t.jr "drill" ["self","x","y"] (qM t.jr):=by
 refine T.KR.ok T.jI ["self","x","y"] ?_;rintro _ H Q E ⟨o,dx,c,d,w,h,l,x,y,ds,rfl,ho,hd,hl,hb,q⟩;refine#[rfl,λBk A outer s hr=>#[_,(jh (jE (Jf (pv 0) (vf T) (ja (pv 1) (ja (pv 2) je)))) (jj (UA (Jd (pv 0)) (jJ (ja (pv 1) (ja (pv 2) je))) Uk))),?_]];refine#[_,rfl,o,dx,_,rfl,ho,rfl,_,rfl,_,rfl,o,dx,c,d,w,h,l,x,y,rfl,ho,hb,?_];refine#[_,rfl,o,_,dx,_,.ref d,rfl,ho,T.jI,T.ug,rfl,_,rfl,_,rfl,(by show 2<=sizeLine;decide),λp hp=>?_];have Rl:d≠p:=ji hd hp;exact#[d,_,rfl,vn.t (k:=[.inl x,.inl y]) (jw Rl hd) jb (yL hl (by decide)),q p hp]
def t4 (C:Addr):Sp:=λvs H Q _=>Z7 λ(o dx c d:Addr) (w h l x y:Int) (ds:jG)=>A5 (vs=[.ref o,.int x,.int y]) (H o=some (.ins C dx (fB w h l c d))) ((jO x w&&jO y h)=true) (H d=some (.dT ds)) (∀p,H p=none->Q .non (upd (upd H p (.tup [.int x,.int y])) d (.dT (uJ ds [.inl x,.inl y]))))
theorem mj (T:Txt K mg t):uI P w K mg base 4 t.jr "plug" ["self","x","y"] (t4 t.jr):=by
 refine T.mR.ok T.jI ["self","x","y"] ?_;rintro _ H Q E ⟨o,dx,c,d,w,h,l,x,y,ds,rfl,ho,hb,hd,q⟩;refine#[rfl,λBk A outer s hr=>#[_,(jh (jE (Jf (pv 0) (vf T) (ja (pv 1) (ja (pv 2) je)))) (jj (jE (JO PySem.F.plainAttrs_dict PySem.F.slot_dict_pop PySem.F.type_dict_pop (aL hr.units) (Jd (pv 0)) (ja (jJ (ja (pv 1) (ja (pv 2) je))) (ja nB je)))))),?_]];refine#[_,rfl,o,dx,_,rfl,ho,rfl,_,rfl,_,rfl,o,dx,c,d,w,h,l,x,y,rfl,ho,hb,?_];refine#[_,rfl,o,_,dx,_,.ref d,rfl,ho,T.jI,T.ug,rfl,.inr (.inr (.inl #[rfl,.inr #[_,hd]])),_,rfl,_,rfl,(by show 2<=sizeLine;decide),λp hp=>?_];have Rl:d≠p:=ji hd hp;exact#[d,p,ds,[.inl x,.inl y],rfl,rfl,jw Rl hd,jb,λv=>q p hp]
end K33
namespace K33
open PySem L2 TS
variable {D p C o dx d r fa ru:Addr}{σ:St}{H H1:Hp}{i h l y n g rm L:Nat}{Q:VK}{ps qs as:AX}{cl:AR}{c s:jf}{ys Ls xs:List V}{cs ds u u' hv:jG}{k:List Key}{e:Int×Int×Int}{ks:List K5}{tc:TT}{te:TE}{N:jf->List jf}{BI:List (List jf)}{rs hk:List jf}{pl hl:AS}{f:jf->jf->Bool}{cop:jf->Bool}
variable {P:Be}{w:World}{K:AQ}{mg:AT}{base:Heap}{t:Adr}
def qL (C:Addr):Sp:=λvs H Q _=>E8 λ(o dx c d:Addr) (w h l:Int) (cs:jG)=>A5 (vs=[.ref o,.non]) (H o=some (.ins C dx (fB w h l c d))) (H c=some (.dT cs)) (∀kv∈cs,sd kv.1=[true,true,true]) (∀p bs ks,H p=none->Ug H bs ks->ks.Perm (cs.map (·.1))->(ks.Pairwise λa b=>lx b a=false)->Q (.ref p) (upd H p (.lst (bs.map V.ref))))
theorem Uz (T:Txt K mg t):m7 P w K mg base 1 t.jr "cells" ["self","z"] (qL t.jr):=by
 refine T.KQ.okN T.jI ["self","z"] ?_;rintro _ H Q E ⟨o,dx,c,d,w,h,l,cs,rfl,ho,hc,hs,q⟩;refine#[rfl,λBk A outer s hr=>#[_,(jh (jX (uh (tF (pv 1))) (jj (jB (jT (Us rfl) (by rfl) T.uG uD (ja (Jd (pv 0)) je)))) jL) (jh JX (jj JX))),?_]];exact#[_,rfl,_,rfl,Ub #[_,rfl,o,_,dx,_,.ref c,rfl,ho,T.jI,T.Jp,rfl,c,cs,_,rfl,hc,hs,by decide,λp bs ks hp ka pm up=>q p bs ks hp ka pm up]]
def qO (C:Addr):Sp:=λvs H Q _=>E8 λ(o dx c d:Addr) (w h l:Int) (ds:jG)=>A5 (vs=[.ref o]) (H o=some (.ins C dx (fB w h l c d))) (H d=some (.dT ds)) (∀kv∈ds,sd kv.1=[true,true]) (∀p bs ks,H p=none->Ug H bs ks->ks.Perm (ds.map (·.1))->(ks.Pairwise λa b=>lx b a=false)->Q (.ref p) (upd H p (.lst (bs.map V.ref))))
theorem V6 (T:Txt K mg t):uI P w K mg base 1 t.jr "holes" ["self"] (qO t.jr):=by
 refine T.KS.ok T.jI ["self"] ?_;rintro _ H Q E ⟨o,dx,c,d,w,h,l,ds,rfl,ho,hc,hs,q⟩;refine#[rfl,λBk A outer s hr=>#[_,(jj (jB (jT (Us rfl) (by rfl) T.uG uD (ja (Jd (pv 0)) je)))),?_]];exact#[_,rfl,o,_,dx,_,.ref d,rfl,ho,T.jI,T.ug,rfl,d,ds,_,rfl,hc,hs,by decide,λp bs ks hp ka pm up=>q p bs ks hp ka pm up]
def vd (cs:jG) (w h l:Int) (c:Int×Int×Int):Bool:=onB w h l c&&(jM cs (k3 c)).isSome
def UI (c:Int×Int×Int):List (Int×Int×Int):=[(c.1 - 1,c.2.1,c.2.2),(c.1+1,c.2.1,c.2.2),(c.1,c.2.1 - 1,c.2.2),(c.1,c.2.1+1,c.2.2)]
def lY:Sp:=λvs H Q _=>E4 λ(p:Addr) (x y z:Int)=>A3 (vs=[.ref p]) (H p=some (.tup [.int x,.int y,.int z])) (∀D ps H',jc H H'->H D=none->H' D=some (.lst (ps.map V.ref))->jp H' ps (UI (x,y,z))->Q (.ref D) H')
theorem fE (T:Txt K mg t):jR P w K mg base 1 "beside" ["cell"] lY:=by
 refine T.iB.ok ["cell","x","y","z"] ?_;rintro _ H Q E ⟨p,x,y,z,rfl,hp,q⟩;refine#[rfl,λBk A outer s hr=>#[_,(jh (jz 1 (jt jy (pv 0) jg)) (jh (jz 2 (jt jy (pv 0) jg)) (jh (jz 3 (jt jy (pv 0) jg)) (jj (jB (j5 (ja (jJ (ja (ju uA (pv 1) jg) (ja (pv 2) (ja (pv 3) je)))) (ja (jJ (ja (ju jP (pv 1) jg) (ja (pv 2) (ja (pv 3) je)))) (ja (jJ (ja (pv 1) (ja (ju uA (pv 2) jg) (ja (pv 3) je)))) (ja (jJ (ja (pv 1) (ja (ju jP (pv 2) jg) (ja (pv 3) je)))) je)))))))))),?_]];have S:jD K H p [.int x,.int y,.int z]:=jD.of hp;refine#[_,rfl,p,_,0,.int x,rfl,rfl,S,rfl,_,rfl,p,_,1,.int y,rfl,rfl,S,rfl,_,rfl,p,_,2,.int z,rfl,rfl,S,rfl,?_];refine#[_,rfl,x,1,rfl,rfl,_,rfl,_,rfl,(by show 3<=sizeLine;decide),λp1 h1=>?_];have s1:=jk (o:=.tup [.int (x - 1),.int y,.int z]) (jc.refl H) h1;have e1:upd H p1 (.tup [.int (x - 1),.int y,.int z]) p1=some (.tup [.int (x - 1),.int y,.int z]):=jb;generalize upd H p1 (.tup [.int (x - 1),.int y,.int z])=H1 at s1 e1 ⊢;refine#[_,rfl,x,1,rfl,rfl,_,rfl,_,rfl,(by show 3<=sizeLine;decide),λp2 h2=>?_];have s2:=jk (o:=.tup [.int (x+1),.int y,.int z]) (jc.refl H1) h2;have e2:upd H1 p2 (.tup [.int (x+1),.int y,.int z]) p2=some (.tup [.int (x+1),.int y,.int z]):=jb;generalize upd H1 p2 (.tup [.int (x+1),.int y,.int z])=H2 at s2 e2 ⊢;refine#[_,rfl,_,rfl,y,1,rfl,rfl,_,rfl,(by show 3<=sizeLine;decide),λp3 h3=>?_];have s3:=jk (o:=.tup [.int x,.int (y - 1),.int z]) (jc.refl H2) h3;have e3:upd H2 p3 (.tup [.int x,.int (y - 1),.int z]) p3=some (.tup [.int x,.int (y - 1),.int z]):=jb;generalize upd H2 p3 (.tup [.int x,.int (y - 1),.int z])=H3 at s3 e3 ⊢;refine#[_,rfl,_,rfl,y,1,rfl,rfl,_,rfl,(by show 3<=sizeLine;decide),λp4 h4=>?_];have s4:=jk (o:=.tup [.int x,.int (y+1),.int z]) (jc.refl H3) h4;have e4:upd H3 p4 (.tup [.int x,.int (y+1),.int z]) p4=some (.tup [.int x,.int (y+1),.int z]):=jb;generalize upd H3 p4 (.tup [.int x,.int (y+1),.int z])=H4 at s4 e4 ⊢;refine#[(by show 4<=sizeLine;decide),λD hD=>?_];have s5:=jk (o:=.lst [.ref p1,.ref p2,.ref p3,.ref p4]) (jc.refl H4) hD;have DQ:=jc.trans s1 (jc.trans s2 (jc.trans s3 s4));have Rm:H D=none:=by
  cases e:H D with
  | none=>rfl
  | some u=>rw[DQ _ _ e] at hD;cases hD
 refine q D [p1,p2,p3,p4] _ (jc.trans DQ s5) Rm jb #[rfl,λi r c g1 g2=>?_]
 match i with
 | 0=>cases g1;cases g2;exact s5 _ _ (s4 _ _ (s3 _ _ (s2 _ _ e1)))
 | 1=>cases g1;cases g2;exact s5 _ _ (s4 _ _ (s3 _ _ e2))
 | 2=>cases g1;cases g2;exact s5 _ _ (s4 _ _ e3)
 | 3=>cases g1;cases g2;exact s5 _ _ e4
 | i+4=>cases g1
variable {P:Be}{w:World}{K:AQ}{mg:AT}{base:Heap}{t:Adr}
theorem Ua {a b:TS}{D:za} (R:St->Hp->Prop) (h1:∀B:TS,(∀σ H,R σ H->B D σ H)->UZ a B D σ H) (h2:∀σ H,R σ H->b D σ H):UZ a b D σ H:=h1 b h2
theorem UW {x:V}{Q:St->Hp->Prop} (h:Q (σ.set i (some x)) H):Gw i x σ H Q:=h
theorem jp.snoc {c:Int×Int×Int} (C:jp H ps cl) (hp:H p=some (.tup [.int c.1,.int c.2.1,.int c.2.2])):jp H (ps++[p]) (cl++[c]):=#[by rw[ye,ye,C.1];rfl,λi q d h1 h2=>by
 by_cases h:i<ps.length
 ·rw[yK h] at h1;rw[yK (C.1▸h)] at h2;exact C.2 i q d h1 h2
 ·rw[yS (by omega)] at h1;rw[yS (by rw[<-C.1];omega),<-C.1] at h2;generalize i - ps.length=m at h1 h2;cases m with
  | zero=>cases h1;cases h2;exact hp
  | succ m=>cases h1]
theorem jp.add {c:Int×Int×Int} (C:jp H ps cl) (hp:H p=none) (hD:H D=some (.lst ys)):jp (upd (upd H p (.tup [.int c.1,.int c.2.1,.int c.2.2])) D (.lst Ls)) (ps++[p]) (cl++[c]):=by
 have Ro:p≠D:=λz=>by rw[z,hD] at hp;cases hp
 have k:jp (upd (upd H p (.tup [.int c.1,.int c.2.1,.int c.2.2])) D (.lst Ls)) ps cl:=#[C.1,λi q d h1 h2=>by
  have e:=C.2 i q d h1 h2;have n1:q≠D:=λz=>by rw[z,hD] at e;cases e
  rw[jl n1,jl (ji e hp)];exact e]
 exact k.snoc (jw Ro jb)
def JD (c:Int×Int×Int) (n:Nat):List (Int×Int×Int):=((List.range n).filter λ(k:Nat)=>decide ((k:Int)≠c.2.2)).map λ(k:Nat)=>(c.1,c.2.1,(k:Int))
theorem v1 (c:Int×Int×Int) (n:Nat):JD c (n+1)=JD c n++(if (n:Int)≠c.2.2 then [(c.1,c.2.1,(n:Int))] else []):=by
 unfold JD;rw[Qe,Qv,yn];congr 1;by_cases h:(n:Int)=c.2.2<;>simp [h]
def Vd (c:Int×Int×Int) (ho:Bool) (n:Nat):List (Int×Int×Int):=UI c++(if ho=true then JD c n else [])
theorem KC (c:Int×Int×Int) (ho:Bool) (n:Nat):(Vd c ho n).length<=4+n:=by
 unfold Vd;rw[ye];have h1:(UI c).length=4:=rfl;have h2:(JD c n).length<=n:=by
  unfold JD;rw[yb];exact yp (yX _ _) (by rw[QQ];exact yg _)
 split
 ·omega
 ·rw[h1];show 4+0<=_;omega
theorem jp.key (C:jp H ps cl):Ug H ps (cl.map k3):=#[by rw[yb];exact C.1,λi b k h1 h2=>by
 rw[yj] at h2;obtain⟨c,e,rfl⟩:=yl.mp h2;exact C.2 i b c h1 e]
theorem jp.app {dl:AR} (C:jp H ps cl) (D:jp H qs dl):jp H (ps++qs) (cl++dl):=#[by rw[ye,ye,C.1,D.1],λi q d h1 h2=>by
 by_cases h:i<ps.length
 ·rw[yK h] at h1;rw[yK (C.1▸h)] at h2;exact C.2 i q d h1 h2
 ·rw[yS (by omega)] at h1;rw[yS (by rw[<-C.1];omega),<-C.1] at h2;exact D.2 _ q d h1 h2]
theorem jp.wr (C:jp H ps cl) (hD:H D=some (.lst ys)):jp (upd H D (.lst Ls)) ps cl:=#[C.1,λi q d h1 h2=>by
 have e:=C.2 i q d h1 h2;rw[jl (jq e hD)];exact e]
def tZ:Sp:=λvs H Q _=>E5 λ(p:Addr) (x y z:Int) (l:Nat)=>A4 (vs=[.ref p,.int l]) (H p=some (.tup [.int x,.int y,.int z])) (l<=100) (∀D ps H',jc H H'->H D=none->H' D=some (.lst (ps.map V.ref))->jp H' ps (JD (x,y,z) l)->Q (.ref D) H')
theorem Z5 (T:Txt K mg t):jR P w K mg base 1 "over_and_under" ["cell","layers"] tZ:=by
 refine T.gA.ok ["cell","layers"] ?_;rintro _ H Q E ⟨p,x,y,z,l,rfl,hp,hl,q⟩;refine#[rfl,λBk A outer s hr=>#[_,(jj (jB (JE (own:=["z"]) (vc (cl:=[("cell",_)])) (JV rfl T.Jv (ja (pv 1) je)) (λ_ _ _ _ _=>js 2) (λ_ _ _ _ _=>Uv (jQ mM (pv 2) (jt jy (pv 0) jg))) (λ_ _ _ _ _=>(jJ (ja (jt jy (pv 0) jg) (ja (jt jy (pv 0) jg) (ja (pv 2) je)))))))),?_]];refine#[_,rfl,(l:Int),rfl,by omega,by omega,gb (lo:=0) (λD i ys H'=>A5 (H D=none) (jc H H') (H' D=some (.lst ys)) (ys.length<=i) (∃ps:List Addr,ys=ps.map V.ref/\jp H' ps (JD (x,y,z) i))) (by rw[Q0];exact yp hl (by decide)) (λD hD=>#[hD,jk (jc.refl H) hD,jb,yg _,[],rfl,#[rfl,λi p c h=>by cases h]]) (λD i ys H' hv=>#[hv.3,hv.4]) ?_ ?_]
 ·rintro D i ys H' Qy Qn hi ⟨d1,d2,d3,d4,ps,rfl,C⟩ hy hn;have e0:(0:Int)+(i:Int)=(i:Int):=by omega
  rw[e0];have Rp:=d2 _ _ hp;refine#[#[_,rfl,rfl],_,rfl,_,rfl,p,_,2,.int z,rfl,rfl,jD.of Rp,rfl,rfl,_,rfl,JJ (λhf=>?_) λht=>hn _ #[d1,d2,d3,by omega,ps,rfl,?_]]
  ·have BA:(i:Int)≠z:=λe=>of_decide_eq_false hf (congrArg V.int e);refine#[_,rfl,p,_,0,.int x,rfl,rfl,jD.of Rp,rfl,_,rfl,p,_,1,.int y,rfl,rfl,jD.of Rp,rfl,_,rfl,(by show 3<=sizeLine;decide),λp1 Dd=>?_];refine hy _ _ (jw (ji d3 Dd) d3) #[d1,λb u e=>?_,jb,by rw[ye];exact Q3 d4,ps++[p1],by rw[yn];rfl,?_]
   ·have:=d2 b u e;rw[jl (ji e d1),jl (ji this Dd)];exact this
   ·rw[v1,if_pos BA];exact C.add Dd d3
  ·have he:(i:Int)=z:=by have:=of_decide_eq_true ht;injection this
   rw[v1,if_neg (by simp [he]),yB];exact C
 ·rintro D ys H' hD ⟨d1,d2,d3,d4,ps,rfl,C⟩;rw[Q0] at C;exact q D ps H' d2 d1 d3 C
def Jh (cs ds:jG) (w h:Int) (l:Nat) (c:Int×Int×Int):List (Int×Int×Int):=(Vd c (jO c.1 w&&jO c.2.1 h&&(jM ds [.inl c.1,.inl c.2.1]).isSome) l).filter (vd cs w h l)
def qS (C:Addr):Sp:=λvs H Q _=>xy λ(o dx c d p:Addr) (w h x y z:Int) (l:Nat) (cs ds:jG)=>A7 (vs=[.ref o,.ref p]) (H o=some (.ins C dx (fB w h l c d))) (H c=some (.dT cs)) (H d=some (.dT ds)) (l<=3) (H p=some (.tup [.int x,.int y,.int z])) (∀r bs ks H',jc H H'->H r=none->H' r=some (.lst (bs.map V.ref))->Ug H' bs ks->ks.Perm ((Jh cs ds w h l (x,y,z)).map k3)->(ks.Pairwise λa b=>lx b a=false)->Q (.ref r) H')
theorem mB (T:Txt K mg t):jR P w K mg base 5 "neighbours" ["board","cell"] (qS t.jr):=by
 refine T.mZ.ok ["board","cell","spots"] ?_;rintro _ H Q E ⟨o,dx,c,d,p,w,h,x,y,z,l,cs,ds,rfl,ho,hc,hd,hl,hp,q⟩;refine#[rfl,λBk A outer s hr=>#[_,(jh (jz 2 (jm (fE T) (ja (pv 1) je))) (jh (jX (Jr (Jf (pv 0) (Z3 T) (ja (jt jy (pv 1) jg) (ja (jt jy (pv 1) jg) je)))) (jj (jE (JO PySem.F.plainAttrs_list PySem.F.slot_list_extend PySem.F.type_list_extend U5 (pv 2) (ja (jm (Z5 T) (ja (pv 1) (ja (Jd (pv 0)) je))) je)))) jL) (jj (jB (jT Zd (by rfl) T.uG uD (ja (JE (own:=["spot"]) (vc (cl:=[("board",_)])) (jN (pv 2)) (λ_ _ _ _ _=>js 3) (λ_ _ _ _ _=>Uv (Jr (Jf (pv 0) (Zv T) (ja (jt jy (pv 3) jg) (ja (jt jy (pv 3) jg) (ja (jt jy (pv 3) jg) je)))))) (λ_ _ _ _ _=>(pv 3))) je)))))),?_]];refine#[_,rfl,p,x,y,z,rfl,hp,λD ps H1 s1 Rm eD C1=>?_];refine UW ?_;dsimp only;refine Ua (λσ H'=>∃ps:List Addr,A4 (σ=[some (.ref o),some (.ref p),some (.ref D)]) (jc H H') (H' D=some (.lst (ps.map V.ref))) (jp H' ps (Vd (x,y,z) (jO x w&&jO y h&&(jM ds [.inl x,.inl y]).isSome) l))) (λB hB=>?_) ?_
 ·have S1:jD K H1 p [.int x,.int y,.int z]:=jD.of (s1 _ _ hp);refine#[_,rfl,o,dx,_,rfl,s1 _ _ ho,rfl,_,rfl,p,_,0,.int x,rfl,rfl,S1,rfl,_,rfl,p,_,1,.int y,rfl,rfl,S1,rfl,o,dx,c,d,w,h,l,x,y,ds,rfl,s1 _ _ ho,s1 _ _ hd,λH2 s2=>#[_,rfl,?_]];have Fe:=jc.trans s1 s2;cases hh:(jO x w&&jO y h&&(jM ds [.inl x,.inl y]).isSome) with
  | false =>
   refine JB (hB _ _ #[ps,rfl,Fe,s2 _ _ eD,?_]);rw[hh];show jp H2 ps (UI (x,y,z)++[]);rw[yB];exact C1.same s2
  | true =>
   refine Ub #[_,rfl,.inl #[rfl,_,jo.of (s2 _ _ eD)],_,rfl,_,rfl,o,_,dx,_,.int (l:Int),rfl,Fe _ _ ho,T.jI,T.Ui,rfl,p,x,y,z,l,rfl,Fe _ _ hp,by omega,λD2 qs H3 s3 Co Rq C2=>?_];have TQ:=s3 _ _ (s2 _ _ eD);have nD:D≠D2:=λe=>by rw[<-e,s2 _ _ eD] at Co;cases Co
   have len:=KC (x,y,z) true l;refine#[D,D2,_,_,rfl,rfl,TQ,Rq,?_,hB _ _ #[ps++qs,rfl,λb u e=>?_,by rw[jb,yn],?_]]
   ·rw[yb,yb,C1.1,C2.1];unfold Vd at len;rw[ye,if_pos rfl] at len;exact yp len (yp (show 4+l<=7 by omega) (by decide))
   ·rw[jl (ji e Rm)];exact s3 _ _ (Fe _ _ e)
   ·rw[hh];show jp _ (ps++qs) (UI (x,y,z)++JD (x,y,z) l);exact (((C1.same s2).same s3).app C2).wr TQ
 ·rintro σ H2 ⟨qs,rfl,s2,e2,C2⟩;have hlen:=KC (x,y,z) (jO x w&&jO y h&&(jM ds [.inl x,.inl y]).isSome) l;have BA:Jh cs ds w h l (x,y,z)=(Vd (x,y,z) (jO x w&&jO y h&&(jM ds [.inl x,.inl y]).isSome) l).filter (vd cs w h l):=rfl;rw[BA] at q;clear BA;generalize Vd (x,y,z) (jO x w&&jO y h&&(jM ds [.inl x,.inl y]).isSome) l=SP at C2 hlen q;refine#[_,rfl,D,rfl,#[_,jo.of e2],vB (xs:=qs.map V.ref) (λD2 i ys H'=>A5 (H2 D2=none) (jc H2 H') (H' D2=some (.lst ys)) (ys.length<=i) (∃rs:List Addr,ys=rs.map V.ref/\jp H' rs ((SP.take i).filter (vd cs w h l)))) (by rw[yb,C2.1];exact yp hlen (yp (show 4+l<=7 by omega) (by decide))) (λD2 Co=>#[Co,jk (jc.refl _) Co,jb,yg _,[],rfl,#[rfl,λi p c h=>by cases h]]) (λD2 i ys H' hv=>#[hv.3,hv.4,jo.of (hv.2 _ _ e2)]) ?_ ?_]
  ·rintro D2 i v ys H' Qy Qn hx ⟨d1,d2,d3,d4,rs,rfl,C⟩ hy hn;rw[yj] at hx;obtain⟨r,Ed,rfl⟩:=yl.mp hx;have hi:i<SP.length:=by rw[<-C2.1];exact (yi.mp Ed).1
   have hs:=yc hi;have er:=d2 _ _ (C2.2 i r _ Ed hs);have tk:∀b:Bool,vd cs w h l SP[i]=b->(SP.take (i+1)).filter (vd cs w h l)=(SP.take i).filter (vd cs w h l)++(if b=true then [SP[i]] else []):=λb hb=>by
    rw[List.take_add_one,hs,Qv];congr 1;cases b<;>simp [hb]
   generalize SP[i]=cc at er tk;have BP:=d2 _ _ (s2 _ _ ho);have R:jD K H' r [.int cc.1,.int cc.2.1,.int cc.2.2]:=jD.of er;refine#[#[_,rfl,rfl],_,rfl,o,dx,_,rfl,BP,rfl,_,rfl,r,_,0,.int cc.1,rfl,rfl,R,rfl,_,rfl,r,_,1,.int cc.2.1,rfl,rfl,R,rfl,_,rfl,r,_,2,.int cc.2.2,rfl,rfl,R,rfl,o,dx,c,d,w,h,l,cc.1,cc.2.1,cc.2.2,cs,rfl,BP,d2 _ _ (s2 _ _ hc),λH3 s3=>#[_,rfl,?_]];have Lu:(jO cc.1 w&&jO cc.2.1 h&&jO cc.2.2 l&&(jM cs [.inl cc.1,.inl cc.2.1,.inl cc.2.2]).isSome)=vd cs w h l cc:=rfl;rw[Lu];have BG:=s3 _ _ d3;cases hb:vd cs w h l cc with
   | true =>
    refine Ub #[_,rfl,hy _ _ BG #[d1,λb u e=>?_,jb,by rw[ye];exact Q3 d4,rs++[r],by rw[yn];rfl,?_]]
    ·rw[jl (ji e d1)];exact s3 _ _ (d2 _ _ e)
    ·rw[tk true hb,if_pos rfl];exact ((C.same s3).snoc (s3 _ _ er)).wr BG
   | false =>
    refine JB (hn _ #[d1,jc.trans d2 s3,BG,by omega,rs,rfl,?_]);rw[tk false hb,if_neg (by decide),yB];exact C.same s3
  ·rintro D2 ys H3 Co ⟨d1,d2,d3,d4,rs,rfl,C⟩;rw[yb,C2.1,yG] at C;refine#[D2,rs,_,[true,true,true],rfl,d3,C.key,λk hk=>?_,by decide,λr bs ks hr ka pm up=>?_]
   ·obtain⟨cc,_,rfl⟩:=yf.mp hk
    rfl
   ·have s3:=jc.trans s2 d2;have BS:H r=none:=by
     cases e:H r with
     | none=>rfl
     | some u=>rw[s3 _ _ e] at hr;cases hr
    exact q r bs ks _ (jk s3 hr) BS jb #[ka.1,λi b k h1 h2=>by
     have:=ka.2 i b k h1 h2;rw[jl (ji this hr)];exact this] pm up
variable {P:Be}{w:World}{K:AQ}{mg:AT}{base:Heap}{t:Adr}
structure ue (cs:jG) (w h l:Nat):Prop where
 val:∀kv∈cs,kv.2=.bl true
 key:∀kv∈cs,∃x y z:Nat,x<w/\y<h/\z<l/\kv.1=[.inl (x:Int),.inl (y:Int),.inl (z:Int)]
 nd:(cs.map (·.1)).Nodup
structure UH (ds:jG) (w h:Nat):Prop where
 val:∀kv∈ds,kv.2=.bl true
 key:∀kv∈ds,∃x y:Nat,x<w/\y<h/\kv.1=[.inl (x:Int),.inl (y:Int)]
 nd:(ds.map (·.1)).Nodup
theorem ZU {kv:List Key×V} (h:kv∈j4 cs k (.bl true)):kv∈cs\/kv=(k,.bl true):=by
 cases e:jM cs k with
 | none =>
  rw[zF _ e] at h;rcases ym.mp h with h|h
  ·exact .inl h
  ·exact .inr (yx.mp h)
 | some v =>
  unfold j4 at h;rw[if_pos (by rw[uV,e];rfl)] at h;obtain⟨x,hx,rfl⟩:=yf.mp h;split
  ·rename_i e2;exact .inr (by rw[e2])
  ·exact .inl hx
theorem fV (n:(cs.map (·.1)).Nodup):((j4 cs k (.bl true)).map (·.1)).Nodup:=by
 cases e:jM cs k with
 | none =>
  rw[zF _ e,yn];refine QC.mpr #[n,by simp,λa ha b hb z=>?_];rw[yH,Wh,yx] at hb;have:(jM cs k).isSome=true:=by
   rw[<-uV];obtain⟨x,hx,e2⟩:=yf.mp ha;exact Q2.mpr #[x,hx,decide_eq_true (by rw[e2,z,hb])]
  rw[e] at this;cases this
 | some v =>
  have:(j4 cs k (.bl true)).map (·.1)=cs.map (·.1):=by
   unfold j4;rw[if_pos (by rw[uV,e];rfl),Qr];refine QB λx _=>?_;show (if x.1=k then (x.1,V.bl true) else x).1=x.1
   split<;>rfl
  rw[this];exact n
theorem ue.put {w x z:Nat} (T:ue cs w h l) (hx:x<w) (hy:y<h) (hz:z<l):ue (j4 cs [.inl (x:Int),.inl (y:Int),.inl (z:Int)] (.bl true)) w h l:=by
 refine#[λkv Bv=>?_,λkv Bv=>?_,fV T.nd]
 ·rcases ZU Bv with h|rfl
  ·exact T.val kv h
  ·rfl
 ·rcases ZU Bv with h|rfl
  ·exact T.key kv h
  ·exact#[x,y,z,hx,hy,hz,rfl]
theorem UH.put {w x:Nat} (T:UH ds w h) (hx:x<w) (hy:y<h):UH (j4 ds [.inl (x:Int),.inl (y:Int)] (.bl true)) w h:=by
 refine#[λkv Bv=>?_,λkv Bv=>?_,fV T.nd]
 ·rcases ZU Bv with h|rfl
  ·exact T.val kv h
  ·rfl
 ·rcases ZU Bv with h|rfl
  ·exact T.key kv h
  ·exact#[x,y,hx,hy,rfl]
theorem ue.drop {w:Nat} (T:ue cs w h l) (k:List Key):ue (uJ cs k) w h l :=
 #[λkv Bv=>T.val kv (yZ.mp Bv).1,λkv Bv=>T.key kv (yZ.mp Bv).1,(List.filter_sublist.map _).nodup T.nd]
theorem UH.drop {w:Nat} (T:UH ds w h) (k:List Key):UH (uJ ds k) w h :=
 #[λkv Bv=>T.val kv (yZ.mp Bv).1,λkv Bv=>T.key kv (yZ.mp Bv).1,(List.filter_sublist.map _).nodup T.nd]
theorem ue.nil (w h l:Nat):ue [] w h l:=#[λ_ h=>absurd h (by simp),λ_ h=>absurd h (by simp),Wf]
theorem UH.nil (w h:Nat):UH [] w h:=#[λ_ h=>absurd h (by simp),λ_ h=>absurd h (by simp),Wf]
theorem KG {w:Nat}:∀(cl:AR) (cs:jG),ue cs w h l->(∀c∈cl,∃x y z:Nat,x<w/\y<h/\z<l/\c=((x:Int),(y:Int),(z:Int)))->ue (JY cs cl) w h l
 | [],cs,T,_=>T
 | c::r,cs,T,hc=>by
  obtain⟨x,y,z,hx,hy,hz,rfl⟩:=hc c (yD ..);exact KG r _ (T.put hx hy hz) λc h=>hc c (yA _ h)
variable {P:Be}{w:World}{K:AQ}{mg:AT}{base:Heap}{t:Adr}
theorem fq {c:Int×Int×Int}:e∈JD c n↔e.1=c.1/\e.2.1=c.2.1/\0<=e.2.2/\e.2.2<n/\e.2.2≠c.2.2:=by
 unfold JD;rw[yf];constructor
 ·rintro⟨k,hk,rfl⟩;obtain⟨h1,h2⟩:=yZ.mp hk;have h3:=Qa.mp h1;have h4:=of_decide_eq_true h2;exact#[rfl,rfl,by show (0:Int)<=(k:Int);omega,by show (k:Int)<n;omega,h4]
 ·rintro⟨h1,h2,h3,h4,h5⟩;obtain⟨x,y,z⟩:=e;simp only at h1 h2 h3 h4 h5;refine#[z.toNat,yZ.mpr #[Qa.mpr (by omega),decide_eq_true ?_],?_]
  ·rw[Int.toNat_of_nonneg h3];exact h5
  ·rw[Int.toNat_of_nonneg h3,h1,h2]
theorem ly {c:Int×Int×Int}:e∈UI c↔e.2.2=c.2.2/\((e.2.1=c.2.1/\(e.1=c.1 - 1\/e.1=c.1+1))\/(e.1=c.1/\(e.2.1=c.2.1 - 1\/e.2.1=c.2.1+1))):=by
 obtain⟨x,y,z⟩:=e;obtain⟨a,b,d⟩:=c;unfold UI;simp only[yM,QG,or_false,Prod.mk.injEq];constructor
 ·rintro (⟨h1,h2,h3⟩|⟨h1,h2,h3⟩|⟨h1,h2,h3⟩|⟨h1,h2,h3⟩)<;>first|exact#[h3,.inl #[h2,.inl h1]]|exact#[h3,.inl #[h2,.inr h1]]|exact#[h3,.inr #[h1,.inl h2]]|exact#[h3,.inr #[h1,.inr h2]]
 ·rintro⟨h3,⟨h2,h1|h1⟩|⟨h1,h2|h2⟩⟩<;>first|exact .inl #[h1,h2,h3]|exact .inr (.inl #[h1,h2,h3])|exact .inr (.inr (.inl #[h1,h2,h3]))|exact .inr (.inr (.inr #[h1,h2,h3]))
def rN (ds:jG) (w h:Int) (a b:Int×Int×Int):Bool :=
 if a=b then false else if a.1=b.1/\a.2.1=b.2.1 then jO a.1 w&&jO a.2.1 h&&(jM ds [.inl a.1,.inl a.2.1]).isSome else decide (a.2.2=b.2.2)&&decide ((if a.1 - b.1<0 then -(a.1 - b.1) else a.1 - b.1)+(if a.2.1 - b.2.1<0 then -(a.2.1 - b.2.1) else a.2.1 - b.2.1)=1)
theorem M0 {w h:Int}{c:Int×Int×Int} (hc:onB w h l c=true) (he:vd cs w h l e=true):e∈Jh cs ds w h l c↔rN ds w h c e=true:=by
 have M₁:onB w h l e=true:=by unfold vd at he;rw[Qz] at he;exact he.1
 obtain⟨x,y,z⟩:=e;obtain⟨a,b,d⟩:=c;have i1:(0<=x/\x<w)/\(0<=y/\y<h)/\(0<=z/\z<l):=by simpa [onB,jO,and_assoc] using M₁
 have i2:(0<=a/\a<w)/\(0<=b/\b<h)/\(0<=d/\d<l):=by simpa [onB,jO,and_assoc] using hc
 unfold Jh Vd rN;rw[yZ,ym,ly];simp only[he,and_true,Prod.mk.injEq];have Bn:(jO a w&&jO b h)=true:=by simp [jO,i2.1,i2.2.1]
 rw[Bn,QI];cases hh:(jM ds [Sum.inl a,Sum.inl b]).isSome with
 | true =>
  rw[if_pos rfl,fq];simp only;by_cases e1:a=x/\b=y/\d=z
  ·rw[if_pos e1];simp;omega
  ·rw[if_neg e1];by_cases e2:a=x/\b=y
   ·rw[if_pos e2];simp;omega
   ·rw[if_neg e2];simp only[Qz,decide_eq_true_iff]
    split<;>split<;>omega
 | false =>
  rw[if_neg (by decide)];simp only[QG,or_false];by_cases e1:a=x/\b=y/\d=z
  ·rw[if_pos e1];simp;omega
  ·rw[if_neg e1];by_cases e2:a=x/\b=y
   ·rw[if_pos e2];simp;omega
   ·rw[if_neg e2];simp only[Qz,decide_eq_true_iff]
    split<;>split<;>omega
theorem uR:∀{a b:List (List Key)},a.Perm b->(a.Pairwise λx y=>lx y x=false)->(b.Pairwise λx y=>lx y x=false)->a=b
 | [],b,p,_,_=>(List.nil_perm.mp p).symm
 | x::a,b,p,ha,hb=>by
  cases b with
  | nil=>exact absurd (List.perm_nil.mp p) (by simp)
  | cons y b =>
   obtain⟨h1,Lb⟩:=List.pairwise_cons.mp ha;obtain⟨h2,Eb⟩:=List.pairwise_cons.mp hb;have e:x=y:=by
    rcases yM.mp (p.mem_iff.mp (yD ..)) with e|hx
    ·exact e
    ·rcases yM.mp (p.mem_iff.mpr (yD ..)) with e|hy
     ·exact e.symm
     ·exact GL (h2 x hx) (h1 y hy)
   subst e;rw[uR (List.perm_cons x |>.mp p) Lb Eb]
theorem uv {a b:Int×Int×Int} (h:k3 a=k3 b):a=b:=by
 obtain⟨x,y,z⟩:=a;obtain⟨u,v,r⟩:=b;unfold k3 at h;injection h with e1 h
 injection h with e2 h
 injection h with e3 _
 injection e1 with e1
 injection e2 with e2
 injection e3 with e3
 simp only at e1 e2 e3;rw[e1,e2,e3]
variable {P:Be}{w:World}{K:AQ}{mg:AT}{base:Heap}{t:Adr}
def j6 (c:Addr) (H H':Hp):Prop:=∀b u,b≠c->H b=some u->H' b=some u
theorem u5 {a w:Nat} (h:a<w):jO (a:Int) (w:Int)=true:=by unfold jO;simp;omega
theorem fI {w:Nat} (hc:∀c∈cl,∃x y z:Nat,x<w/\y<h/\z<l/\c=((x:Int),(y:Int),(z:Int))):cl.all (onB (w:Int) (h:Int) (l:Int))=true:=Qx.mpr λc hx=>by
 obtain⟨x,y,z,h1,h2,h3,rfl⟩:=hc c hx;show (jO (x:Int) (w:Int)&&jO (y:Int) (h:Int)&&jO (z:Int) (l:Int))=true;rw[u5 h1,u5 h2,u5 h3];rfl
theorem zI {H':Hp}{a:Addr} (e:jc H H') (h:jo K H a xs):jo K H' a xs:=by
 rcases h with (h|h)|h
 ·exact .inl (.inl (e _ _ h))
 ·exact .inl (.inr (by obtain⟨o,q⟩:=h;exact#[o,e _ _ q]))
 ·exact .inr h
structure Bd (C:Addr) (H:Hp) (o dx c d:Addr) (w h l:Nat) (cs ds:jG):Prop where
 o:H o=some (.ins C dx (fB w h l c d))
 c:H c=some (.dT cs)
 d:H d=some (.dT ds)
 C:ue cs w h l
 D:UH ds w h
theorem Bd.same {H':Hp}{c:Addr}{w:Nat} (B:Bd C H o dx c d w h l cs ds) (s:jc H H'):Bd C H' o dx c d w h l cs ds:=#[s _ _ B.o,s _ _ B.c,s _ _ B.d,B.C,B.D]
theorem ue.sds {w:Nat} (T:ue cs w h l):∀kv∈cs,sd kv.1=[true,true,true]:=λkv Bv=>by
 obtain⟨x,y,z,_,_,_,e⟩:=T.key kv Bv;rw[e];rfl
theorem UH.sds {w:Nat} (T:UH ds w h):∀kv∈ds,sd kv.1=[true,true]:=λkv Bv=>by
 obtain⟨x,y,_,_,e⟩:=T.key kv Bv;rw[e];rfl
def Nd:List Key->Int×Int×Int
 | [.inl x,.inl y,.inl z]=>(x,y,z)
 | _=>(0,0,0)
theorem vz:(jM cs k).isSome=true↔k∈cs.map (·.1):=by
 rw[<-uV];constructor
 ·intro h;obtain⟨x,hx,e⟩:=Q2.mp h;exact yf.mpr #[x,hx,of_decide_eq_true e]
 ·intro h;obtain⟨x,hx,e⟩:=yf.mp h;exact Q2.mpr #[x,hx,decide_eq_true e]
theorem gI {w:Nat} (T:ue cs w h l) {ks:List (List Key)} (pm:ks.Perm (cs.map (·.1))):∃cells:List (Int×Int×Int),ks=cells.map k3/\cells.Nodup/\∀e,e∈cells↔vd cs w h l e=true:=by
 have hk:∀k∈ks,∃x y z:Nat,x<w/\y<h/\z<l/\k=k3 ((x:Int),(y:Int),(z:Int)):=λk hk=>by
  obtain⟨kv,h1,rfl⟩:=yf.mp (pm.mem_iff.mp hk);exact T.key kv h1
 have e:ks=(ks.map Nd).map k3:=by
  rw[Qr];exact ((QB (g:=id) λk h=>by obtain⟨x,y,z,_,_,_,rfl⟩:=hk k h;rfl).trans (List.map_id ks)).symm
 refine#[ks.map Nd,e,?_,λc=>?_]
 ·have nk:ks.Nodup:=pm.nodup_iff.mpr T.nd;rw[e] at nk;exact List.Pairwise.of_map k3 (λa b h e=>h (by rw[e])) nk
 ·have m:c∈ks.map Nd↔k3 c∈ks:=by
   constructor
   ·intro h;obtain⟨k,h1,rfl⟩:=yf.mp h;obtain⟨x,y,z,_,_,_,rfl⟩:=hk k h1;exact h1
   ·intro h;exact yf.mpr #[k3 c,h,rfl]
  rw[m,pm.mem_iff,<-vz];constructor
  ·intro h;unfold vd;rw[h,Bool.and_true];obtain⟨x,y,z,a1,a2,a3,e⟩:=hk (k3 c) (pm.mem_iff.mpr (vz.mp h));rw[uv e];show (jO (x:Int) _&&jO (y:Int) _&&jO (z:Int) _)=true;rw[u5 a1,u5 a2,u5 a3];rfl
  ·intro h;unfold vd at h;rw[Qz] at h;exact h.2
theorem jp.of_key (k:Ug H ps (cl.map k3)):jp H ps cl:=#[by rw[k.1,yb],λi p c h1 h2=>k.2 i p (k3 c) h1 (by rw[yj,h2];rfl)]
def l3 (c:Int×Int×Int):List Int:=[c.1,c.2.1,c.2.2]
theorem MV {a b:Int×Int×Int} (h:l3 a=l3 b):a=b:=by
 obtain⟨x,y,z⟩:=a;obtain⟨u,v,r⟩:=b;unfold l3 at h;simpa using h
theorem jp.tups (C:jp H ps cl):Za K H ps (cl.map l3):=#[by rw[C.1,yb],λi p ns h1 h2=>by
 rw[yj] at h2;obtain⟨c,e2,rfl⟩:=yl.mp h2;exact jD.of (C.2 i p c h1 e2)]
theorem jp.lt {a:Addr} (C:jp H ps cl) (e:H a=some (.lst (ps.map V.ref))):LT K H a (cl.map l3):=#[ps,jo.of e,C.tups]
theorem jp.dt {c:Addr} (C:jp H ps cl) (hc:H c=some (.dT u)):jp (upd H c (.dT u')) ps cl:=#[C.1,λi q d h1 h2=>by
 have e:=C.2 i q d h1 h2;rw[jl (jq e hc)];exact e]
theorem Bd.putC {c:Addr}{w:Nat}{Ff:jG} (B:Bd C H o dx c d w h l cs ds) (n:c≠d) (T:ue Ff w h l):Bd C (upd H c (.dT Ff)) o dx c d w h l Ff ds :=
 #[jw (jq B.o B.c) B.o,jb,jw (yP n) B.d,T,B.D]
theorem Bd.putD {c:Addr}{w:Nat}{Du:jG} (B:Bd C H o dx c d w h l cs ds) (n:c≠d) (T:UH Du w h):Bd C (upd H d (.dT Du)) o dx c d w h l cs Du :=
 #[jw (jq B.o B.d) B.o,jw n B.c,jb,B.C,T]
theorem Vr {c:Addr} (e:H p=some (.lst ys)) (hc:H c=some (.dT u)):upd H c (.dT u') p=some (.lst ys):=by
 rw[jl (jq e hc)];exact e
theorem Kf {g:TG}{k:Nat}{a:Addr} (f:Int×Int×Int->Bool) (hz:cl.length<=sizeLine) (ha:H a=some (.lst (ps.map V.ref))) (C:jp H ps cl)
  (hg:∀(r:Addr) (c:Int×Int×Int) (H':Hp) (Qy:VK) (Qn:Hp->Prop),jc H H'->H' r=some (.tup [.int c.1,.int c.2.1,.int c.2.2])->(f c=true->∀H2,jc H' H2->Qy (.ref r) H2)->(f c=false->∀H2,jc H' H2->Qn H2)->g (.ref r) (σ++List.replicate k none) H' λσ2 H2=>(∃zs,σ2=σ++zs/\zs.length=k)/\tc σ2 H2 λb H3=>if b=true then te σ2 H3 Qy else Qn H3)
  (q:∀D rs H',jc H H'->H D=none->H' D=some (.lst (rs.map V.ref))->jp H' rs (cl.filter f)->Q (.ref D) H'):vb k g tc te σ Q (Z8 K a) H:=by
 refine vB (xs:=ps.map V.ref) (λD i ys H'=>A5 (H D=none) (jc H H') (H' D=some (.lst ys)) (ys.length<=i) (∃rs:List Addr,ys=rs.map V.ref/\jp H' rs ((cl.take i).filter f))) (by rw[yb,C.1];exact hz) (λD hD=>#[hD,jk (jc.refl _) hD,jb,yg _,[],rfl,#[rfl,λi p c h=>by cases h]]) (λD i ys H' hv=>#[hv.3,hv.4,jo.of (hv.2 _ _ ha)]) ?_ ?_
 ·rintro D i v ys H' Qy Qn hx ⟨d1,d2,d3,d4,rs,rfl,C'⟩ hy hn;rw[yj] at hx;obtain⟨r,Ed,rfl⟩:=yl.mp hx;have hi:i<cl.length:=by rw[<-C.1];exact (yi.mp Ed).1
  have hs:=yc hi;have er:=d2 _ _ (C.2 i r _ Ed hs);have tk:∀b:Bool,f cl[i]=b->(cl.take (i+1)).filter f=(cl.take i).filter f++(if b=true then [cl[i]] else []):=λb hb=>by
   rw[List.take_add_one,hs,Qv];congr 1;cases b<;>simp [hb]
  generalize cl[i]=cc at er tk;refine hg r cc H' Qy Qn d2 er (λhb H2 s2=>?_) λhb H2 s2=>?_
  ·have BG:=s2 _ _ d3;refine hy _ _ BG #[d1,λb u e=>?_,jb,by rw[ye];exact Q3 d4,rs++[r],by rw[yn];rfl,?_]
   ·rw[jl (ji e d1)];exact s2 _ _ (d2 _ _ e)
   ·rw[tk true hb,if_pos rfl];exact ((C'.same s2).snoc (s2 _ _ er)).wr BG
  ·refine hn _ #[d1,jc.trans d2 s2,s2 _ _ d3,by omega,rs,rfl,?_];rw[tk false hb,if_neg (by decide),yB];exact C'.same s2
 ·rintro D ys H3 hD ⟨d1,d2,d3,d4,rs,rfl,C'⟩;rw[yb,C.1,yG] at C';exact q D rs H3 d2 d1 d3 C'
variable {P:Be}{w:World}{K:AQ}{mg:AT}{base:Heap}{t:Adr}
abbrev jf:=Int×Int×Int
inductive Jn (N:jf->List jf) (s:jf):jf->Prop where
 | refl:Jn N s s
 | step {a b:jf}:Jn N s a->b∈N a->Jn N s b
theorem Jn.trans {a b:jf} (h1:Jn N a b) (h2:Jn N b c):Jn N a c:=by
 induction h2 with
 | refl=>exact h1
 | step _ m ih=>exact .step ih m
structure Nb (N:jf->List jf) (cells:List jf):Prop where
 on:∀a∈cells,∀b∈N a,b∈cells
 sym:∀a∈cells,∀b∈N a,a∈N b
theorem Jn.on {cells:List jf} (B:Nb N cells) {a b:jf} (ha:a∈cells) (h:Jn N a b):b∈cells:=by
 induction h with
 | refl=>exact ha
 | step _ m ih=>exact B.on _ ih _ m
theorem Jn.symm {cells:List jf} (B:Nb N cells) {a b:jf} (ha:a∈cells) (h:Jn N a b):Jn N b a:=by
 induction h with
 | refl=>exact .refl
 | @step c d h1 m ih=>exact Jn.trans (Jn.step .refl (B.sym c (h1.on B ha) d m)) ih
noncomputable def rB (N:jf->List jf) (c e:jf):Bool:=@decide (Jn N c e) (Classical.propDecidable _)
theorem vh {e:jf}:rB N c e=true↔Jn N c e:=@decide_eq_true_iff _ (Classical.propDecidable _)
noncomputable def uf (N:jf->List jf) (cells:List jf) (c:jf):List jf:=cells.filter (rB N c)
theorem u7 {cells:List jf} (B:Nb N cells) {e:jf} (hc:c∈cells):e∈uf N cells c↔Jn N c e:=by
 unfold uf;rw[yZ,vh];exact#[λh=>h.2,λh=>#[h.on B hc,h]]
theorem MP {cells:List jf} (B:Nb N cells) {a b:jf} (ha:a∈cells) (h:Jn N a b):uf N cells b=uf N cells a:=by
 unfold uf;refine List.filter_congr λe _=>?_;rw[yR,vh,vh];exact#[λg=>h.trans g,λg=>(h.symm B ha).trans g]
theorem qf (N:jf->List jf) (cells:List jf) (c:jf):(uf N cells c).length<=cells.length:=yX _ _
noncomputable def JI (N:jf->List jf) (cs:List jf):List jf:=cs.foldl (λrs c=>@ite _ (∃r∈rs,Jn N r c) (Classical.propDecidable _) rs (rs++[c])) []
theorem Kz (N:jf->List jf) (cs:List jf) (c:jf):JI N (cs++[c])=@ite _ (∃r∈JI N cs,Jn N r c) (Classical.propDecidable _) (JI N cs) (JI N cs++[c]):=by
 unfold JI;rw[List.foldl_append]
 rfl
structure rJ (N:jf->List jf) (cs rs:List jf):Prop where
 sub:rs.Sublist cs
 cov:∀c∈cs,∃r∈rs,Jn N r c
 apart:rs.Pairwise λa b=>¬Jn N a b
 first:∀r∈rs,∃p q,cs=p++r::q/\∀e∈p,¬Jn N r e
theorem kM {cells:List jf} (B:Nb N cells) (cs:List jf):(∀c∈cs,c∈cells)->rJ N cs (JI N cs):=by
 have key:∀n,n<=cs.length->(∀c∈cs,c∈cells)->rJ N (cs.take n) (JI N (cs.take n)):=by
  intro n
  induction n with
  | zero=>intro _ _;exact#[by simp [JI],(λc h=>by simp at h),by simp [JI],(λr h=>by simp [JI] at h)]
  | succ n ih =>
   intro hn Bn;have I:=ih (by omega) Bn;have e:cs.take (n+1)=cs.take n++[cs[n]]:=by rw[y7,yc (by omega)];rfl
   have hm:=Bn _ (yY (show n<cs.length by omega));have C0:∀a∈cs.take n,a∈cells:=λa h=>Bn a (QF h);rw[e,Kz];generalize cs[n]=c at hm;generalize cs.take n=pre at I C0;by_cases h:∃r∈JI N pre,Jn N r c
   ·rw[if_pos h];refine#[I.sub.trans (List.sublist_append_left _ _),λa ha=>?_,I.apart,λr hr=>?_]
    ·rcases ym.mp ha with ha|ha
     ·exact I.cov a ha
     ·rw[yx] at ha;subst ha;exact h
    ·obtain⟨p,q,e1,e2⟩:=I.first r hr;exact#[p,q++[c],by rw[e1];simp,e2]
   ·rw[if_neg h];refine#[I.sub.append (List.Sublist.refl _),λa ha=>?_,?_,λr hr=>?_]
    ·rcases ym.mp ha with ha|ha
     ·obtain⟨r,h1,h2⟩:=I.cov a ha;exact#[r,yv _ h1,h2]
     ·rw[yx] at ha;subst ha;exact#[a,by simp,.refl]
    ·refine yJ.mpr #[I.apart,by simp,λa ha b hb g=>?_];rw[yx] at hb;subst hb;exact h #[a,ha,g]
    ·rcases ym.mp hr with hr|hr
     ·obtain⟨p,q,e1,e2⟩:=I.first r hr;exact#[p,q++[c],by rw[e1];simp,e2]
     ·rw[yx] at hr;subst hr;refine#[pre,[],rfl,λe he g=>?_];obtain⟨r',h1,h2⟩:=I.cov e he;exact h #[r',h1,h2.trans (g.symm B hm)]
 intro Bn;have:=key cs.length (yg _) Bn;rwa [yG] at this
theorem i6 {cells:List jf}{r:jf}{p q:List jf} (e:cells=p++r::q) (h:∀x∈p,¬Jn N r x):∃t,uf N cells r=r::t:=by
 have e1:(p.filter (rB N r))=[]:=List.filter_eq_nil_iff.mpr λx hx=>by rw[vh];exact h x hx
 refine#[q.filter (rB N r),?_];unfold uf;rw[e,Qv,e1,List.nil_append,List.filter_cons,if_pos (vh.mpr Jn.refl)]
theorem zx:∀{ls:List (List jf)},(∀l∈ls,l.Nodup)->(ls.Pairwise λa b=>∀x∈a,∀y∈b,x≠y)->ls.flatten.Nodup
 | [],_,_=>by simp
 | l::ls,h1,h2=>by
  obtain⟨p1,p2⟩:=List.pairwise_cons.mp h2;rw[List.flatten_cons];refine QC.mpr #[h1 l (yD ..),zx (λa ha=>h1 a (yA _ ha)) p2,λa ha b hb=>?_];obtain⟨m,hm,hb⟩:=List.mem_flatten.mp hb;exact p1 m hm a ha b hb
theorem eO {cells:List jf} (B:Nb N cells) (nd:cells.Nodup):((JI N cells).map (uf N cells)).flatten.Perm cells:=by
 have I:=kM B cells λ_ h=>h;have on:∀r∈JI N cells,r∈cells:=λr h=>I.sub.subset h;refine (Qq ?_ nd).mpr λe=>?_
 ·refine zx (λl hl=>?_) ?_
  ·obtain⟨r,hr,rfl⟩:=yf.mp hl;exact nd.filter _
  ·refine Qo.mpr (I.apart.imp_of_mem λ{a b} ha hb h=>?_);intro x hx y hy z;subst z;exact h (((u7 B (on a ha)).mp hx).trans (((u7 B (on b hb)).mp hy).symm B (on b hb)))
 ·rw[List.mem_flatten];constructor
  ·rintro⟨l,hl,he⟩;obtain⟨r,hr,rfl⟩:=yf.mp hl;exact (yZ.mp he).1
  ·intro he;obtain⟨r,hr,g⟩:=I.cov e he;exact#[_,yf.mpr #[r,hr,rfl],(u7 B (on r hr)).mpr g]
theorem V4 {w h:Int}{cells:List jf} (mem:∀e,e∈cells↔vd cs w h l e=true):Nb (Jh cs ds w h l) cells:=by
 have cu:∀a b,b∈Jh cs ds w h l a->vd cs w h l b=true:=λa b h=>(yZ.mp h).2;have on:∀a,vd cs w h l a=true->onB w h l a=true:=λa h=>by unfold vd at h;rw[Qz] at h;exact h.1
 refine#[λa _ b hb=>(mem b).mpr (cu a b hb),λa ha b hb=>?_];have ca:=(mem a).mp ha;have cb:=cu a b hb;have h1:=(M0 (ds:=ds) (on a ca) cb).mp hb;refine (M0 (ds:=ds) (on b cb) ca).mpr ?_;unfold rN at h1 ⊢;by_cases e:a=b
 ·rw[if_pos e] at h1;cases h1
 ·rw[if_neg e] at h1;rw[if_neg (λz=>e z.symm)];by_cases e2:a.1=b.1/\a.2.1=b.2.1
  ·rw[if_pos e2] at h1;rw[if_pos #[e2.1.symm,e2.2.symm],<-e2.1,<-e2.2];exact h1
  ·rw[if_neg e2] at h1;rw[if_neg (λz=>e2 #[z.1.symm,z.2.symm])];rw[Qz,decide_eq_true_iff,decide_eq_true_iff] at h1 ⊢;refine#[h1.1.symm,?_];have:=h1.2
   split at this<;>split at this<;>split<;>split<;>omega
theorem uy:∀{a b:List jf},a.Nodup->(∀x∈a,x∈b)->a.length<=b.length
 | [],_,_,_=>yV _
 | x::a,b,nd,h=>by
  obtain⟨n1,n2⟩:=Qu.mp nd;have hx:=h x (yD ..);have:=uy (a:=a) (b:=b.erase x) n2 λy hy=>(List.mem_erase_of_ne (λz=>n1 (by rw[<-z];exact hy))).mpr (h y (yA _ hy));rw[List.length_erase_of_mem hx] at this;have hp:0<b.length:=List.length_pos_of_mem hx;rw[yU];omega
structure vQ (N:jf->List jf) (s:jf) (ks todo:List jf):Prop where
 nd:ks.Nodup
 st:s∈ks
 rc:∀k∈ks,Jn N s k
 cl:∀k∈ks,k ∉ todo->∀b∈N k,b∈ks
theorem vQ.all {ks:List jf} (I:vQ N s ks []) (e:jf):e∈ks↔Jn N s e:=by
 refine#[I.rc e,λh=>?_]
 induction h with
 | refl=>exact I.st
 | step _ m ih=>exact I.cl _ ih (by simp) _ m
theorem vQ.start (N:jf->List jf) (s:jf):vQ N s [s] [s]:=#[by simp,by simp,λk h=>by rw[yx] at h;subst h;exact .refl,λk h n=>absurd h n]
theorem vQ.add {e:jf}{ks todo:List jf} (I:vQ N s ks todo) (hc:c∈ks) (he:e∈N c) (hn:e ∉ ks):vQ N s (ks++[e]) (todo++[e]):=by
 refine#[QC.mpr #[I.nd,by simp,λa ha b hb z=>?_],yv _ I.st,λk hk=>?_,λk hk nt b hb=>?_]
 ·rw[yx] at hb;subst hb;subst z;exact hn ha
 ·rcases ym.mp hk with hk|hk
  ·exact I.rc k hk
  ·rw[yx] at hk;subst hk;exact .step (I.rc c hc) he
 ·rcases ym.mp hk with hk|hk
  ·exact yv _ (I.cl k hk (λz=>nt (yv _ z)) b hb)
  ·exact absurd (yy _ hk) nt
theorem vQ.done {ks t1 t2:List jf} (I:vQ N s ks (c::t1++t2)) (h:∀b∈N c,b∈ks):vQ N s ks (t1++t2):=by
 refine#[I.nd,I.st,I.rc,λk hk nt b hb=>?_];by_cases e:k=c
 ·subst e;exact h b hb
 ·refine I.cl k hk (λz=>?_) b hb;rw[List.cons_append] at z;rcases yM.mp z with z|z
  ·exact e z
  ·exact nt z
variable {P:Be}{w:World}{K:AQ}{mg:AT}{base:Heap}{t:Adr}
theorem qw {FZ:List (List Key)}{ns:List jf} (pm:FZ.Perm (ns.map k3)):∃DR:List jf,FZ=DR.map k3/\DR.Perm ns:=by
 have e:FZ=(FZ.map Nd).map k3:=by
  rw[Qr];exact ((QB (g:=id) λk h=>by
   obtain⟨x,_,rfl⟩:=yf.mp (pm.mem_iff.mp h)
   rfl).trans (List.map_id FZ)).symm
 refine#[FZ.map Nd,e,?_];have:=pm.map Nd;rw[Qr] at this;have e2:ns.map (Nd∘k3)=ns:=(QB (g:=id) λc _=>rfl).trans (List.map_id ns);rwa [e2] at this
theorem uW {bk:jG}{ks:List jf} (e:bk.map (·.1)=ks.map k3):(jM bk (k3 c)).isSome=true↔c∈ks:=by
 rw[vz,e];constructor
 ·intro h;obtain⟨d,hd,q⟩:=yf.mp h;rw[<-uv q];exact hd
 ·exact λh=>yf.mpr #[c,h,rfl]
theorem zG {bk:jG}{ks:List jf} (e:bk.map (·.1)=ks.map k3) {v:V} (n:c ∉ ks):(j4 bk (k3 c) v).map (·.1)=(ks++[c]).map k3:=by
 have hv:jM bk (k3 c)=none:=by
  cases h:jM bk (k3 c) with
  | none=>rfl
  | some u=>exact absurd ((uW e).mp (by rw[h];rfl)) n
 rw[zF _ hv,yn,yn,e];rfl
def ox (C:Addr):Sp:=λvs H Q _=>N7 λ(o dx c d p:Addr) (w h l:Nat) (cs ds:jG) (s0:jf)=>A7 (vs=[.ref o,.ref p]) (Bd C H o dx c d w h l cs ds) (l<=3) (cs.length<=1000) (H p=some (.tup [.int s0.1,.int s0.2.1,.int s0.2.2])) (vd cs w h l s0=true) (∀(r:Addr) (bk:jG) (ks:List jf) (H':Hp),jc H H'->H r=none->H' r=some (.dT bk)->bk.map (·.1)=ks.map k3->ks.Nodup->(∀e,e∈ks↔Jn (Jh cs ds w h l) s0 e)->Q (.ref r) H')
theorem fH (T:Txt K mg t):jR P w K mg base 6 "spread" ["board","start"] (ox t.jr):=by
 refine T.iD.ok ["board","start","back","edge","farther","cell","other"] ?_;rintro _ H Q E ⟨o,dx,c,d,p,w,h,l,cs,ds,s0,rfl,B,l3,lc,hp,Lu,q⟩;refine#[rfl,λBk A outer s hr=>#[_,(jh (jz 2 (lJ (vA hr) (pv 1) nB)) (jh (jz 3 (j5 (ja (pv 1) je))) (jh (nK jH (lM (pv 3) (λ_=>rfl)) (jh (jz 4 (j5 je)) (jh (jS jH (jN (pv 3)) (js 5) (jj (jS jH (jN (jm (mB T) (ja (pv 0) (ja (pv 5) je)))) (js 6) (jj (jX (uh (Uu (pv 6) (pv 2))) (jh (UA (pv 2) (pv 6) (pv 5)) (jj (jE (JO PySem.F.plainAttrs_list PySem.F.slot_list_append PySem.F.type_list_append JH (pv 4) (ja (pv 6) je))))) jL))))) (jj (jz 3 (pv 4)))))) (jj (jB (pv 2)))))),?_]];obtain⟨cells,F0,OJ,Lv⟩:=gI B.C (List.Perm.refl _);have ncl:cells.length=cs.length:=by have:=congrArg List.length F0;rw[yb,yb] at this;exact this.symm
 have NB:=V4 (ds:=ds) Lv;have TR:=(Lv s0).mpr Lu;generalize eN:Jh cs ds w h l=N at NB q;refine λr BS=>#[_,rfl,p,k3 s0,rfl,jb,jw (ji hp BS) hp,?_];have s1:jc H (upd (upd H r (.dT [])) r (.dT [(k3 s0,.non)])):=λb u e=>by rw[jl (ji e BS),jl (ji e BS)];exact e
 have e1:upd (upd H r (.dT [])) r (.dT [(k3 s0,.non)]) r=some (.dT [(k3 s0,.non)]):=jb;refine UW ?_;dsimp only;generalize upd (upd H r (.dT [])) r (.dT [(k3 s0,.non)])=H1 at s1 e1 ⊢;refine#[_,rfl,(by show 1<=sizeLine;decide),λed M₂=>?_];have s2:=jk (o:=.lst [.ref p]) (jc.refl H1) M₂;have e2:upd H1 ed (.lst [.ref p]) ed=some (.lst ([p].map V.ref)):=jb;refine UW ?_;dsimp only;generalize upd H1 ed (.lst [.ref p])=H2 at s2 e2 ⊢;have Et:=jc.trans s1 s2;refine#[λm σ H'=>∃(ed:Addr) (v4 v5 v6:Option V) (bk:jG) (ks BO:List jf) (es:AX),σ=[some (.ref o),some (.ref p),some (.ref r),some (.ref ed),v4,v5,v6]/\jc H H'/\H' r=some (.dT bk)/\bk.map (·.1)=ks.map k3/\H' ed=some (.lst (es.map V.ref))/\jp H' es BO/\vQ N s0 ks BO/\(∀e∈BO,e∈ks)/\m=2*(cells.length - ks.length)+BO.length.min 1,#[_,ed,_,_,_,_,[s0],[s0],[p],rfl,Et,s2 _ _ e1,rfl,e2,#[rfl,λi q c h1 h2=>?_],vQ.start N s0,λe h=>h,rfl],?_]
 ·match i with
  | 0=>cases h1;cases h2;exact Et _ _ hp
  | i+1=>cases h1
 rintro m σ H3 ⟨ed,v4,v5,v6,bk,ks,BO,es,rfl,s3,OK,TU,Lw,C3,I3,Rr,em⟩;refine#[_,rfl,_,.inl #[_,jo.of Lw,rfl],JJ (λhf=>?_) λht=>?_]
 ·refine#[λσ' H'=>∃m',m'<m/\∃(ed:Addr) (v4 v5 v6:Option V) (bk:jG) (ks BO:List jf) (es:AX),σ'=[some (.ref o),some (.ref p),some (.ref r),some (.ref ed),v4,v5,v6]/\jc H H'/\H' r=some (.dT bk)/\bk.map (·.1)=ks.map k3/\H' ed=some (.lst (es.map V.ref))/\jp H' es BO/\vQ N s0 ks BO/\(∀e∈BO,e∈ks)/\m'=2*(cells.length - ks.length)+BO.length.min 1,λ_ _ h=>h,?_];have Rt:0<BO.length:=by
   rw[<-C3.1];cases es with
   | nil=>cases hf
   | cons a r=>exact Ql _
  refine#[(by show 0<=sizeLine;omega),λfa BC=>?_];have s4:=jk (o:=.lst []) (jc.refl H3) BC;have e4:upd H3 fa (.lst []) fa=some (.lst (([]:AX).map V.ref)):=jb;refine UW ?_;dsimp only;generalize upd H3 fa (.lst [])=H4 at s4 e4 ⊢;have De:H fa=none:=by
   cases e:H fa with
   | none=>rfl
   | some u=>rw[s3 _ _ e] at BC;cases BC
  have n₂:fa≠ed:=λz=>by rw[z,Lw] at BC;cases BC
  have N':fa≠r:=λz=>by rw[z,OK] at BC;cases BC
  have ner:ed≠r:=jq Lw OK;refine Ua (λσ H'=>E6 λ(v5 v6:Option V) (bk:jG) (Bm CQ:List jf) (fs:AX)=>A9 (σ=[some (.ref o),some (.ref p),some (.ref r),some (.ref ed),some (.ref fa),v5,v6]) (jc H H') (H' r=some (.dT bk)) (bk.map (·.1)=Bm.map k3) (H' fa=some (.lst (fs.map V.ref))) (jp H' fs CQ) (vQ N s0 Bm CQ) (∀e∈CQ,e∈Bm) (Bm.length=ks.length+CQ.length)) (λB' nx=>?_) ?_
  ·refine#[_,rfl,ed,rfl,#[_,jo.of (s4 _ _ Lw)],jY (xs:=es.map V.ref) (λi σ H'=>E6 λ(v5 v6:Option V) (bk:jG) (Bm CQ:List jf) (fs:AX)=>rj (σ=[some (.ref o),some (.ref p),some (.ref r),some (.ref ed),some (.ref fa),v5,v6]) (jc H H') (H' r=some (.dT bk)) (bk.map (·.1)=Bm.map k3) (H' ed=some (.lst (es.map V.ref))) (jp H' es BO) (H' fa=some (.lst (fs.map V.ref))) (jp H' fs CQ) (vQ N s0 Bm (BO.drop i++CQ)) (∀e∈BO,e∈Bm) (∀e∈CQ,e∈Bm) (Bm.length=ks.length+CQ.length)) #[_,_,bk,ks,[],[],rfl,jc.trans s3 s4,s4 _ _ OK,TU,s4 _ _ Lw,C3.same s4,e4,#[rfl,(λi p c h=>by cases h)],by rw[List.drop_zero,yB];exact I3,Rr,(λe h=>by cases h),rfl] (λi σ H' _ h_=>by obtain⟨_,_,_,_,_,_,_,_,_,_,e,_⟩:=h_;exact jo.of e) ?_ ?_]
   ·rintro i v σ H5 hv ⟨v5,v6,Lx,F1,BY,Eu,rfl,s5,Ly,Lz,TV,C5,BJ,LA,I5,F2,Ce,Ew⟩;rw[yj] at hv;obtain⟨pc,Ee,rfl⟩:=yl.mp hv;have hi:i<BO.length:=by rw[<-C5.1];exact (yi.mp Ee).1
    have Dv:=C5.2 i pc _ Ee (yc hi);have Bn:=F2 _ (yY hi);have TX:BO.drop i=BO[i]::BO.drop (i+1):=Qc hi;generalize BO[i]=cc at Dv Bn TX;have B5:=B.same s5;refine#[_,rfl,_,rfl,o,dx,c,d,pc,w,h,cc.1,cc.2.1,cc.2.2,l,cs,ds,rfl,B5.o,B5.c,B5.d,l3,Dv,λnl bs FZ H6 s6 TY e6 ka pm up=>?_];obtain⟨DR,rfl,Dt⟩:=qw pm;have TZ:∀e,e∈DR↔e∈N cc:=λe=>by rw[Dt.mem_iff,<-eN]
    have N₁:=jp.of_key ka;have N₂:nl≠fa:=λz=>by rw[z,BJ] at TY;cases TY
    refine#[nl,rfl,#[_,jo.of e6],jY (xs:=bs.map V.ref) (λj σ H'=>E5 λ(v6:Option V) (bk:jG) (Bm CQ:List jf) (fs:AX)=>Au (σ=[some (.ref o),some (.ref p),some (.ref r),some (.ref ed),some (.ref fa),some (.ref pc),v6]) (jc H H') (H' r=some (.dT bk)) (bk.map (·.1)=Bm.map k3) (H' ed=some (.lst (es.map V.ref))) (jp H' es BO) (H' fa=some (.lst (fs.map V.ref))) (jp H' fs CQ) (H' nl=some (.lst (bs.map V.ref))) (jp H' bs DR) (H' pc=some (.tup [.int cc.1,.int cc.2.1,.int cc.2.2])) (vQ N s0 Bm (BO.drop i++CQ)) (∀e∈BO,e∈Bm) (∀e∈CQ,e∈Bm) (Bm.length=ks.length+CQ.length) (cc∈Bm) (∀e∈DR.take j,e∈Bm)) #[_,Lx,F1,BY,Eu,rfl,jc.trans s5 s6,s6 _ _ Ly,Lz,s6 _ _ TV,C5.same s6,s6 _ _ BJ,LA.same s6,e6,N₁,s6 _ _ Dv,I5,F2,Ce,Ew,Bn,(λe h=>by simp at h)] (λj σ H' _ h_=>by obtain⟨_,_,_,_,_,_,_,_,_,_,_,_,_,e,_⟩:=h_;exact jo.of e) ?_ ?_]
    ·rintro j v σ H7 hv ⟨Ru,Ih,Fg,Ex,DS,rfl,s7,Dg,Dw,OL,C7,BM,LB,Rv,Ii,Ey,I7,Ez,CS,F3,EA,LF⟩;rw[yj] at hv;obtain⟨pe,T4,rfl⟩:=yl.mp hv;have hj:j<DR.length:=by rw[<-Ii.1];exact (yi.mp T4).1
     have ej:=yc hj;have BZ:=Ii.2 j pe _ T4 ej;have Ij:=(TZ _).mp (yY hj);have tk:∀Bm:List jf,(∀e∈DR.take j,e∈Bm)->DR[j]∈Bm->∀e∈DR.take (j+1),e∈Bm:=λBm h1 h2 e he=>by
      rw[y7,ej] at he;rcases ym.mp he with he|he
      ·exact h1 e he
      ·simp at he;subst he;exact h2
     generalize DR[j]=e at BZ Ij tk;have lk:Fg.length<=cells.length:=uy I7.nd λx hx=>(I7.rc x hx).on NB TR;have lb:Ih.length=Fg.length:=by have:=congrArg List.length Dw;rw[yb,yb] at this;exact this
     refine#[_,rfl,_,rfl,r,_,rfl,JN.t (k:=k3 e) Dg BZ,_,rfl,JJ (λhf=>?_) λht=>#[_,Ih,Fg,Ex,DS,rfl,s7,Dg,Dw,OL,C7,BM,LB,Rv,Ii,Ey,I7,Ez,CS,F3,EA,tk Fg LF ((uW Dw).mp ht)]];have BA:e ∉ Fg:=λz=>by rw[(uW Dw).mpr z] at hf;cases hf
     refine#[_,rfl,_,rfl,_,rfl,r,_,rfl,vn.t (k:=k3 e) Dg BZ (yL (show _<=1000 by omega) (by decide)),?_];have a₁:fa≠r:=N';have Cf:upd H7 r (.dT (j4 Ih (k3 e) (.ref pc))) fa=some (.lst (DS.map V.ref)):=Vr BM Dg;have lf:DS.length<=1000:=by rw[LB.1];have:=lk;omega
     refine#[_,rfl,.inl #[rfl,_,jo.of Cf],_,rfl,fa,_,_,rfl,rfl,Cf,by rw[yb];exact yL lf (by decide),_,_,Fg++[e],Ex++[e],DS++[pe],rfl,λb u eb=>?_,jw (yP a₁) jb,zG Dw BA,?_,?_,by rw[jb,yn];rfl,?_,?_,?_,?_,?_,λx hx=>yv _ (Ez x hx),λx hx=>?_,by rw[ye,ye];show _+1=_+(_+1);omega,yv _ EA,tk _ (λx hx=>yv _ (LF x hx)) (by simp)]
     ·rw[jl (ji eb De),jl (ji eb BS)];exact s7 _ _ eb
     ·rw[jl (yP n₂)];exact Vr OL Dg
     ·exact (C7.dt Dg).wr Cf
     ·exact ((LB.dt Dg).snoc (jw (jq BZ Dg) BZ)).wr Cf
     ·rw[jl N₂];exact Vr Rv Dg
     ·exact (Ii.dt Dg).wr Cf
     ·have e9:upd H7 r (.dT (j4 Ih (k3 e) (.ref pc))) pc=some (.tup [.int cc.1,.int cc.2.1,.int cc.2.2]):=by
       rw[jl (jq Ey Dg)];exact Ey
      rw[jl (jq e9 Cf)];exact e9
     ·have:=I7.add EA Ij BA;rwa [yt] at this
     ·rcases ym.mp hx with hx|hx
      ·exact yv _ (CS x hx)
      ·exact yy _ hx
    ·rintro σ H7 ⟨Ru,Ih,Fg,Ex,DS,rfl,s7,Dg,Dw,OL,C7,BM,LB,Rv,Ii,Ey,I7,Ez,CS,F3,EA,LF⟩;rw[yb,Ii.1,yG] at LF;refine#[_,_,Ih,Fg,Ex,DS,rfl,s7,Dg,Dw,OL,C7,BM,LB,?_,Ez,CS,F3];rw[TX] at I7;exact I7.done λb hb=>LF b ((TZ b).mpr hb)
   ·rintro σ H5 ⟨v5,v6,Lx,F1,BY,Eu,rfl,s5,Ly,Lz,TV,C5,BJ,LA,I5,F2,Ce,Ew⟩;rw[yb,C5.1,List.drop_length,List.nil_append] at I5;exact nx _ _ #[_,_,Lx,F1,BY,Eu,rfl,s5,Ly,Lz,BJ,LA,I5,Ce,Ew]
  ·rintro σ H5 ⟨v5,v6,Lx,F1,BY,Eu,rfl,s5,Ly,Lz,BJ,LA,I5,Ce,Ew⟩;have lk:F1.length<=cells.length:=uy I5.nd λx hx=>(I5.rc x hx).on NB TR;refine#[_,rfl,2*(cells.length - F1.length)+BY.length.min 1,?_,fa,_,_,_,Lx,F1,BY,Eu,rfl,s5,Ly,Lz,BJ,LA,I5,Ce,rfl];rw[em];have m1:BO.length.min 1=1:=Wj Rt;have m2:BY.length.min 1<=BY.length:=Nat.min_le_left _ _;have m3:BY.length.min 1<=1:=Nat.min_le_right _ _;rw[m1];omega
 ·have he:BO=[]:=by
   refine List.eq_nil_of_length_eq_zero ?_;rw[<-C3.1];cases es with
   | nil=>rfl
   | cons a r=>cases ht
  subst he;exact#[_,rfl,q r bk ks H3 s3 BS OK TU I3.nd λe=>I3.all e]
variable {P:Be}{w:World}{K:AQ}{mg:AT}{base:Heap}{t:Adr}
structure CL (cs:jG) (w h l:Nat) (cells:List jf):Prop where
 up:(cells.map k3).Pairwise λa b=>lx b a=false
 nd:cells.Nodup
 mem:∀e,e∈cells↔vd cs w h l e=true
theorem CL.of {w:Nat} (T:ue cs w h l) {ks:List (List Key)} (pm:ks.Perm (cs.map (·.1))) (up:ks.Pairwise λa b=>lx b a=false):∃cells:List jf,ks=cells.map k3/\CL cs w h l cells/\cells.length=cs.length:=by
 obtain⟨cells,e,nd,mem⟩:=gI T pm;have:=pm.length_eq;rw[e,yb,yb] at this;exact#[cells,e,#[e▸up,nd,mem],this]
theorem CL.eq {w:Nat}{cells:List jf} (L:CL cs w h l cells) (T:ue cs w h l) {ks:List (List Key)} (pm:ks.Perm (cs.map (·.1))) (up:ks.Pairwise λa b=>lx b a=false):ks=cells.map k3:=by
 obtain⟨c2,e,L2,_⟩:=CL.of T pm up;subst e;exact uR (((Qq L2.nd L.nd).mpr λe=>by rw[L2.mem,L.mem]).map k3) up L.up
theorem zo:∀{a b:List jf},a.map k3=b.map k3->a=b
 | [],[],_=>rfl
 | [],_::_,h=>by cases h
 | _::_,[],h=>by cases h
 | x::a,y::b,h=>by
  rw[yH,yH] at h;injection h with h1 h2
  rw[uv h1,zo h2]
theorem CL.uniq {w:Nat}{a b:List jf} (A:CL cs w h l a) (B:CL cs w h l b):a=b:=zo (uR (((Qq A.nd B.nd).mpr λe=>by rw[A.mem,B.mem]).map k3) A.up B.up)
theorem CL.len {w:Nat}{cells:List jf} (L:CL cs w h l cells) (T:ue cs w h l):cells.length=cs.length:=by
 obtain⟨c2,e,nd,mem⟩:=gI T (List.Perm.refl _);have h1:=((Qq L.nd nd).mpr λe=>by rw[L.mem,mem]).length_eq;have h2:=congrArg List.length e;rw[yb,yb] at h2;omega
theorem cq {cells ks:List jf}{Bm:List (List Key)}{s0:jf} (B:Nb N cells) (hs:s0∈cells) (nd:cells.Nodup) (up:(cells.map k3).Pairwise λa b=>lx b a=false) (pm:Bm.Perm (ks.map k3)) (Dx:Bm.Pairwise λa b=>lx b a=false) (nk:ks.Nodup) (mem:∀e,e∈ks↔Jn N s0 e):Bm=(uf N cells s0).map k3:=by
 refine uR (pm.trans (List.Perm.map k3 ?_)) Dx (List.Pairwise.sublist (List.filter_sublist.map k3) up);exact (Qq nk (nd.filter _)).mpr λe=>by rw[mem];exact (u7 B hs).symm
def vO (H:Hp) (as:AX) (BI:List (List jf)):Prop:=as.length=BI.length/\∀(i:Nat) (a:Addr) (l:List jf),as[i]?=some a->BI[i]?=some l->∃bs:List Addr,H a=some (.lst (bs.map V.ref))/\jp H bs l
theorem vO.same {H':Hp} (C:vO H as BI) (s:jc H H'):vO H' as BI:=#[C.1,λi a l h1 h2=>by
 obtain⟨bs,e,c⟩:=C.2 i a l h1 h2;exact#[bs,s _ _ e,c.same s]]
theorem vO.snoc {a:Addr}{bs:AX}{l:List jf} (C:vO H as BI) (e:H a=some (.lst (bs.map V.ref))) (c:jp H bs l):vO H (as++[a]) (BI++[l]):=#[by rw[ye,ye,C.1];rfl,λi q d h1 h2=>by
 by_cases h:i<as.length
 ·rw[yK h] at h1;rw[yK (C.1▸h)] at h2;exact C.2 i q d h1 h2
 ·rw[yS (by omega)] at h1;rw[yS (by rw[<-C.1];omega),<-C.1] at h2;generalize i - as.length=m at h1 h2;cases m with
  | zero=>cases h1;cases h2;exact#[bs,e,c]
  | succ m=>cases h1]
theorem vO.wr (C:vO H as BI) (hD:H D=some (.lst ys)) (n:∀a∈as,a≠D):vO (upd H D (.lst Ls)) as BI:=#[C.1,λi a l h1 h2=>by
 obtain⟨bs,e,c⟩:=C.2 i a l h1 h2;exact#[bs,jw (n a (yT h1)) e,c.wr hD]]
theorem vO.dt {c:Addr} (C:vO H as BI) (hc:H c=some (.dT u)):vO (upd H c (.dT u')) as BI:=#[C.1,λi a l h1 h2=>by
 obtain⟨bs,e,k⟩:=C.2 i a l h1 h2;exact#[bs,Vr e hc,k.dt hc]]
theorem aq {cells:List jf} (B:Nb N cells) (nd:cells.Nodup) (on:∀r∈rs,r∈cells) (ap:rs.Pairwise λa b=>¬Jn N a b):((rs.map (uf N cells)).flatten).Nodup:=by
 refine zx (λl hl=>?_) ?_
 ·obtain⟨r,hr,rfl⟩:=yf.mp hl;exact nd.filter _
 ·refine Qo.mpr (ap.imp_of_mem λ{a b} ha hb h=>?_);intro x hx y hy z;subst z;exact h (((u7 B (on a ha)).mp hx).trans (((u7 B (on b hb)).mp hy).symm B (on b hb)))
theorem iS {cells:List jf} (B:Nb N cells) (nd:cells.Nodup) (on:∀r∈rs,r∈cells) (ap:rs.Pairwise λa b=>¬Jn N a b):((rs.map (uf N cells)).flatten).length<=cells.length:=uy (aq B nd on ap) λx hx=>by
 obtain⟨l,hl,h⟩:=List.mem_flatten.mp hx;obtain⟨r,hr,rfl⟩:=yf.mp hl;exact (yZ.mp h).1
def tY (C:Addr):Sp:=λvs H Q _=>E9 λ(o dx c d:Addr) (w h l:Nat) (cs ds:jG)=>A5 (vs=[.ref o]) (Bd C H o dx c d w h l cs ds) (l<=3) (cs.length<=1000) (∀(cells:List jf) (r:Addr) (as:AX) (H':Hp),CL cs w h l cells->jc H H'->H r=none->H' r=some (.lst (as.map V.ref))->vO H' as ((JI (Jh cs ds w h l) cells).map (uf (Jh cs ds w h l) cells))->(∀a∈as,H a=none/\a≠r)->Q (.ref r) H')
theorem cN (T:Txt K mg t):jR P w K mg base 7 "islands" ["board"] (tY t.jr):=by
 refine T.dw.ok ["board","found","seen","cell","island","part"] ?_;rintro _ H Q E ⟨o,dx,c,d,w,h,l,cs,ds,rfl,B,l3,lc,q⟩;refine#[rfl,λBk A outer s hr=>#[_,(jh (jz 1 (j5 je)) (jh (jz 2 UY) (jh (jS jH (jN (uQ (GM (Uz T)) (pv 0))) (js 3) (jj (jX (uh (Uu (pv 3) (pv 2))) (jh (jz 4 (jT (Us rfl) (by rfl) T.uG uD (ja (jm (fH T) (ja (pv 0) (ja (pv 3) je))) je))) (jh (jE (JO PySem.F.plainAttrs_list PySem.F.slot_list_append PySem.F.type_list_append JH (pv 1) (ja (pv 4) je))) (jj (jS jH (jN (pv 4)) (js 5) (jj (UA (pv 2) (pv 5) Uk)))))) jL))) (jj (jB (pv 1)))))),?_]];refine#[(by show 0<=sizeLine;omega),λfo Fh=>?_];have s1:=jk (o:=.lst []) (jc.refl H) Fh;have e1:upd H fo (.lst []) fo=some (.lst (([]:AX).map V.ref)):=jb;refine UW ?_;dsimp only;generalize upd H fo (.lst [])=H1 at s1 e1 ⊢;refine λse T5=>?_;have s2:=jk (o:=.dT []) (jc.refl H1) T5;have e2:upd H1 se (.dT []) se=some (.dT []):=jb;refine UW ?_;dsimp only;generalize upd H1 se (.dT [])=H2 at s2 e2 ⊢;have Et:=jc.trans s1 s2;have nn:∀{H':Hp} {x:Addr},jc H H'->H' x=none->H x=none:=λ{H' x} s hx=>by
  cases e:H x with
  | none=>rfl
  | some u=>rw[s _ _ e] at hx;cases hx
 have Rw:=nn s1 T5;have B2:=B.same Et;refine#[_,rfl,o,dx,_,rfl,B2.o,rfl,o,dx,c,d,w,h,l,cs,rfl,B2.o,B2.c,B.C.sds,λkq bs ks BU ka pm up=>?_];obtain⟨cells,rfl,L,OM⟩:=CL.of B.C pm up;have NB:=V4 (ds:=ds) L.mem;generalize eN:Jh cs ds w h l=N at NB q;have RP:∀i,rJ N (cells.take i) (JI N (cells.take i)):=λi=>kM NB (cells.take i) λc hc=>QF hc;have LG:∀i,∀r∈JI N (cells.take i),r∈cells:=λi r hr=>QF ((RP i).sub.subset hr);have s3:=jk (o:=.lst (bs.map V.ref)) (jc.refl H2) BU;have e3:upd H2 kq (.lst (bs.map V.ref)) kq=some (.lst (bs.map V.ref)):=jb;have C3:=(jp.of_key ka).same s3;have a₂:kq≠fo:=λz=>by rw[z,s2 _ _ e1] at BU;cases BU
 skip
 generalize upd H2 kq (.lst (bs.map V.ref))=H3 at s3 e3 C3 ⊢;have r0:JI N (cells.take 0)=[]:=rfl;refine#[kq,rfl,#[_,jo.of e3],jY (xs:=bs.map V.ref) (λi σ H'=>E5 λ(v3 v4 v5:Option V) (sn:jG) (as:AX)=>As (σ=[some (.ref o),some (.ref fo),some (.ref se),v3,v4,v5]) (jc H H') (H' kq=some (.lst (bs.map V.ref))) (jp H' bs cells) (H' fo=some (.lst (as.map V.ref))) (vO H' as ((JI N (cells.take i)).map (uf N cells))) (∀a∈as,H a=none/\a≠fo) (H' se=some (.dT sn)) (∀e,(jM sn (k3 e)).isSome=true↔∃r∈JI N (cells.take i),Jn N r e) (sn.length<=((JI N (cells.take i)).map (uf N cells)).flatten.length)) #[_,_,_,[],[],rfl,jc.trans Et s3,e3,C3,s3 _ _ (s2 _ _ e1),#[rfl,(λi a l h=>by cases h)],(λa h=>by cases h),s3 _ _ e2,λe=>#[(λh=>by cases h),(λh_=>by obtain⟨r,h,_⟩:=h_;exact by rw[r0] at h;cases h)],yV _] (λi σ H' _ h_=>by obtain⟨_,_,_,_,_,_,_,e,_⟩:=h_;exact jo.of e) ?_ ?_]
 ·rintro i v σ H4 hv ⟨v3,v4,v5,sn,as,rfl,s4,Rx,C4,Bz,F4,LH,LJ,Dh,Ry⟩;rw[yj] at hv;obtain⟨pc,Ee,rfl⟩:=yl.mp hv;have hi:i<cells.length:=by rw[<-C4.1];exact (yi.mp Ee).1
  have Dv:=C4.2 i pc _ Ee (yc hi);have Bn:=yY hi;have Rz:cells.take (i+1)=cells.take i++[cells[i]]:=by rw[y7,yc hi];rfl
  have T6:=LG i;have b₁:=iS NB L.nd T6 (RP i).apart;have RS:=(RP i).sub.length_le;have T7:(cells.take i).length<=cells.length:=by rw[yO];omega
  rw[Rz,Kz];generalize cells[i]=cc at Dv Bn;generalize cells.take i=pre at F4 Dh Ry T6 b₁ RS T7;have Lu:=(L.mem cc).mp Bn;refine#[_,rfl,_,rfl,se,_,rfl,JN.t (k:=k3 cc) LJ Dv,_,rfl,JJ (λhf=>?_) λht=>?_]
  ·have Cm:¬∃r∈JI N pre,Jn N r cc:=λz=>by rw[(Dh cc).mpr z] at hf;cases hf
   rw[if_neg Cm];have B4:=B.same s4;refine#[_,rfl,_,rfl,o,dx,c,d,pc,w,h,l,cs,ds,cc,rfl,B4,l3,lc,Dv,Lu,λr bk ks H5 s5 hr5 er ek nk mem=>?_];refine#[r,bk,[true,true,true],rfl,er,λkv Bv=>?_,by decide,λil Cv Bm E0 Lp Dt Ep=>?_]
   ·obtain⟨c0,_,e0⟩:=yf.mp (ek▸yf.mpr #[kv,Bv,rfl]:kv.1∈ks.map k3);rw[<-e0];rfl
   rw[ek] at Dt;rw[eN] at mem;have e:=cq NB Bn L.nd L.up Dt Ep nk mem;subst e;have s6:=jk (o:=.lst (Cv.map V.ref)) (jc.refl H5) E0;have e6:upd H5 il (.lst (Cv.map V.ref)) il=some (.lst (Cv.map V.ref)):=jb;have C6:=(jp.of_key Lp).same s6;have RA:=nn (jc.trans s4 s5) E0;have RC:il≠fo:=λz=>by rw[z,s5 _ _ Bz] at E0;cases E0
   refine UW ?_;dsimp only;generalize upd H5 il (.lst (Cv.map V.ref))=H6 at s6 e6 C6 ⊢;have F5:=jc.trans s5 s6;have BF:=F5 _ _ Bz;have lis:=qf N cells cc;have b₂:as.length<=1000:=by rw[F4.1,yb];omega
   refine#[_,rfl,.inl #[rfl,_,jo.of BF],_,rfl,fo,_,_,rfl,rfl,BF,by rw[yb];exact yL b₂ (by decide),?_];have e7:upd H6 fo (.lst (as.map V.ref++[.ref il])) fo=some (.lst ((as++[il]).map V.ref)):=by rw[jb,yn];rfl
   have s7:jc H (upd H6 fo (.lst (as.map V.ref++[.ref il]))):=λb u e=>by rw[jl (ji e Fh)];exact F5 _ _ (s4 _ _ e)
   have Dw:upd H6 fo (.lst (as.map V.ref++[.ref il])) kq=some (.lst (bs.map V.ref)):=by rw[jl a₂];exact F5 _ _ Rx
   have C7:jp (upd H6 fo (.lst (as.map V.ref++[.ref il]))) bs cells:=(C4.same F5).wr BF;have T8:vO (upd H6 fo (.lst (as.map V.ref++[.ref il]))) (as++[il]) ((JI N pre++[cc]).map (uf N cells)):=by
    rw[yn];exact ((F4.same F5).wr BF λa ha=>(LH a ha).2).snoc (jw RC e6) (C6.wr BF)
   have RD:upd H6 fo (.lst (as.map V.ref++[.ref il])) il=some (.lst (Cv.map V.ref)):=by rw[jl RC];exact e6
   have T9:jp (upd H6 fo (.lst (as.map V.ref++[.ref il]))) Cv (uf N cells cc):=C6.wr BF;have Wr:upd H6 fo (.lst (as.map V.ref++[.ref il])) se=some (.dT sn):=by rw[jl (jq (F5 _ _ LJ) BF)];exact F5 _ _ LJ
   dsimp only;generalize upd H6 fo (.lst (as.map V.ref++[.ref il]))=H7 at e7 s7 Dw C7 T8 RD T9 Wr ⊢;refine#[_,rfl,il,rfl,#[_,jo.of RD],jY (xs:=Cv.map V.ref) (λj σ H'=>E2 λ(v5:Option V) (RE:jG)=>rh (σ=[some (.ref o),some (.ref fo),some (.ref se),some (.ref pc),some (.ref il),v5]) (jc H H') (H' kq=some (.lst (bs.map V.ref))) (jp H' bs cells) (H' fo=some (.lst ((as++[il]).map V.ref))) (vO H' (as++[il]) ((JI N pre++[cc]).map (uf N cells))) (H' il=some (.lst (Cv.map V.ref))) (jp H' Cv (uf N cells cc)) (H' se=some (.dT RE)) (∀e,(jM RE (k3 e)).isSome=true↔((∃r∈JI N pre,Jn N r e)\/e∈(uf N cells cc).take j)) (RE.length<=sn.length+j)) #[_,sn,rfl,s7,Dw,C7,e7,T8,RD,T9,Wr,λe=>by rw[Dh e];simp,yg _] (λj σ H' _ h_=>by obtain⟨_,_,_,_,_,_,_,_,e,_⟩:=h_;exact jo.of e) ?_ ?_]
   ·rintro j v σ H8 hv ⟨Fi,RF,rfl,s8,Ik,C8,Cf,RG,Ws,Il,EB,EC,Wt⟩;rw[yj] at hv;obtain⟨pp,HZ,rfl⟩:=yl.mp hv;have hj:j<(uf N cells cc).length:=by rw[<-Il.1];exact (yi.mp HZ).1
    have Wu:=Il.2 j pp _ HZ (yc hj);have d₁:(uf N cells cc).take (j+1)=(uf N cells cc).take j++[(uf N cells cc)[j]]:=by rw[y7,yc hj];rfl
    rw[d₁];generalize (uf N cells cc)[j]=ee at Wu;have lp:=u6 RF (k3 ee) (.bl true);refine#[_,rfl,_,rfl,se,_,rfl,vn.t (k:=k3 ee) EB Wu (yL (show _<=10000 by omega) (by decide)),_,_,rfl,λb u e=>jw (ji e Rw) (s8 _ _ e),Vr Ik EB,C8.dt EB,Vr Cf EB,RG.dt EB,Vr Ws EB,Il.dt EB,jb,λe=>?_,by omega];rw[VA,ym,yx,<-or_assoc,<-EC e];by_cases h:e=ee
    ·subst h;simp
    ·rw[if_neg (λz=>h (uv z))];exact#[λg=>.inl g,λg=>g.elim id λz=>absurd z h]
   ·rintro σ H8 ⟨Fi,RF,rfl,s8,Ik,C8,Cf,RG,Ws,Il,EB,EC,Wt⟩;rw[yb,Il.1] at Wt;rw[yb,Il.1,yG] at EC;refine#[_,_,_,RF,as++[il],rfl,s8,Ik,C8,Cf,RG,λa ha=>?_,EB,λe=>?_,?_]
    ·rcases ym.mp ha with ha|ha
     ·exact LH a ha
     ·rw[yx] at ha;subst ha;exact#[RA,RC]
    ·rw[EC e,u7 NB Bn];constructor
     ·rintro (⟨r,h1,h2⟩|h)
      ·exact#[r,yv _ h1,h2]
      ·exact#[cc,by simp,h]
     ·rintro⟨r,h1,h2⟩;rcases ym.mp h1 with h1|h1
      ·exact .inl #[r,h1,h2]
      ·rw[yx] at h1;subst h1;exact .inr h2
    ·rw[yn,List.flatten_append,ye];show _<=_+((uf N cells cc)++[]).length;rw[yB];omega
  ·rw[if_pos ((Dh cc).mp ht)];exact#[_,_,_,sn,as,rfl,s4,Rx,C4,Bz,F4,LH,LJ,Dh,Ry]
 ·rintro σ H4 ⟨v3,v4,v5,sn,as,rfl,s4,Rx,C4,Bz,F4,LH,LJ,Dh,Ry⟩;rw[yb,C4.1,yG] at F4;exact#[_,rfl,q cells fo as H4 L s4 Fh Bz F4 LH]
variable {P:Be}{w:World}{K:AQ}{mg:AT}{base:Heap}{t:Adr}
noncomputable def uu (N:jf->List jf) (cells:List jf) (c:jf):jf:=(uf N cells c).headD (0,0,0)
theorem iX {l:List jf} (h:c∈l):l.headD (0,0,0)∈l:=by
 cases l with
 | nil=>cases h
 | cons a l=>exact yD ..
theorem i7 {cells:List jf} (B:Nb N cells) (h:c∈cells):c∈uf N cells c:=(u7 B h).mpr .refl
theorem ay {cells:List jf} (B:Nb N cells) (h:c∈cells):Jn N c (uu N cells c):=(u7 B h).mp (iX (i7 B h))
theorem ZP {cells:List jf} (B:Nb N cells) {a b:jf} (ha:a∈cells) (hb:b∈cells):uu N cells a=uu N cells b↔Jn N a b:=by
 constructor
 ·intro e;have h1:=ay B ha;have h2:=ay B hb;rw[e] at h1;exact h1.trans (h2.symm B hb)
 ·intro h;unfold uu;rw[MP B ha h]
theorem ku {α:Type} (ls:List (List α)) {l:List α} (h:ls[i]?=some l):(ls.take (i+1)).flatten=(ls.take i).flatten++l:=by
 rw[List.take_add_one,h,List.flatten_append];simp
theorem KH {α:Type} (ls:List (List α)) (i:Nat):((ls.take i).flatten).Sublist ls.flatten:=by
 have e:ls.flatten=(ls.take i).flatten++(ls.drop i).flatten:=by rw[<-List.flatten_append,y9]
 rw[e];exact List.sublist_append_left _ _
structure U0 (H:Hp) (r:Addr) (N:jf->List jf) (cells:List jf) (hk:List jf) (hv:jG):Prop where
 e:H r=some (.dT hv)
 keys:hv.map (·.1)=hk.map k3
 val:∀e∈hk,∃q,jM hv (k3 e)=some (.ref q)/\H q=some (.tup [.int (uu N cells e).1,.int (uu N cells e).2.1,.int (uu N cells e).2.2])
theorem U0.same {H':Hp}{cells:List jf} (X:U0 H r N cells hk hv) (s:jc H H'):U0 H' r N cells hk hv :=
 #[s _ _ X.e,X.keys,λe he=>by obtain⟨q,h1,h2⟩:=X.val e he;exact#[q,h1,s _ _ h2]]
theorem U0.put {q:Addr}{cells:List jf} (X:U0 H r N cells hk hv) (hc:c ∉ hk) (hq:H q=some (.tup [.int (uu N cells c).1,.int (uu N cells c).2.1,.int (uu N cells c).2.2])):U0 (upd H r (.dT (j4 hv (k3 c) (.ref q)))) r N cells (hk++[c]) (j4 hv (k3 c) (.ref q)):=by
 refine#[jb,zG X.keys hc,λe he=>?_];by_cases RH:e=c
 ·subst RH;exact#[q,by rw[VA,if_pos rfl],jw (jq hq X.e) hq]
 ·rcases ym.mp he with he|he
  ·obtain⟨p,h1,h2⟩:=X.val e he;exact#[p,by rw[VA,if_neg (λz=>RH (uv z))];exact h1,jw (jq h2 X.e) h2]
  ·exact absurd (yx.mp he) RH
theorem vM (e:hv.map (·.1)=hk.map k3):hv.length=hk.length:=by have:=congrArg List.length e;simpa using this
def qP (C:Addr):Sp:=λvs H Q _=>E9 λ(o dx c d:Addr) (w h l:Nat) (cs ds:jG)=>A5 (vs=[.ref o]) (Bd C H o dx c d w h l cs ds) (l<=3) (cs.length<=1000) (∀(cells:List jf) (r:Addr) (hk:List jf) (hv:jG) (H':Hp),CL cs w h l cells->jc H H'->H r=none->hk.Perm cells->U0 H' r (Jh cs ds w h l) cells hk hv->Q (.ref r) H')
theorem lF (T:Txt K mg t):jR P w K mg base 8 "homes" ["board"] (qP t.jr):=by
 refine T.pK.ok ["board","least","island","cell"] ?_;rintro _ H Q E ⟨o,dx,c,d,w,h,l,cs,ds,rfl,B,l3,lc,q⟩;refine#[rfl,λBk A outer s hr=>#[_,(jh (jz 1 UY) (jh (jS jH (jN (jm (cN T) (ja (pv 0) je))) (js 2) (jj (jS jH (jN (pv 2)) (js 3) (jj (UA (pv 1) (pv 3) (jt jU (pv 2) jg)))))) (jj (jB (pv 1))))),?_]];refine uP (λ(r:Addr)=>[oR o,oR r,none,none]) (λr H'=>A3 (jc H H') (H r=none) (H' r=some (.dT []))) (λB hB=>λr hr=>hB r _ #[jk (jc.refl H) hr,hr,jb]) ?_;intro r H1 i;have s1:=i.1;have BS:=i.2;have er:=i.3
 refine G1 (λ(v2 v3:Option V) (_ _:Unit)=>[oR o,oR r,v2,v3]) (λ_ _ _ _ H'=>E3 λ(cells hk:List jf) (hv:jG)=>A4 (CL cs w h l cells) (jc H H') (hk.Perm cells) (U0 H' r (Jh cs ds w h l) cells hk hv)) (λB' hB=>?_) ?_
 ·refine#[_,rfl,o,dx,c,d,w,h,l,cs,ds,rfl,B.same s1,l3,lc,λcells a as H2 L s2 ha ea LC na=>?_];have NB:=V4 (ds:=ds) L.mem;generalize eN:Jh cs ds w h l=N at NB LC;have RP:=kM NB cells λc hc=>hc;have LG:∀r∈JI N cells,r∈cells:=λr hr=>RP.sub.subset hr;have RI:=eO NB L.nd;have Wv:(((JI N cells).map (uf N cells)).flatten).Nodup:=aq NB L.nd LG RP.apart;have RJ:=L.len B.C;have rf:r≠a:=λz=>by rw[z] at er;rw[er] at ha;cases ha
  have Ww:∀x∈(JI N cells).map (uf N cells),∀e∈x,x.headD (0,0,0)=uu N cells e:=λx hx e he=>by
   obtain⟨p,hp,rfl⟩:=yf.mp hx;unfold uu;rw[MP NB (LG p hp) ((u7 NB (LG p hp)).mp he)]
  generalize (JI N cells).map (uf N cells)=BI at LC RI Wv Ww;have lenF:BI.flatten.length=cs.length:=by rw[RI.length_eq,RJ]
  refine#[a,rfl,#[_,jo.of ea],jY (xs:=as.map V.ref) (λi σ H'=>E3 λ(v2 v3:Option V) (hv:jG)=>A3 (σ=[oR o,oR r,v2,v3]) (j6 r H2 H') (U0 H' r N cells ((BI.take i).flatten) hv)) #[_,_,[],rfl,λb u n e=>e,#[s2 _ _ er,rfl,(λe he=>nomatch he)]] (λi σ H' _ h=>by obtain⟨_,_,_,_,k,_⟩:=h;exact jo.of (k _ _ (yP rf) ea)) ?_ ?_]
  ·rintro i v σ H3 hx ⟨v2,v3,hv,rfl,off,X⟩;rw[yj] at hx;obtain⟨p,e1,rfl⟩:=yl.mp hx;have hi:i<BI.length:=by rw[<-LC.1];exact (yi.mp e1).1
   have e2:=yc hi;obtain⟨bs,eb,Cb⟩:=LC.2 i p _ e1 e2;have ft:=ku BI e2;have RK:((BI.take i).flatten++BI[i]).Nodup:=by rw[<-ft];exact (KH BI (i+1)).nodup Wv
   have d₂:((BI.take i).flatten++BI[i]).length<=1000:=by
    rw[<-ft];have:=(KH BI (i+1)).length_le;omega
   have hI:=Ww _ (yY hi);have ED:H3 p=some (.lst (bs.map V.ref)):=off _ _ (λz=>by rw[z] at eb;rw[s2 _ _ er] at eb;cases eb) eb;have Wx:∀{H':Hp},j6 r H2 H'->jp H' bs BI[i]:=λ{H'} k=>#[Cb.1,λi p c h1 h2=>k _ _ (λz=>by have:=Cb.2 i p c h1 h2;rw[z,s2 _ _ er] at this;cases this) (Cb.2 i p c h1 h2)];rw[ft];generalize BI[i]=li at eb Cb RK d₂ hI Wx;have pr:p≠r:=λz=>by rw[z,s2 _ _ er] at eb;cases eb
   refine#[_,rfl,p,rfl,#[_,jo.of ED],jY (xs:=bs.map V.ref) (λj σ H'=>E2 λ(v3:Option V) (hv:jG)=>A3 (σ=[oR o,oR r,oR p,v3]) (j6 r H2 H') (U0 H' r N cells ((BI.take i).flatten++li.take j) hv)) #[_,hv,rfl,off,by rw[List.take_zero,yB];exact X] (λj σ H' _ h=>by obtain⟨_,_,_,k,_⟩:=h;exact jo.of (k _ _ pr eb)) ?_ ?_]
   ·rintro j v σ H4 hx ⟨RL,Wy,rfl,Bu,X4⟩;rw[yj] at hx;obtain⟨b,g1,rfl⟩:=yl.mp hx;have hj:j<li.length:=by rw[<-Cb.1];exact (yi.mp g1).1
    have g2:=yc hj;have C4:=Wx Bu;have g3:=C4.2 j b _ g1 g2;have hm:=yY hj;have tk:li.take (j+1)=li.take j++[li[j]]:=by rw[y7,g2];rfl
    have h0:0<li.length:=by omega
    have e₁:0<bs.length:=by rw[Cb.1];exact h0
    have b0:bs[0]?=some bs[0]:=yc e₁;have t0:=C4.2 0 _ _ b0 (yc h0);have hh:=hI _ hm;have e₂:li.headD (0,0,0)=li[0]:=by cases li with|nil=>exact absurd h0 (QP _)|cons x r=>rfl
    rw[e₂] at hh;rw[hh] at t0;have LK:li[j] ∉ (BI.take i).flatten++li.take j:=λz=>by
     have e5:li=li.take j++li[j]::li.drop (j+1):=by rw[List.getElem_cons_drop,y9]
     rw[e5,<-yt] at RK;exact (QC.mp RK).2.2 _ z _ (yD ..) rfl
    rw[tk,<-yt];have lb:=vM X4.keys;have T7:((BI.take i).flatten++li.take j).length<=((BI.take i).flatten++li).length:=by rw[ye,ye,yO];omega
    generalize li[j]=cc at g3 t0 LK;have f':H4 p=some (.lst (bs.map V.ref)):=Bu _ _ pr eb;refine#[_,rfl,p,_,0,.ref bs[0],rfl,rfl,jo.of f',vp (j:=0) (by rw[yj,b0];rfl),_,rfl,_,rfl,r,_,rfl,vn.t (k:=k3 cc) X4.e g3 (yL (show _<=1000 by omega) (by decide)),?_];exact#[_,_,rfl,λb u n e=>jw n (Bu b u n e),X4.put LK t0]
   ·rintro σ H4 ⟨RL,Wy,rfl,Bu,X4⟩;rw[yb,Cb.1,yG] at X4;exact#[_,_,Wy,rfl,Bu,X4]
  ·rintro σ H3 ⟨v2,v3,hv,rfl,off,X⟩;rw[yb,LC.1,yG] at X;rw[<-eN] at X;refine hB v2 v3 () () _ #[cells,_,hv,L,λb u e=>off b u (ji e BS) (s2 _ _ (s1 _ _ e)),RI,X]
 rintro v2 v3 _ _ H2 ⟨cells,hk,hv,L,s2,pm,X⟩;exact#[_,rfl,q cells r hk hv H2 L s2 BS pm X]
variable {P:Be}{w:World}{K:AQ}{mg:AT}{base:Heap}{t:Adr}
def rl (o:Addr) (H H':Hp):Prop:=∀b u,b≠o->H b=some u->H' b=some u
def fK (x y w h:V):List (Str×V):=[("x",x),("y",y),("wide",w),("high",h)]
theorem rZ (x y w h:V):Jy "high" h (Jy "wide" w (Jy "y" y (Jy "x" x [])))=fK x y w h:=by kernel_rfl
theorem fj {i:HO} (s:jc H H1) (ho:H1 o=none) (Di:H1 dx=none):jc H (L2.upd (L2.upd H1 dx (.own o)) o i):=λb u e=>by
 have e1:=s b u e;rw[jl (ji e1 ho),jl (ji e1 Di)];exact e1
theorem ln {H':Hp}{i:HO} (s:jc H H1) (ho:H1 o=none) (Di:H1 dx=none) (k:rl o (L2.upd (L2.upd H1 dx (.own o)) o i) H'):jc H H':=λb u e =>
 k b u (ji (s b u e) ho) (fj s ho Di b u e)
def vJ (x y:Int) (wd hg:Nat):List (Int×Int):=(List.range wd).flatMap λ(i:Nat)=>(List.range hg).map λ(j:Nat)=>(x+(i:Int),y+(j:Int))
theorem nH (x y:Int) (n hg:Nat):vJ x y (n+1) hg=vJ x y n hg++(List.range hg).map λ(j:Nat)=>(x+(n:Int),y+(j:Int)):=by
 unfold vJ;rw[Qe,Qm];simp
theorem ZT (x y:Int) (hg:Nat):∀n,(vJ x y n hg).length=n*hg
 | 0=>by simp [vJ]
 | n+1=>by rw[nH,ye,ZT x y hg n,yb,QQ,Nat.add_mul,Nat.one_mul]
def j9 (H:Hp) (ps:AX) (pl:AS):Prop:=ps.length=pl.length/\∀(i:Nat) (p:Addr) (c:Int×Int),ps[i]?=some p->pl[i]?=some c->H p=some (.tup [.int c.1,.int c.2])
theorem j9.nil:j9 H [] []:=#[rfl,λi p c h=>by cases h]
theorem j9.same {H':Hp} (C:j9 H ps pl) (s:jc H H'):j9 H' ps pl:=#[C.1,λi p c h1 h2=>s _ _ (C.2 i p c h1 h2)]
theorem j9.app {cl dl:AS} (C:j9 H ps cl) (D:j9 H qs dl):j9 H (ps++qs) (cl++dl):=#[by rw[ye,ye,C.1,D.1],λi q d h1 h2=>by
 by_cases h:i<ps.length
 ·rw[yK h] at h1;rw[yK (C.1▸h)] at h2;exact C.2 i q d h1 h2
 ·rw[yS (by omega)] at h1;rw[yS (by rw[<-C.1];omega),<-C.1] at h2;exact D.2 _ q d h1 h2]
theorem j9.one {c:Int×Int} (h:H p=some (.tup [.int c.1,.int c.2])):j9 H [p] [c]:=#[rfl,λi q d h1 h2=>by
 cases i with
 | zero=>cases h1;cases h2;exact h
 | succ j=>cases h1]
theorem j9.wr (C:j9 H ps pl) (hD:H D=some (.lst ys)):j9 (upd H D (.lst Ls)) ps pl:=#[C.1,λi q d h1 h2=>by
 have e:=C.2 i q d h1 h2;rw[jl (jq e hD)];exact e]
structure VT (H:Hp) (ps:AX) (B0:List (List V)):Prop where
 len:ps.length=B0.length
 at_:∀(i:Nat) (p:Addr) (xs:List V),ps[i]?=some p->B0[i]?=some xs->H p=some (.tup xs)
theorem VT.same {H':Hp}{B0:List (List V)} (C:VT H ps B0) (s:jc H H'):VT H' ps B0:=#[C.len,λi p c h1 h2=>s _ _ (C.at_ i p c h1 h2)]
abbrev UL:Int:=10000000000000000000000000000000000000000
def oN (xs:List V):Prop:=∃x y w h z:Int,xs=[.int x,.int y,.int w,.int h,.int z]/\(0<=x/\x<UL)/\(0<=y/\y<UL)/\(1<=w/\w<UL)/\(1<=h/\h<UL)/\(0<=z/\z<UL)
def fR (g w r k t:V):List (Str×V):=[("gap",g),("width",w),("rim",r),("keeps",k),("kept",t)]
theorem r6 (g w r k t:V):Jy "kept" t (Jy "keeps" k (Jy "rim" r (Jy "width" w (Jy "gap" g []))))=fR g w r k t:=by kernel_rfl
def m6 (B0:List (List V)):Prop:=B0.length<=12/\∀xs∈B0,oN xs
def N2 (K:AQ):Sp:=λvs H Q _=>E2 λ(a:Addr) (ns:List Int)=>A3 (vs=[.ref a]) (jo K H a (ns.map V.int)) (Q .non H)
theorem zT (T:Txt K mg t):jR P w K mg base 2 "need_whole" ["numbers"] (N2 K):=by
 refine T.mY.ok ["numbers","number"] ?_;rintro _ H Q E ⟨a,ns,rfl,hq,q⟩;refine#[rfl,λBk A outer s hr=>#[_,(jj (jS jH (jN (pv 0)) (js 1) (jj (jX (JF (Jr (jm (u8 T) (ja (pv 1) je)))) (jj JX) jL)))),?_]];refine#[_,rfl,a,rfl,#[_,hq],jY (xs:=ns.map V.int) (λi σ H2=>∃v,σ=[oR a,v]/\H2=H) #[_,rfl,rfl] (λi σ H2 _ #[_,_,e]=>by rw[e];exact hq) ?_ ?_]
 ·rintro i x σ H2 hx ⟨v,rfl,rfl⟩;obtain⟨n,_,rfl⟩:=yf.mp (yT hx);exact#[_,rfl,n,rfl,_,rfl,JB #[_,rfl,rfl]]
 ·rintro σ H2 ⟨v,rfl,rfl⟩;exact q
def ib (K:AQ):Sp:=λvs H Q _=>E2 λ(a:Addr) (ns:List Int)=>A5 (vs=[.ref a]) (jo K H a (ns.map V.int)) (ns≠[]) (∀n∈ns,1<=n) (Q .non H)
theorem gW (T:Txt K mg t):jR P w K mg base 3 "need_from_one" ["numbers"] (ib K):=by
 refine T.Gb.ok ["numbers"] ?_;rintro _ H Q E ⟨a,ns,rfl,hq,BA,h1,q⟩;refine#[rfl,λBk A outer s hr=>#[_,(jh (jE (jm (zT T) (ja (pv 0) je))) (jj (jX (jQ Uj (jT KZ (by rfl) T.w6 wK (ja (pv 0) je)) jg) (jj JX) jL))),?_]];exact#[_,rfl,a,ns,rfl,hq,_,rfl,a,ns,rfl,hq,List.length_pos_iff.mpr BA,λM hM hmin=>#[M,1,rfl,rfl,_,rfl,JS (λh=>absurd (h1 M hM) (by omega)) λ_=>q]]
def qJ (K:AQ) (C:Addr):Sp:=λvs H Q _=>E6 λ(o dx:Addr) (x y wd hg:Int)=>A5 (vs=[.ref o,.int x,.int y,.int wd,.int hg]) (H o=some (.ins C dx [])) (1<=wd) (1<=hg) (∀H',rl o H H'->H' o=some (.ins C dx (fK (.int x) (.int y) (.int wd) (.int hg)))->Q .non H')
theorem mf (T:Txt K mg t):Gc P w K mg base 4 "Block" t.ur ["self","x","y","wide","high"] (qJ K t.ur):=by
 refine T.mP.ok T.pW ["self","x","y","wide","high"] ?_;rintro _ H Q E ⟨o,dx,x,y,wd,hg,rfl,ho,w1,h1,kQ⟩;refine#[rfl,λBk A outer s hr=>#[_,(jh (jE (jm (zT T) (ja (j5 (ja (pv 1) (ja (pv 2) je))) je))) (jh (jE (jm (gW T) (ja (j5 (ja (pv 3) (ja (pv 4) je))) je))) (jh (uC (pv 0) (pv 1) rfl) (jh (uC (pv 0) (pv 2) rfl) (jh (uC (pv 0) (pv 3) rfl) (jj (uC (pv 0) (pv 4) rfl))))))),?_]];refine#[_,rfl,_,rfl,V9,λl hl=>#[l,[x,y],rfl,jo.of jb,?_]];refine#[_,rfl,_,rfl,V9,λl2 EV=>#[l2,[wd,hg],rfl,jo.of jb,List.cons_ne_nil _ _,λn hn=>?_,?_]]
 ·rcases yM.mp hn with rfl|hn
  ·exact w1
  ·rw[yx.mp hn];exact h1
 have s2:jc H (upd (upd H l (.lst [.int x,.int y])) l2 (.lst [.int wd,.int hg])):=jk (jk (jc.refl H) hl) EV;refine#[_,rfl,_,rfl,o,_,dx,_,rfl,s2 _ _ ho,T.uT,T.GO,(by decide),?_];refine#[_,rfl,_,rfl,o,_,dx,_,rfl,jb,T.uT,T.GP,Qh (by kernel_rfl),?_];refine#[_,rfl,_,rfl,o,_,dx,_,rfl,jb,T.uT,T.zP,Qh (by kernel_rfl),?_];refine#[_,rfl,_,rfl,o,_,dx,_,rfl,jb,T.uT,T.zO,Qh (by kernel_rfl),?_];refine kQ _ (λc u hc e=>?_) ?_
 ·rw[jl hc,jl hc,jl hc,jl hc];exact s2 _ _ e
 ·rw[jb,rZ]
def ow:Sp:=λvs H Q _=>E4 λ(x y:Int) (wd hg:Nat)=>A4 (vs=[.int x,.int y,.int wd,.int hg]) (wd<=15) (hg<=15) (∀D ps H',jc H H'->H D=none->H' D=some (.lst (ps.map V.ref))->j9 H' ps (vJ x y wd hg)->Q (.ref D) H')
theorem mt (T:Txt K mg t):jR P w K mg base 1 "box_places" ["x","y","wide","high"] ow:=by
 refine T.mU.ok ["x","y","wide","high","places","column"] ?_;rintro _ H Q E ⟨x,y,wd,hg,rfl,w1,h1,q⟩;refine#[rfl,λBk A outer s hr=>#[_,(jh (jz 4 (j5 je)) (jh (jS jH (Kx rfl rfl T.Jv (ja (pv 0) (ja (ju jP (pv 0) (pv 2)) je))) (js 5) (jj (jE (JO PySem.F.plainAttrs_list PySem.F.slot_list_extend PySem.F.type_list_extend U5 (pv 4) (ja (JE (own:=["row"]) (vc (cl:=[("column",_)])) (Kx rfl rfl T.Jv (ja (pv 1) (ja (ju jP (pv 1) (pv 3)) je))) (λ_ _ _ _ _=>js 6) (λ_ _ _ _ _=>vI) (λ_ _ _ _ _=>(jJ (ja (pv 5) (ja (pv 6) je))))) je))))) (jj (jB (pv 4))))),?_]];refine#[zV,λD hD=>?_];have s0:=jk (o:=.lst []) (jc.refl H) hD;have n1:(x+(wd:Int) - x).toNat=wd:=by omega
 have n2:(y+(hg:Int) - y).toNat=hg:=by omega
 refine#[_,rfl,_,rfl,_,rfl,x,(wd:Int),rfl,rfl,x,x+(wd:Int),rfl,JR (λi σ H2=>E2 λ(v:Option V) (ps:AX)=>A4 (σ=[oI x,oI y,oI wd,oI hg,oR D,v]) (jc H H2) (H2 D=some (.lst (ps.map V.ref))) (j9 H2 ps (vJ x y i hg))) #[_,[],rfl,s0,jb,j9.nil] ?_ ?_]
 ·rintro i σ H2 hi ⟨v,ps,rfl,s2,e2,C2⟩;rw[n1] at hi;refine#[_,rfl,.inl #[rfl,_,jo.of e2],_,rfl,_,rfl,_,rfl,y,(hg:Int),rfl,rfl,y,y+(hg:Int),rfl,vW (λD2 j ys H'=>∃qs:List Addr,A6 (ys=qs.map V.ref) (H2 D2=none) (jc H2 H') (H' D2=some (.lst ys)) (ys.length=j) (j9 H' qs ((List.range j).map λ(j:Nat)=>(x+(i:Int),y+(j:Int))))) (by rw[n2];exact yp h1 (by decide)) (λD2 Co=>#[[],rfl,Co,jk (jc.refl _) Co,jb,rfl,j9.nil]) (λD2 j ys H' h_=>by obtain⟨qs,_,_,_,e,l,_⟩:=h_;exact#[e,l]) ?_ ?_]
  ·rintro D2 j ys H' Qy Qn hj ⟨qs,rfl,d1,d2,d3,d4,d5⟩ hy;refine#[#[_,rfl,rfl],Ub #[_,rfl,_,rfl,V9,λp hp=>?_]];have Ro:p≠D2:=λz=>by rw[z,d3] at hp;cases hp
   have sp:=jk (o:=.tup [.int (x+(i:Int)),.int (y+(j:Int))]) (jc.refl H') hp;refine hy _ _ (jw (yP Ro) d3) #[qs++[p],by rw[yn];rfl,d1,λb u e=>?_,jb,by rw[ye,d4];rfl,?_]
   ·have:=d2 b u e;rw[jl (ji e d1),jl (ji this hp)];exact this
   ·rw[Qe,yn];exact ((d5.same sp).app (j9.one (c:=(x+(i:Int),y+(j:Int))) jb)).wr (sp _ _ d3)
  ·rintro D2 ys H' Co ⟨qs,rfl,d1,d2,d3,d4,d5⟩;rw[n2] at d4 d5;have eD:=d2 _ _ e2;have l1:=C2.1;rw[ZT] at l1;have l2:i*hg<=15*15:=yQ (by omega) h1;refine#[D,D2,_,_,rfl,rfl,eD,d3,?_,_,ps++qs,rfl,λb u e=>?_,by rw[jb,yn],?_]
   ·rw[d4,yb,l1];exact yp (show _<=1000 by omega) (by decide)
   ·rw[jl (ji e hD)];exact d2 _ _ (s2 _ _ e)
   ·rw[nH];exact ((C2.same d2).app d5).wr eD
 ·rintro σ H2 ⟨v,ps,rfl,s2,e2,C2⟩;rw[n1] at C2;exact#[_,rfl,q D ps H2 s2 hD e2 C2]
def l7 (C:Addr):Sp:=λvs H Q _=>E6 λ(o dx:Addr) (x y:Int) (wd hg:Nat)=>A5 (vs=[.ref o]) (H o=some (.ins C dx (fK (.int x) (.int y) (.int wd) (.int hg)))) (wd<=15) (hg<=15) (∀D ps H',jc H H'->H D=none->H' D=some (.lst (ps.map V.ref))->j9 H' ps (vJ x y wd hg)->Q (.ref D) H')
theorem kF (T:Txt K mg t):uI P w K mg base 2 t.ur "cells" ["self"] (l7 t.ur):=by
 refine T.KO.ok T.uT ["self"] ?_;rintro _ H Q E ⟨o,dx,x,y,wd,hg,rfl,ho,w1,h1,q⟩;refine#[rfl,λBk A outer s hr=>#[_,(jj (jB (jm (mt T) (ja (Jd (pv 0)) (ja (Jd (pv 0)) (ja (Jd (pv 0)) (ja (Jd (pv 0)) je))))))),?_]];refine#[_,rfl,o,_,dx,_,.int x,rfl,ho,T.uT,T.GO,by kernel_rfl,?_];refine Vn (.int y) ho T.uT T.GP ?_;refine Vn (.int wd) ho T.uT T.zP ?_;exact Vn (.int hg) ho T.uT T.zO #[x,y,wd,hg,rfl,w1,h1,q]
def mF:Sp:=λvs H Q _=>E3 λ(n lo hi:Int)=>A4 (vs=[.int n,.int lo,.int hi]) (lo<=n) (n<=hi) (Q .non H)
theorem GQ (T:Txt K mg t):jR P w K mg base 2 "need_between" ["number","least","most"] mF:=by
 refine T.G7.ok ["number","least","most"] ?_;rintro _ H Q E ⟨n,lo,hi,rfl,l1,l2,q⟩;refine#[rfl,λBk A outer s hr=>#[_,(jj (jX (UU (JF (Jr (jm (u8 T) (ja (pv 0) je)))) (US (JF (nL vg vg (pv 1) (pv 0) (pv 2))))).pt (jj JX) jL)),?_]];exact#[_,rfl,n,rfl,_,rfl,JB #[_,rfl,_,rfl,lo,n,rfl,rfl,_,rfl,JS (λ_=>#[_,rfl,n,hi,rfl,rfl,_,rfl,JJ (λz=>of_decide_eq_false z l2) λ_=>q]) λz=>absurd l1 z]]
def c6:Sp:=λvs H Q _=>E2 λ(p:Addr) (xs:List V)=>A4 (vs=[.ref p]) (H p=some (.tup xs)) (oN xs) (Q .non H)
theorem nr (T:Txt K mg t):jR P w K mg base 2 "need_keep" ["keep"] c6:=by
 refine T.Nr.ok ["keep","number"] ?_;rintro _ H Q E ⟨p,xs,rfl,hp,⟨x,y,w,h,z,rfl,g1,g2,g3,g4,g5⟩,q⟩;refine#[rfl,λBk A outer s hr=>#[_,(jh (jX (UU (JF (Jr (jT Uq (by rfl) T.JU JQ (ja (pv 0) (ja (U6 (v:=.ty "tuple") (by rfl) T.Vg Ve rfl) je))))) (US (jQ mM (jT Ur (by rfl) T.GN Gg (ja (pv 0) je)) jg))).pt (jj JX) jL) (jh (jS jH (fS (pv 0)) (js 1) (jj (jX (UU (JF (Jr (jm (u8 T) (ja (pv 1) je)))) (UU (jQ Uj (pv 1) jg) (US (JF (Jr (jm (NQ T) (ja (pv 1) je))))))).pt (jj JX) jL))) (jj (jX (UU (jQ Uj (jt jy (pv 0) jg) jg) (US (jQ Uj (jt jy (pv 0) jg) jg))).pt (jj JX) jL)))),?_]];refine#[_,rfl,.ref p,.ty "tuple",_,_,true,rfl,.tup hp,.ty _,by kernel_rfl,true,rfl,JB ?_];refine#[_,rfl,p,_,rfl,.inr (jD.of hp),rfl,_,rfl,JJ (λh5=>of_decide_eq_false h5 rfl) λ_=>?_];have gn:∀v∈[V.int x,.int y,.int w,.int h,.int z],∃n,v=.int n/\0<=n/\n<UL:=λv hv=>by
  simp only[yM,QG,or_false] at hv;rcases hv with rfl|rfl|rfl|rfl|rfl
  ·exact#[_,rfl,g1]
  ·exact#[_,rfl,g2]
  ·exact#[_,rfl,by omega,g3.2]
  ·exact#[_,rfl,by omega,g4.2]
  ·exact#[_,rfl,g5]
 refine#[_,rfl,p,rfl,#[_,jD.of hp],pU (xs:=[.int x,.int y,.int w,.int h,.int z]) (λi σ H2=>∃v,σ=[oR p,v]/\H2=H) #[_,rfl,rfl] (λi σ H2 _ #[_,_,e]=>by rw[e];exact jD.of hp) ?_ ?_]
 ·rintro i v σ H2 hx ⟨v',rfl,rfl⟩;obtain⟨n,rfl,n0,n1⟩:=gn v (yT hx);exact#[_,rfl,n,rfl,_,rfl,JB #[_,rfl,n,0,rfl,rfl,_,rfl,JS (λz=>absurd z (by omega)) λ_=>#[_,rfl,n,rfl,_,rfl,JJ (λhs=>of_decide_eq_false hs (by have hB:UL=10000000000000000000000000000000000000000:=rfl;omega)) λ_=>#[_,rfl,rfl]]]]
 ·rintro σ H2 ⟨v',rfl,rfl⟩;exact#[_,rfl,p,_,2,.int w,rfl,rfl,jD.of hp,vp (j:=2) rfl,w,1,rfl,rfl,_,rfl,JS (λz=>absurd z (by omega)) λ_=>#[_,rfl,p,_,3,.int h,rfl,rfl,jD.of hp,vp (j:=3) rfl,h,1,rfl,rfl,_,rfl,JS (λz=>absurd z (by omega)) λ_=>q]]
def N1:Sp:=λvs H Q _=>E3 λ(a:Addr) (ps:AX) (B0:List (List V))=>A5 (vs=[.ref a]) (H a=some (.lst (ps.map V.ref))) (VT H ps B0) (m6 B0) (Q .non H)
theorem mz (T:Txt K mg t):jR P w K mg base 3 "need_keeps" ["keeps"] N1:=by
 refine T.mX.ok ["keeps","keep"] ?_;rintro _ H Q E ⟨a,ps,B0,rfl,ha,C,g,q⟩;refine#[rfl,λBk A outer s hr=>#[_,(jh (jX (UU (JF (Jr (jT Uq (by rfl) T.JU JQ (ja (pv 0) (ja (U6 (v:=.ty "list") (by rfl) T.M2 Mh rfl) je))))) (US (jQ xb (jT Ur (by rfl) T.GN Gg (ja (pv 0) je)) (vx (v:=.int 12) (by rfl) T.MM #[_,rfl])))).pt (jj JX) jL) (jj (jS jH (jN (pv 0)) (js 1) (jj (jE (jm (nr T) (ja (pv 1) je))))))),?_]];refine#[_,rfl,.ref a,.ty "list",_,_,true,rfl,.lst ha,.ty _,by kernel_rfl,true,rfl,JB ?_];refine#[_,rfl,a,_,rfl,.inl (jo.of ha),_,12,rfl,rfl,_,rfl,JS (λz=>?_) λ_=>?_]
 ·have:=g.1;rw[yb,C.len] at z;exact absurd z (by omega)
 ·refine#[_,rfl,a,rfl,#[_,jo.of ha],jY (xs:=ps.map V.ref) (λi σ H2=>∃v,σ=[oR a,v]/\H2=H) #[_,rfl,rfl] (λi σ H2 _ #[_,_,e]=>by rw[e];exact jo.of ha) ?_ ?_]
  ·rintro i x σ H2 hx ⟨v,rfl,rfl⟩;rw[yj] at hx;obtain⟨p,hp,rfl⟩:=yl.mp hx;have hi:i<B0.length:=by rw[<-C.len];exact (yi.mp hp).1
   exact#[_,rfl,p,B0[i],rfl,C.at_ i p _ hp (yc hi),g.2 _ (yY hi),_,rfl,rfl]
  ·rintro σ H2 ⟨v,rfl,rfl⟩;exact q
def aZ (C:Addr):Sp:=λvs H Q _=>E8 λ(o dx:Addr) (g w r:Int) (a:Addr) (ps:AX) (B0:List (List V))=>A9 (vs=[.ref o,.int g,.int w,.int r,.ref a]) (H o=some (.ins C dx [])) (H a=some (.lst (ps.map V.ref))) (VT H ps B0) (0<=g/\g<=2) (1<=w/\w<=3) (0<=r/\r<=1) (m6 B0) (∀l p H',rl o H H'->H l=none->H p=none->l≠o->H' l=some (.lst (ps.map V.ref))->H' p=some (.tup (ps.map V.ref))->H' o=some (.ins C dx (fR (.int g) (.int w) (.int r) (.ref l) (.ref p)))->Q .non H')
theorem mq (T:Txt K mg t):Gc P w K mg base 4 "Rules" t.Jk ["self","gap","width","rim","keeps"] (aZ t.Jk):=by
 refine T.mT.ok T.pY ["self","gap","width","rim","keeps"] ?_;rintro _ H Q E ⟨o,dx,g,w,r,a,ps,B0,rfl,ho,ha,C,hg,hw,FY,gk,kQ⟩;refine#[rfl,λBk A outer s hr=>#[_,(jh (jE (jm (GQ T) (ja (pv 1) (ja jg (ja (vx (v:=.int 2) (by rfl) T.ci #[_,rfl]) je))))) (jh (jE (jm (GQ T) (ja (pv 2) (ja jg (ja (vx (v:=.int 3) (by rfl) T.MN #[_,rfl]) je))))) (jh (jE (jm (GQ T) (ja (pv 3) (ja jg (ja (vx (v:=.int 1) (by rfl) T.cj #[_,rfl]) je))))) (jh (jE (jm (mz T) (ja (pv 4) je))) (jh (uC (pv 0) (pv 1) rfl) (jh (uC (pv 0) (pv 2) rfl) (jh (uC (pv 0) (pv 3) rfl) (jh (uC (pv 0) (vG Ml (by rfl) T.M2 Mh (ja (pv 4) je)) rfl) (jj (uC (pv 0) (vG zM (by rfl) T.Vg Ve (ja (pv 4) je)) rfl)))))))))),?_]];refine#[_,rfl,g,0,2,rfl,hg.1,hg.2,?_];refine#[_,rfl,w,1,3,rfl,hw.1,hw.2,?_];refine#[_,rfl,r,0,1,rfl,FY.1,FY.2,?_];refine#[_,rfl,a,ps,B0,rfl,ha,C,gk,?_];refine#[_,rfl,_,rfl,o,_,dx,_,rfl,ho,T.uE,T.Zs,(by decide),?_];refine#[_,rfl,_,rfl,o,_,dx,_,rfl,jb,T.uE,T.V3,Qh (by kernel_rfl),?_];refine#[_,rfl,_,rfl,o,_,dx,_,rfl,jb,T.uE,T.Zt,Qh (by kernel_rfl),?_];have F6:a≠o:=jq ha ho;refine#[_,rfl,a,ps.map V.ref,rfl,.inl (jo.of (by rw[jl F6,jl F6,jl F6];exact ha)),λl hl=>?_];have Fj:l≠o:=λz=>by rw[z,jb] at hl;cases hl
 have Hl:H l=none:=by rw[jl Fj,jl Fj,jl Fj] at hl;exact hl
 have f₁:a≠l:=ji ha Hl;refine#[_,rfl,o,_,dx,_,rfl,jw (yP Fj) jb,T.uE,T.V2,Qh (by kernel_rfl),?_];refine#[_,rfl,a,ps.map V.ref,rfl,.inl #[jo.of (by rw[jl F6,jl f₁,jl F6,jl F6,jl F6];exact ha),λp hp=>?_]];have Im:p≠o:=λz=>by rw[z,jb] at hp;cases hp
 have Wz:p≠l:=λz=>by rw[z,jl Fj,jb] at hp;cases hp
 have Hp:H p=none:=by rw[jl Im,jl Wz,jl Im,jl Im,jl Im] at hp;exact hp
 refine#[_,rfl,o,_,dx,_,rfl,jw (yP Im) jb,T.uE,T.zS,Qh (by kernel_rfl),?_];refine kQ l p _ (λc u hc e=>?_) Hl Hp Fj ?_ ?_ ?_
 ·rw[jl hc,jl (ji e Hp),jl hc,jl (ji e Hl),jl hc,jl hc,jl hc];exact e
 ·rw[jl Fj,jl (yP Wz),jl Fj];exact jb
 ·rw[jl Im];exact jb
 ·rw[jb,r6]
variable {P:Be}{w:World}{K:AQ}{mg:AT}{base:Heap}{t:Adr}
def nZ (x y z:Int) (n:Nat):List jf:=(vJ x y n n).map λq=>(q.1,q.2,z)
theorem kO (x y z:Int) (n:Nat):(nZ x y z n).length=n*n:=by unfold nZ;rw[yb,ZT]
def uL (c:jf) (g:Nat):List jf:=nZ (c.1 - g) (c.2.1 - g) c.2.2 (2*g+1)
def oy:Sp:=λvs H Q _=>E3 λ(p:Addr) (c:jf) (n:Nat)=>A5 (vs=[.ref p,.int n]) (H p=some (.tup [.int c.1,.int c.2.1,.int c.2.2])) (1<=n) (n<=7) (∀D ps H',jc H H'->H D=none->H' D=some (.lst (ps.map V.ref))->jp H' ps (nZ c.1 c.2.1 c.2.2 n)->Q (.ref D) H')
theorem V7 (T:Txt K mg t):jR P w K mg base 6 "square_from" ["corner","wide"] oy:=by
 refine T.KY.ok ["corner","wide"] ?_;rintro _ H Q E ⟨p,c,n,rfl,hp,n1,n7,q⟩;refine#[rfl,λBk A outer s hr=>#[_,(jj (jB (JE (own:=["place"]) (vc (cl:=[("corner",_)])) (jN (uQ (cG (kF T)) (zB (mf T) (ja (jt jy (pv 0) jg) (ja (jt jy (pv 0) jg) (ja (pv 1) (ja (pv 1) je))))))) (λ_ _ _ _ _=>js 2) (λ_ _ _ _ _=>vI) (λ_ _ _ _ _=>(ju (lI (K:=K) rfl) (pv 2) (jJ (ja (jt jy (pv 0) jg) je))))))),?_]];have S:=jD.of (K:=K) hp;refine Jz (.int c.1) S (Jz (.int c.2.1) S #[_,rfl,_,rfl,λo dx ho Di BA=>#[o,dx,_,_,_,_,rfl,jb,by omega,by omega,λH1 k1 e1=>#[rfl,?_]]])
 ·have s1:jc H H1:=ln (jc.refl H) ho Di k1;have Dd:=s1 _ _ hp;refine#[o,dx,_,rfl,e1,by kernel_rfl,o,dx,c.1,c.2.1,n,n,rfl,e1,by omega,by omega,λD ps H2 s2 hD eD CP=>?_];have lp:ps.length<=49:=by
   rw[CP.1,ZT];exact yQ n7 n7
  have BV:=s2 _ _ Dd;refine#[D,rfl,#[_,jo.of eD],vB (xs:=ps.map V.ref) (λD2 i ys H'=>∃qs:List Addr,A6 (ys=qs.map V.ref) (H2 D2=none) (jc H2 H') (H' D2=some (.lst ys)) (ys.length<=i) (jp H' qs (((vJ c.1 c.2.1 n n).take i).map λq=>(q.1,q.2,c.2.2)))) (by rw[yb];exact yp lp (by decide)) (λD2 Co=>#[[],rfl,Co,jk (jc.refl _) Co,jb,yg _,#[rfl,(λi p c h=>nomatch h)]]) (λD2 i ys H' h_=>by obtain⟨qs,_,_,d2,e,l,_⟩:=h_;exact#[e,l,jo.of (d2 _ _ eD)]) ?_ ?_]
  ·rintro D2 i v ys H' Qy Qn hi ⟨qs,rfl,d1,d2,d3,d4,d5⟩ hy _;rw[yj] at hi;obtain⟨p2,Cw,rfl⟩:=yl.mp hi;have Bj:i<(vJ c.1 c.2.1 n n).length:=by rw[<-CP.1];exact (yi.mp Cw).1
   have eq2:=yc Bj;have RM:=d2 _ _ (CP.2 i p2 _ Cw eq2);have Rz:(vJ c.1 c.2.1 n n).take (i+1)=(vJ c.1 c.2.1 n n).take i++[(vJ c.1 c.2.1 n n)[i]]:=by rw[y7,eq2];rfl
   rw[Rz] at hy;generalize (vJ c.1 c.2.1 n n)[i]=qq at RM hy;refine#[#[_,rfl,rfl],Ub #[_,rfl,Jz (.int c.2.2) (jD.of (d2 _ _ BV)) #[nU,λt1 ON=>?_]]];refine#[p2,t1,[.int qq.1,.int qq.2],[.int c.2.2],rfl,rfl,jD.of (jw (ji RM ON) RM),jD.of jb,by simp,Ul,(λz=>by cases z),λ_ p3 Cw=>?_];have st:=jk (o:=.tup [.int c.2.2]) (jc.refl H') ON;have BG:=st _ _ d3;generalize upd H' t1 (.tup [.int c.2.2])=H3 at Cw st BG;have n2:D2≠p3:=ji BG Cw;have CG:=jk (o:=.tup ([.int qq.1,.int qq.2]++[.int c.2.2])) (jc.refl H3) Cw;refine hy _ _ (CG _ _ BG) #[qs++[p3],by rw[yn];rfl,d1,λb u e=>?_,jb,by rw[ye];exact Q3 d4,?_]
   ·rw[jl (ji e d1)];exact CG _ _ (st _ _ (d2 _ _ e))
   ·rw[yn];exact (((d5.same st).same CG).snoc (c:=(qq.1,qq.2,c.2.2)) jb).wr (CG _ _ BG)
  ·rintro D2 ys H' Co ⟨qs,rfl,d1,d2,d3,d4,d5⟩;rw[yb,CP.1,yG] at d5;have nn:∀{H':Hp} {x:Addr},jc H H'->H' x=none->H x=none:=λ{H' x} s hx=>by
    cases e:H x with
    | none=>rfl
    | some u=>rw[s _ _ e] at hx;cases hx
   exact q D2 qs H' (jc.trans s1 (jc.trans s2 d2)) (nn (jc.trans s1 s2) d1) d3 d5
def lX:Sp:=λvs H Q _=>E3 λ(p:Addr) (c:jf) (g:Nat)=>A4 (vs=[.ref p,.int g]) (H p=some (.tup [.int c.1,.int c.2.1,.int c.2.2])) (g<=2) (∀D ps H',jc H H'->H D=none->H' D=some (.lst (ps.map V.ref))->jp H' ps (uL c g)->Q (.ref D) H')
theorem Kv (T:Txt K mg t):jR P w K mg base 7 "around" ["cell","far"] lX:=by
 refine T.iA.ok ["cell","far"] ?_;rintro _ H Q E ⟨p,c,g,rfl,hp,g2,q⟩;refine#[rfl,λBk A outer s hr=>#[_,(jj (jB (jm (V7 T) (ja (jJ (ja (ju uA (jt jy (pv 0) jg) (pv 1)) (ja (ju uA (jt jy (pv 0) jg) (pv 1)) (ja (jt jy (pv 0) jg) je)))) (ja (ju jP (ju UQ jg (pv 1)) jg) je))))),?_]];have S:=jD.of (K:=K) hp;refine Jz (.int c.1) S #[_,rfl,c.1,(g:Int),rfl,rfl,Jz (.int c.2.1) S #[_,rfl,c.2.1,(g:Int),rfl,rfl,Jz (.int c.2.2) S #[Ul,λp2 BV=>?_]]];have s1:=jk (o:=.tup [.int (c.1 - g),.int (c.2.1 - g),.int c.2.2]) (jc.refl H) BV;refine#[_,rfl,2,(g:Int),rfl,rfl,.inl #[by decide,by decide],_,1,rfl,rfl,p2,(c.1 - g,c.2.1 - g,c.2.2),2*g+1,rfl,jb,by omega,by omega,λD ps H' s2 hD eD C=>q D ps H' (jc.trans s1 s2) ?_ eD C];cases e:H D with
 | none=>rfl
 | some u=>rw[s1 _ _ e] at hD;cases hD
def og:Sp:=λvs H Q _=>E8 λ(p k:Addr) (c:jf) (x y wd hg z:Int)=>A4 (vs=[.ref p,.ref k]) (H p=some (.tup [.int c.1,.int c.2.1,.int c.2.2])) (H k=some (.tup [.int x,.int y,.int wd,.int hg,.int z])) (Q (.bl (decide (x<=c.1/\c.1<x+wd/\y<=c.2.1/\c.2.1<y+hg/\c.2.2=z))) H)
theorem cL (T:Txt K mg t):jR P w K mg base 1 "in_keep" ["cell","keep"] og:=by
 refine T.du.ok ["cell","keep","across","down"] ?_;rintro _ H Q E ⟨p,k,c,x,y,wd,hg,z,rfl,hp,hk,q⟩;refine#[rfl,λBk A outer s hr=>#[_,(jh (jz 2 (Vw vg Uj (jt jy (pv 1) jg) (jt jy (pv 0) jg) (ju jP (jt jy (pv 1) jg) (jt jy (pv 1) jg)))) (jh (jz 3 (Vw vg Uj (jt jy (pv 1) jg) (jt jy (pv 0) jg) (ju jP (jt jy (pv 1) jg) (jt jy (pv 1) jg)))) (jj (jB (UR (pv 2) (UR (pv 3) (Vx (kJ GT (jt jy (pv 0) jg) (jt jy (pv 1) jg))))))))),?_]];have S:=jD.of (K:=K) hp;have SK:=jD.of (K:=K) hk;refine vV [oR p,oR k,some (.bl (decide (x<=c.1)&&decide (c.1<x+wd))),none] (λH'=>H=H') (λB hB=>?_) ?_
 ·refine Jz (.int x) SK (Jz (.int c.1) S #[x,c.1,rfl,rfl,_,rfl,JS (λh1=>?_) λh1=>?_])
  ·refine Jz (.int x) SK (Jz (.int wd) SK #[x,wd,rfl,rfl,c.1,x+wd,rfl,rfl,?_]);have:=hB H rfl;rw[decide_eq_true h1,QI] at this;exact this
  ·have:=hB H rfl;rw[decide_eq_false h1,QJ] at this;exact this
 intro H1 e;subst e;refine vV [oR p,oR k,some (.bl (decide (x<=c.1)&&decide (c.1<x+wd))),some (.bl (decide (y<=c.2.1)&&decide (c.2.1<y+hg)))] (λH'=>H=H') (λB hB=>?_) ?_
 ·refine Jz (.int y) SK (Jz (.int c.2.1) S #[y,c.2.1,rfl,rfl,_,rfl,JS (λh1=>?_) λh1=>?_])
  ·refine Jz (.int y) SK (Jz (.int hg) SK #[y,hg,rfl,rfl,c.2.1,y+hg,rfl,rfl,?_]);have:=hB H rfl;rw[decide_eq_true h1,QI] at this;exact this
  ·have:=hB H rfl;rw[decide_eq_false h1,QJ] at this;exact this
 intro H1 e;subst e;refine#[_,rfl,_,rfl,?_];have e1:∀b1 b2:Bool,decide (x<=c.1/\c.1<x+wd/\y<=c.2.1/\c.2.1<y+hg/\c.2.2=z)=((decide (x<=c.1)&&decide (c.1<x+wd))&&((decide (y<=c.2.1)&&decide (c.2.1<y+hg))&&decide (V.int c.2.2=V.int z))):=λ_ _=>by
  rw[yR];simp only[Qz,decide_eq_true_eq,V.int.injEq];exact#[λ⟨a,b,c,d,e⟩=>#[#[a,b],#[c,d],e],λ⟨⟨a,b⟩,⟨c,d⟩,e⟩=>#[a,b,c,d,e]]
 rw[e1 true true] at q;refine UK (λh1=>#[_,rfl,_,rfl,UK (λh2=>Jz (.int c.2.2) S (Jz (.int z) SK #[rfl,?_])) λh2=>?_]) λh1=>?_
 ·rw[h1,h2,QI,QI] at q;exact q
 ·rw[h1,h2,QI,QJ] at q;exact q
 ·rw[h1,QJ] at q;exact q
abbrev K5:=Int×Int×Int×Int×Int
def U3 (k:K5):List V:=[.int k.1,.int k.2.1,.int k.2.2.1,.int k.2.2.2.1,.int k.2.2.2.2]
def vC (c:jf) (k:K5):Bool:=decide (k.1<=c.1/\c.1<k.1+k.2.2.1/\k.2.1<=c.2.1/\c.2.1<k.2.1+k.2.2.2.1/\c.2.2=k.2.2.2.2)
def Ju (H:Hp):V->K5
 | .ref p=>match H p with|some (.tup [.int a,.int b,.int c,.int d,.int e])=>(a,b,c,d,e)|_=>(0,0,0,0,0)
 | _=>(0,0,0,0,0)
theorem VE {k:K5} (h:H p=some (.tup (U3 k))):Ju H (.ref p)=k:=by
 show (match H p with|some (.tup [.int a,.int b,.int c,.int d,.int e])=>(a,b,c,d,e)|_=>(0,0,0,0,0))=k;rw[h]
 rfl
def JK (H:Hp) (ps:AX) (ks:List K5):Prop:=VT H ps (ks.map U3)
theorem JK.same {H':Hp} (C:JK H ps ks) (s:jc H H'):JK H' ps ks:=VT.same C s
theorem JK.at_ (C:JK H ps ks) {k:K5} (h1:ps[i]?=some p) (h2:ks[i]?=some k):H p=some (.tup (U3 k)):=VT.at_ C i p _ h1 (by rw[yj,h2];rfl)
theorem JK.len (C:JK H ps ks):ps.length=ks.length:=by have:=VT.len C;simpa using this
theorem JK.mem (C:JK H ps ks) (h:p∈ps):∃k∈ks,H p=some (.tup (U3 k)):=by
 obtain⟨i,hi,rfl⟩:=Qj h;have h2:i<ks.length:=by rw[<-C.len];exact hi
 exact#[_,yY h2,C.at_ (yc hi) (yc h2)]
theorem JK.map {β:Type} (C:JK H ps ks) (f:K5->β):(ps.map V.ref).map (λv=>f (Ju H v))=ks.map f:=by
 refine List.ext_getElem (by simp [C.len]) λi h1 h2=>?_;have g1:i<ps.length:=by simpa using h1
 have g2:i<ks.length:=by simpa using h2
 rw[Qd,Qd,Qd,VE (C.at_ (yc g1) (yc g2))]
def oh (K:AQ):Sp:=λvs H Q _=>E5 λ(p a:Addr) (c:jf) (ps:AX) (ks:List K5)=>A6 (vs=[.ref p,.ref a]) (H p=some (.tup [.int c.1,.int c.2.1,.int c.2.2])) (jD K H a (ps.map V.ref)) (JK H ps ks) (ks.length<=100) (∀H',jc H H'->Q (.bl (ks.any (vC c))) H')
theorem cM (T:Txt K mg t):jR P w K mg base 2 "is_kept" ["cell","keeps"] (oh K):=by
 refine T.dv.ok ["cell","keeps"] ?_;rintro _ H Q E ⟨p,a,c,ps,ks,rfl,hp,ha,C,hl,q⟩;refine#[rfl,λBk A outer s hr=>#[_,(jj (jB (jT (kh rfl) (by rfl) T.w4 wI (ja (JE (own:=["keep"]) (vc (cl:=[("cell",_)])) (fS (pv 1)) (λ_ _ _ _ _=>js 2) (λ_ _ _ _ _=>vI) (λ_ _ _ _ _=>(jm (cL T) (ja (pv 0) (ja (pv 2) je))))) je)))),?_]];refine#[_,rfl,a,rfl,#[_,ha],bN (xs:=ps.map V.ref) (λ_=>true) (λv=>.bl (vC c (Ju H v))) ha (by rw[yb,C.len];exact yp hl (by decide)) (λx hx H' Qy Qn s' hy _=>?_) λD H' hD s' eD=>?_]
 ·obtain⟨k,hk,rfl⟩:=yf.mp hx;obtain⟨k5,_,e⟩:=C.mem hk;refine#[#[_,rfl,rfl],Ub #[_,rfl,_,rfl,p,k,c,k5.1,k5.2.1,k5.2.2.1,k5.2.2.2.1,k5.2.2.2.2,rfl,s' _ _ hp,s' _ _ e,?_]];have:=hy rfl _ (jc.refl H');rw[VE e] at this;exact this
 ·rw[Wo.mpr (λ_ _=>rfl)] at eD;have e2:(ps.map V.ref).map (λv=>V.bl (vC c (Ju H v)))=(ks.map (vC c)).map V.bl:=by rw[C.map λk=>V.bl (vC c k),Qr];rfl
  rw[e2] at eD;have:=q H' s';refine#[D,ks.map (vC c),rfl,jo.of eD,?_];rw[List.any_map];exact this
variable {P:Be}{w:World}{K:AQ}{mg:AT}{base:Heap}{t:Adr}
abbrev Nk:=List (Key ⊕ List Key)
abbrev nO:Od:=JG gl
def k2 (p:Int×Int):List Key:=[.inl p.1,.inl p.2]
def VM (p:jf×jf):Nk:=[.inl (.inr "gap"),.inr (k3 p.1),.inr (k3 p.2)]
def GD (c:jf):Nk:=[.inl (.inr "keep"),.inr (k3 c)]
def ZC (p:(Int×Int)×jf):Nk:=[.inl (.inr "rim"),.inr (k2 p.1),.inr (k3 p.2)]
def Ng (c:jf):Nk:=[.inl (.inr "width"),.inr (k3 c)]
theorem v3 {a:Addr} (h:H a=some (.tup [.int c.1,.int c.2.1,.int c.2.2])):(JG uw).V_ H (.ref a) (k3 c):=#[a,_,rfl,h,.cons rfl (.cons rfl (.cons rfl .nil))]
theorem v2 {a:Addr}{c:Int×Int} (h:H a=some (.tup [.int c.1,.int c.2])):(JG uw).V_ H (.ref a) (k2 c):=#[a,_,rfl,h,.cons rfl (.cons rfl .nil)]
theorem dZ {a b:Addr}{d:jf} (h:H p=some (.tup [.str "gap",.ref a,.ref b])) (ha:H a=some (.tup [.int c.1,.int c.2.1,.int c.2.2])) (hb:H b=some (.tup [.int d.1,.int d.2.1,.int d.2.2])):nO.V_ H (.ref p) (VM (c,d)) :=
 #[p,_,rfl,h,.cons rfl (.cons (v3 ha) (.cons (v3 hb) .nil))]
theorem aC {a:Addr} (h:H p=some (.tup [.str "keep",.ref a])) (ha:H a=some (.tup [.int c.1,.int c.2.1,.int c.2.2])):nO.V_ H (.ref p) (GD c):=#[p,_,rfl,h,.cons rfl (.cons (v3 ha) .nil)]
theorem ix {a:Addr} (h:H p=some (.tup [.str "width",.ref a])) (ha:H a=some (.tup [.int c.1,.int c.2.1,.int c.2.2])):nO.V_ H (.ref p) (Ng c):=#[p,_,rfl,h,.cons rfl (.cons (v3 ha) .nil)]
theorem f6 {a b:Addr}{c:Int×Int}{d:jf} (h:H p=some (.tup [.str "rim",.ref a,.ref b])) (ha:H a=some (.tup [.int c.1,.int c.2])) (hb:H b=some (.tup [.int d.1,.int d.2.1,.int d.2.2])):nO.V_ H (.ref p) (ZC (c,d)) :=
 #[p,_,rfl,h,.cons rfl (.cons (v2 ha) (.cons (v3 hb) .nil))]
def fg (c d:jf):Bool:=JC uw (k3 c) (k3 d)
theorem zi (c d:jf):uM uw (k3 c) (k3 d):=by
 unfold k3 uM;exact#[rfl,λ_=>by unfold uM;exact#[rfl,λ_=>by unfold uM;exact#[rfl,λ_=>by unfold uM;trivial]]]
def Jo (cl:List jf) (g:Nat) (f:jf->jf->Bool):List Nk:=cl.flatMap λc=>((uL c g).filter (f c)).map λd=>VM (c,d)
theorem Gx (cl:List jf) (c:jf) (g:Nat) (f:jf->jf->Bool):Jo (cl++[c]) g f=Jo cl g f++((uL c g).filter (f c)).map λd=>VM (c,d):=by
 unfold Jo;rw[Qm];simp
theorem zg (c:jf) (h:g<=2):(uL c g).length<=25:=by
 unfold uL;rw[kO];exact yQ (show 2*g+1<=5 by omega) (show 2*g+1<=5 by omega)
theorem U2 (h:g<=2) (f:jf->jf->Bool):∀cl:List jf,(Jo cl g f).length<=cl.length*25
 | []=>yg _
 | c::cl=>by
  have ih:=U2 h f cl;have h2:=zg c h;have h3:=yX (f c) (uL c g);have e:Jo (c::cl) g f=((uL c g).filter (f c)).map (λd=>VM (c,d))++Jo cl g f:=by unfold Jo;rw[QL]
  rw[e,ye,yb,yU];omega
theorem jv.off {H':Hp}{bs:AX}{ks:List Nk} (x:jv nO H bs ks) (hf:H fa=some (.lst ys)) (k:j6 fa H H'):jv nO H' bs ks:=jv.mono x λp xs e=>k _ _ (jq e hf) e
theorem jv.len {bs:AX}{ks:List Nk} (x:jv nO H bs ks):bs.length=ks.length:=Jl x
theorem jv.snoc {bs:AX}{ks:List Nk}{k:Nk} (x:jv nO H bs ks) (h:nO.V_ H (.ref p) k):jv nO H (bs++[p]) (ks++[k]):=jv.app x (.cons h .nil)
theorem j6.refl (c:Addr) (H:Hp):j6 c H H:=λ_ _ _ e=>e
theorem j6.trans {c:Addr}{H2:Hp} (a:j6 c H H1) (b:j6 c H1 H2):j6 c H H2:=λx u n e=>b x u n (a x u n e)
theorem j6.upd {c:Addr} (o:HO):j6 c H (upd H c o):=λx u n e=>by rw[jl n];exact e
theorem j6.cells {c:Addr}{H':Hp}{cl:List jf} (k:j6 c H H') (hc:H c=some (.lst ys)) (C:jp H ps cl):jp H' ps cl:=#[C.1,λi p x h1 h2=>k _ _ (jq (C.2 i p x h1 h2) hc) (C.2 i p x h1 h2)]
noncomputable def fG (N:jf->List jf) (cells:List jf) (c d:jf):Bool:=fg c d&&(decide (d∈cells)&&!rB N c d)
def tX (C:Addr):Sp:=λvs H Q _=>Z7 λ(o dx c d:Addr) (w h l g:Nat) (cs ds:jG)=>A6 (vs=[.ref o,.int g]) (Bd C H o dx c d w h l cs ds) (l<=3) (cs.length<=1000) (g<=2) (∀(cells hk:List jf) (r:Addr) (fs:AX) (H':Hp),CL cs w h l cells->hk.Perm cells->jc H H'->H r=none->H' r=some (.lst (fs.map V.ref))->jv nO H' fs (Jo hk g (fG (Jh cs ds w h l) cells))->Q (.ref r) H')
theorem mw (T:Txt K mg t):jR P w K mg base 9 "gap_breaks" ["board","gap"] (tX t.jr):=by
 refine T.mV.ok ["board","gap","home","found","cell","other"] ?_;rintro _ H Q E ⟨o,dx,c,d,w,h,l,g,cs,ds,rfl,B,F7,lc,g2,q⟩;refine#[rfl,λBk A outer s hr=>#[_,(jh (jz 2 (jm (lF T) (ja (pv 0) je))) (jh (jz 3 (j5 je)) (jh (kK (jS jH (zC rfl (pv 2)) (js 4) (jj (jS jH (jN (jm (Kv T) (ja (pv 4) (ja (pv 1) je)))) (js 5) (jj (jX (vK (jQ (fM (JG uw) hr.units (by decide)) (pv 4) (pv 5)) (vK (uh (qo (pv 5) (pv 2))) (V8 (jQ (fO hr.units0) (nA (pv 2) (pv 4)) (nA (pv 2) (pv 5)))))).pt (jj (jE (JO PySem.F.plainAttrs_list PySem.F.slot_list_append PySem.F.type_list_append JH (pv 3) (ja (jJ (ja vH (ja (pv 4) (ja (pv 5) je)))) je)))) jL)))))) (jj (jB (pv 3)))))),?_]];refine G1 (λ(r:Addr) (cells hk:List jf) (hv:jG)=>[oR o,oI g,oR r,none,none,none]) (λr cells hk hv H'=>A5 (CL cs w h l cells) (jc H H') (H r=none) (hk.Perm cells) (U0 H' r (Jh cs ds w h l) cells hk hv)) (λB' hB=>#[_,rfl,o,dx,c,d,w,h,l,cs,ds,rfl,B,F7,lc,λcells r hk hv H' L s1 hr pm X=>hB r cells hk hv H' #[L,s1,hr,pm,X]]) ?_;rintro r cells hk hv H1 ⟨L,s1,BS,pm,X⟩;have NB:=V4 (ds:=ds) L.mem;generalize Jh cs ds w h l=N at NB X q;refine uP (λ(fa:Addr)=>[oR o,oI g,oR r,oR fa,none,none]) (λfa H'=>A3 (jc H1 H') (H1 fa=none) (H' fa=some (.lst []))) (λB hB=>#[zV,λfa hf=>hB fa _ #[jk (jc.refl H1) hf,hf,jb]]) ?_;rintro fa H2 ⟨s2,BC,ef⟩;have X2:=X.same s2;refine KA (λ(v4 v5:Option V)=>[oR o,oI g,oR r,oR fa,v4,v5]) (λ_ _ H'=>∃fs:List Addr,A3 (jc H1 H') (H' fa=some (.lst (fs.map V.ref))) (jv nO H' fs (Jo hk g (fG N cells)))) (λB' hB=>?_) ?_
 ·refine#[_,rfl,r,hv,rfl,X2.e,λob xs hz hm kt dr=>?_];obtain⟨Z,zs,zn,zt⟩:=zl X2.e hz hm kt dr;have LM:r≠fa:=jq X2.e ef;have Br:=zs _ _ (yP LM) ef;have lk:=vM X.keys;have F8:∀e∈hk,∃q,jM hv (k3 e)=some (.ref q)/\upd H2 r (UC r ob) q=some (.tup [.int (uu N cells e).1,.int (uu N cells e).2.1,.int (uu N cells e).2.2]):=λe he=>by
   obtain⟨q,h1,h2⟩:=X2.val e he;exact#[q,h1,zs _ _ (jq h2 X2.e) h2]
  generalize upd H2 r (UC r ob)=H3 at Z zs zn zt Br F8;refine gR Z (λi σ H'=>E3 λ(v4 v5:Option V) (fs:AX)=>A4 (σ=[oR o,oI g,oR r,oR fa,v4,v5]) (j6 fa H3 H') (H' fa=some (.lst (fs.map V.ref))) (jv nO H' fs (Jo (hk.take i) g (fG N cells)))) #[_,_,[],rfl,j6.refl _ _,Br,.nil] (λi σ H' _ h=>by obtain⟨_,_,_,_,k,_⟩:=h;exact k _ _ LM Z.e) ?_ ?_
  ·rintro i kv p σ H4 Bv hp ⟨v4,v5,fs,rfl,off,Bz,NA⟩;have hi:i<hk.length:=by rw[<-lk];exact (yi.mp Bv).1
   have ek:kv.1=k3 hk[i]:=by
    have:=congrArg (λl=>l[i]?) X.keys;simp only[yj,Bv,yc hi] at this;exact Option.some.inj this
   rw[ek] at hp;have tk:hk.take (i+1)=hk.take i++[hk[i]]:=by rw[y7,yc hi];rfl
   have Bn:=yY hi;have lg:=U2 g2 (fG N cells) (hk.take i);have Io:(hk.take i).length<=1000:=by rw[yO];have:=pm.length_eq;have:=L.len B.C;omega
   rw[tk,Gx];generalize hk[i]=cc at hp Bn;have BN:H4 p=some (.tup [.int cc.1,.int cc.2.1,.int cc.2.2]):=off _ _ (jq hp Br) hp;have Dr:cc∈cells:=pm.mem_iff.mp Bn;refine#[_,rfl,_,rfl,p,cc,g,rfl,BN,g2,λD ps H5 s5 hD eD CP=>?_];have fD:fa≠D:=ji Bz hD;have la:=zg cc g2;refine#[D,rfl,#[_,jo.of eD],jY (xs:=ps.map V.ref) (λj σ H'=>E2 λ(v5:Option V) (fs:AX)=>A4 (σ=[oR o,oI g,oR r,oR fa,oR p,v5]) (j6 fa H5 H') (H' fa=some (.lst (fs.map V.ref))) (jv nO H' fs (Jo (hk.take i) g (fG N cells)++(((uL cc g).take j).filter (fG N cells cc)).map λd=>VM (cc,d)))) #[_,fs,rfl,j6.refl _ _,s5 _ _ Bz,by rw[List.take_zero,Q5,Wh,yB];exact jv.mono NA λp xs e=>s5 _ _ e] (λj σ H' _ h=>by obtain⟨_,_,_,k,_⟩:=h;exact jo.of (k _ _ (yP fD) eD)) ?_ ?_]
   ·rintro j v σ H6 hx ⟨Fi,Dj,rfl,Bp,BF,Cp⟩;rw[yj] at hx;obtain⟨b,g1,rfl⟩:=yl.mp hx;have hj:j<(uL cc g).length:=by rw[<-CP.1];exact (yi.mp g1).1
    have gg:=yc hj;have BJ:=s5 _ _ Bz;have Dk:=(Bp.cells BJ CP).2 j b _ g1 gg;have F9:(uL cc g).take (j+1)=(uL cc g).take j++[(uL cc g)[j]]:=by rw[y7,gg];rfl
    have lfj:=yX (fG N cells cc) ((uL cc g).take j);have ltj:((uL cc g).take j).length<=25:=by rw[yO];omega
    rw[F9,Qv];generalize (uL cc g)[j]=dd at Dk;have DT:∀x u,x≠fa->H3 x=some u->H6 x=some u:=λx u n e=>Bp x u n (s5 _ _ (off x u n e));have Z6:Fz P _ H6 r ob hv xs:=#[DT _ _ LM Z.e,Z.hm,Z.kt.keeps λb ys e=>DT _ _ (jq e Br) e,Z.dr,Z.hz];have RN:=DT _ _ (jq hp Br) hp;have no:∀{X:Prop},fG N cells cc dd=false->(E2 λ(v5:Option V) (fs:AX)=>A4 ([oR o,oI g,oR r,oR fa,oR p,oR b]=[oR o,oI g,oR r,oR fa,oR p,v5]) (j6 fa H5 H6) (H6 fa=some (.lst (fs.map V.ref))) (jv nO H6 fs (Jo (hk.take i) g (fG N cells)++(((uL cc g).take j).filter (fG N cells cc)++[dd].filter (fG N cells cc)).map λd=>VM (cc,d)))):=λ{X} hf=>#[_,Dj,rfl,Bp,BF,by
     rw[Qf (by rw[hf];exact yo),Q5,yB];exact Cp]
    refine#[_,rfl,_,rfl,k3 cc,k3 dd,v3 RN,v3 Dk,zi cc dd,_,rfl,UK (λh1=>?_) λh1=>JB (no (X:=True) (by unfold fG;rw[show fg cc dd=false from h1,QJ]))];refine#[_,rfl,_,rfl,r,_,rfl,UF.z (k:=k3 dd) Z6 Dk,_,rfl,UK (λh2=>?_) λh2=>JB (no (X:=True) (by
     unfold fG;have:dd ∉ cells:=λz=>by rw[(uW X.keys).mpr (pm.mem_iff.mpr z)] at h2;cases h2
     rw[decide_eq_false this,QJ,Q1]))]
    have OO:=(uW X.keys).mp h2;have DL:dd∈cells:=pm.mem_iff.mp OO;obtain⟨q1,w1,t1⟩:=F8 cc Bn;obtain⟨q2,w2,t2⟩:=F8 dd OO;have RO:=DT _ _ (jq t1 Br) t1;have RQ:=DT _ _ (jq t2 Br) t2
    refine#[_,rfl,_,rfl,r,.ref q1,rfl,by rw[<-w1];exact UF.z (k:=k3 cc) Z6 RN,_,rfl,_,rfl,r,.ref q2,rfl,by rw[<-w2];exact UF.z (k:=k3 dd) Z6 Dk,q1,q2,l3 (uu N cells cc),l3 (uu N cells dd),rfl,rfl,jD.of RO,jD.of RQ,_,rfl,JJ (λh3=>?_) λh3=>no (X:=True) (by
     unfold fG;have e:=MV (of_decide_eq_true h3);rw[vh.mpr ((ZP NB Dr DL).mp e),Wp,Q1,Q1])]
    have hf:fG N cells cc dd=true:=by
     unfold fG;have e:¬Jn N cc dd:=λz=>of_decide_eq_false h3 (by rw[(ZP NB Dr DL).mpr z]);have:rB N cc dd=false:=by
      cases hh:rB N cc dd with
      | false=>rfl
      | true=>exact absurd (vh.mp hh) e
     rw[show fg cc dd=true from h1,decide_eq_true DL,this];rfl
    refine#[_,rfl,.inl #[rfl,_,jo.of BF],_,rfl,_,rfl,Ul,λp7 He=>?_];have s7:=jk (o:=.tup [.str "gap",.ref p,.ref b]) (jc.refl H6) He;have e7:upd H6 p7 (.tup [.str "gap",.ref p,.ref b]) p7=some (.tup [.str "gap",.ref p,.ref b]):=jb;generalize upd H6 p7 (.tup [.str "gap",.ref p,.ref b])=H7 at s7 e7;have BM:=s7 _ _ BF;refine#[fa,_,.ref p7,rfl,rfl,BM,?_,_,Dj++[p7],rfl,λx u n e=>jw n (s7 _ _ (Bp x u n e)),by rw[jb,yn];rfl,?_]
    ·rw[yb,jv.len Cp,ye,yb];exact yL (show _<=30000 by omega) (by decide)
    ·rw[Qg hf,Q5,yn,<-yt];exact jv.off (jv.snoc (jv.mono Cp λp xs e=>s7 _ _ e) (dZ e7 (s7 _ _ RN) (s7 _ _ Dk))) BM (j6.upd _)
   ·rintro σ H6 ⟨Fi,Dj,rfl,Bp,BF,Cp⟩;rw[yb,CP.1,yG] at Cp;exact#[_,_,Dj,rfl,λx u n e=>Bp x u n (s5 _ _ (off x u n e)),BF,Cp]
  ·rintro σ H4 ⟨v4,v5,fs,rfl,off,Bz,NA⟩;rw[lk,yG] at NA;have Z4:Fz P _ H4 r ob hv xs:=#[off _ _ LM Z.e,Z.hm,Z.kt.keeps λb ys e=>off _ _ (jq e Br) e,Z.dr,Z.hz];refine#[r,ob,hv,xs,Z4,hB v4 v5 _ #[fs,λx u e=>?_,jw (yP LM) Bz,jv.mono NA λp xs e=>jw (jq e Z4.e) e]];by_cases h:x=r
   ·subst h;rw[X.e] at e;cases e;exact jb
   ·rw[jl h];exact off x u (ji e BC) (zs _ _ h (s2 _ _ e))
 rintro v4 v5 H3 ⟨fs,s3,Br,NA⟩;have De:H fa=none:=by
  cases e:H fa with
  | none=>rfl
  | some u=>rw[s1 _ _ e] at BC;cases BC
 exact#[_,rfl,q cells hk fa fs H3 L pm (jc.trans s1 s3) De Br NA]
variable {P:Be}{w:World}{K:AQ}{mg:AT}{base:Heap}{t:Adr}
theorem zj {g:TG}{k:Nat}{a:Addr}{cl:List jf} (f:jf->Bool) (gN:jf->Nk) (hz:cl.length<=sizeLine) (ha:H a=some (.lst (ps.map V.ref))) (C:jp H ps cl)
  (hg:∀(r:Addr) (c:jf) (H':Hp) (Qy:VK) (Qn:Hp->Prop),jc H H'->H' r=some (.tup [.int c.1,.int c.2.1,.int c.2.2])->(f c=true->∀H2 p,jc H' H2->nO.V_ H2 (.ref p) (gN c)->Qy (.ref p) H2)->(f c=false->∀H2,jc H' H2->Qn H2)->g (.ref r) (σ++List.replicate k none) H' λσ2 H2=>(∃zs,σ2=σ++zs/\zs.length=k)/\tc σ2 H2 λb H3=>if b=true then te σ2 H3 Qy else Qn H3)
  (q:∀D rs H',jc H H'->H D=none->H' D=some (.lst (rs.map V.ref))->jv nO H' rs ((cl.filter f).map gN)->Q (.ref D) H'):vb k g tc te σ Q (Z8 K a) H:=by
 refine vB (xs:=ps.map V.ref) (λD i ys H'=>A5 (H D=none) (jc H H') (H' D=some (.lst ys)) (ys.length<=i) (∃rs:List Addr,ys=rs.map V.ref/\jv nO H' rs (((cl.take i).filter f).map gN))) (by rw[yb,C.1];exact hz) (λD hD=>#[hD,jk (jc.refl _) hD,jb,yg _,[],rfl,.nil]) (λD i ys H' h_=>by obtain⟨_,d2,e,l,_⟩:=h_;exact#[e,l,jo.of (d2 _ _ ha)]) ?_ ?_
 ·rintro D i v ys H' Qy Qn hx ⟨d1,d2,d3,d4,rs,rfl,C'⟩ hy hn;rw[yj] at hx;obtain⟨r,Ed,rfl⟩:=yl.mp hx;have hi:i<cl.length:=by rw[<-C.1];exact (yi.mp Ed).1
  have hs:=yc hi;have er:=d2 _ _ (C.2 i r _ Ed hs);have tk:∀b:Bool,f cl[i]=b->((cl.take (i+1)).filter f).map gN=((cl.take i).filter f).map gN++(if b=true then [gN cl[i]] else []):=λb hb=>by
   rw[List.take_add_one,hs,Qv,yn];congr 1;cases b<;>simp [hb]
  generalize cl[i]=cc at er tk;refine hg r cc H' Qy Qn d2 er (λhb H2 p s2 hp=>?_) λhb H2 s2=>?_
  ·have BG:=s2 _ _ d3;refine hy _ _ BG #[d1,λb u e=>?_,jb,by rw[ye];exact Q3 d4,rs++[p],by rw[yn];rfl,?_]
   ·rw[jl (ji e d1)];exact s2 _ _ (d2 _ _ e)
   ·rw[tk true hb,if_pos rfl];exact jv.off (jv.snoc (jv.mono C' λp xs e=>s2 _ _ e) hp) BG (j6.upd _)
  ·refine hn _ #[d1,jc.trans d2 s2,s2 _ _ d3,by omega,rs,rfl,?_];rw[tk false hb,if_neg (by decide),yB];exact jv.mono C' λp xs e=>s2 _ _ e
 ·rintro D ys H3 hD ⟨d1,d2,d3,d4,rs,rfl,C'⟩;rw[yb,C.1,yG] at C';exact q D rs H3 d2 d1 d3 C'
def jx (cs:jG) (c:jf):Bool:=(jM cs (k3 c)).isSome
def JT (cl:List jf) (ks:List K5):List Nk:=(cl.filter λc=>ks.any (vC c)).map GD
theorem none_of {H':Hp}{x:Addr} (s:jc H H') (hx:H' x=none):H x=none:=by
 cases e:H x with
 | none=>rfl
 | some u=>rw[s _ _ e] at hx;cases hx
theorem VX {a b:Int×Int} (h:k2 a=k2 b):a=b:=by
 obtain⟨x,y⟩:=a;obtain⟨u,v⟩:=b;unfold k2 at h;simp at h;rw[h.1,h.2]
def KJ:List Key->Int×Int
 | [.inl x,.inl y]=>(x,y)
 | _=>(0,0)
theorem i3 {w:Nat} (T:UH ds w h) {ks:List (List Key)} (pm:ks.Perm (ds.map (·.1))):∃hl:List (Int×Int),ks=hl.map k2:=by
 refine#[ks.map KJ,?_];rw[Qr];refine ((QB (g:=id) λk hk=>?_).trans (List.map_id ks)).symm;obtain⟨kv,Bv,rfl⟩:=yf.mp (pm.mem_iff.mp hk);obtain⟨x,y,_,_,e⟩:=T.key kv Bv;show k2 (KJ kv.1)=kv.1;rw[e];rfl
theorem j9.of_key (k:Ug H ps (pl.map k2)):j9 H ps pl:=#[by rw[k.1,yb],λi p c h1 h2=>k.2 i p (k2 c) h1 (by rw[yj,h2];rfl)]
def uU (h:Int×Int) (rm:Nat) (cop:jf->Bool) (z:Nat):List Nk:=if cop (h.1,h.2,(z:Int))=true then ((uL (h.1,h.2,(z:Int)) rm).filter λc=>!cop c).map λc=>ZC (h,c) else []
def Jg (hl:AS) (L rm:Nat) (cop:jf->Bool):List Nk:=hl.flatMap λh=>(List.range L).flatMap (uU h rm cop)
theorem GY (hl:AS) (h:Int×Int) (L rm:Nat) (cop:jf->Bool):Jg (hl++[h]) L rm cop=Jg hl L rm cop++(List.range L).flatMap (uU h rm cop):=by
 unfold Jg;rw[Qm];simp
theorem lR (h:Int×Int) (hr:rm<=2) (cop:jf->Bool) (z:Nat):(uU h rm cop z).length<=25:=by
 unfold uU;split
 ·rw[yb];exact yp (yX _ _) (zg _ hr)
 ·exact yV _
theorem zH (h:Int×Int) (hr:rm<=2) (cop:jf->Bool):∀L:Nat,((List.range L).flatMap (uU h rm cop)).length<=L*25
 | 0=>yg _
 | L+1=>by
  rw[Qe,Qm,ye];have:=zH h hr cop L;have:=lR h hr cop L;simp only[QL,QA,yB];omega
theorem U7 {L rm:Nat} (hr:rm<=2) (cop:jf->Bool):∀hl:List (Int×Int),(Jg hl L rm cop).length<=hl.length*(L*25)
 | []=>yV _
 | h::hl=>by
  have ih:=U7 (L:=L) hr cop hl;have e:Jg (h::hl) L rm cop=(List.range L).flatMap (uU h rm cop)++Jg hl L rm cop:=by unfold Jg;rw[QL]
  rw[e,ye,yU,Nat.succ_mul];have:=zH h hr cop L;omega
def om (K:AQ) (C:Addr):Sp:=λvs H Q _=>xx λ(o dx c d a:Addr) (w h l:Nat) (cs ds:jG) (ps:AX) (ks:List K5)=>A7 (vs=[.ref o,.ref a]) (Bd C H o dx c d w h l cs ds) (cs.length<=1000) (jD K H a (ps.map V.ref)) (JK H ps ks) (ks.length<=12) (∀(cells:List jf) (r:Addr) (fs:AX) (H':Hp),CL cs w h l cells->jc H H'->H r=none->H' r=some (.lst (fs.map V.ref))->jv nO H' fs (JT cells ks)->Q (.ref r) H')
theorem lU {H':Hp}{a:Addr} (e:jc H H') (h:jD K H a xs):jD K H' a xs:=by
 rcases h with (h|h)|h
 ·exact .inl (.inl (e _ _ h))
 ·exact .inl (.inr (by obtain⟨o,q⟩:=h;exact#[o,e _ _ q]))
 ·exact .inr h
theorem kG (T:Txt K mg t):jR P w K mg base 4 "keep_breaks" ["board","keeps"] (om K t.jr):=by
 refine T.KU.ok ["board","keeps"] ?_;rintro _ H Q E ⟨o,dx,c,d,a,w,h,l,cs,ds,ps,ks,rfl,B,lc,ha,CK,lk,q⟩;refine#[rfl,λBk A outer s hr=>#[_,(jj (jB (JE (own:=["cell"]) (vc (cl:=[("keeps",_)])) (jN (uQ (GM (Uz T)) (pv 0))) (λ_ _ _ _ _=>js 2) (λ_ _ _ _ _=>Uv (Jr (jm (cM T) (ja (pv 2) (ja (pv 1) je))))) (λ_ _ _ _ _=>(jJ (ja vH (ja (pv 2) je))))))),?_]];refine#[_,rfl,o,dx,_,rfl,B.o,rfl,o,dx,c,d,w,h,l,cs,rfl,B.o,B.c,B.C.sds,λkq bs Bm BU ka pm up=>?_];obtain⟨cells,rfl,L,OM⟩:=CL.of B.C pm up;have s1:=jk (o:=.lst (bs.map V.ref)) (jc.refl H) BU;have e1:upd H kq (.lst (bs.map V.ref)) kq=some (.lst (bs.map V.ref)):=jb;have C1:=(jp.of_key ka).same s1;generalize upd H kq (.lst (bs.map V.ref))=H1 at s1 e1 C1;refine#[kq,rfl,#[_,jo.of e1],zj (λc=>ks.any (vC c)) GD (yp (show _<=1000 by omega) (by decide)) e1 C1 (λr cc H2 Qy Qn s2 er hy hn=>?_) λD rs H2 s2 hD eD NA=>?_]
 ·refine#[#[_,rfl,rfl],_,rfl,_,rfl,r,a,cc,ps,ks,rfl,er,lU (jc.trans s1 s2) ha,CK.same (jc.trans s1 s2),by omega,λH3 s3=>#[_,rfl,UK (λht=>?_) λhf=>hn hf H3 s3]];refine#[_,rfl,V9,λp hp=>?_];have s4:=jk (o:=.tup [.str "keep",.ref r]) (jc.refl H3) hp;exact hy ht _ p (jc.trans s3 s4) (aC jb (s4 _ _ (s3 _ _ er)))
 ·exact q cells D rs H2 L (jc.trans s1 s2) (none_of s1 hD) eD NA
variable {P:Be}{w:World}{K:AQ}{mg:AT}{base:Heap}{t:Adr}
theorem gZ (pm:(hl.map k2).Perm (ds.map (·.1))):hl.length=ds.length:=by have:=pm.length_eq;simpa using this
theorem j6.bd {H':Hp}{c:Addr}{w:Nat} (k:j6 fa H H') (hf:H fa=some (.lst ys)) (B:Bd C H o dx c d w h l cs ds):Bd C H' o dx c d w h l cs ds :=
 #[k _ _ (jq B.o hf) B.o,k _ _ (jq B.c hf) B.c,k _ _ (jq B.d hf) B.d,B.C,B.D]
def t6 (C:Addr):Sp:=λvs H Q _=>Z7 λ(o dx c d:Addr) (w h l rm:Nat) (cs ds:jG)=>A6 (vs=[.ref o,.int rm]) (Bd C H o dx c d w h l cs ds) (l<=3) (ds.length<=1000) (rm<=2) (∀(hl:AS) (r:Addr) (fs:AX) (H':Hp),(hl.map k2).Perm (ds.map (·.1))->jc H H'->H r=none->H' r=some (.lst (fs.map V.ref))->jv nO H' fs (Jg hl l rm (jx cs))->Q (.ref r) H')
theorem mC (T:Txt K mg t):jR P w K mg base 8 "rim_breaks" ["board","rim"] (t6 t.jr):=by
 refine T.m5.ok ["board","rim","found","hole","z","middle"] ?_;rintro _ H Q E ⟨o,dx,c,d,w,h,l,rm,cs,ds,rfl,B,F7,ld,r2,q⟩;refine#[rfl,λBk A outer s hr=>#[_,(jh (jz 2 (j5 je)) (jh (jS jH (jN (uQ (cG (V6 T)) (pv 0))) (js 3) (jj (jS jH (JV rfl T.Jv (ja (Jd (pv 0)) je)) (js 4) (jh (jz 5 (ju aO (pv 3) (jJ (ja (pv 4) je)))) (jj (jX (uh (Vv (pv 5) (Jd (pv 0)))) (jj (jE (JO PySem.F.plainAttrs_list PySem.F.slot_list_extend PySem.F.type_list_extend U5 (pv 2) (ja (JE (own:=["cell"]) (vc (cl:=[("hole",_),("board",_)])) (jN (jm (Kv T) (ja (pv 5) (ja (pv 1) je)))) (λ_ _ _ _ _=>js 6) (λ_ _ _ _ _=>Uv (uh (Uu (pv 6) (Jd (pv 0))))) (λ_ _ _ _ _=>(jJ (ja vH (ja (pv 3) (ja (pv 6) je)))))) je)))) jL)))))) (jj (jB (pv 2))))),?_]];refine uP (λ(fa:Addr)=>[oR o,oI rm,oR fa,none,none,none]) (λfa H'=>A3 (jc H H') (H fa=none) (H' fa=some (.lst []))) (λB hB=>#[zV,λfa hf=>hB fa _ #[jk (jc.refl H) hf,hf,jb]]) ?_;rintro fa H1 ⟨s1,BC,ef⟩;have B1:=B.same s1;refine KB (λ(v3 v4 v5:Option V)=>[oR o,oI rm,oR fa,v3,v4,v5]) (λ_ _ _ H'=>E2 λ(hl:AS) (fs:AX)=>A4 ((hl.map k2).Perm (ds.map (·.1))) (jc H H') (H' fa=some (.lst (fs.map V.ref))) (jv nO H' fs (Jg hl l rm (jx cs)))) (λB' hB=>?_) ?_
 ·refine#[_,rfl,o,dx,_,rfl,B1.o,rfl,o,dx,c,d,w,h,l,ds,rfl,B1.o,B1.d,B.D.sds,λkq bs ks BU ka pm up=>?_];obtain⟨hl,rfl⟩:=i3 B.D pm;have s2:=jk (o:=.lst (bs.map V.ref)) (jc.refl H1) BU;have e2:upd H1 kq (.lst (bs.map V.ref)) kq=some (.lst (bs.map V.ref)):=jb;have C2:=(j9.of_key ka).same s2;have BH:=s2 _ _ ef;have fk:fa≠kq:=ji ef BU;generalize upd H1 kq (.lst (bs.map V.ref))=H2 at s2 e2 C2 BH;have B2:=B1.same s2;have lh:=gZ pm;refine#[kq,rfl,#[_,jo.of e2],jY (xs:=bs.map V.ref) (λi σ H'=>E4 λ(v3 v4 v5:Option V) (fs:AX)=>A4 (σ=[oR o,oI rm,oR fa,v3,v4,v5]) (j6 fa H2 H') (H' fa=some (.lst (fs.map V.ref))) (jv nO H' fs (Jg (hl.take i) l rm (jx cs)))) #[_,_,_,[],rfl,j6.refl _ _,BH,.nil] (λi σ H' _ h=>by obtain⟨_,_,_,_,_,k,_⟩:=h;exact jo.of (k _ _ (yP fk) e2)) ?_ ?_]
  ·rintro i v σ H3 hx ⟨v3,v4,v5,fs,rfl,off,Br,NA⟩;rw[yj] at hx;obtain⟨p,e1,rfl⟩:=yl.mp hx;have hi:i<hl.length:=by rw[<-C2.1];exact (yi.mp e1).1
   have g1:=yc hi;have hp:=C2.2 i p _ e1 g1;have tk:hl.take (i+1)=hl.take i++[hl[i]]:=by rw[y7,g1];rfl
   have lr:=U7 (L:=l) r2 (jx cs) (hl.take i);have Io:(hl.take i).length<=1000:=by rw[yO];omega
   rw[tk,GY];generalize hl[i]=hh at hp;have Cw:=off _ _ (jq hp BH) hp;have B3:=off.bd BH B2;have WA:(Jg (hl.take i) l rm (jx cs)).length<=75000:=yp lr (yp (yQ Io (show l*25<=75 by omega)) (by decide));refine Vn (.int l) B3.o T.jI T.Ui #[l,rfl,by omega,by omega,JR (lo:=0) (n:=l) (λj σ H'=>E3 λ(v4 v5:Option V) (fs:AX)=>A4 (σ=[oR o,oI rm,oR fa,oR p,v4,v5]) (j6 fa H3 H') (H' fa=some (.lst (fs.map V.ref))) (jv nO H' fs (Jg (hl.take i) l rm (jx cs)++(List.range j).flatMap (uU hh rm (jx cs))))) #[_,_,fs,rfl,j6.refl _ _,Br,by rw[List.range_zero,QA,yB];exact NA] ?_ ?_]
   ·rintro z σ H4 hz ⟨WB,Fi,DU,rfl,Bu,Bz,Cg⟩;have BN:=Bu _ _ (jq Cw Br) Cw;have B4:=Bu.bd Br B3;have lz:=zH hh r2 (jx cs) z;have e0:(0:Int)+(z:Int)=(z:Int):=by omega
    rw[e0,Qe,Qm,<-yt];simp only[QL,QA,yB];refine uP (λ(m:Addr)=>[oR o,oI rm,oR fa,oR p,oI z,oR m]) (λm H'=>jc H4 H'/\H' m=some (.tup [.int hh.1,.int hh.2,.int z])) (λB hB=>#[_,rfl,_,rfl,nU,λt1 ON=>?_]) ?_
    ·have st:=jk (o:=.tup [.int (z:Int)]) (jc.refl H4) ON;refine#[p,t1,[.int hh.1,.int hh.2],[.int (z:Int)],rfl,rfl,jD.of (st _ _ BN),jD.of jb,by simp,Ul,(λz=>by cases z),λ_ m hm=>hB m _ #[jk st hm,jb]]
    rintro m H5 ⟨s5,em⟩;have B5:=B4.same s5;have BJ:=s5 _ _ Bz;refine#[_,rfl,Vn (.ref c) B5.o T.jI T.Jp #[c,_,rfl,JN.t (k:=k3 (hh.1,hh.2,(z:Int))) B5.c em,_,rfl,UK (λht=>?_) λhf=>?_]]
    ·have Cy:jx cs (hh.1,hh.2,(z:Int))=true:=ht;refine#[_,rfl,.inl #[rfl,_,jo.of BJ],_,rfl,_,rfl,m,(hh.1,hh.2,(z:Int)),rm,rfl,em,r2,λD ps H6 s6 hD eD CP=>?_];have la:=zg (hh.1,hh.2,(z:Int)) r2;have OP:=s6 _ _ (s5 _ _ BN);have B6:=B5.same s6;refine#[D,rfl,#[_,jo.of eD],zj (λc=>!jx cs c) (λc=>ZC (hh,c)) (yp la (by decide)) eD CP (λr cc H7 Qy Qn s7 er hy hn=>?_) λD2 rs H7 s7 Co Rq Fl=>?_]
     ·have B7:=B6.same s7;refine#[#[_,rfl,rfl],_,rfl,Vn (.ref c) B7.o T.jI T.Jp #[c,_,rfl,JN.t (k:=k3 cc) B7.c er,_,rfl,JJ (λFT=>?_) λPK=>hn (by show (!jx cs cc)=false;rw[show jx cs cc=true from PK];rfl) H7 (jc.refl _)]];refine#[_,rfl,_,rfl,Ul,λp8 Fn=>?_];have s8:=jk (o:=.tup [.str "rim",.ref p,.ref r]) (jc.refl H7) Fn;exact hy (by show (!jx cs cc)=true;rw[show jx cs cc=false from FT];rfl) _ p8 s8 (f6 jb (s8 _ _ (s7 _ _ OP)) (s8 _ _ er))
     ·have BM:=s7 _ _ (s6 _ _ BJ);have fD2:fa≠D2:=ji (s6 _ _ BJ) Co;have lN:rs.length<=25:=by
       rw[jv.len Fl,yb];exact yp (yX _ _) la
      refine#[fa,D2,_,_,rfl,rfl,BM,Rq,?_,_,_,DU++rs,rfl,λx u n e=>jw n (s7 _ _ (s6 _ _ (s5 _ _ (Bu x u n e)))),by rw[jb,yn],?_]
      ·rw[yb,yb,jv.len Cg,ye];exact yp (show _<=80000 by omega) (by decide)
      ·have:uU hh rm (jx cs) z=((uL (hh.1,hh.2,(z:Int)) rm).filter λc=>!jx cs c).map λc=>ZC (hh,c):=if_pos Cy;rw[this];exact jv.off (jv.app (jv.mono Cg λp xs e=>s7 _ _ (s6 _ _ (s5 _ _ e))) Fl) BM (j6.upd _)
    ·have Cy:jx cs (hh.1,hh.2,(z:Int))=false:=hf;have:uU hh rm (jx cs) z=[]:=if_neg (by rw[Cy];exact yo);rw[this,yB];exact#[_,_,DU,rfl,λx u n e=>s5 _ _ (Bu x u n e),BJ,jv.mono Cg λp xs e=>s5 _ _ e]
   ·rintro σ H4 ⟨WB,Fi,DU,rfl,Bu,Bz,Cg⟩;exact#[_,_,_,DU,rfl,off.trans Bu,Bz,Cg]
  ·rintro σ H3 ⟨v3,v4,v5,fs,rfl,off,Br,NA⟩;rw[yb,C2.1,yG] at NA;exact hB v3 v4 v5 _ #[hl,fs,pm,λx u e=>off x u (ji e BC) (s2 _ _ (s1 _ _ e)),Br,NA]
 rintro v3 v4 v5 H2 ⟨hl,fs,pm,s2,BH,NA⟩;exact#[_,rfl,q hl fa fs H2 pm s2 BC BH NA]
variable {P:Be}{w:World}{K:AQ}{mg:AT}{base:Heap}{t:Adr}
def Gh (H:Hp):V->jf
 | .ref p=>match H p with|some (.tup [.int a,.int b,.int c])=>(a,b,c)|_=>(0,0,0)
 | _=>(0,0,0)
theorem Kd (h:H p=some (.tup [.int c.1,.int c.2.1,.int c.2.2])):Gh H (.ref p)=c:=by
 show (match H p with|some (.tup [.int a,.int b,.int c])=>(a,b,c)|_=>(0,0,0))=c;rw[h]
theorem jp.mapF {β:Type}{cl:List jf} (C:jp H ps cl) (f:jf->β):(ps.map V.ref).map (λv=>f (Gh H v))=cl.map f:=by
 refine List.ext_getElem (by simp [C.1]) λi h1 h2=>?_;have g1:i<ps.length:=by simpa using h1
 have g2:i<cl.length:=by simpa using h2
 rw[Qd,Qd,Qd,Kd (C.2 i _ _ (yc g1) (yc g2))]
theorem jp.memF {cl:List jf} (C:jp H ps cl) (h:p∈ps):∃c∈cl,H p=some (.tup [.int c.1,.int c.2.1,.int c.2.2]):=by
 obtain⟨i,hi,rfl⟩:=Qj h;have h2:i<cl.length:=by rw[<-C.1];exact hi
 exact#[_,yY h2,C.2 i _ _ (yc hi) (yc h2)]
def JM (c:jf) (n:Nat):List jf:=nZ c.1 c.2.1 c.2.2 n
def VC (cl:List jf) (cop:jf->Bool) (n:Nat) (e:jf):Bool:=cl.any λc=>(JM c n).all cop&&decide (e∈JM c n)
theorem zh (cl:List jf) (c:jf) (cop:jf->Bool) (n:Nat) (e:jf):VC (cl++[c]) cop n e=(VC cl cop n e||((JM c n).all cop&&decide (e∈JM c n))):=by
 unfold VC;rw[List.any_append];simp
def UV (cl cells:List jf) (cop:jf->Bool) (n:Nat):List Nk:=(cl.filter λe=>!VC cells cop n e).map Ng
def wg (C:Addr):Sp:=λvs H Q _=>Z7 λ(o dx c d:Addr) (w h l n:Nat) (cs ds:jG)=>A6 (vs=[.ref o,.int n]) (Bd C H o dx c d w h l cs ds) (cs.length<=1000) (1<=n) (n<=3) (∀(cells:List jf) (r:Addr) (fs:AX) (H':Hp),CL cs w h l cells->jc H H'->H r=none->H' r=some (.lst (fs.map V.ref))->jv nO H' fs (UV cells cells (jx cs) n)->Q (.ref r) H')
theorem GS (T:Txt K mg t):jR P w K mg base 8 "width_breaks" ["board","width"] (wg t.jr):=by
 refine T.G9.ok ["board","width","broad","corner","square","cell"] ?_;rintro _ H Q E ⟨o,dx,c,d,w,h,l,n,cs,ds,rfl,B,lc,n1,n3,q⟩;refine#[rfl,λBk A outer s hr=>#[_,(jh (jz 2 UY) (jh (jS jH (jN (uQ (GM (Uz T)) (pv 0))) (js 3) (jh (jz 4 (jm (V7 T) (ja (pv 3) (ja (pv 1) je)))) (jj (jX (Jr (jT (kg rfl) (by rfl) T.wZ wH (ja (zA (N0:=["board","width","broad","corner","square",".cell"]) (own:=["cell"]) (vc (cl:=[("board",_)])) (jN (pv 4)) (λ_ _ _ _ _=>js 6) (λ_ _ _ _ _=>vI) (λ_ _ _ _ _=>(ny (Vv (pv 6) (Jd (pv 0)))))) je))) (jj (jS jH (jN (pv 4)) (js 5) (jj (UA (pv 2) (pv 5) Uk)))) jL)))) (jj (jB (zA (N0:=["board","width","broad","corner","square",".cell"]) (own:=["cell"]) (vc (cl:=[("broad",_)])) (jN (uQ (GM (Uz T)) (pv 0))) (λ_ _ _ _ _=>js 6) (λ_ _ _ _ _=>Uv (uh (Uu (pv 6) (pv 2)))) (λ_ _ _ _ _=>(jJ (ja vH (ja (pv 6) je))))))))),?_]];refine uP (λ(br:Addr)=>[oR o,oI n,oR br,none,none,none]) (λbr H'=>A3 (jc H H') (H br=none) (H' br=some (.dT []))) (λB hB=>λbr hf=>hB br _ #[jk (jc.refl H) hf,hf,jb]) ?_;rintro br H1 ⟨s1,RR,eb⟩;have B1:=B.same s1;refine G1 (λ(v3 v4 v5:Option V) (cells:List jf)=>[oR o,oI n,oR br,v3,v4,v5]) (λ_ _ _ cells H'=>∃bt:jG,A4 (CL cs w h l cells) (jc H H') (H' br=some (.dT bt)) (∀e,(jM bt (k3 e)).isSome=VC cells (jx cs) n e)) (λB' hB=>?_) ?_
 ·refine#[_,rfl,o,dx,_,rfl,B1.o,rfl,o,dx,c,d,w,h,l,cs,rfl,B1.o,B1.c,B.C.sds,λkq bs ks BU ka pm up=>?_];obtain⟨cells,rfl,L,OM⟩:=CL.of B.C pm up;have s2:=jk (o:=.lst (bs.map V.ref)) (jc.refl H1) BU;have e2:upd H1 kq (.lst (bs.map V.ref)) kq=some (.lst (bs.map V.ref)):=jb;have C2:=(jp.of_key ka).same s2;have Fo:=s2 _ _ eb;have bk:br≠kq:=ji eb BU;generalize upd H1 kq (.lst (bs.map V.ref))=H2 at s2 e2 C2 Fo;have B2:=B1.same s2;have nb:∀{x:Addr} {u:HO},H1 x=some u->u≠.dT []->x≠br:=λhx hu z=>by rw[z,eb] at hx;cases hx;exact hu rfl
  have f₂:c≠br:=λz=>by have:=B.c;rw[z,RR] at this;cases this
  refine#[kq,rfl,#[_,jo.of e2],jY (xs:=bs.map V.ref) (λi σ H'=>E4 λ(v3 v4 v5:Option V) (bt:jG)=>A5 (σ=[oR o,oI n,oR br,v3,v4,v5]) (j6 br H2 H') (H' br=some (.dT bt)) (bt.length<=i*49) (∀e,(jM bt (k3 e)).isSome=VC (cells.take i) (jx cs) n e)) #[_,_,_,[],rfl,j6.refl _ _,Fo,yV _,λe=>rfl] (λi σ H' _ h=>by obtain⟨_,_,_,_,_,k,_⟩:=h;exact jo.of (k _ _ (yP bk) e2)) ?_ ?_]
  ·rintro i v σ H3 hx ⟨v3,v4,v5,bt,rfl,off,ED,WC,DV⟩;rw[yj] at hx;obtain⟨p,e1,rfl⟩:=yl.mp hx;have hi:i<cells.length:=by rw[<-C2.1];exact (yi.mp e1).1
   have g1:=yc hi;have hp:=C2.2 i p _ e1 g1;have tk:cells.take (i+1)=cells.take i++[cells[i]]:=by rw[y7,g1];rfl
   rw[tk];generalize cells[i]=cc at hp;have Cw:=off _ _ (jq hp Fo) hp;have B3:Bd t.jr H3 o dx c d w h l cs ds:=#[off _ _ (jq B2.o Fo) B2.o,off _ _ f₂ B2.c,off _ _ (λz=>by have:=B.d;rw[z,RR] at this;cases this) B2.d,B.C,B.D];refine KA (λ(sq:Addr) (ps:AX)=>[oR o,oI n,oR br,oR p,oR sq,v5]) (λsq ps H'=>A4 (jc H3 H') (H3 sq=none) (H' sq=some (.lst (ps.map V.ref))) (jp H' ps (JM cc n))) (λB hB=>#[_,rfl,_,rfl,p,cc,n,rfl,Cw,n1,by omega,λD ps H' s' hD eD C=>hB D ps _ #[s',hD,eD,C]]) ?_;rintro sq ps H4 ⟨s4,i₁,es,C4⟩;have ls:(JM cc n).length<=49:=by
    unfold JM;rw[kO];exact yQ (show n<=7 by omega) (show n<=7 by omega)
   have lp:ps.length<=49:=by rw[C4.1];exact ls
   have B4:=B3.same s4;have LN:=s4 _ _ ED;refine#[_,rfl,sq,rfl,#[_,jo.of es],dH (xs:=ps.map V.ref) (λ_=>true) (λv=>.bl (jx cs (Gh H4 v))) (jo.of es) (by rw[yb];exact yp lp (by decide)) (λx hx H' Qy Qn s' hy _=>?_) λD hD=>?_]
   ·obtain⟨r,hr,rfl⟩:=yf.mp hx;obtain⟨e,_,ee⟩:=C4.memF hr;have B5:=B4.same s';refine#[#[_,rfl,rfl],Ub #[_,rfl,Vn (.ref c) B5.o T.jI T.Jp #[c,_,rfl,JN.t (k:=k3 e) B5.c (s' _ _ ee),?_]]];have:=hy rfl;rw[Kd ee] at this;exact this
   have e5:(((ps.map V.ref).filter λ_=>true).map λv=>V.bl (jx cs (Gh H4 v)))=((JM cc n).map (jx cs)).map V.bl:=by
    rw[Wo.mpr (λ_ _=>rfl),C4.mapF λc=>V.bl (jx cs c),Qr];rfl
   rw[e5];have s5:=jk (o:=.lst (((JM cc n).map (jx cs)).map V.bl)) (jc.refl H4) hD;have WD:upd H4 D (.lst (((JM cc n).map (jx cs)).map V.bl)) D=some (.lst (((JM cc n).map (jx cs)).map V.bl)):=jb;generalize upd H4 D (.lst (((JM cc n).map (jx cs)).map V.bl))=H5 at s5 WD;have Bw:((JM cc n).map (jx cs)).all id=(JM cc n).all (jx cs):=by rw[List.all_map];rfl
   have RT:=jc.trans s4 s5;refine#[D,(JM cc n).map (jx cs),rfl,jo.of WD,_,rfl,?_];rw[Bw];refine UK (λht=>?_) λhf=>?_
   ·have EE:=s5 _ _ es;have C5:=C4.same s5;have Fp:=s5 _ _ LN;have RX:sq≠br:=jq EE Fp;refine#[_,rfl,sq,rfl,#[_,jo.of EE],jY (xs:=ps.map V.ref) (λj σ H'=>E2 λ(v5:Option V) (Hf:jG)=>A5 (σ=[oR o,oI n,oR br,oR p,oR sq,v5]) (j6 br H5 H') (H' br=some (.dT Hf)) (Hf.length<=i*49+j) (∀e,(jM Hf (k3 e)).isSome=(VC (cells.take i) (jx cs) n e||decide (e∈(JM cc n).take j)))) #[_,bt,rfl,j6.refl _ _,Fp,WC,λe=>by rw[DV e];simp] (λj σ H' _ h=>by obtain⟨_,_,_,k,_⟩:=h;exact jo.of (k _ _ RX EE)) ?_ ?_]
    ·rintro j v σ H6 hx ⟨Fi,Hg,rfl,Bp,Dk,LO,BR⟩;rw[yj] at hx;obtain⟨r,f1,rfl⟩:=yl.mp hx;have hj:j<(JM cc n).length:=by rw[<-C5.1];exact (yi.mp f1).1
     have f2:=yc hj;have er:=C5.2 j r _ f1 f2;have F9:(JM cc n).take (j+1)=(JM cc n).take j++[(JM cc n)[j]]:=by rw[y7,f2];rfl
     rw[F9];generalize (JM cc n)[j]=ee at er;have Ip:=Bp _ _ (jq er Fp) er;refine#[_,rfl,_,rfl,br,_,rfl,vn.t (k:=k3 ee) Dk Ip (yL (show _<=60000 by omega) (by decide)),?_];refine#[_,_,rfl,λx u n e=>jw n (Bp x u n e),jb,by have:=u6 Hg (k3 ee) (.bl true);omega,λe=>?_];rw[VA];by_cases Hh:e=ee
     ·subst Hh;rw[if_pos rfl];simp
     ·rw[if_neg (λz=>Hh (uv z)),BR e];simp [Hh]
    ·rintro σ H6 ⟨Fi,Hg,rfl,Bp,Dk,LO,BR⟩;rw[yb,C5.1] at LO BR;rw[yG] at BR;refine#[_,_,_,Hg,rfl,λx u n e=>Bp x u n (RT _ _ (off x u n e)),Dk,by omega,λe=>?_];rw[BR e,zh,ht,QI]
   ·refine#[_,_,_,bt,rfl,λx u n e=>RT _ _ (off x u n e),RT _ _ ED,by omega,λe=>?_];rw[DV e,zh,hf,QJ,Bool.or_false]
  ·rintro σ H3 ⟨v3,v4,v5,bt,rfl,off,ED,WC,DV⟩;rw[yb,C2.1,yG] at DV;exact hB v3 v4 v5 cells _ #[bt,L,λx u e=>off x u (ji e RR) (s2 _ _ (s1 _ _ e)),ED,DV]
 rintro v3 v4 v5 cells H2 ⟨bt,L,s2,Fo,RY⟩;have B2:=B.same s2;refine#[_,rfl,o,dx,_,rfl,B2.o,rfl,o,dx,c,d,w,h,l,cs,rfl,B2.o,B2.c,B.C.sds,λkq bs ks BU ka pm up=>?_];obtain rfl:=L.eq B.C pm up;have OM:=L.len B.C;have s3:=jk (o:=.lst (bs.map V.ref)) (jc.refl H2) BU;have e3:upd H2 kq (.lst (bs.map V.ref)) kq=some (.lst (bs.map V.ref)):=jb;have C3:=(jp.of_key ka).same s3;generalize upd H2 kq (.lst (bs.map V.ref))=H3 at s3 e3 C3;refine#[kq,rfl,#[_,jo.of e3],zj (λe=>!VC cells (jx cs) n e) Ng (yp (show _<=1000 by omega) (by decide)) e3 C3 (λr cc H4 Qy Qn s4 er hy hn=>?_) λD rs H4 s4 hD eD NA=>?_]
 ·refine#[#[_,rfl,rfl],_,rfl,_,rfl,br,_,rfl,JN.t (k:=k3 cc) (s4 _ _ (s3 _ _ Fo)) er,_,rfl,?_];rw[RY cc];refine UK (λht=>?_) λhf=>hn hf H4 (jc.refl _);refine#[_,rfl,V9,λp hp=>?_];have s5:=jk (o:=.tup [.str "width",.ref r]) (jc.refl H4) hp;exact hy ht _ p s5 (ix jb (s5 _ _ er))
 ·exact q cells D rs H4 L (jc.trans s2 (jc.trans s3 s4)) (none_of (jc.trans s2 s3) hD) eD NA
variable {P:Be}{w:World}{K:AQ}{mg:AT}{base:Heap}{t:Adr}
def Vq (k:Nk):Prop:=(∃p,k=VM p)\/(∃c,k=GD c)\/(∃p,k=ZC p)\/∃c,k=Ng c
theorem wM (c d:Int×Int):uM uw (k2 c) (k2 d):=#[rfl,λ_=>#[rfl,λ_=>trivial]]
theorem uY {a b:Str}{xs ys:Nk} (h:a≠b):uM gl (.inl (.inr a)::xs) (.inl (.inr b)::ys):=#[rfl,λe=>absurd (Sum.inr.inj (Sum.inl.inj e)) h]
theorem ag {a b:Nk} (ha:Vq a) (hb:Vq b):uM gl a b:=by
 rcases ha with ⟨p,rfl⟩|⟨p,rfl⟩|⟨p,rfl⟩|⟨p,rfl⟩<;>rcases hb with ⟨q,rfl⟩|⟨q,rfl⟩|⟨q,rfl⟩|⟨q,rfl⟩
 ·exact#[rfl,λ_=>#[zi _ _,λ_=>#[zi _ _,λ_=>trivial]]]
 ·exact uY (by decide)
 ·exact uY (by decide)
 ·exact uY (by decide)
 ·exact uY (by decide)
 ·exact#[rfl,λ_=>#[zi _ _,λ_=>trivial]]
 ·exact uY (by decide)
 ·exact uY (by decide)
 ·exact uY (by decide)
 ·exact uY (by decide)
 ·exact#[rfl,λ_=>#[wM _ _,λ_=>#[zi _ _,λ_=>trivial]]]
 ·exact uY (by decide)
 ·exact uY (by decide)
 ·exact uY (by decide)
 ·exact uY (by decide)
 ·exact#[rfl,λ_=>#[zi _ _,λ_=>trivial]]
theorem av {k:Nk} (h:Vq k):∃(c:Key) (r:Nk),k=.inl c::r/\c.isLeft=false:=by
 rcases h with ⟨p,rfl⟩|⟨p,rfl⟩|⟨p,rfl⟩|⟨p,rfl⟩<;>exact#[_,_,rfl,rfl]
theorem Zl {cl:List jf}:∀k∈Jo cl g f,Vq k:=λk hk=>by
 obtain⟨c,_,h⟩:=Wn.mp hk;obtain⟨d,_,rfl⟩:=yf.mp h;exact .inl #[_,rfl]
theorem zp {cl:List jf}:∀k∈JT cl ks,Vq k:=λk hk=>by
 obtain⟨d,_,rfl⟩:=yf.mp hk;exact .inr (.inl #[_,rfl])
theorem ZD:∀k∈Jg hl L rm cop,Vq k:=λk hk=>by
 obtain⟨h,_,h1⟩:=Wn.mp hk;obtain⟨z,_,h2⟩:=Wn.mp h1;unfold uU at h2
 split at h2
 ·obtain⟨d,_,rfl⟩:=yf.mp h2;exact .inr (.inr (.inl #[_,rfl]))
 ·cases h2
theorem ZH {cl cells:List jf}:∀k∈UV cl cells cop n,Vq k:=λk hk=>by
 obtain⟨d,_,rfl⟩:=yf.mp hk;exact .inr (.inr (.inr #[_,rfl]))
def bL (cells:List jf) (hl:AS) (f:jf->jf->Bool) (cop:jf->Bool) (l g n rm:Nat) (ks:List K5):List Nk :=
 ((Jo cells g f++JT cells ks)++Jg hl l rm cop)++UV cells cells cop n
theorem lv {a b c d:List Nk} (ha:∀k∈a,Vq k) (hb:∀k∈b,Vq k) (hc:∀k∈c,Vq k) (hd:∀k∈d,Vq k):∀k∈((a++b)++c)++d,Vq k:=λk hk=>by
 rcases ym.mp hk with hk|hk
 ·rcases ym.mp hk with hk|hk
  ·rcases ym.mp hk with hk|hk
   ·exact ha k hk
   ·exact hb k hk
  ·exact hc k hk
 ·exact hd k hk
theorem iK {cells:List jf}:∀k∈bL cells hl f cop l g n rm ks,Vq k:=lv Zl zp ZD ZH
theorem ve (cl:List jf) (ks:List K5):(JT cl ks).length<=cl.length:=by unfold JT;rw[yb];exact yX _ _
theorem ZI (cl cells:List jf) (cop:jf->Bool) (n:Nat):(UV cl cells cop n).length<=cl.length:=by unfold UV;rw[yb];exact yX _ _
structure Vj (K:AQ) (C:Addr) (H:Hp) (ru dx kp:Addr) (ps:AX) (g n rm:Nat) (kv:V) (ks:List K5):Prop where
 o:H ru=some (.ins C dx (fR (.int g) (.int n) (.int rm) kv (.ref kp)))
 k:H kp=some (.tup (ps.map V.ref))
 kk:JK H ps ks
 b:g<=2/\1<=n/\n<=3/\rm<=1/\ks.length<=12
theorem Vj.same {H':Hp}{kp:Addr}{kv:V} (X:Vj K C H ru dx kp ps g n rm kv ks) (s:jc H H'):Vj K C H' ru dx kp ps g n rm kv ks:=#[s _ _ X.o,s _ _ X.k,X.kk.same s,X.b]
theorem Vj.off {H':Hp}{kp:Addr}{kv:V} (X:Vj K C H ru dx kp ps g n rm kv ks) (hf:H fa=some (.lst ys)) (k:j6 fa H H'):Vj K C H' ru dx kp ps g n rm kv ks :=
 #[k _ _ (jq X.o hf) X.o,k _ _ (jq X.k hf) X.k,#[X.kk.1,λi p xs h1 h2=>k _ _ (jq (X.kk.2 i p xs h1 h2) hf) (X.kk.2 i p xs h1 h2)],X.b]
def lZ (K:AQ) (t:Adr):Sp:=λvs H Q _=>rn λ(o dx c d ru B8 kp:Addr) (w h l g n rm:Nat) (cs ds:jG) (ps:AX) (kv:V) (ks:List K5)=>A7 (vs=[.ref o,.ref ru]) (Bd t.jr H o dx c d w h l cs ds) (l<=3) (cs.length<=1000) (ds.length<=1000) (Vj K t.Jk H ru B8 kp ps g n rm kv ks) (∀(cells:List jf) (hl:AS) (r:Addr) (fs:AX) (bk:List Nk) (H':Hp),CL cs w h l cells->(hl.map k2).Perm (ds.map (·.1))->jc H H'->H r=none->H' r=some (.lst (fs.map V.ref))->jv nO H' fs bk->bk.Perm (bL cells hl (fG (Jh cs ds w h l) cells) (jx cs) l g n rm ks)->(bk.Pairwise λa b=>JC gl b a=false)->Q (.ref r) H')
theorem fF (T:Txt K mg t):jR P w K mg base 10 "breaks" ["board","rules"] (lZ K t):=by
 refine T.iC.ok ["board","rules","found"] ?_;rintro _ H Q E ⟨o,dx,c,d,ru,B8,kp,w,h,l,g,n,rm,cs,ds,ps,kv,ks,rfl,B,F7,lc,ld,R,q⟩;refine#[rfl,λBk A outer s hr=>#[_,(jh (jz 2 (jm (mw T) (ja (pv 0) (ja (Jd (pv 1)) je)))) (jh (jE (JO PySem.F.plainAttrs_list PySem.F.slot_list_extend PySem.F.type_list_extend U5 (pv 2) (ja (jm (kG T) (ja (pv 0) (ja (Jd (pv 1)) je))) je))) (jh (jE (JO PySem.F.plainAttrs_list PySem.F.slot_list_extend PySem.F.type_list_extend U5 (pv 2) (ja (jm (mC T) (ja (pv 0) (ja (Jd (pv 1)) je))) je))) (jh (jE (JO PySem.F.plainAttrs_list PySem.F.slot_list_extend PySem.F.type_list_extend U5 (pv 2) (ja (jm (GS T) (ja (pv 0) (ja (Jd (pv 1)) je))) je))) (jj (jB (jT (Ze (O:=JG uw) (hd:=VO uw) hr.units (by decide)) (by rfl) T.uG uD (ja (pv 2) je)))))))),?_]];obtain⟨b1,b2,b3,b4,b5⟩:=R.b;refine G1 (λ(fa:Addr) (fs:AX) (cells hk:List jf)=>[oR o,oR ru,oR fa]) (λfa fs cells hk H'=>A6 (CL cs w h l cells) (hk.Perm cells) (jc H H') (H fa=none) (H' fa=some (.lst (fs.map V.ref))) (jv nO H' fs (Jo hk g (fG (Jh cs ds w h l) cells)))) (λB' hB=>#[_,rfl,Vn (.int g) R.o T.uE T.Zs #[o,dx,c,d,w,h,l,g,cs,ds,rfl,B,F7,lc,b1,λcells hk r fs H' L pm s1 hr er NA=>hB r fs cells hk _ #[L,pm,s1,hr,er,NA]]]) ?_;rintro fa fs cells hk H1 ⟨L,LP,s1,BC,Hi,WE⟩;have OM:=L.len B.C;have lk:=LP.length_eq;have lg:=U2 b1 (fG (Jh cs ds w h l) cells) hk;refine uP (λ(fs:AX)=>[oR o,oR ru,oR fa]) (λfs H'=>A3 (j6 fa H1 H') (H' fa=some (.lst (fs.map V.ref))) (jv nO H' fs (Jo hk g (fG (Jh cs ds w h l) cells)++JT cells ks))) (λB' hB=>?_) ?_
 ·have R1:=R.same s1;refine#[_,rfl,.inl #[rfl,_,jo.of Hi],_,rfl,Vn (.ref kp) R1.o T.uE T.zS #[o,dx,c,d,kp,w,h,l,cs,ds,ps,ks,rfl,B.same s1,lc,jD.of R1.k,R1.kk,b5,λHj r fr H2 L' s2 hr er LQ=>?_]];obtain rfl:=L.uniq L';refine#[fa,r,_,_,rfl,rfl,s2 _ _ Hi,er,?_,hB (fs++fr) _ #[λx u n e=>jw n (s2 _ _ e),by rw[jb,yn],?_]]
  ·rw[yb,yb,jv.len WE,jv.len LQ];have:=ve cells ks;exact yp (show _<=30000 by omega) (by decide)
  ·exact jv.off (jv.app (jv.mono WE λp xs e=>s2 _ _ e) LQ) (s2 _ _ Hi) (j6.upd _)
 rintro i₂ H2 ⟨off2,BH,LQ⟩;have B2:=off2.bd Hi (B.same s1);have R2:=(R.same s1).off Hi off2;refine KA (λ(fs:AX) (hl:AS)=>[oR o,oR ru,oR fa]) (λfs hl H'=>A4 ((hl.map k2).Perm (ds.map (·.1))) (j6 fa H1 H') (H' fa=some (.lst (fs.map V.ref))) (jv nO H' fs ((Jo hk g (fG (Jh cs ds w h l) cells)++JT cells ks)++Jg hl l rm (jx cs)))) (λB' hB=>?_) ?_
 ·refine#[_,rfl,.inl #[rfl,_,jo.of BH],_,rfl,Vn (.int rm) R2.o T.uE T.Zt #[o,dx,c,d,w,h,l,rm,cs,ds,rfl,B2,F7,ld,by omega,λhl r fr H3 EF s3 hr er LR=>?_]];refine#[fa,r,_,_,rfl,rfl,s3 _ _ BH,er,?_,hB (i₂++fr) hl _ #[EF,λx u n e=>jw n (s3 _ _ (off2 x u n e)),by rw[jb,yn],?_]]
  ·rw[yb,yb,jv.len LQ,jv.len LR,ye];have:=ve cells ks;have lr:=U7 (L:=l) (show rm<=2 by omega) (jx cs) hl;have lh:=gZ EF;have WA:(Jg hl l rm (jx cs)).length<=75000:=yp lr (yp (yQ (show hl.length<=1000 by omega) (show l*25<=75 by omega)) (by decide));exact yp (show _<=120000 by omega) (by decide)
  ·exact jv.off (jv.app (jv.mono LQ λp xs e=>s3 _ _ e) LR) (s3 _ _ BH) (j6.upd _)
 rintro o₁ hl H3 ⟨EF,Hk,Br,LR⟩;have B3:=Hk.bd Hi (B.same s1);have R3:=(R.same s1).off Hi Hk;have o₂:(Jg hl l rm (jx cs)).length<=75000:=by
  have lr:=U7 (L:=l) (show rm<=2 by omega) (jx cs) hl;have lh:=gZ EF;exact yp lr (yp (yQ (show hl.length<=1000 by omega) (show l*25<=75 by omega)) (by decide))
 refine uP (λ(fs:AX)=>[oR o,oR ru,oR fa]) (λfs H'=>A3 (j6 fa H1 H') (H' fa=some (.lst (fs.map V.ref))) (jv nO H' fs (((Jo hk g (fG (Jh cs ds w h l) cells)++JT cells ks)++Jg hl l rm (jx cs))++UV cells cells (jx cs) n))) (λB' hB=>?_) ?_
 ·refine#[_,rfl,.inl #[rfl,_,jo.of Br],_,rfl,Vn (.int n) R3.o T.uE T.V3 #[o,dx,c,d,w,h,l,n,cs,ds,rfl,B3,lc,b2,b3,λHj r fr H4 L' s4 hr er Cg=>?_]];obtain rfl:=L.uniq L';refine#[fa,r,_,_,rfl,rfl,s4 _ _ Br,er,?_,hB (o₁++fr) _ #[λx u n e=>jw n (s4 _ _ (Hk x u n e)),by rw[jb,yn],?_]]
  ·rw[yb,yb,jv.len LR,jv.len Cg,ye,ye];have:=ve cells ks;have:=ZI cells cells (jx cs) n;exact yp (show _<=120000 by omega) (by decide)
  ·exact jv.off (jv.app (jv.mono LR λp xs e=>s4 _ _ e) Cg) (s4 _ _ Br) (j6.upd _)
 rintro DU H4 ⟨Bu,Bz,Cg⟩;have aB:=lv (Zl (cl:=hk) (g:=g) (f:=fG (Jh cs ds w h l) cells)) (zp (cl:=cells) (ks:=ks)) (ZD (hl:=hl) (L:=l) (rm:=rm) (cop:=jx cs)) (ZH (cl:=cells) (cells:=cells) (cop:=jx cs) (n:=n));refine#[_,rfl,fa,DU,_,false,rfl,Bz,Cg,λk hk=>av (aB k hk),λa ha b hb=>ag (aB a ha) (aB b hb),λr BQ Bm LU EG RZ R0=>?_];have OQ:jc H H4:=λx u e=>Bu x u (ji e BC) (s1 _ _ e);have s5:=jk (o:=.lst (BQ.map V.ref)) (jc.refl H4) LU;refine q cells hl r BQ Bm _ L EF (jc.trans OQ s5) (none_of OQ LU) jb (jv.mono EG λp xs e=>s5 _ _ e) (RZ.trans ?_) R0;exact (((List.Perm.flatMap_right _ LP).append_right _).append_right _).append_right _
end K33
namespace K33
open PySem L2 TS STb
local macro_rules|`(tactic|omega)=>`(tactic|first|lia|omega +splitNatSub)
variable {c:Int×Int}{e:jf}{k i n g rm j:Nat}{H:Hp}{ps qs:AX}{pl hl Ck:AS}{p cd to kl ru d dx:Addr}{cl wt dc:List jf}{ds kvs:jG}{N:jf->List jf}{xs ys:List V}{σ:St}{Q:VK}{ks:List K5}{E:XK}
variable {P:Be}{w:World}{K:AQ}{mg:AT}{base:Heap}{t:Adr}
def VW (x b c:Nat):List jf:=(List.range b).flatMap λ(y:Nat)=>(List.range c).map λ(z:Nat)=>((x:Int),(y:Int),(z:Int))
def uk (a b c:Nat):List jf:=(List.range a).flatMap λ(x:Nat)=>VW x b c
theorem kE {x b c:Nat}:e∈VW x b c↔∃y z:Nat,y<b/\z<c/\e=((x:Int),(y:Int),(z:Int)):=by
 unfold VW;simp only[Wn,yf,Qa];constructor
 ·rintro⟨y,hy,z,hz,rfl⟩;exact#[y,z,hy,hz,rfl]
 ·rintro⟨y,z,hy,hz,rfl⟩;exact#[y,hy,z,hz,rfl]
theorem U4 {a b c:Nat}:e∈uk a b c↔∃x y z:Nat,x<a/\y<b/\z<c/\e=((x:Int),(y:Int),(z:Int)):=by
 unfold uk;simp only[Wn,Qa,kE];constructor
 ·rintro⟨x,hx,y,z,hy,hz,rfl⟩;exact#[x,y,z,hx,hy,hz,rfl]
 ·rintro⟨x,y,z,hx,hy,hz,rfl⟩;exact#[x,hx,y,z,hy,hz,rfl]
theorem zk {β:Type}{f:Nat->List β}:∀n:Nat,(∀i,i<n->(f i).Nodup)->(∀i j,i<j->j<n->∀x∈f i,∀y∈f j,x≠y)->((List.range n).flatMap f).Nodup
 | 0,_,_=>by simp
 | n+1,h1,h2=>by
  rw[Qe,Qm];simp only[QL,QA,yB];refine QC.mpr #[zk n (λi hi=>h1 i (by omega +splitNatSub)) λi j By hj=>h2 i j By (by omega +splitNatSub),h1 n (by omega +splitNatSub),λx hx y hy=>?_];obtain⟨i,hi,hx⟩:=Wn.mp hx;exact h2 i n (Qa.mp hi) (by omega) x hx y hy
theorem tf {β:Type}{f:Nat->β} (hf:∀i j,f i=f j->i=j) (n:Nat):((List.range n).map f).Nodup:=Qo.mpr (List.nodup_range.imp λh z=>h (hf _ _ z))
theorem iR (a b c:Nat):(uk a b c).Nodup:=by
 refine zk a (λx _=>zk b (λy _=>tf (λi j e=>?_) c) λi j By _ u hu v hv e=>?_) λi j By _ u hu v hv e=>?_
 ·have:=congrArg (λe:jf=>e.2.2) e;dsimp only at this;omega
 ·obtain⟨z,_,rfl⟩:=yf.mp hu;obtain⟨z',_,rfl⟩:=yf.mp hv;have:=congrArg (λe:jf=>e.2.1) e;simp at this;omega
 ·obtain⟨y,z,_,_,rfl⟩:=kE.mp hu;obtain⟨y',z',_,_,rfl⟩:=kE.mp hv;have:=congrArg (λe:jf=>e.1) e;simp at this;omega
theorem UO {β:Type}{f:Nat->List β} (h:∀i,(f i).length=k):∀n:Nat,((List.range n).flatMap f).length=n*k
 | 0=>by simp
 | n+1=>by
  rw[Qe,Qm,ye,UO h n,Nat.succ_mul];simp [h n]
theorem kr (x b c:Nat):(VW x b c).length=b*c:=UO (λy=>by simp) b
theorem U1 (a b c:Nat):(uk a b c).length=a*(b*c):=UO (λx=>kr x b c) a
def JW (c d:Addr) (H H':Hp):Prop:=∀b u,b≠c->b≠d->H b=some u->H' b=some u
theorem JW.refl (c d:Addr) (H:Hp):JW c d H H:=λ_ _ _ _ e=>e
def tW:Sp:=λvs H Q _=>E4 λ(p:Addr) (a b c:Nat)=>A6 (vs=[.ref p]) (H p=some (.tup [.int a,.int b,.int c])) (a<=12) (b<=12) (c<=3) (∀D ps H',jc H H'->H D=none->H' D=some (.lst (ps.map V.ref))->jp H' ps (uk a b c)->Q (.ref D) H')
theorem gp (T:Txt K mg t):jR P w K mg base 1 "_law_flat" ["_law_size"] tW:=by
 refine T.bA.ok ["_law_size","_law_found","_law_x","_law_y"] ?_;rintro _ H Q E ⟨p,a,b,c,rfl,hp,Om,p₁,c3,q⟩;refine#[rfl,λBk A outer s hr=>#[_,(jh (jz 1 (j5 je)) (jh (jS jH (JV rfl T.Jv (ja (jt jy (pv 0) jg) je)) (js 2) (jj (jS jH (JV rfl T.Jv (ja (jt jy (pv 0) jg) je)) (js 3) (jj (jz 1 (ju Vu (pv 1) (JE (own:=["_law_z"]) (vc (cl:=[("_law_y",_),("_law_x",_)])) (JV rfl T.Jv (ja (jt jy (pv 0) jg) je)) (λ_ _ _ _ _=>js 4) (λ_ _ _ _ _=>vI) (λ_ _ _ _ _=>(jJ (ja (pv 2) (ja (pv 3) (ja (pv 4) je)))))))))))) (jj (jB (pv 1))))),?_]];refine uP (λ(fo:Addr)=>[oR p,oR fo,none,none]) (λfo H'=>A3 (jc H H') (H fo=none) (H' fo=some (.lst []))) (λB hB=>#[zV,λfo hf=>hB fo _ #[jk (jc.refl H) hf,hf,jb]]) ?_;rintro fo H1 ⟨s1,Fh,ef⟩;have bc:b*c<=36:=yQ p₁ c3;have Sa:∀n,n<=12->((List.range n).flatMap λx=>VW x b c).length<=432:=λn hn=>by
  rw[UO (λx=>kr x b c) n];exact yQ hn bc
 refine G1 (λ(fo:Addr) (ps:AX) (v2 v3:Option V)=>[oR p,oR fo,v2,v3]) (λfo ps _ _ H'=>A4 (jc H H') (H fo=none) (H' fo=some (.lst (ps.map V.ref))) (jp H' ps (uk a b c))) (λB' hB=>?_) ?_
 ·refine Jz (.int a) (jD.of (s1 _ _ hp)) #[a,rfl,by omega,by omega,JR (lo:=0) (n:=a) (λi σ H'=>E4 λ(fo:Addr) (ps:AX) (v2 v3:Option V)=>A5 (σ=[oR p,oR fo,v2,v3]) (jc H H') (H fo=none) (H' fo=some (.lst (ps.map V.ref))) (jp H' ps ((List.range i).flatMap λx=>VW x b c))) #[fo,[],_,_,rfl,s1,Fh,ef,#[rfl,(λi p c h=>nomatch h)]] ?_ ?_]
  ·rintro i σ H2 hi ⟨fo,ps,v2,v3,rfl,s2,DW,BH,C2⟩;have e0:(0:Int)+(i:Int)=(i:Int):=by omega
   rw[e0,Qe,Qm];simp only[QL,QA,yB];have l2:=Sa i (by omega)
   refine Jz (.int b) (jD.of (s2 _ _ hp)) #[b,rfl,by omega,by omega,JR (lo:=0) (n:=b) (λj σ H'=>E3 λ(fo:Addr) (ps:AX) (v3:Option V)=>A5 (σ=[oR p,oR fo,oI i,v3]) (jc H H') (H fo=none) (H' fo=some (.lst (ps.map V.ref))) (jp H' ps (((List.range i).flatMap λx=>VW x b c)++VW i j c))) #[fo,ps,_,rfl,s2,DW,BH,by
     have:VW i 0 c=[]:=rfl;rw[this,yB];exact C2] ?_ ?_]
   ·rintro j σ H3 hj ⟨Sb,LV,RL,rfl,s3,LW,Br,C3⟩;have e1:(0:Int)+(j:Int)=(j:Int):=by omega
    have eY:VW i (j+1) c=VW i j c++(List.range c).map λ(z:Nat)=>((i:Int),(j:Int),(z:Int)):=by
     unfold VW;rw[Qe,Qm];simp
    rw[e1,eY,<-yt];refine#[_,rfl,Jz (.int c) (jD.of (s3 _ _ hp)) #[c,rfl,by omega,by omega,vW (lo:=0) (n:=c) (λD k ys H'=>A5 (H3 D=none) (jc H3 H') (H' D=some (.lst ys)) (ys.length=k) (∃qs:List Addr,ys=qs.map V.ref/\jp H' qs ((List.range k).map λ(z:Nat)=>((i:Int),(j:Int),(z:Int))))) (yp c3 (by decide)) (λD hD=>#[hD,jk (jc.refl _) hD,jb,rfl,[],rfl,#[rfl,(λi p c h=>nomatch h)]]) (λD k ys H' h_=>by obtain⟨_,_,e,l,_⟩:=h_;exact#[e,l]) ?_ ?_]]
    ·rintro D k ys H4 Qy Qn hk ⟨d1,d2,d3,d4,qs,rfl,C4⟩ hy;have e2:(0:Int)+(k:Int)=(k:Int):=by omega
     rw[e2];refine#[#[_,rfl,rfl],Ub #[_,rfl,_,rfl,_,rfl,Ul,λp4 BN=>?_]];have s5:=jk (o:=.tup [.int (i:Int),.int (j:Int),.int (k:Int)]) (jc.refl H4) BN;have BG:=s5 _ _ d3;refine hy _ _ BG #[d1,λx u e=>jw (ji e d1) (s5 _ _ (d2 _ _ e)),jb,by rw[ye,d4];rfl,qs++[p4],by rw[yn];rfl,?_];rw[Qe,yn];exact ((C4.same s5).snoc (c:=((i:Int),(j:Int),(k:Int))) jb).wr BG
    ·rintro D ys H4 hD ⟨d1,d2,d3,d4,qs,rfl,C4⟩;have l4:qs.length<=3:=by rw[C4.1,yb,QQ];exact c3
     have l3:LV.length<=432+36:=by
      rw[C3.1,ye];have:(VW i j c).length<=36:=by rw[kr];exact yQ (show j<=12 by omega) c3
      omega
     refine#[Sb,D,_,_,rfl,rfl,d2 _ _ Br,d3,?_,λp5 EH=>?_]
     ·rw[yb,yb];exact yp (show _<=1000 by omega) (by decide)
     ·have s5:=jk (o:=.lst (LV.map V.ref++qs.map V.ref)) (jc.refl H4) EH;refine#[p5,LV++qs,_,rfl,jc.trans s3 (jc.trans d2 s5),none_of (jc.trans s3 d2) EH,by rw[jb,yn],?_];exact ((C3.same d2).app C4).same s5
   ·rintro σ H3 ⟨Sb,LV,RL,rfl,s3,LW,Br,C3⟩;exact#[Sb,LV,_,_,rfl,s3,LW,Br,C3]
  ·rintro σ H2 ⟨fo,ps,v2,v3,rfl,s2,DW,BH,C2⟩;exact hB fo ps v2 v3 _ #[s2,DW,BH,C2]
 rintro fo ps v2 v3 H2 ⟨s2,DW,BH,C2⟩;exact#[_,rfl,q fo ps H2 s2 DW BH C2]
def qU:Sp:=λvs H Q _=>∃(a:Addr),A3 (vs=[.ref a]) (Ja H a) (∀(p:Addr) (w h l:Nat) (H':Hp),1<=w->w<=7->1<=h->h<=8->1<=l->l<=3->Js a H H'->Ja H' a->H p=none->H' p=some (.tup [.int w,.int h,.int l])->Q (.ref p) H')
theorem np (T:Txt K mg t):jR P w K mg base 4 "_law_sized" ["_law_well_here"] qU:=by
 refine T.Np.ok ["_law_well_here"] ?_;rintro _ H Q E ⟨a,rfl,W,q⟩;refine#[rfl,λBk A outer s hr=>#[_,(jj (jB (jJ (ja (ju jP jg (jm (UP T) (ja (pv 0) (ja jg je)))) (ja (ju jP jg (jm (UP T) (ja (pv 0) (ja jg je)))) (ja (ju jP jg (jm (UP T) (ja (pv 0) (ja jg je)))) je)))))),?_]];refine#[_,rfl,a,7,rfl,W,by decide,by decide,λr1 H1 a1 b1 W1 k1=>#[1,r1,rfl,rfl,_,rfl,a,8,rfl,W1,by decide,by decide,λr2 H2 a2 b2 W2 k2=>#[1,r2,rfl,rfl,_,rfl,a,3,rfl,W2,by decide,by decide,λr3 H3 a3 b3 W3 k3=>#[1,r3,rfl,rfl,Ul,λp hp=>?_]]]];have WG:=(k1.trans k2).trans k3;refine q p (1+r1).toNat (1+r2).toNat (1+r3).toNat _ (by omega) (by omega) (by omega) (by omega) (by omega) (by omega) (WG.new hp) (W3.new hp) (WG.fresh W3 hp) ?_;rw[jb,show ((1+r1).toNat:Int)=1+r1 by omega,show ((1+r2).toNat:Int)=1+r2 by omega,show ((1+r3).toNat:Int)=1+r3 by omega]
variable {P:Be}{w:World}{K:AQ}{mg:AT}{base:Heap}{t:Adr}
theorem wL:bootBuiltins "set"=some (.type "set"):=by kernel_rfl
def m9 (w h l:Nat) (c:jf):Prop:=∃x y z:Nat,x<w/\y<h/\z<l/\c=((x:Int),(y:Int),(z:Int))
theorem Ja.lst {H:Hp}{a:Addr} (W:Ja H a):∃ys:List V,H a=some (.lst ys):=by obtain⟨m,c,j,e⟩:=W;exact#[_,e]
theorem vY {α:Type} [DecidableEq α]:∀{a b:List α},a.Nodup->(∀x∈a,x∈b)->a.length<=b.length
 | [],_,_,_=>yV _
 | x::a,b,nd,h=>by
  obtain⟨n1,n2⟩:=Qu.mp nd;have hx:=h x (yD ..);have:=vY (a:=a) (b:=b.erase x) n2 λy hy=>(List.mem_erase_of_ne (λz=>n1 (by rw[<-z];exact hy))).mpr (h y (yA _ hy));rw[List.length_erase_of_mem hx] at this;have hp:0<b.length:=List.length_pos_of_mem hx;rw[yU];omega
def l8 (K:AQ):Sp:=λvs H Q _=>E6 λ(a p:Addr) (ns:List Int) (wd hg l:Nat)=>A8 (vs=[.ref a,.ref p]) (jo K H a (ns.map V.int)) (ns.length<=63) (H p=some (.tup [.int wd,.int hg,.int l])) (wd<=12) (hg<=12) (l<=3) (∀D ps cl H',jc H H'->H D=none->H' D=some (.lst (ps.map V.ref))->jp H' ps cl->cl.Nodup->(∀c∈cl,m9 wd hg l c)->Q (.ref D) H')
theorem my (T:Txt K mg t):jR P w K mg base 4 "_law_copper" ["_law_script","_law_size"] (l8 K):=by
 refine T.mW.ok ["_law_script","_law_size","_law_found","_law_z","_law_well_here","_law_share","_law_x","_law_y","_law_layer"] ?_;rintro _ H Q E ⟨a,p,ns,wd,hg,l,rfl,ha,CJ,hp,Iq,h12,l3,q⟩;refine#[rfl,λBk A outer s hr=>#[_,(jh (jz 2 (j5 je)) (jh (jS jH (JV rfl T.Jv (ja (jt jy (pv 1) jg) je)) (js 3) (jh (jz 4 (jm (gq T) (ja (pv 0) (ja (ju jP jg (pv 3)) je)))) (jh (jz 5 (ju jP jg (jm (UP T) (ja (pv 4) (ja jg je))))) (jj (jS jH (jN (jm (gp T) (ja (pv 1) je))) (Vy (Jc (js 6) (Jc (js 7) (Jc (js 8) vy)))) (jj (jX (vK (jQ GT (pv 8) (pv 3)) (V8 (jQ Uj (jm (UP T) (ja (pv 4) (ja jg je))) (pv 5)))).pt (jj (jE (JO PySem.F.plainAttrs_list PySem.F.slot_list_append PySem.F.type_list_append JH (pv 2) (ja (jJ (ja (pv 6) (ja (pv 7) (ja (pv 3) je)))) je)))) jL))))))) (jj (jB (pv 2))))),?_]];refine uP (λ(fo:Addr)=>[oR a,oR p,oR fo,none,none,none,none,none,none]) (λfo H'=>A3 (jc H H') (H fo=none) (H' fo=some (.lst []))) (λB hB=>#[zV,λfo hf=>hB fo _ #[jk (jc.refl H) hf,hf,jb]]) ?_;rintro fo H1 ⟨s1,Fh,ef⟩;refine Ua (λσ H'=>E8 λ(v3 v4 v5 v6 v7 v8:Option V) (ps:AX) (cl:List jf)=>A6 (σ=[oR a,oR p,oR fo,v3,v4,v5,v6,v7,v8]) (jc H H') (H' fo=some (.lst (ps.map V.ref))) (jp H' ps cl) cl.Nodup (∀c∈cl,m9 wd hg l c)) (λB' hB=>?_) ?_
 ·refine Jz (.int l) (jD.of (s1 _ _ hp)) #[l,rfl,by omega,by omega,JR (lo:=0) (n:=l) (λi σ H'=>E8 λ(v3 v4 v5 v6 v7 v8:Option V) (ps:AX) (cl:List jf)=>A6 (σ=[oR a,oR p,oR fo,v3,v4,v5,v6,v7,v8]) (jc H H') (H' fo=some (.lst (ps.map V.ref))) (jp H' ps cl) cl.Nodup (∀c∈cl,m9 wd hg l c/\c.2.2<i)) #[_,_,_,_,_,_,[],[],rfl,s1,ef,#[rfl,(λi p c h=>nomatch h)],Wf,(λc h=>nomatch h)] ?_ ?_]
  ·rintro z σ H2 hz ⟨v3,v4,v5,v6,v7,v8,ps,cl,rfl,s2,BH,C2,Ir,DX⟩;have e0:(0:Int)+(z:Int)=(z:Int):=by omega
   rw[e0];refine uP (λ(wa:Addr)=>[oR a,oR p,oR fo,oI z,oR wa,v5,v6,v7,v8]) (λwa H'=>A3 (jc H2 H') (H2 wa=none) (Ja H' wa)) (λB hB=>#[_,rfl,_,rfl,4,(z:Int),rfl,rfl,a,ns,_,rfl,zI s2 ha,by omega,by omega,CJ,λwa m c hw=>hB wa _ #[jk (jc.refl H2) hw,hw,#[m,c,0,jb]]]) ?_;rintro wa H3 ⟨s3,CT,W3⟩;have fw:fo≠wa:=ji BH CT;refine uP (λ(sh:Int)=>[oR a,oR p,oR fo,oI z,oR wa,oI sh,v6,v7,v8]) (λsh H'=>Js wa H3 H'/\Ja H' wa) (λB hB=>#[_,rfl,wa,4,rfl,W3,by decide,by decide,λr H' _ _ W' k'=>#[1,r,rfl,rfl,hB (1+r) _ #[k',W']]]) ?_;rintro sh H4 ⟨k4,W4⟩;have Sd:∀b u,b≠wa->H2 b=some u->H4 b=some u:=λb u n e=>k4 b u n (s3 _ _ e);have DY:H wa=none:=none_of s2 CT;have DQ:jc H H4:=λb u e=>Sd b u (ji e DY) (s2 _ _ e);have Bz:=Sd _ _ fw BH;refine#[_,rfl,p,wd,hg,l,rfl,DQ _ _ hp,Iq,h12,l3,λD qs H5 s5 hD eD C5=>?_];have BJ:=s5 _ _ Bz;have W5:Ja H5 wa:=by obtain⟨m,c,j,e⟩:=W4;exact#[m,c,j,s5 _ _ e]
   have p₂:jp H5 ps cl:=#[C2.1,λi p c h1 h2=>s5 _ _ (Sd _ _ (ji (C2.2 i p c h1 h2) CT) (C2.2 i p c h1 h2))];have fD:fo≠D:=ji Bz hD;have wD:wa≠D:=W4.ne hD;have Cz:=jc.trans DQ s5;refine#[D,rfl,#[_,jo.of eD],jY (xs:=qs.map V.ref) (λi σ H'=>E5 λ(v6 v7 v8:Option V) (ps:AX) (nw:List jf)=>A7 (σ=[oR a,oR p,oR fo,oI z,oR wa,oI sh,v6,v7,v8]) (JW wa fo H5 H') (Ja H' wa) (H' fo=some (.lst (ps.map V.ref))) (jp H' ps (cl++nw)) (nw.Sublist ((uk wd hg l).take i)) (∀c∈nw,c.2.2=z)) #[_,_,_,ps,[],rfl,JW.refl _ _ _,W5,BJ,by rw[yB];exact p₂,List.nil_sublist _,(λc h=>nomatch h)] (λi σ H' _ h=>by obtain⟨_,_,_,_,_,_,k,_⟩:=h;exact jo.of (k _ _ (yP wD) (yP fD) eD)) ?_ ?_]
   ·rintro i v σ H6 hx ⟨Ru,Se,Hm,Iu,nw,rfl,off,W6,BF,C6,sb,Iv⟩;rw[yj] at hx;obtain⟨r,f1,rfl⟩:=yl.mp hx;have hi:i<(uk wd hg l).length:=by rw[<-C5.1];exact (yi.mp f1).1
    have f2:=yc hi;have er:=C5.2 i r _ f1 f2;obtain⟨yw,ew⟩:=W5.lst;have Ip:=off _ _ (jq er ew) (jq er BJ) er;have tk:(uk wd hg l).take (i+1)=(uk wd hg l).take i++[(uk wd hg l)[i]]:=by rw[y7,f2];rfl
    have lnw:nw.length<=432:=by
     have h1:=sb.length_le;rw[yO,U1] at h1;have h2:wd*(hg*l)<=12*(12*3):=yQ Iq (yQ h12 l3);omega
    have LX:cl.length<=432:=by
     have h1:=uy Ir (b:=uk wd hg l) λc hc=>U4.mpr (DX c hc).1;rw[U1] at h1;have h2:wd*(hg*l)<=12*(12*3):=yQ Iq (yQ h12 l3);omega
    rw[tk];generalize (uk wd hg l)[i]=cc at Ip;refine#[r,_,rfl,jD.of Ip,rfl,_,_,rfl,_,_,rfl,_,_,rfl,rfl,?_];refine#[_,rfl,_,rfl,rfl,_,rfl,JS (λLY=>?_) λLY=>JB #[_,_,_,Iu,nw,rfl,off,W6,BF,C6,sb.trans (List.sublist_append_left _ _),Iv]];have LY:cc.2.2=z:=V.int.inj LY;refine#[_,rfl,wa,5,rfl,W6,by decide,by decide,λrr H7 _ _ W7 k7=>#[_,rfl,rr,sh,rfl,rfl,_,rfl,JS (λBj=>?_) λBj=>?_]]
    ·have BM:=k7 _ _ fw BF;have C7:jp H7 Iu (cl++nw):=#[C6.1,λi p c h1 h2=>by
      obtain⟨y6,e6⟩:=W6.lst;exact k7 _ _ (jq (C6.2 i p c h1 h2) e6) (C6.2 i p c h1 h2)]
     refine#[_,rfl,.inl #[rfl,_,jo.of BM],_,rfl,_,rfl,_,rfl,Ul,λp8 Fn=>?_];have s8:=jk (o:=.tup [.int cc.1,.int cc.2.1,.int (z:Int)]) (jc.refl H7) Fn;have e8:upd H7 p8 (.tup [.int cc.1,.int cc.2.1,.int (z:Int)]) p8=some (.tup [.int cc.1,.int cc.2.1,.int cc.2.2]):=by rw[jb,LY]
     have W8:Ja (upd H7 p8 (.tup [.int cc.1,.int cc.2.1,.int (z:Int)])) wa:=W7.new Fn;generalize upd H7 p8 (.tup [.int cc.1,.int cc.2.1,.int (z:Int)])=H8 at s8 e8 W8;have Cf:=s8 _ _ BM;refine#[fo,_,.ref p8,rfl,rfl,Cf,?_,_,_,_,Iu++[p8],nw++[cc],rfl,λx u n1 n2 e=>jw n2 (s8 _ _ (k7 _ _ n1 (off x u n1 n2 e))),?_,by rw[jb,yn];rfl,?_,sb.append (List.Sublist.refl _),λc hc=>?_]
     ·rw[yb,C6.1,ye];exact yL (show _<=1000 by omega) (by decide)
     ·obtain⟨m,c,j,e⟩:=W8;exact#[m,c,j,jw (yP fw) e]
     ·rw[<-yt];exact ((C7.same s8).snoc e8).wr Cf
     ·rcases ym.mp hc with hc|hc
      ·exact Iv c hc
      ·rw[yx.mp hc];exact LY
    ·refine#[_,_,_,Iu,nw,rfl,λx u n1 n2 e=>k7 _ _ n1 (off x u n1 n2 e),W7,k7 _ _ fw BF,#[C6.1,λi p c h1 h2=>by
      obtain⟨y6,e6⟩:=W6.lst;exact k7 _ _ (jq (C6.2 i p c h1 h2) e6) (C6.2 i p c h1 h2)],sb.trans (List.sublist_append_left _ _),Iv]
   ·rintro σ H6 ⟨Ru,Se,Hm,Iu,nw,rfl,off,W6,BF,C6,sb,Iv⟩;rw[yb,C5.1,yG] at sb;refine#[_,_,_,_,_,_,Iu,cl++nw,rfl,λb u e=>off _ _ (ji e DY) (ji e Fh) (Cz _ _ e),BF,C6,?_,λc hc=>?_]
    ·refine QC.mpr #[Ir,sb.nodup (iR wd hg l),λx hx y hy e=>?_];have h1:=(DX x hx).2;have h2:=Iv y hy;rw[e] at h1;omega
    ·rcases ym.mp hc with hc|hc
     ·obtain⟨h1,h2⟩:=DX c hc;exact#[h1,by omega]
     ·exact#[U4.mp (sb.subset hc),by rw[Iv c hc];omega]
  ·rintro σ H2 ⟨v3,v4,v5,v6,v7,v8,ps,cl,rfl,s2,BH,C2,Ir,DX⟩;exact hB _ _ #[_,_,_,_,_,_,ps,cl,rfl,s2,BH,C2,Ir,λc hc=>(DX c hc).1]
 rintro σ H2 ⟨v3,v4,v5,v6,v7,v8,ps,cl,rfl,s2,BH,C2,Ir,DX⟩;exact#[_,rfl,q fo ps cl H2 s2 Fh BH C2 Ir DX]
def Ma (w h:Nat) (c:Int×Int):Prop:=∃x y:Nat,x<w/\y<h/\c=((x:Int),(y:Int))
theorem j9.snoc (C:j9 H ps pl) (h:H p=some (.tup [.int c.1,.int c.2])):j9 H (ps++[p]) (pl++[c]):=C.app (j9.one h)
theorem j9.key (C:j9 H ps pl):Ug H ps (pl.map k2):=#[by rw[yb];exact C.1,λi b k h1 h2=>by
 rw[yj] at h2;obtain⟨c,e2,rfl⟩:=yl.mp h2;exact C.2 i b c h1 e2]
theorem wW (c:Int×Int):zc (k2 c):=λk hk=>by
 rcases yM.mp hk with rfl|hk
 ·exact#[_,rfl]
 ·rw[yx.mp hk];exact#[_,rfl]
def l9:Sp:=λvs H Q _=>E5 λ(a p:Addr) (wd hg l:Nat)=>A8 (vs=[.ref a,.ref p]) (Ja H a) (H p=some (.tup [.int wd,.int hg,.int l])) (1<=wd) (1<=hg) (wd<=12) (hg<=12) (∀D qs hl H',Js a H H'->Ja H' a->H D=none->H' D=some (.lst (qs.map V.ref))->j9 H' qs hl->hl.Nodup->(∀c∈hl,Ma wd hg c)->hl.length<=7->((hl.map k2).Pairwise λa b=>lx b a=false)->Q (.ref D) H')
theorem M8 (T:Txt K mg t):jR P w K mg base 4 "_law_holes" ["_law_well_here","_law_size"] l9:=by
 refine T.Nj.ok ["_law_well_here","_law_size"] ?_;rintro _ H Q E ⟨a,p,wd,hg,l,rfl,W,hp,w1,h1,Iq,h12,q⟩;refine#[rfl,λBk A outer s hr=>#[_,(jj (jB (jT (Mm rfl) (by rfl) T.uG uD (ja (vG (dG rfl hr.units) (by rfl) T.xa wL (ja (JE (own:=["_law_k"]) (vc (cl:=[("_law_well_here",_),("_law_size",_)])) (JV rfl T.Jv (ja (jm (UP T) (ja (pv 0) (ja jg je))) je)) (λ_ _ _ _ _=>js 2) (λ_ _ _ _ _=>vI) (λ_ _ _ _ _=>(jJ (ja (jm (UP T) (ja (pv 0) (ja (jt jy (pv 1) jg) je))) (ja (jm (UP T) (ja (pv 0) (ja (jt jy (pv 1) jg) je))) je))))) je)) je)))),?_]];refine#[_,rfl,a,7,rfl,W,by decide,by decide,λr H1 r0 r7 W1 k1=>#[r,rfl,by omega,by omega,vW (lo:=0) (n:=r.toNat) (λD i ys H'=>A6 (H1 D=none) (Js a H1 H') (Ja H' a) (H' D=some (.lst ys)) (ys.length=i) (E2 λ(qs:AX) (pl:AS)=>A3 (ys=qs.map V.ref) (j9 H' qs pl) (∀c∈pl,Ma wd hg c))) (yp (show _<=7 by omega) (by decide)) (λD hD=>#[hD,(Js.refl _ _).new hD,W1.new hD,jb,rfl,[],[],rfl,j9.nil,(λc h=>nomatch h)]) (λD i ys H' h_=>by obtain⟨_,_,_,e,l,_⟩:=h_;exact#[e,l]) ?_ ?_]]
 ·rintro D i ys H2 Qy Qn hi ⟨d1,OR,W2,d3,d4,qs,pl,rfl,C2,DX⟩ hy;have pa:p≠a:=by obtain⟨y,e⟩:=W.lst;exact jq hp e
  have Dd:=k1 _ _ pa hp;have aD:D≠a:=λz=>W1.ne (z▸d1) rfl;have BV:=OR _ _ pa Dd;refine#[#[_,rfl,rfl],Ub #[_,rfl,Jz (.int wd) (jD.of BV) #[a,wd,rfl,W2,by omega,by omega,λx H3 x0 xw W3 Iw=>?_]]];have Cw:=Iw _ _ pa BV;refine#[_,rfl,Jz (.int hg) (jD.of Cw) #[a,hg,rfl,W3,by omega,by omega,λy H4 y0 yh W4 q₁=>#[V9,λp5 EH=>?_]]];have Sf:=Iw.trans q₁;have BG:=Sf _ _ aD d3;have s5:=jk (o:=.tup [.int x,.int y]) (jc.refl H4) EH;have d5:=s5 _ _ BG;have C4:j9 H4 qs pl:=#[C2.1,λi p c h1 h2=>by
   obtain⟨y2,e2⟩:=W2.lst;exact Sf _ _ (jq (C2.2 i p c h1 h2) e2) (C2.2 i p c h1 h2)]
  have W5:Ja (upd H4 p5 (.tup [.int x,.int y])) a:=W4.new EH;have e5:upd H4 p5 (.tup [.int x,.int y]) p5=some (.tup [.int x,.int y]):=jb;generalize upd H4 p5 (.tup [.int x,.int y])=H5 at s5 d5 W5 e5;refine hy _ _ d5 #[d1,λb u n e=>?_,?_,jb,by rw[ye,d4];rfl,qs++[p5],pl++[(x,y)],by rw[yn];rfl,?_,λc hc=>?_]
  ·rw[jl (ji e d1)];exact s5 _ _ (Sf _ _ n (OR b u n e))
  ·obtain⟨m,c,j,e⟩:=W5;exact#[m,c,j,jw (yP aD) e]
  ·exact ((C4.same s5).snoc (c:=(x,y)) e5).wr d5
  ·rcases ym.mp hc with hc|hc
   ·exact DX c hc
   ·rw[yx.mp hc];exact#[x.toNat,y.toNat,by omega,by omega,by rw[show (x.toNat:Int)=x by omega,show (y.toNat:Int)=y by omega]]
 ·rintro D ys H2 hD ⟨d1,OR,W2,d3,d4,qs,pl,rfl,C2,DX⟩;have lpl:pl.length<=7:=by
   rw[<-C2.1];rw[yb] at d4;omega
  refine#[D,qs,pl.map k2,rfl,d3,C2.key,by rw[yb];omega,λS us led hS nd mem at_=>?_];have s3:=jk (o:=.ext (VJ P w S us led)) (jc.refl H2) hS;have lus:us.length<=7:=by
   have:=vY nd (b:=pl.map k2) λk hk=>(mem k).mp hk;rw[yb,yb] at this;omega
  refine#[S,us,led,[true,true],rfl,jb,λx hx=>s3 _ _ (at_ x hx),λx hx=>?_,by decide,by omega,λl2 bs ks EV ka pm up=>?_]
  ·obtain⟨c,_,e⟩:=yf.mp ((mem x.1).mp (yf.mpr #[x,hx,rfl]));rw[<-e];exact#[wW c,rfl]
  have WH:ks=(ks.map KJ).map k2:=by
   rw[Qr];refine ((QB (g:=id) λk hk=>?_).trans (List.map_id ks)).symm;obtain⟨c,_,e⟩:=yf.mp ((mem k).mp (pm.mem_iff.mp hk));rw[<-e];rfl
  have Hn:ks.Nodup:=pm.symm.nodup nd;have Sg:∀k∈ks,k∈pl.map k2:=λk hk=>(mem k).mp (pm.mem_iff.mp hk);have OS:=pm.length_eq;rw[yb] at OS;generalize ks.map KJ=hl at WH;subst WH;have q₂:=k1.trans OR;have W3:Ja (upd H2 S (.ext (VJ P w S us led))) a:=W2.new hS;have WI:=q₂.new (o:=.ext (VJ P w S us led)) hS;refine q l2 bs hl _ (WI.new EV) (W3.new EV) (WI.fresh W3 EV) jb ((j9.of_key ka).same (jk (jc.refl _) EV)) ?_ (λc hc=>?_) (by rw[yb] at OS;omega) up
  ·exact List.Pairwise.of_map k2 (λa b h z=>h (by rw[z])) Hn
  ·obtain⟨c',Dq,e⟩:=yf.mp (Sg (k2 c) (yf.mpr #[c,hc,rfl]));rw[<-VX e];exact DX c' Dq
variable {P:Be}{w:World}{K:AQ}{mg:AT}{base:Heap}{t:Adr}
theorem NY (nd:cl.Nodup):(JY [] cl).map (·.1)=cl.map k3:=by
 have key:∀n,n<=cl.length->(JY [] (cl.take n)).map (·.1)=(cl.take n).map k3:=by
  intro n
  induction n with
  | zero=>intro _;rfl
  | succ n ih =>
   intro hn;have e:cl.take (n+1)=cl.take n++[cl[n]]:=by rw[y7,yc (by omega)];rfl
   rw[e,gs];refine zG (ih (by omega)) λz=>?_;have e5:cl=cl.take n++cl[n]::cl.drop (n+1):=by rw[List.getElem_cons_drop,y9]
   rw[e5] at nd;exact (QC.mp nd).2.2 _ z _ (yD ..) rfl
 have:=key cl.length (yg _);rwa [yG] at this
theorem KM (e:ds.map (·.1)=hl.map k2):(jM ds (k2 c)).isSome=true↔c∈hl:=by
 rw[vz,e];constructor
 ·intro h;obtain⟨d,hd,q⟩:=yf.mp h;rw[<-VX q];exact hd
 ·exact λh=>yf.mpr #[c,h,rfl]
theorem Ky (e:ds.map (·.1)=hl.map k2) {v:V} (n:c ∉ hl):(j4 ds (k2 c) v).map (·.1)=(hl++[c]).map k2:=by
 have hv:jM ds (k2 c)=none:=by
  cases h:jM ds (k2 c) with
  | none=>rfl
  | some u=>exact absurd ((KM e).mp (by rw[h];rfl)) n
 rw[zF _ hv,yn,yn,e];rfl
def ou (t:Adr):Sp:=λvs H Q _=>Z7 λ(p a b:Addr) (ps qs:AX) (cl:List jf) (hl:AS) (wd hg l:Nat)=>Av (vs=[.ref p,.ref a,.ref b]) (H p=some (.tup [.int wd,.int hg,.int l])) (1<=wd) (wd<=12) (1<=hg) (hg<=12) (1<=l) (l<=3) (H a=some (.lst (ps.map V.ref))) (jp H ps cl) cl.Nodup (∀c∈cl,m9 wd hg l c) (H b=some (.lst (qs.map V.ref))) (j9 H qs hl) hl.Nodup (∀c∈hl,Ma wd hg c) (hl.length<=100) (∀(o dx c d:Addr) (cs ds:jG) (H':Hp),jc H H'->H o=none->H c=none->H d=none->c≠d->Bd t.jr H' o dx c d wd hg l cs ds->cs.map (·.1)=cl.map k3->ds.map (·.1)=hl.map k2->Q (.ref o) H')
theorem M7 (T:Txt K mg t):jR P w K mg base 6 "_law_board" ["_law_size","_law_copper_here","_law_holes_here"] (ou t):=by
 refine T.Ni.ok ["_law_size","_law_copper_here","_law_holes_here","_law_board_here","_law_x","_law_y"] ?_;rintro _ H Q E ⟨p,a,b,ps,qs,cl,hl,wd,hg,l,rfl,hp,w1,Iq,h1,h12,l1,l3,ha,CA,Iy,Ho,hb,CB,Iz,Sh,lb,q⟩;refine#[rfl,λBk A outer s hr=>#[_,(jh (jz 3 (zB (mi T) (ja (jt jy (pv 0) jg) (ja (jt jy (pv 0) jg) (ja (jt jy (pv 0) jg) je))))) (jh (jE (Jf (pv 3) (Zw T) (ja (pv 1) je))) (jh (jS jH (jN (pv 2)) (Vy (Jc (js 4) (Jc (js 5) vy))) (jj (jE (Jf (pv 3) (V5 T) (ja (pv 4) (ja (pv 5) je)))))) (jj (jB (pv 3)))))),?_]];have S:=jD.of (K:=K) hp;refine G1 (λ(o dx c d:Addr)=>[oR p,oR a,oR b,oR o,none,none]) (λo dx c d H'=>A6 (jc H H') (H o=none) (H c=none) (H d=none) (c≠d) (Bd t.jr H' o dx c d wd hg l [] [])) (λB hB=>?_) ?_
 ·refine Jz (.int wd) S (Jz (.int hg) S (Jz (.int l) S λo dx ho Di Dc=>#[o,dx,wd,hg,l,rfl,jb,#[by omega,by omega],#[by omega,by omega],#[by omega,by omega],λcc d H4 r₁ eo ec ed nc nd ncd Ec Si=>#[rfl,?_]]));have OQ:jc H H4:=λb u e=>r₁ b u (ji e ho) (by rw[jl (ji e ho),jl (ji e Di)];exact e);have Sj:H cc=none:=by
   rw[jl Ec,jl (λz=>by rw[z,jb] at nc;cases nc)] at nc;exact nc
  have Sk:H d=none:=by
   rw[jl Si,jl (λz=>by rw[z,jb] at nd;cases nd)] at nd;exact nd
  exact hB o dx cc d _ #[OQ,ho,Sj,Sk,ncd,#[eo,ec,ed,ue.nil _ _ _,UH.nil _ _]]
 rintro o dx c d H1 ⟨s1,ho,hc,hd,ncd,B1⟩;have tc:ue (JY [] cl) wd hg l:=KG cl [] (ue.nil _ _ _) Ho;have LX:cl.length<=432:=by
  have h1:=uy Iy (b:=uk wd hg l) λc hc=>U4.mpr (Ho c hc);rw[U1] at h1;have h2:wd*(hg*l)<=12*(12*3):=yQ Iq (yQ h12 l3);omega
 refine vV [oR p,oR a,oR b,oR o,none,none] (λH'=>jc H H'/\Bd t.jr H' o dx c d wd hg l (JY [] cl) []) (λB hB=>ZS B1.o #[_,rfl,o,dx,c,d,a,ps,cl,wd,hg,l,[],rfl,B1.o,s1 _ _ ha,CA.same s1,B1.c,by rw[List.length_nil];omega,fI Ho,hB _ #[λx u e=>jw (ji e hc) (s1 _ _ e),B1.putC ncd tc]]) ?_;rintro H2 ⟨s2,B2⟩;have Fo:=s2 _ _ hb;have CB2:=CB.same s2;refine KB (λ(v4 v5:Option V) (ds:jG)=>[oR p,oR a,oR b,oR o,v4,v5]) (λ_ _ ds H'=>A3 (jc H H') (ds.map (·.1)=hl.map k2) (Bd t.jr H' o dx c d wd hg l (JY [] cl) ds)) (λB hB=>?_) ?_
 ·have bd:b≠d:=ji hb hd;refine#[_,rfl,b,rfl,#[_,jo.of Fo],jY (xs:=qs.map V.ref) (λi σ H'=>E3 λ(v4 v5:Option V) (ds:jG)=>A4 (σ=[oR p,oR a,oR b,oR o,v4,v5]) (jc H H') (ds.map (·.1)=(hl.take i).map k2) (Bd t.jr H' o dx c d wd hg l (JY [] cl) ds)) #[_,_,[],rfl,s2,rfl,B2] (λi σ H' _ h=>by obtain⟨_,_,_,_,s,_⟩:=h;exact jo.of (s _ _ hb)) ?_ ?_]
  ·rintro i v σ H3 hx ⟨v4,v5,ds,rfl,s3,kd,B3⟩;rw[yj] at hx;obtain⟨r,f1,rfl⟩:=yl.mp hx;have hi:i<hl.length:=by rw[<-CB.1];exact (yi.mp f1).1
   have f2:=yc hi;have er:=(CB.same s3).2 i r _ f1 f2;have tk:hl.take (i+1)=hl.take i++[hl[i]]:=by rw[y7,f2];rfl
   obtain⟨x,y,hx,hy,WJ⟩:=Sh _ (yY hi);have LK:hl[i] ∉ hl.take i:=λz=>by
    have e5:hl=hl.take i++hl[i]::hl.drop (i+1):=by rw[List.getElem_cons_drop,y9]
    rw[e5] at Iz;exact (QC.mp Iz).2.2 _ z _ (yD ..) rfl
   have ld:ds.length<=100:=by
    have:=congrArg List.length kd;rw[yb,yb,yO] at this;omega
   rw[tk];generalize hl[i]=hh at er WJ LK;subst WJ;refine#[r,_,rfl,jD.of er,rfl,_,_,rfl,_,_,rfl,rfl,?_];have OT:(jO (x:Int) (wd:Int)&&jO (y:Int) (hg:Int))=true:=by rw[u5 hx,u5 hy];rfl
   refine ZS B3.o #[_,rfl,_,rfl,o,dx,c,d,wd,hg,l,x,y,ds,rfl,B3.o,B3.d,by omega,OT,λp4 BN=>?_];have s4:=jk (o:=.tup [.int (x:Int),.int (y:Int)]) (jc.refl H3) BN;refine#[_,_,_,rfl,λb u e=>jw (ji e hd) (s4 _ _ (s3 _ _ e)),Ky kd LK,(B3.same s4).putD ncd (B3.D.put hx hy)]
  ·rintro σ H3 ⟨v4,v5,ds,rfl,s3,kd,B3⟩;rw[yb,CB.1,yG] at kd;exact hB v4 v5 ds _ #[s3,kd,B3]
 rintro v4 v5 ds H3 ⟨s3,kd,B3⟩;exact#[_,rfl,q o dx c d _ ds H3 s3 ho hc hd ncd B3 (NY Iy) kd]
def Gv (c:jf):List jf:=[(c.1+1,c.2.1,c.2.2),(c.1 - 1,c.2.1,c.2.2),(c.1,c.2.1+1,c.2.2),(c.1,c.2.1 - 1,c.2.2)]
theorem Kt {c:jf}:e∈Gv c↔e∈UI c:=by
 unfold Gv UI;simp only[yM,QG,or_false];constructor
 ·rintro (h|h|h|h)<;>simp [h]
 ·rintro (h|h|h|h)<;>simp [h]
def l2 (p:Int×Int):List Int:=[p.1,p.2]
theorem eU {p:Int×Int}:l2 p∈hl.map l2↔p∈hl:=by
 constructor
 ·intro h;obtain⟨d,h1,e⟩:=yf.mp h;obtain⟨x,y⟩:=p;obtain⟨u,v⟩:=d;unfold l2 at e;simp at e;rw[<-e.1,<-e.2];exact h1
 ·exact λh=>yf.mpr #[p,h,rfl]
theorem j9.lt {a:Addr} (C:j9 H ps pl) (e:H a=some (.lst (ps.map V.ref))):LT K H a (pl.map l2):=#[ps,jo.of e,#[by rw[C.1,yb],λi p ns h1 h2=>by
 rw[yj] at h2;obtain⟨c,e2,rfl⟩:=yl.mp h2;exact jD.of (C.2 i p c h1 e2)]]
def qR:Sp:=λvs H Q _=>E7 λ(p cd b:Addr) (c:jf) (kvs:jG) (qs:AX) (hl:AS)=>A6 (vs=[.ref p,.ref cd,.ref b]) (H p=some (.tup [.int c.1,.int c.2.1,.int c.2.2])) (H cd=some (.dT kvs)) (H b=some (.lst (qs.map V.ref))) (j9 H qs hl) (∀D ps nb H',jc H H'->H D=none->H' D=some (.lst (ps.map V.ref))->jp H' ps nb->(∀e,e∈nb↔(e∈UI c\/((c.1,c.2.1)∈hl/\e∈JD c 3))/\(jM kvs (k3 e)).isSome=true)->nb.length<=10->Q (.ref D) H')
theorem NU (T:Txt K mg t):jR P w K mg base 1 "_law_near" ["_law_cell_here","_law_copper_here","_law_holes_here"] qR:=by
 refine T.bE.ok ["_law_cell_here","_law_copper_here","_law_holes_here","_law_x","_law_y","_law_z","_law_some"] ?_;rintro _ H Q E ⟨p,cd,b,c,kvs,qs,hl,rfl,hp,BD,hb,CB,q⟩;refine#[rfl,λBk A outer s hr=>#[_,(jh (GX (pv 0) (Vy (Jc (js 3) (Jc (js 4) (Jc (js 5) vy))))) (jh (jz 6 (j5 (ja (jJ (ja (ju jP (pv 3) jg) (ja (pv 4) (ja (pv 5) je)))) (ja (jJ (ja (ju uA (pv 3) jg) (ja (pv 4) (ja (pv 5) je)))) (ja (jJ (ja (pv 3) (ja (ju jP (pv 4) jg) (ja (pv 5) je)))) (ja (jJ (ja (pv 3) (ja (ju uA (pv 4) jg) (ja (pv 5) je)))) je)))))) (jh (jX (jQ (nu hr.units) (jJ (ja (pv 3) (ja (pv 4) je))) (pv 2)) (jj (jz 6 (ju Vu (pv 6) (JE (own:=["_law_other"]) (vc (cl:=[("_law_z",_),("_law_y",_),("_law_x",_)])) (JV rfl T.Jv (ja jg je)) (λ_ _ _ _ _=>js 7) (λ_ _ _ _ _=>Uv (jQ mM (pv 7) (pv 5))) (λ_ _ _ _ _=>(jJ (ja (pv 3) (ja (pv 4) (ja (pv 7) je))))))))) jL) (jj (jB (JE (own:=["_law_one"]) (vc (cl:=[("_law_copper_here",_)])) (jN (pv 6)) (λ_ _ _ _ _=>js 7) (λ_ _ _ _ _=>Uv (uh (Vv (pv 7) (pv 1)))) (λ_ _ _ _ _=>(pv 7)))))))),?_]];refine vV [oR p,oR cd,oR b,oI c.1,oI c.2.1,oI c.2.2,none] (λH'=>H=H') (λB hB=>#[_,rfl,p,_,rfl,jD.of hp,rfl,_,_,rfl,_,_,rfl,_,_,rfl,rfl,hB _ rfl]) ?_;intro H0 e;subst e;refine KA (λ(so:Addr) (ps:AX)=>[oR p,oR cd,oR b,oI c.1,oI c.2.1,oI c.2.2,oR so]) (λso ps H'=>A4 (jc H H') (H so=none) (H' so=some (.lst (ps.map V.ref))) (jp H' ps (Gv c))) (λB hB=>?_) ?_
 ·refine#[_,rfl,c.1,1,rfl,rfl,_,rfl,_,rfl,Ul,λp1 h1=>?_];have s1:=jk (o:=.tup [.int (c.1+1),.int c.2.1,.int c.2.2]) (jc.refl H) h1;have e1:upd H p1 (.tup [.int (c.1+1),.int c.2.1,.int c.2.2]) p1=some (.tup [.int (c.1+1),.int c.2.1,.int c.2.2]):=jb;generalize upd H p1 (.tup [.int (c.1+1),.int c.2.1,.int c.2.2])=H1 at s1 e1 ⊢;refine#[_,rfl,c.1,1,rfl,rfl,_,rfl,_,rfl,Ul,λp2 h2=>?_];have s2:=jk (o:=.tup [.int (c.1 - 1),.int c.2.1,.int c.2.2]) (jc.refl H1) h2;have e2:upd H1 p2 (.tup [.int (c.1 - 1),.int c.2.1,.int c.2.2]) p2=some (.tup [.int (c.1 - 1),.int c.2.1,.int c.2.2]):=jb;generalize upd H1 p2 (.tup [.int (c.1 - 1),.int c.2.1,.int c.2.2])=H2 at s2 e2 ⊢;refine#[_,rfl,_,rfl,c.2.1,1,rfl,rfl,_,rfl,Ul,λp3 h3=>?_];have s3:=jk (o:=.tup [.int c.1,.int (c.2.1+1),.int c.2.2]) (jc.refl H2) h3;have e3:upd H2 p3 (.tup [.int c.1,.int (c.2.1+1),.int c.2.2]) p3=some (.tup [.int c.1,.int (c.2.1+1),.int c.2.2]):=jb;generalize upd H2 p3 (.tup [.int c.1,.int (c.2.1+1),.int c.2.2])=H3 at s3 e3 ⊢;refine#[_,rfl,_,rfl,c.2.1,1,rfl,rfl,_,rfl,Ul,λp4 h4=>?_];have s4:=jk (o:=.tup [.int c.1,.int (c.2.1 - 1),.int c.2.2]) (jc.refl H3) h4;have e4:upd H3 p4 (.tup [.int c.1,.int (c.2.1 - 1),.int c.2.2]) p4=some (.tup [.int c.1,.int (c.2.1 - 1),.int c.2.2]):=jb;generalize upd H3 p4 (.tup [.int c.1,.int (c.2.1 - 1),.int c.2.2])=H4 at s4 e4 ⊢;refine#[pj,λD hD=>?_];have s5:=jk (o:=.lst [.ref p1,.ref p2,.ref p3,.ref p4]) (jc.refl H4) hD;have DQ:=jc.trans s1 (jc.trans s2 (jc.trans s3 s4));refine hB D [p1,p2,p3,p4] _ #[jc.trans DQ s5,none_of DQ hD,jb,rfl,λi r c g1 g2=>?_]
  match i with
  | 0=>cases g1;cases g2;exact s5 _ _ (s4 _ _ (s3 _ _ (s2 _ _ e1)))
  | 1=>cases g1;cases g2;exact s5 _ _ (s4 _ _ (s3 _ _ e2))
  | 2=>cases g1;cases g2;exact s5 _ _ (s4 _ _ e3)
  | 3=>cases g1;cases g2;exact s5 _ _ e4
  | i+4=>cases g1
 rintro so ps H1 ⟨s1,r₂,es,C1⟩;refine KB (λ(so:Addr) (ps:AX) (cl:List jf)=>[oR p,oR cd,oR b,oI c.1,oI c.2.1,oI c.2.2,oR so]) (λso ps cl H'=>A6 (jc H H') (H so=none) (H' so=some (.lst (ps.map V.ref))) (jp H' ps cl) (cl.length<=10) (∀e,e∈cl↔(e∈UI c\/((c.1,c.2.1)∈hl/\e∈JD c 3)))) (λB hB=>?_) ?_
 ·refine#[_,rfl,_,rfl,V9,λp5 EH=>?_];have s5:=jk (o:=.tup [.int c.1,.int c.2.1]) (jc.refl H1) EH;have e5:upd H1 p5 (.tup [.int c.1,.int c.2.1]) p5=some (.tup [.int c.1,.int c.2.1]):=jb;generalize upd H1 p5 (.tup [.int c.1,.int c.2.1])=H5 at s5 e5;have Cz:=jc.trans s1 s5;refine#[_,rfl,p5,b,l2 (c.1,c.2.1),hl.map l2,rfl,rfl,jD.of e5,(CB.same Cz).lt (Cz _ _ hb),_,rfl,JS (λBn=>?_) λBn=>?_]
  ·have Bn:=eU.mp Bn;have EE:=s5 _ _ es;have C5:=C1.same s5;refine#[_,rfl,(3:Int),rfl,by decide,by decide,gb (lo:=0) (n:=3) (λD i ys H'=>A5 (H5 D=none) (jc H5 H') (H' D=some (.lst ys)) (ys.length<=i) (∃ps:List Addr,ys=ps.map V.ref/\jp H' ps (JD c i))) (by decide) (λD hD=>#[hD,jk (jc.refl H5) hD,jb,yg _,[],rfl,#[rfl,λi p c h=>by cases h]]) (λD i ys H' hv=>#[hv.3,hv.4]) ?_ ?_]
   ·rintro D i ys H' Qy Qn hi ⟨d1,d2,d3,d4,ps,rfl,C⟩ hy hn;have e0:(0:Int)+(i:Int)=(i:Int):=by omega
    rw[e0];refine#[#[_,rfl,rfl],_,rfl,_,rfl,rfl,_,rfl,JJ (λhf=>?_) λht=>hn _ #[d1,d2,d3,by omega,ps,rfl,?_]]
    ·have BA:(i:Int)≠c.2.2:=λe=>of_decide_eq_false hf (congrArg V.int e);refine#[_,rfl,_,rfl,_,rfl,Ul,λp1 Dd=>?_];refine hy _ _ (jw (ji d3 Dd) d3) #[d1,λb u e=>?_,jb,by rw[ye];exact Q3 d4,ps++[p1],by rw[yn];rfl,?_]
     ·have:=d2 b u e;rw[jl (ji e d1),jl (ji this Dd)];exact this
     ·rw[v1,if_pos BA];exact C.add Dd d3
    ·have he:(i:Int)=c.2.2:=by have:=of_decide_eq_true ht;injection this
     rw[v1,if_neg (by simp [he]),yB];exact C
   ·rintro D ys H' hD ⟨d1,d2,d3,d4,Hq,rfl,C⟩;have lo:(JD c 3).length<=3:=by
     rw[<-C.1];rw[yb] at d4;exact d4
    refine#[so,D,_,_,rfl,rfl,d2 _ _ EE,d3,?_,λp6 OP=>?_]
    ·rw[yb,yb,C1.1,C.1];exact yp (show _<=10 by show 4+_<=10;omega) (by decide)
    ·have s6:=jk (o:=.lst (ps.map V.ref++Hq.map V.ref)) (jc.refl H') OP;refine hB p6 (ps++Hq) (Gv c++JD c 3) _ #[jc.trans Cz (jc.trans d2 s6),none_of (jc.trans Cz d2) OP,by rw[jb,yn],((C5.same d2).app C).same s6,by rw[ye];show 4+_<=10;omega,λe=>?_];rw[ym,Kt];exact#[λh=>h.imp id λh=>#[Bn,h],λh=>h.imp id λh=>h.2]
  ·have Bn:(c.1,c.2.1) ∉ hl:=λz=>Bn (eU.mpr z);refine hB so ps (Gv c) _ #[Cz,r₂,s5 _ _ es,C1.same s5,by show 4<=10;decide,λe=>?_];rw[Kt];exact#[λh=>.inl h,λh=>h.elim id λh=>absurd h.1 Bn]
 rintro so ps cl H2 ⟨s2,hso2,Ow,C2,LX,mem⟩;refine#[_,rfl,so,rfl,#[_,jo.of Ow],Kf (λe=>(jM kvs (k3 e)).isSome) (yp LX (by decide)) Ow C2 (λr cc H3 Qy Qn s3 er hy hn=>?_) λD rs H3 s3 hD eD C3=>?_]
 ·refine#[#[_,rfl,rfl],_,rfl,_,rfl,cd,_,rfl,JN.t (k:=k3 cc) (s3 _ _ (s2 _ _ BD)) er,_,rfl,UK (λht=>#[_,rfl,hy ht H3 (jc.refl _)]) λhf=>hn hf H3 (jc.refl _)]
 ·refine q D rs _ H3 (jc.trans s2 s3) (none_of s2 hD) eD C3 (λe=>?_) (yp (yX _ _) LX);rw[yZ,mem]
variable {P:Be}{w:World}{K:AQ}{mg:AT}{base:Heap}{t:Adr}
structure N6 (N:jf->List jf) (s:jf) (hk k wt:List jf):Prop where
 nd:(hk++k).Nodup
 st:s∈k
 rc:∀x∈k,Jn N s x
 cl:∀x∈k,x ∉ wt->∀b∈N x,b∈hk++k
 sub:∀x∈wt,x∈k
theorem N6.add {s c:jf}{hk k:List jf} (D:N6 N s hk k wt) (hc:c∈k) (he:e∈N c) (n:e ∉ hk++k):N6 N s hk (k++[e]) (wt++[e]):=by
 refine#[?_,yv _ D.st,λx hx=>?_,λx hx hw b hb=>?_,λx hx=>?_]
 ·rw[<-yt];exact QC.mpr #[D.nd,QE _ _,λx hx y hy z=>n (by rw[<-yx.mp hy,<-z];exact hx)]
 ·rcases ym.mp hx with hx|hx
  ·exact D.rc x hx
  ·rw[yx.mp hx];exact (D.rc c hc).step he
 ·rw[<-yt];rcases ym.mp hx with hx|hx
  ·exact yv _ (D.cl x hx (λz=>hw (yv _ z)) b hb)
  ·exact absurd (yy _ hx) hw
 ·rcases ym.mp hx with hx|hx
  ·exact yv _ (D.sub x hx)
  ·exact yy _ hx
theorem jp.init {ws:AX}{a:Addr}{c:jf} (C:jp H (ws++[a]) (wt++[c])):jp H ws wt/\H a=some (.tup [.int c.1,.int c.2.1,.int c.2.2]):=by
 have l:=C.1;rw[ye,ye,QD,QD] at l;have l:ws.length=wt.length:=by omega
 refine#[#[l,λi p x h1 h2=>C.2 i p x ?_ ?_],C.2 ws.length a c (by simp) (by rw[l];simp)]
 ·rw[yK (yi.mp h1).1];exact h1
 ·rw[yK (yi.mp h2).1];exact h2
theorem cy (l:List jf):∀k∈l.map k3,sd k=[true,true,true]:=λk hk=>by
 obtain⟨c,_,rfl⟩:=yf.mp hk
 rfl
def oa:Sp:=λvs H Q _=>E7 λ(cd b:Addr) (kvs:jG) (qs:AX) (hl:AS) (cells:List jf) (N:jf->List jf)=>rh (vs=[.ref cd,.ref b]) (H cd=some (.dT kvs)) (H b=some (.lst (qs.map V.ref))) (j9 H qs hl) ((kvs.map (·.1)).Perm (cells.map k3)) cells.Nodup ((cells.map k3).Pairwise λa b=>lx b a=false) (cells.length<=1000) (Nb N cells) (∀c∈cells,∀e,e∈N c↔(e∈UI c\/((c.1,c.2.1)∈hl/\e∈JD c 3))/\(jM kvs (k3 e)).isSome=true) (∀(r:Addr) (hk:List jf) (hv:jG) (H':Hp),jc H H'->H r=none->hk.Perm cells->U0 H' r N cells hk hv->Q (.ref r) H')
theorem M9 (T:Txt K mg t):jR P w K mg base 2 "_law_homes" ["_law_copper_here","_law_holes_here"] oa:=by
 refine T.Nl.ok ["_law_copper_here","_law_holes_here","_law_home","_law_cell_here","_law_waiting","_law_other"] ?_;rintro _ H Q E ⟨cd,b,kvs,qs,hl,cells,N,rfl,BD,hb,CB,LP,nd,up,lc,NB,near,q⟩;refine#[rfl,λBk A outer s hr=>#[_,(jh (jz 2 UY) (jh (jS jH (jN (jT (Us rfl) (by rfl) T.uG uD (ja (pv 0) je))) (js 3) (jj (jX (uh (Uu (pv 3) (pv 2))) (jh (UA (pv 2) (pv 3) (pv 3)) (jh (jz 4 (j5 (ja (pv 3) je))) (jj (nK jH (jQ (Kw hr.units0) (pv 4) (j5 je)) (jj (jS jH (jN (jm (NU T) (ja (fQ PySem.F.plainAttrs_list PySem.F.slot_list_pop PySem.F.type_list_pop tp (pv 4)) (ja (pv 0) (ja (pv 1) je))))) (js 5) (jj (jX (uh (Uu (pv 5) (pv 2))) (jh (UA (pv 2) (pv 5) (pv 3)) (jj (jE (JO PySem.F.plainAttrs_list PySem.F.slot_list_append PySem.F.type_list_append JH (pv 4) (ja (pv 5) je))))) jL)))))))) jL))) (jj (jB (pv 2))))),?_]];refine uP (λ(r:Addr)=>[oR cd,oR b,oR r,none,none,none]) (λr H'=>A3 (jc H H') (H r=none) (H' r=some (.dT []))) (λB hB=>λr hr=>hB r _ #[jk (jc.refl H) hr,hr,jb]) ?_;rintro r H1 ⟨s1,BS,er⟩;refine tT (λ(v3 v4 v5:Option V) (hk:List jf) (hv:jG)=>[oR cd,oR b,oR r,v3,v4,v5]) (λ_ _ _ hk hv H'=>A3 (jc H H') (hk.Perm cells) (U0 H' r N cells hk hv)) (λB' hB=>?_) ?_
 ·refine#[_,rfl,cd,kvs,[true,true,true],rfl,s1 _ _ BD,λkv Bv=>cy cells _ (LP.mem_iff.mp (yf.mpr #[kv,Bv,rfl])),by decide,λkq bs ks BU ka pm Dx=>?_];obtain rfl:ks=cells.map k3:=uR (pm.trans LP) Dx up;have s2:=jk (o:=.lst (bs.map V.ref)) (jc.refl H1) BU;have e2:upd H1 kq (.lst (bs.map V.ref)) kq=some (.lst (bs.map V.ref)):=jb;have C2:=(jp.of_key ka).same s2;have Sl:=s2 _ _ er;have rk:r≠kq:=ji er BU;generalize upd H1 kq (.lst (bs.map V.ref))=H2 at s2 e2 C2 Sl;have Et:=jc.trans s1 s2;refine#[kq,rfl,#[_,jo.of e2],jY (xs:=bs.map V.ref) (λi σ H'=>E5 λ(v3 v4 v5:Option V) (hk:List jf) (hv:jG)=>A7 (σ=[oR cd,oR b,oR r,v3,v4,v5]) (j6 r H2 H') (U0 H' r N cells hk hv) hk.Nodup (∀x∈hk,x∈cells) (∀x∈hk,∀y∈N x,y∈hk) (∀x∈cells.take i,x∈hk)) #[_,_,_,[],[],rfl,j6.refl _ _,#[Sl,rfl,(λe he=>nomatch he)],Wf,(λx h=>nomatch h),(λx h=>nomatch h),(λx h=>by rw[List.take_zero] at h;cases h)] (λi σ H' _ h=>by obtain⟨_,_,_,_,_,_,k,_⟩:=h;exact jo.of (k _ _ (yP rk) e2)) ?_ ?_]
  ·rintro i v σ H3 hx ⟨v3,v4,v5,hk,hv,rfl,off,X,Hn,B9,OU,vm⟩;rw[yj] at hx;obtain⟨pc,f1,rfl⟩:=yl.mp hx;have hi:i<cells.length:=by rw[<-C2.1];exact (yi.mp f1).1
   have f2:=yc hi;have tup:∀{H':Hp} {p:Addr} {xs:List V},j6 r H2 H'->H2 p=some (.tup xs)->H' p=some (.tup xs):=λk e=>k _ _ (jq e Sl) e;have Hr:=C2.2 i pc _ f1 f2;have Dv:=tup off Hr;have Bn:=yY hi;have tk:cells.take (i+1)=cells.take i++[cells[i]]:=by rw[y7,f2];rfl
   have e5:cells=cells.take i++cells[i]::cells.drop (i+1):=by rw[List.getElem_cons_drop,y9]
   rw[tk];generalize cells[i]=cc at Dv Hr Bn e5;refine#[_,rfl,_,rfl,r,_,rfl,JN.t (k:=k3 cc) X.e Dv,_,rfl,JJ (λhf=>?_) λht=>#[_,_,_,hk,hv,rfl,off,X,Hn,B9,OU,λx hx=>?_]]
   ·have Cm:cc ∉ hk:=λz=>by rw[(uW X.keys).mpr z] at hf;cases hf
    have t₁:∀{x y:jf},x∈hk->Jn N x y->y∈hk:=λ{x y} hx h=>by
     induction h with
     | refl=>exact hx
     | step _ m ih=>exact OU _ ih _ m
    have apart:∀x∈cells.take i,¬Jn N cc x:=λx hx h=>Cm (t₁ (vm x hx) (h.symm NB Bn));obtain⟨tl,WK⟩:=i6 (N:=N) e5 apart;have HQ:uu N cells cc=cc:=by unfold uu;rw[WK];rfl
    have OO:∀x,Jn N cc x->uu N cells x=cc:=λx h=>by
     unfold uu;rw[MP NB Bn h,WK];rfl
    have lb:=vM X.keys;have OV:∀{l:List jf},l.Nodup->(∀x∈l,x∈cells)->l.length<=1000:=λ{l} h1 h2=>yp (uy h1 h2) lc;have Sn:H3 pc=some (.tup [.int (uu N cells cc).1,.int (uu N cells cc).2.1,.int (uu N cells cc).2.2]):=by rw[HQ];exact Dv
    have X4:=X.put Cm Sn;refine vV [oR cd,oR b,oR r,oR pc,v4,v5] (λH'=>j6 r H2 H'/\U0 H' r N cells (hk++[cc]) (j4 hv (k3 cc) (.ref pc))) (λB hB=>#[_,rfl,_,rfl,_,rfl,r,_,rfl,vn.t (k:=k3 cc) X.e Dv (yL (show _<=1000 by have:=OV Hn B9;omega) (by decide)),hB _ #[λx u n e=>jw n (off x u n e),X4]]) ?_;rintro H4 ⟨Bu,X4⟩;refine uP (λ(wa:Addr)=>[oR cd,oR b,oR r,oR pc,oR wa,v5]) (λwa H'=>A3 (jc H4 H') (H4 wa=none) (H' wa=some (.lst ([pc].map V.ref)))) (λB hB=>#[_,rfl,nU,λwa CT=>hB wa _ #[jk (jc.refl H4) CT,CT,jb]]) ?_;rintro wa H5 ⟨s5,CT,ew⟩;have So:r≠wa:=ji X4.e CT;have EI:=s5 _ _ (tup Bu Hr);have Cz:jc H H5:=λx u e=>s5 _ _ (Bu x u (ji e BS) (Et _ _ e));have DY:H wa=none:=none_of (λx u e=>Bu x u (ji e BS) (Et _ _ e)) CT;refine#[λm σ H'=>∃(v5:Option V) (k wt:List jf) (ws:AX) (hv:jG),σ=[oR cd,oR b,oR r,oR pc,oR wa,v5]/\JW r wa H5 H'/\U0 H' r N cells (hk++k) hv/\H' wa=some (.lst (ws.map V.ref))/\jp H' ws wt/\N6 N cc hk k wt/\wt.length<=(hk++k).length/\m=2*(cells.length - (hk++k).length)+wt.length,#[_,_,[cc],[cc],[pc],_,rfl,JW.refl _ _ _,X4.same s5,ew,#[rfl,λi q c h1 h2=>?_],#[?_,yx.mpr rfl,λx hx=>by rw[yx.mp hx];exact .refl,λx hx hw=>absurd hx hw,λx hx=>hx],by rw[ye];exact Nat.le_add_left _ _,rfl],?_]
    ·match i with
     | 0=>cases h1;cases h2;exact EI
     | i+1=>cases h1
    ·exact QC.mpr #[Hn,QE _ _,λx hx y hy z=>Cm (by rw[<-yx.mp hy,<-z];exact hx)]
    rintro m σ H6 ⟨Fi,k,wt,ws,Sq,rfl,Bp,X6,OW,C6,D6,t₂,em⟩;refine#[_,rfl,zV,λp7 He=>?_];have s7:=jk (o:=.lst []) (jc.refl H6) He;have e7:upd H6 p7 (.lst []) p7=some (.lst []):=jb;generalize upd H6 p7 (.lst [])=H7 at s7 e7;have Sr:=s7 _ _ OW;refine#[wa,p7,_,rfl,rfl,jo.of Sr,jo.of e7,_,rfl,JJ (λBA=>?_) λw₁=>?_]
    ·refine#[λσ' H'=>∃m',m'<m/\∃(v5:Option V) (k wt:List jf) (ws:AX) (hv:jG),σ'=[oR cd,oR b,oR r,oR pc,oR wa,v5]/\JW r wa H5 H'/\U0 H' r N cells (hk++k) hv/\H' wa=some (.lst (ws.map V.ref))/\jp H' ws wt/\N6 N cc hk k wt/\wt.length<=(hk++k).length/\m'=2*(cells.length - (hk++k).length)+wt.length,λ_ _ h=>h,?_];rcases List.eq_nil_or_concat ws with z|⟨Dl,wl,z⟩
     ·rw[z] at BA;cases BA
     rw[List.concat_eq_append] at z;subst z;rcases List.eq_nil_or_concat wt with z|⟨LZ,wc,z⟩
     ·have:=C6.1;rw[z] at this;simp at this
     rw[List.concat_eq_append] at z;subst z;rw[ye (as:=LZ),QD] at t₂;obtain⟨WL,w₂⟩:=jp.init C6;have Ss:wc∈k:=D6.sub wc (yy _ (yx.mpr rfl));have x₁:wc∈cells:=(D6.rc wc Ss).on NB Bn;have Hs:∀{p:Addr} {xs:List V},H6 p=some (.tup xs)->upd H7 wa (.lst (Dl.map V.ref)) p=some (.tup xs):=λe=>by rw[jl (jq e OW)];exact s7 _ _ e
     have Su:cd≠r:=ji BD BS;have a6:∀{x:Addr} {u:HO},x≠r->H x=some u->upd H7 wa (.lst (Dl.map V.ref)) x=some u:=λ{x u} n e=>by rw[jl (ji e DY)];exact s7 _ _ (Bp _ _ n (ji e DY) (Cz _ _ e))
     have X8:U0 (upd H7 wa (.lst (Dl.map V.ref))) r N cells (hk++k) Sq:=#[jw So (s7 _ _ X6.e),X6.keys,λe he=>by obtain⟨q,h1,h2⟩:=X6.val e he;exact#[q,h1,Hs h2]];have e8:upd H7 wa (.lst (Dl.map V.ref)) wa=some (.lst (Dl.map V.ref)):=jb;have C8:jp (upd H7 wa (.lst (Dl.map V.ref))) Dl LZ:=#[WL.1,λi p c h1 h2=>Hs (WL.2 i p c h1 h2)];have L0:=Hs w₂;have L1:=a6 Su BD;have WM:=a6 (ji hb BS) hb;have WN:j9 (upd H7 wa (.lst (Dl.map V.ref))) qs hl:=#[CB.1,λi p c h1 h2=>a6 (ji (CB.2 i p c h1 h2) BS) (CB.2 i p c h1 h2)];have L3:JW r wa H5 (upd H7 wa (.lst (Dl.map V.ref))):=λx u n1 n2 e=>by rw[jl n2];exact s7 _ _ (Bp x u n1 n2 e)
     refine#[_,rfl,.inl #[rfl,_,jo.of Sr],wa,_,.ref wl,rfl,rfl,Sr,by rw[yn];simp,?_];rw[show ((Dl++[wl]).map V.ref).dropLast=Dl.map V.ref by rw[yn];simp];generalize upd H7 wa (.lst (Dl.map V.ref))=H8 at X8 e8 C8 L0 L1 WM WN L3;refine#[_,rfl,_,rfl,wl,cd,b,wc,kvs,qs,hl,rfl,L0,L1,WM,WN,λD ps nb H9 s9 hD eD C9 Sv len9=>?_];have Fq:∀e,e∈nb↔e∈N wc:=λe=>by rw[Sv e,near wc x₁ e]
     have rD:r≠D:=ji X8.e hD;have wD:wa≠D:=ji e8 hD;have X9:=X8.same s9;have e9:=s9 _ _ e8;have L4:JW r wa H5 H9:=λx u n1 n2 e=>s9 _ _ (L3 x u n1 n2 e);have Sw:=L4 _ _ (jq EI (s5 _ _ X4.e)) (jq EI ew) EI;refine#[D,rfl,#[_,jo.of eD],jY (xs:=ps.map V.ref) (λj σ H'=>E5 λ(v5:Option V) (k' Ef:List jf) (EJ:AX) (Eg:jG)=>A9 (σ=[oR cd,oR b,oR r,oR pc,oR wa,v5]) (JW r wa H9 H') (U0 H' r N cells (hk++k') Eg) (H' wa=some (.lst (EJ.map V.ref))) (jp H' EJ Ef) (N6 N cc hk k' (wc::Ef)) (wc∈k') (∀e∈nb.take j,e∈hk++k') (Ef.length+(hk++k).length=LZ.length+(hk++k').length/\(hk++k).length<=(hk++k').length)) #[_,k,LZ,Dl,Sq,rfl,JW.refl _ _ _,X9,e9,C8.same s9,?_,Ss,(λe h=>by rw[List.take_zero] at h;cases h),rfl,yg _] (λj σ H' _ h=>by obtain⟨_,_,_,_,_,_,o,_⟩:=h;exact jo.of (o _ _ (yP rD) (yP wD) eD)) ?_ ?_]
     ·exact#[D6.nd,D6.st,D6.rc,λx hx hw=>D6.cl x hx (λz=>hw (by rcases ym.mp z with z|z;exact yA _ z;rw[yx.mp z];exact yD ..)),λx hx=>by
       rcases yM.mp hx with rfl|hx
       ·exact Ss
       ·exact D6.sub x (yv _ hx)]
     ·rintro j v σ Cq hx ⟨Sx,k',Ef,EJ,Eg,rfl,Ci,DZ,EK,OX,CU,D0,D3,Fs,Ft⟩;rw[yj] at hx;obtain⟨pe,g1,rfl⟩:=yl.mp hx;have hj:j<nb.length:=by rw[<-C9.1];exact (yi.mp g1).1
      have g2:=yc hj;have Fu:∀{p:Addr} {xs:List V},H9 p=some (.tup xs)->Cq p=some (.tup xs):=λe=>Ci _ _ (jq e X9.e) (jq e e9) e;have BZ:=Fu (C9.2 j pe _ g1 g2);have Ij:=(Fq _).mp (yY hj);have F9:nb.take (j+1)=nb.take j++[nb[j]]:=by rw[y7,g2];rfl
      rw[F9];generalize nb[j]=e at BZ Ij;have Ht:∀x∈hk++k',x∈cells:=λx hx=>by
       rcases ym.mp hx with hx|hx
       ·exact B9 x hx
       ·exact (CU.rc x hx).on NB Bn
      refine#[_,rfl,_,rfl,r,_,rfl,JN.t (k:=k3 e) DZ.e BZ,_,rfl,JJ (λhf=>?_) λht=>#[_,k',Ef,EJ,Eg,rfl,Ci,DZ,EK,OX,CU,D0,λx hx=>?_,Fs,Ft]]
      ·have L5:e ∉ hk++k':=λz=>by rw[(uW DZ.keys).mpr z] at hf;cases hf
       have x₂:Jn N cc e:=(CU.rc wc D0).step Ij;have L6:Cq pc=some (.tup [.int (uu N cells e).1,.int (uu N cells e).2.1,.int (uu N cells e).2.2]):=by rw[OO e x₂];exact Fu Sw
       have lb10:=vM DZ.keys;have L7:=DZ.put L5 L6;refine#[_,rfl,_,rfl,_,rfl,r,_,rfl,vn.t (k:=k3 e) DZ.e BZ (yL (show _<=1000 by have:=OV CU.nd Ht;omega) (by decide)),?_];have D4:upd Cq r (.dT (j4 Eg (k3 e) (.ref pc))) wa=some (.lst (EJ.map V.ref)):=by rw[jl (yP So)];exact EK
       have Sy:jp (upd Cq r (.dT (j4 Eg (k3 e) (.ref pc)))) EJ Ef:=OX.dt DZ.e;have Fv:upd Cq r (.dT (j4 Eg (k3 e) (.ref pc))) pe=some (.tup [.int e.1,.int e.2.1,.int e.2.2]):=by rw[jl (jq BZ DZ.e)];exact BZ
       have Fw:JW r wa H9 (upd Cq r (.dT (j4 Eg (k3 e) (.ref pc)))):=λx u n1 n2 e=>by rw[jl n1];exact Ci x u n1 n2 e
       generalize upd Cq r (.dT (j4 Eg (k3 e) (.ref pc)))=H11 at L7 D4 Sy Fv Fw;have SA:=CU.add D0 Ij L5;have lk11:=OV SA.nd λx hx=>by
        rcases ym.mp hx with hx|hx
        ·exact B9 x hx
        ·exact (SA.rc x hx).on NB Bn
       rw[yt] at L7;refine#[_,rfl,.inl #[rfl,_,jo.of D4],_,rfl,wa,_,.ref pe,rfl,rfl,D4,?_,_,k'++[e],Ef++[e],EJ++[pe],_,rfl,λx u n1 n2 e=>jw n2 (Fw x u n1 n2 e),#[jw So L7.e,L7.keys,λx hx=>by obtain⟨q,h1,h2⟩:=L7.val x hx;exact#[q,h1,jw (jq h2 D4) h2]],by rw[jb,yn];rfl,(Sy.snoc Fv).wr D4,SA,yv _ D0,λx hx=>?_,?_,?_]
       ·rw[yb,Sy.1];have l10:=OV CU.nd Ht;exact yL (show _<=1000 by omega) (by decide)
       ·rw[<-yt];rcases ym.mp hx with hx|hx
        ·exact yv _ (D3 x hx)
        ·exact yy _ hx
       ·rw[ye,QD,<-yt,ye (as:=hk++k'),QD];omega
       ·rw[<-yt,ye (as:=hk++k'),QD];omega
      ·rcases ym.mp hx with hx|hx
       ·exact D3 x hx
       ·rw[yx.mp hx];exact (uW DZ.keys).mp ht
     ·rintro σ Cq ⟨Sx,k',Ef,EJ,Eg,rfl,Ci,DZ,EK,OX,CU,D0,D3,Fs,Ft⟩;rw[yb,C9.1,yG] at D3;have Ht:=uy CU.nd (b:=cells) λx hx=>by
       rcases ym.mp hx with hx|hx
       ·exact B9 x hx
       ·exact (CU.rc x hx).on NB Bn
      refine#[2*(cells.length - (hk++k').length)+Ef.length,?_,_,k',Ef,EJ,Eg,rfl,λx u n1 n2 e=>Ci x u n1 n2 (L4 x u n1 n2 e),DZ,EK,OX,#[CU.nd,CU.st,CU.rc,λx hx hw y hy=>?_,λx hx=>CU.sub x (yA _ hx)],by omega,rfl]
      ·rw[em,ye (as:=LZ),QD];have l6:=uy D6.nd (b:=cells) λx hx=>by
        rcases ym.mp hx with hx|hx
        ·exact B9 x hx
        ·exact (D6.rc x hx).on NB Bn
       omega
      ·by_cases WO:x=wc
       ·subst WO;exact D3 y ((Fq y).mpr hy)
       ·exact CU.cl x hx (λz=>by rcases yM.mp z with z|z;exact WO z;exact hw z) y hy
    ·have A':ws=[]:=by cases ws with|nil=>rfl|cons x r=>cases w₁
     have A₁:wt=[]:=List.length_eq_zero_iff.mp (by rw[<-C6.1,A'];rfl);subst A₁;refine#[_,_,_,hk++k,Sq,rfl,λx u n e=>s7 _ _ (Bp x u n (λz=>by have:=Bu x u n e;rw[z,CT] at this;cases this) (s5 _ _ (Bu x u n e))),X6.same s7,D6.nd,λx hx=>?_,λx hx y hy=>?_,λx hx=>?_]
     ·rcases ym.mp hx with hx|hx
      ·exact B9 x hx
      ·exact (D6.rc x hx).on NB Bn
     ·rcases ym.mp hx with hx|hx
      ·exact yv _ (OU x hx y hy)
      ·exact D6.cl x hx (λz=>nomatch z) y hy
     ·rcases ym.mp hx with hx|hx
      ·exact yv _ (vm x hx)
      ·rw[yx.mp hx];exact yy _ D6.st
   ·rcases ym.mp hx with hx|hx
    ·exact vm x hx
    ·rw[yx.mp hx];exact (uW X.keys).mp ht
  ·rintro σ H3 ⟨v3,v4,v5,hk,hv,rfl,off,X,Hn,B9,OU,vm⟩;rw[yb,C2.1,yG] at vm;exact hB v3 v4 v5 hk hv _ #[λx u e=>off x u (ji e BS) (Et _ _ e),(Qq Hn nd).mpr λx=>#[B9 x,vm x],X]
 rintro v3 v4 v5 hk hv H2 ⟨s2,pm,X⟩;exact#[_,rfl,q r hk hv H2 s2 BS pm X]
variable {P:Be}{w:World}{K:AQ}{mg:AT}{base:Heap}{t:Adr}
def JA (c:jf) (g i:Nat) (n:Nat):List jf:=(List.range n).map λ(j:Nat)=>(c.1 - g+i,c.2.1 - g+j,c.2.2)
theorem ab (c:jf) (g:Nat):uL c g=(List.range (2*g+1)).flatMap λi=>JA c g i (2*g+1):=by
 unfold uL nZ vJ JA;rw[List.map_flatMap];congr 1;funext i;rw[Qr]
 rfl
theorem kY (c:jf) (g i n:Nat):JA c g i (n+1)=JA c g i n++[(c.1 - g+i,c.2.1 - g+n,c.2.2)]:=by
 unfold JA;rw[Qe,yn];rfl
theorem gG (c:jf) (g i n:Nat):(JA c g i n).length=n:=by unfold JA;simp
theorem Me (c:jf) (g n:Nat):∀k,((List.range k).flatMap λi=>JA c g i n).length=k*n:=λk=>UO (λi=>gG c g i n) k
structure LD (H:Hp) (cd b:Addr) (kvs:jG) (qs:AX) (hl:AS) (cells:List jf) (N:jf->List jf):Prop where
 cd:H cd=some (.dT kvs)
 b:H b=some (.lst (qs.map V.ref))
 q:j9 H qs hl
 pm:(kvs.map (·.1)).Perm (cells.map k3)
 nd:cells.Nodup
 up:(cells.map k3).Pairwise λa b=>lx b a=false
 len:cells.length<=1000
 nb:Nb N cells
 near:∀c∈cells,∀e,e∈N c↔(e∈UI c\/((c.1,c.2.1)∈hl/\e∈JD c 3))/\(jM kvs (k3 e)).isSome=true
theorem LD.same {H':Hp}{b:Addr}{cells:List jf} (X:LD H cd b kvs qs hl cells N) (s:jc H H'):LD H' cd b kvs qs hl cells N :=
 #[s _ _ X.cd,s _ _ X.b,X.q.same s,X.pm,X.nd,X.up,X.len,X.nb,X.near]
theorem LD.mem {b:Addr}{cells:List jf} (X:LD H cd b kvs qs hl cells N) (e:jf):(jM kvs (k3 e)).isSome=decide (e∈cells):=by
 rw[yR,vz,X.pm.mem_iff,decide_eq_true_iff];constructor
 ·intro h;obtain⟨d,hd,q⟩:=yf.mp h;rw[<-uv q];exact hd
 ·exact λh=>yf.mpr #[e,h,rfl]
theorem LD.sds {b:Addr}{cells:List jf} (X:LD H cd b kvs qs hl cells N):∀kv∈kvs,sd kv.1=[true,true,true]:=λkv Bv=>cy cells _ (X.pm.mem_iff.mp (yf.mpr #[kv,Bv,rfl]))
def qN:Sp:=λvs H Q _=>E8 λ(cd b:Addr) (g:Nat) (kvs:jG) (qs:AX) (hl:AS) (cells:List jf) (N:jf->List jf)=>A4 (vs=[.ref cd,.ref b,.int g]) (LD H cd b kvs qs hl cells N) (g<=2) (∀(r:Addr) (fs:AX) (H':Hp),jc H H'->H r=none->H' r=some (.lst (fs.map V.ref))->jv nO H' fs (Jo cells g (fG N cells))->Q (.ref r) H')
theorem NS (T:Txt K mg t):jR P w K mg base 3 "_law_gaps" ["_law_copper_here","_law_holes_here","_law_gap"] qN:=by
 refine T.bC.ok ["_law_copper_here","_law_holes_here","_law_gap","_law_home","_law_found","_law_x","_law_y","_law_z","_law_across","_law_down","_law_other"] ?_;rintro _ H Q E ⟨cd,b,g,kvs,qs,hl,cells,N,rfl,X,g2,q⟩;refine#[rfl,λBk A outer s hr=>#[_,(jh (jz 3 (jm (M9 T) (ja (pv 0) (ja (pv 1) je)))) (jh (jz 4 (j5 je)) (jh (jS jH (jN (jT (Us rfl) (by rfl) T.uG uD (ja (pv 0) je))) (Vy (Jc (js 5) (Jc (js 6) (Jc (js 7) vy)))) (jj (jS jH (VH rfl T.Jv (ja (ju uA jg (pv 2)) (ja (ju jP (pv 2) jg) je))) (js 8) (jj (jS jH (VH rfl T.Jv (ja (ju uA jg (pv 2)) (ja (ju jP (pv 2) jg) je))) (js 9) (jh (jz 10 (jJ (ja (ju jP (pv 5) (pv 8)) (ja (ju jP (pv 6) (pv 9)) (ja (pv 7) je))))) (jj (jX (vK (jQ (fM (JG uw) hr.units (by decide)) (jJ (ja (pv 5) (ja (pv 6) (ja (pv 7) je)))) (pv 10)) (vK (uh (Vv (pv 10) (pv 0))) (V8 (jQ (fO hr.units0) (aP (pv 3) (pv 10)) (aP (pv 3) (jJ (ja (pv 5) (ja (pv 6) (ja (pv 7) je))))))))).pt (jj (jE (JO PySem.F.plainAttrs_list PySem.F.slot_list_append PySem.F.type_list_append JH (pv 4) (ja (jJ (ja vH (ja (jJ (ja (pv 5) (ja (pv 6) (ja (pv 7) je)))) (ja (pv 10) je)))) je)))) jL)))))))) (jj (jB (pv 4)))))),?_]];refine KB (λ(r:Addr) (hk:List jf) (hv:jG)=>[oR cd,oR b,oI g,oR r,none,none,none,none,none,none,none]) (λr hk hv H'=>A4 (jc H H') (H r=none) (hk.Perm cells) (U0 H' r N cells hk hv)) (λB hB=>#[_,rfl,_,rfl,cd,b,kvs,qs,hl,cells,N,rfl,X.cd,X.b,X.q,X.pm,X.nd,X.up,X.len,X.nb,X.near,λr hk hv H' s' hr pm Y=>hB r hk hv _ #[s',hr,pm,Y]]) ?_;rintro r hk hv H1 ⟨s1,BS,pm,Y⟩;refine uP (λ(fa:Addr)=>[oR cd,oR b,oI g,oR r,oR fa,none,none,none,none,none,none]) (λfa H'=>A3 (jc H1 H') (H1 fa=none) (H' fa=some (.lst []))) (λB hB=>#[zV,λfa hf=>hB fa _ #[jk (jc.refl H1) hf,hf,jb]]) ?_;rintro fa H2 ⟨s2,BC,ef⟩;have X2:=X.same (jc.trans s1 s2);have Y2:=Y.same s2;have De:=none_of s1 BC;refine Ua (λσ H'=>E7 λ(v5 v6 v7 v8 v9 v10:Option V) (fs:AX)=>A4 (σ=[oR cd,oR b,oI g,oR r,oR fa,v5,v6,v7,v8,v9,v10]) (jc H H') (H' fa=some (.lst (fs.map V.ref))) (jv nO H' fs (Jo cells g (fG N cells)))) (λB' hB=>?_) ?_
 ·refine#[_,rfl,cd,kvs,[true,true,true],rfl,X2.cd,X.sds,by decide,λkq bs ks BU ka SE Dx=>?_];obtain rfl:ks=cells.map k3:=uR (SE.trans X.pm) Dx X.up;have s3:=jk (o:=.lst (bs.map V.ref)) (jc.refl H2) BU;have e3:upd H2 kq (.lst (bs.map V.ref)) kq=some (.lst (bs.map V.ref)):=jb;have C3:=(jp.of_key ka).same s3;have Br:=s3 _ _ ef;have fk:fa≠kq:=ji ef BU;generalize upd H2 kq (.lst (bs.map V.ref))=H3 at s3 e3 C3 Br;have X3:=X2.same s3;have Y3:=Y2.same s3;refine#[kq,rfl,#[_,jo.of e3],jY (xs:=bs.map V.ref) (λi σ H'=>E7 λ(v5 v6 v7 v8 v9 v10:Option V) (fs:AX)=>A4 (σ=[oR cd,oR b,oI g,oR r,oR fa,v5,v6,v7,v8,v9,v10]) (j6 fa H3 H') (H' fa=some (.lst (fs.map V.ref))) (jv nO H' fs (Jo (cells.take i) g (fG N cells)))) #[_,_,_,_,_,_,[],rfl,j6.refl _ _,Br,.nil] (λi σ H' _ h=>by obtain⟨_,_,_,_,_,_,_,_,k,_⟩:=h;exact jo.of (k _ _ (yP fk) e3)) ?_ ?_]
  ·rintro i v σ H4 hx ⟨v5,v6,v7,v8,v9,v10,fs,rfl,off,Bz,NA⟩;rw[yj] at hx;obtain⟨p,f1,rfl⟩:=yl.mp hx;have hi:i<cells.length:=by rw[<-C3.1];exact (yi.mp f1).1
   have f2:=yc hi;have hp:=C3.2 i p _ f1 f2;have BN:=off _ _ (jq hp Br) hp;have tk:cells.take (i+1)=cells.take i++[cells[i]]:=by rw[y7,f2];rfl
   have Dr:=yY hi;have lg:=U2 g2 (fG N cells) (cells.take i);have Io:(cells.take i).length<=1000:=by rw[yO];have:=X.len;omega
   rw[tk,Gx,ab];generalize cells[i]=cc at BN Dr;have eg:((g:Int)+1 - (0 - (g:Int))).toNat=2*g+1:=by omega
   refine#[p,_,rfl,jD.of BN,rfl,_,_,rfl,_,_,rfl,_,_,rfl,rfl,?_];refine#[_,rfl,0,(g:Int),rfl,rfl,_,rfl,(g:Int),1,rfl,rfl,0 - (g:Int),(g:Int)+1,rfl,#[by omega,by omega,by omega,by omega],?_];rw[eg];refine JR (lo:=0 - (g:Int)) (n:=2*g+1) (λa σ H'=>E4 λ(v8 v9 v10:Option V) (fs:AX)=>A4 (σ=[oR cd,oR b,oI g,oR r,oR fa,oI cc.1,oI cc.2.1,oI cc.2.2,v8,v9,v10]) (j6 fa H3 H') (H' fa=some (.lst (fs.map V.ref))) (jv nO H' fs (Jo (cells.take i) g (fG N cells)++((((List.range a).flatMap λi=>JA cc g i (2*g+1)).filter (fG N cells cc)).map λd=>VM (cc,d))))) #[_,_,_,fs,rfl,off,Bz,by rw[List.range_zero,QA,Q5,Wh,yB];exact NA] ?_ ?_
   ·rintro a σ H5 ha ⟨Hm,SF,SG,Eu,rfl,Hu,BJ,EG⟩;refine#[_,rfl,0,(g:Int),rfl,rfl,_,rfl,(g:Int),1,rfl,rfl,0 - (g:Int),(g:Int)+1,rfl,#[by omega,by omega,by omega,by omega],?_];rw[eg];have he:((List.range (a+1)).flatMap λi=>JA cc g i (2*g+1))=((List.range a).flatMap λi=>JA cc g i (2*g+1))++JA cc g a (2*g+1):=by
     rw[Qe,Qm];simp only[QL,QA,yB]
    have la:=Me cc g (2*g+1) a;have A₂:a*(2*g+1)<=25:=yQ (show a<=5 by omega) (show 2*g+1<=5 by omega);refine JR (lo:=0 - (g:Int)) (n:=2*g+1) (λd σ H'=>E3 λ(v9 v10:Option V) (fs:AX)=>A4 (σ=[oR cd,oR b,oI g,oR r,oR fa,oI cc.1,oI cc.2.1,oI cc.2.2,oI (0 - (g:Int)+a),v9,v10]) (j6 fa H3 H') (H' fa=some (.lst (fs.map V.ref))) (jv nO H' fs (Jo (cells.take i) g (fG N cells)++(((((List.range a).flatMap λi=>JA cc g i (2*g+1))++JA cc g a d).filter (fG N cells cc)).map λd=>VM (cc,d))))) #[_,_,Eu,rfl,Hu,BJ,by
     have:JA cc g a 0=[]:=rfl;rw[this,yB];exact EG] ?_ ?_
    ·rintro d σ H6 hd ⟨Hv,L8,Dj,rfl,Bp,BF,Cp⟩;have ex:cc.1+(0 - (g:Int)+(a:Int))=cc.1 - g+a:=by omega
     have ey:cc.2.1+(0 - (g:Int)+(d:Int))=cc.2.1 - g+d:=by omega
     have B₁:=yX (fG N cells cc) (((List.range a).flatMap λi=>JA cc g i (2*g+1))++JA cc g a d);rw[ye,la,gG] at B₁;rw[kY,<-yt,Qv];refine uP (λ(po:Addr)=>[oR cd,oR b,oI g,oR r,oR fa,oI cc.1,oI cc.2.1,oI cc.2.2,oI (0 - (g:Int)+a),oI (0 - (g:Int)+d),oR po]) (λpo H'=>jc H6 H'/\H' po=some (.tup [.int (cc.1 - g+a),.int (cc.2.1 - g+d),.int cc.2.2])) (λB hB=>#[_,rfl,_,rfl,cc.1,_,rfl,rfl,_,rfl,_,rfl,cc.2.1,_,rfl,rfl,_,rfl,Ul,λpo B₂=>hB po _ #[jk (jc.refl H6) B₂,by rw[jb];show some (HO.tup [V.int (cc.1+(0 - (g:Int)+a)),V.int (cc.2.1+(0 - (g:Int)+d)),V.int cc.2.2])=_;rw[ex,ey]]]) ?_;rintro po H7 ⟨s7,OY⟩;generalize DL:((cc.1 - g+a,cc.2.1 - g+d,cc.2.2):jf)=dd;have OY:H7 po=some (.tup [.int dd.1,.int dd.2.1,.int dd.2.2]):=by rw[<-DL];exact OY
     have BM:=s7 _ _ BF;have no:∀{H':Hp},jc H7 H'->fG N cells cc dd=false->(E3 λ(v9 v10:Option V) (fs:AX)=>A4 ([oR cd,oR b,oI g,oR r,oR fa,oI cc.1,oI cc.2.1,oI cc.2.2,oI (0 - (g:Int)+a),oI (0 - (g:Int)+d),oR po]=[oR cd,oR b,oI g,oR r,oR fa,oI cc.1,oI cc.2.1,oI cc.2.2,oI (0 - (g:Int)+a),v9,v10]) (j6 fa H3 H') (H' fa=some (.lst (fs.map V.ref))) (jv nO H' fs (Jo (cells.take i) g (fG N cells)++(((((List.range a).flatMap λi=>JA cc g i (2*g+1))++JA cc g a d).filter (fG N cells cc)++[dd].filter (fG N cells cc)).map λd=>VM (cc,d))))):=λ{H'} s' hf=>#[_,_,Dj,rfl,λx u n e=>s' _ _ (s7 _ _ (Bp x u n e)),s' _ _ BM,by
      rw[Qf (by rw[hf];exact yo),Q5,yB];exact jv.mono Cp λp xs e=>s' _ _ (s7 _ _ e)]
     refine#[_,rfl,_,rfl,_,rfl,Ul,λp8 Fn=>?_];have s8:=jk (o:=.tup [.int cc.1,.int cc.2.1,.int cc.2.2]) (jc.refl H7) Fn;have e8:upd H7 p8 (.tup [.int cc.1,.int cc.2.1,.int cc.2.2]) p8=some (.tup [.int cc.1,.int cc.2.1,.int cc.2.2]):=jb;generalize upd H7 p8 (.tup [.int cc.1,.int cc.2.1,.int cc.2.2])=H8 at s8 e8;have Hw:=s8 _ _ OY;have EL:∀x u,x≠fa->H3 x=some u->H8 x=some u:=λx u n e=>s8 _ _ (s7 _ _ (Bp x u n e));have C₁:H8 cd=some (.dT kvs):=EL _ _ (jq X3.cd Br) X3.cd;refine#[_,rfl,k3 cc,k3 dd,v3 e8,v3 Hw,zi cc dd,_,rfl,UK (λh1=>?_) λh1=>JB (no s8 (by unfold fG;rw[show fg cc dd=false from h1,QJ]))];refine#[_,rfl,_,rfl,cd,_,rfl,JN.t (k:=k3 dd) C₁ Hw,_,rfl,?_];rw[X.mem dd];refine JS (λh2=>?_) λh2=>JB (no s8 (by unfold fG;rw[decide_eq_false h2,QJ,Q1]));obtain⟨q1,w1,t1⟩:=Y3.val cc (pm.mem_iff.mpr Dr);obtain⟨q2,w2,t2⟩:=Y3.val dd (pm.mem_iff.mpr h2);have r8:H8 r=some (.dT hv):=EL _ _ (jq Y3.e Br) Y3.e;have RO:=EL _ _ (jq t1 Br) t1;have RQ:=EL _ _ (jq t2 Br) t2;refine#[_,rfl,_,rfl,r,.ref q2,rfl,by rw[<-w2];exact JN.t (k:=k3 dd) r8 Hw,_,rfl,_,rfl,_,rfl,_,rfl,Ul,λp9 C₂=>?_];have s9:=jk (o:=.tup [.int cc.1,.int cc.2.1,.int cc.2.2]) (jc.refl H8) C₂;have e9:upd H8 p9 (.tup [.int cc.1,.int cc.2.1,.int cc.2.2]) p9=some (.tup [.int cc.1,.int cc.2.1,.int cc.2.2]):=jb;generalize upd H8 p9 (.tup [.int cc.1,.int cc.2.1,.int cc.2.2])=H9 at s9 e9
     refine#[r,.ref q1,rfl,by rw[<-w1];exact JN.t (k:=k3 cc) (s9 _ _ r8) e9,q2,q1,l3 (uu N cells dd),l3 (uu N cells cc),rfl,rfl,jD.of (s9 _ _ RQ),jD.of (s9 _ _ RO),_,rfl,JJ (λh3=>?_) λh3=>no (jc.trans s8 s9) (by
      unfold fG;have e:=MV (of_decide_eq_true h3);rw[vh.mpr ((ZP X.nb Dr h2).mp e.symm),Wp,Q1,Q1])]
     have hf:fG N cells cc dd=true:=by
      unfold fG;have e:¬Jn N cc dd:=λz=>of_decide_eq_false h3 (by rw[(ZP X.nb Dr h2).mpr z]);have:rB N cc dd=false:=by
       cases hh:rB N cc dd with
       | false=>rfl
       | true=>exact absurd (vh.mp hh) e
      rw[show fg cc dd=true from h1,decide_eq_true h2,this];rfl
     have D₁:=s9 _ _ (s8 _ _ BM);refine#[_,rfl,.inl #[rfl,_,jo.of D₁],_,rfl,_,rfl,_,rfl,Ul,λpa Hx=>?_];have sA:=jk (o:=.tup [.int cc.1,.int cc.2.1,.int cc.2.2]) (jc.refl H9) Hx;have eA:upd H9 pa (.tup [.int cc.1,.int cc.2.1,.int cc.2.2]) pa=some (.tup [.int cc.1,.int cc.2.1,.int cc.2.2]):=jb;generalize upd H9 pa (.tup [.int cc.1,.int cc.2.1,.int cc.2.2])=HA at sA eA;refine#[_,rfl,Ul,λpb Fx=>?_];have sB:=jk (o:=.tup [.str "gap",.ref pa,.ref po]) (jc.refl HA) Fx;have eB:upd HA pb (.tup [.str "gap",.ref pa,.ref po]) pb=some (.tup [.str "gap",.ref pa,.ref po]):=jb;generalize upd HA pb (.tup [.str "gap",.ref pa,.ref po])=HB at sB eB;have EM:=jc.trans s8 (jc.trans s9 (jc.trans sA sB));have Fy:=EM _ _ BM;refine#[fa,_,.ref pb,rfl,rfl,Fy,?_,_,_,Dj++[pb],rfl,λx u n e=>jw n (EM _ _ (s7 _ _ (Bp x u n e))),by rw[jb,yn];rfl,?_]
     ·rw[yb,jv.len Cp,ye,yb];exact yL (show _<=30000 by omega) (by decide)
     ·rw[Qg hf,Q5,yn,<-yt];exact jv.off (jv.snoc (jv.mono Cp λp xs e=>EM _ _ (s7 _ _ e)) (dZ eB (sB _ _ eA) (EM _ _ OY))) Fy (j6.upd _)
    ·rintro σ H6 ⟨Hv,L8,Dj,rfl,Bp,BF,Cp⟩;exact#[_,_,_,Dj,rfl,Bp,BF,by rw[he];exact Cp]
   ·rintro σ H5 ⟨Hm,SF,SG,Eu,rfl,Hu,BJ,EG⟩;exact#[_,_,_,_,_,_,Eu,rfl,Hu,BJ,EG]
  ·rintro σ H4 ⟨v5,v6,v7,v8,v9,v10,fs,rfl,off,Bz,NA⟩;rw[yb,C3.1,yG] at NA;exact hB _ _ #[_,_,_,_,_,_,fs,rfl,λx u e=>off x u (ji e De) (s3 _ _ (s2 _ _ (s1 _ _ e))),Bz,NA]
 rintro σ H3 ⟨v5,v6,v7,v8,v9,v10,fs,rfl,s3,Br,NA⟩;exact#[_,rfl,q fa fs H3 s3 De Br NA]
variable {P:Be}{w:World}{K:AQ}{mg:AT}{base:Heap}{t:Adr}
theorem MT (e:kvs.map (·.1)=dc.map k3) {kv:List Key×V} (h:kvs[i]?=some kv):∃hi:i<dc.length,kv.1=k3 dc[i]:=by
 have l:=vM e;have hi:i<dc.length:=by rw[<-l];exact (yi.mp h).1
 refine#[hi,?_];have:=congrArg (λl=>l[i]?) e;simp only[yj,h,yc hi] at this;exact Option.some.inj this
theorem Kn {β:Type} (A B:List jf) (dd:jf) (f:jf->Bool) (g:jf->β) (b:Bool) (hb:f dd=b):((A++(B++[dd])).filter f).map g=((A++B).filter f).map g++(if b=true then [g dd] else []):=by
 rw[<-yt,Qv (l₁:=A++B),yn];congr 1;cases b<;>simp [hb]
theorem xS {β:Type} (R Z M:List β) (k:β):R++(Z++(M++[k]))=(R++(Z++M))++[k]:=by simp [yt]
theorem fZ (h:Int×Int) (rm:Nat) (cop:jf->Bool) (z:Nat) (hc:cop (h.1,h.2,(z:Int))=true):uU h rm cop z=(((List.range (2*rm+1)).flatMap λi=>JA (h.1,h.2,(z:Int)) rm i (2*rm+1)).filter λc=>!cop c).map λc=>ZC (h,c):=by
 unfold uU;rw[if_pos hc,ab]
def qT:Sp:=λvs H Q _=>Z7 λ(sz cd b:Addr) (wd hg l rm:Nat) (kvs:jG) (qs:AX) (hl:AS)=>A9 (vs=[.ref sz,.ref cd,.ref b,.int rm]) (H sz=some (.tup [.int wd,.int hg,.int l])) (H cd=some (.dT kvs)) (H b=some (.lst (qs.map V.ref))) (j9 H qs hl) (hl.length<=1000) (l<=3) (rm<=2) (∀(r:Addr) (fs:AX) (H':Hp),jc H H'->H r=none->H' r=some (.lst (fs.map V.ref))->jv nO H' fs (Jg hl l rm (jx kvs))->Q (.ref r) H')
theorem NV (T:Txt K mg t):jR P w K mg base 1 "_law_rims" ["_law_size","_law_copper_here","_law_holes_here","_law_rim"] qT:=by
 refine T.bF.ok ["_law_size","_law_copper_here","_law_holes_here","_law_rim","_law_found","_law_x","_law_y","_law_z","_law_across","_law_down"] ?_;rintro _ H Q E ⟨sz,cd,b,wd,hg,l,rm,kvs,qs,hl,rfl,hsz,BD,hb,CB,lh,l3,r2,q⟩;refine#[rfl,λBk A outer s hr=>#[_,(jh (jz 4 (j5 je)) (jh (jS jH (jN (pv 2)) (Vy (Jc (js 5) (Jc (js 6) vy))) (jj (jS jH (JV rfl T.Jv (ja (jt jy (pv 0) jg) je)) (js 7) (jj (jX (uh (Vv (jJ (ja (pv 5) (ja (pv 6) (ja (pv 7) je)))) (pv 1))) (jj (jS jH (VH rfl T.Jv (ja (ju uA jg (pv 3)) (ja (ju jP (pv 3) jg) je))) (js 8) (jj (jS jH (VH rfl T.Jv (ja (ju uA jg (pv 3)) (ja (ju jP (pv 3) jg) je))) (js 9) (jj (jX (uh (Uu (jJ (ja (ju jP (pv 5) (pv 8)) (ja (ju jP (pv 6) (pv 9)) (ja (pv 7) je)))) (pv 1))) (jj (jE (JO PySem.F.plainAttrs_list PySem.F.slot_list_append PySem.F.type_list_append JH (pv 4) (ja (jJ (ja vH (ja (jJ (ja (pv 5) (ja (pv 6) je))) (ja (jJ (ja (ju jP (pv 5) (pv 8)) (ja (ju jP (pv 6) (pv 9)) (ja (pv 7) je)))) je)))) je)))) jL)))))) jL))))) (jj (jB (pv 4))))),?_]];refine uP (λ(fa:Addr)=>[oR sz,oR cd,oR b,oI rm,oR fa,none,none,none,none,none]) (λfa H'=>A3 (jc H H') (H fa=none) (H' fa=some (.lst []))) (λB hB=>#[zV,λfa hf=>hB fa _ #[jk (jc.refl H) hf,hf,jb]]) ?_;rintro fa H1 ⟨s1,BC,ef⟩;have D₂:=s1 _ _ hb;have CB1:=CB.same s1;have bf:b≠fa:=ji hb BC;refine Ua (λσ H'=>E6 λ(v5 v6 v7 v8 v9:Option V) (fs:AX)=>A4 (σ=[oR sz,oR cd,oR b,oI rm,oR fa,v5,v6,v7,v8,v9]) (jc H H') (H' fa=some (.lst (fs.map V.ref))) (jv nO H' fs (Jg hl l rm (jx kvs)))) (λB' hB=>?_) ?_
 ·refine#[_,rfl,b,rfl,#[_,jo.of D₂],jY (xs:=qs.map V.ref) (λi σ H'=>E6 λ(v5 v6 v7 v8 v9:Option V) (fs:AX)=>A4 (σ=[oR sz,oR cd,oR b,oI rm,oR fa,v5,v6,v7,v8,v9]) (jc H H') (H' fa=some (.lst (fs.map V.ref))) (jv nO H' fs (Jg (hl.take i) l rm (jx kvs)))) #[_,_,_,_,_,[],rfl,s1,ef,.nil] (λi σ H' _ h=>by obtain⟨_,_,_,_,_,_,_,s,_⟩:=h;exact jo.of (s _ _ hb)) ?_ ?_]
  ·rintro i v σ H3 hx ⟨v5,v6,v7,v8,v9,fs,rfl,s3,Br,NA⟩;rw[yj] at hx;obtain⟨p,f1,rfl⟩:=yl.mp hx;have hi:i<hl.length:=by rw[<-CB.1];exact (yi.mp f1).1
   have f2:=yc hi;have hp:=s3 _ _ (CB.2 i p _ f1 f2);have tk:hl.take (i+1)=hl.take i++[hl[i]]:=by rw[y7,f2];rfl
   have lr:=U7 (L:=l) r2 (jx kvs) (hl.take i);have Io:(hl.take i).length<=1000:=by rw[yO];omega
   have WA:(Jg (hl.take i) l rm (jx kvs)).length<=75000:=yp lr (yp (yQ Io (show l*25<=75 by omega)) (by decide));rw[tk,GY];generalize hl[i]=hh at hp;refine#[p,_,rfl,jD.of hp,rfl,_,_,rfl,_,_,rfl,rfl,?_];refine Jz (.int l) (jD.of (s3 _ _ hsz)) #[l,rfl,by omega,by omega,JR (lo:=0) (n:=l) (λj σ H'=>E4 λ(v7 v8 v9:Option V) (fs:AX)=>A4 (σ=[oR sz,oR cd,oR b,oI rm,oR fa,oI hh.1,oI hh.2,v7,v8,v9]) (jc H H') (H' fa=some (.lst (fs.map V.ref))) (jv nO H' fs (Jg (hl.take i) l rm (jx kvs)++(List.range j).flatMap (uU hh rm (jx kvs))))) #[_,_,_,fs,rfl,s3,Br,by rw[List.range_zero,QA,yB];exact NA] ?_ ?_]
   ·rintro z σ H4 hz ⟨Se,Hm,SF,DU,rfl,s4,Bz,Cg⟩;have lz:=zH hh r2 (jx kvs) z;have e0:(0:Int)+(z:Int)=(z:Int):=by omega
    have hE:(List.range (z+1)).flatMap (uU hh rm (jx kvs))=(List.range z).flatMap (uU hh rm (jx kvs))++uU hh rm (jx kvs) z:=by
     rw[Qe,Qm];simp only[QL,QA,yB]
    rw[e0];refine#[_,rfl,_,rfl,_,rfl,Ul,λp5 EH=>?_];have s5:=jk (o:=.tup [.int hh.1,.int hh.2,.int (z:Int)]) (jc.refl H4) EH;have e5:upd H4 p5 (.tup [.int hh.1,.int hh.2,.int (z:Int)]) p5=some (.tup [.int hh.1,.int hh.2,.int (z:Int)]):=jb;generalize upd H4 p5 (.tup [.int hh.1,.int hh.2,.int (z:Int)])=H5 at s5 e5;have Cz:=jc.trans s4 s5;have BJ:=s5 _ _ Bz;refine#[_,rfl,cd,_,rfl,JN.t (k:=k3 (hh.1,hh.2,(z:Int))) (Cz _ _ BD) e5,_,rfl,UK (λht=>?_) λhf=>?_]
    ·have Cy:jx kvs (hh.1,hh.2,(z:Int))=true:=ht;have eg:((rm:Int)+1 - (0 - (rm:Int))).toNat=2*rm+1:=by omega
     rw[hE,fZ hh rm (jx kvs) z Cy];have Dr:∃cc:jf,cc=(hh.1,hh.2,(z:Int)):=#[_,rfl];obtain⟨cc,OZ⟩:=Dr;rw[<-OZ];refine#[_,rfl,0,(rm:Int),rfl,rfl,_,rfl,(rm:Int),1,rfl,rfl,0 - (rm:Int),(rm:Int)+1,rfl,#[by omega,by omega,by omega,by omega],?_];rw[eg];refine JR (lo:=0 - (rm:Int)) (n:=2*rm+1) (λa σ H'=>E3 λ(v8 v9:Option V) (fs:AX)=>A4 (σ=[oR sz,oR cd,oR b,oI rm,oR fa,oI hh.1,oI hh.2,oI z,v8,v9]) (jc H H') (H' fa=some (.lst (fs.map V.ref))) (jv nO H' fs (Jg (hl.take i) l rm (jx kvs)++((List.range z).flatMap (uU hh rm (jx kvs))++(((List.range a).flatMap λi=>JA cc rm i (2*rm+1)).filter λc=>!jx kvs c).map λc=>ZC (hh,c))))) #[_,_,DU,rfl,Cz,BJ,by rw[List.range_zero,QA,Q5,Wh,yB];exact jv.mono Cg λp xs e=>s5 _ _ e] ?_ ?_
     ·rintro a σ H6 ha ⟨SH,Hv,Dj,rfl,s6,BF,Cp⟩;refine#[_,rfl,0,(rm:Int),rfl,rfl,_,rfl,(rm:Int),1,rfl,rfl,0 - (rm:Int),(rm:Int)+1,rfl,#[by omega,by omega,by omega,by omega],?_];rw[eg];have he:((List.range (a+1)).flatMap λi=>JA cc rm i (2*rm+1))=((List.range a).flatMap λi=>JA cc rm i (2*rm+1))++JA cc rm a (2*rm+1):=by
       rw[Qe,Qm];simp only[QL,QA,yB]
      have la:=Me cc rm (2*rm+1) a;have A₂:a*(2*rm+1)<=25:=yQ (show a<=5 by omega) (show 2*rm+1<=5 by omega);refine JR (lo:=0 - (rm:Int)) (n:=2*rm+1) (λd σ H'=>E2 λ(v9:Option V) (fs:AX)=>A4 (σ=[oR sz,oR cd,oR b,oI rm,oR fa,oI hh.1,oI hh.2,oI z,oI (0 - (rm:Int)+a),v9]) (jc H H') (H' fa=some (.lst (fs.map V.ref))) (jv nO H' fs (Jg (hl.take i) l rm (jx kvs)++((List.range z).flatMap (uU hh rm (jx kvs))++((((List.range a).flatMap λi=>JA cc rm i (2*rm+1))++JA cc rm a d).filter λc=>!jx kvs c).map λc=>ZC (hh,c))))) #[_,Dj,rfl,s6,BF,by
       have:JA cc rm a 0=[]:=rfl;rw[this,yB];exact Cp] ?_ ?_
      ·rintro d σ H7 hd ⟨L9,DS,rfl,s7,BM,Fl⟩;have ex:hh.1+(0 - (rm:Int)+(a:Int))=cc.1 - rm+a:=by rw[OZ];show _=hh.1 - _+_;omega
       have ey:hh.2+(0 - (rm:Int)+(d:Int))=cc.2.1 - rm+d:=by rw[OZ];show _=hh.2 - _+_;omega
       have ez:(z:Int)=cc.2.2:=by rw[OZ]
       have E₁:=yX (λc=>!jx kvs c) (((List.range a).flatMap λi=>JA cc rm i (2*rm+1))++JA cc rm a d);rw[ye,la,gG] at E₁;have ar:=kY cc rm a d;generalize DL:((cc.1 - rm+a,cc.2.1 - rm+d,cc.2.2):jf)=dd at ar;have Oa:∀{H':Hp} {p:Addr},H' p=some (.tup [.int (hh.1+(0 - (rm:Int)+a)),.int (hh.2+(0 - (rm:Int)+d)),.int (z:Int)])->H' p=some (.tup [.int dd.1,.int dd.2.1,.int dd.2.2]):=λe=>by rw[e,<-DL,ex,ey,ez]
       refine#[_,rfl,_,rfl,hh.1,_,rfl,rfl,_,rfl,_,rfl,hh.2,_,rfl,rfl,_,rfl,Ul,λp8 Fn=>?_];have s8:=jk (o:=.tup [.int (hh.1+(0 - (rm:Int)+a)),.int (hh.2+(0 - (rm:Int)+d)),.int (z:Int)]) (jc.refl H7) Fn;have e8:upd H7 p8 (.tup [.int (hh.1+(0 - (rm:Int)+a)),.int (hh.2+(0 - (rm:Int)+d)),.int (z:Int)]) p8=some (.tup [.int dd.1,.int dd.2.1,.int dd.2.2]):=Oa jb
       skip
       generalize upd H7 p8 (.tup [.int (hh.1+(0 - (rm:Int)+a)),.int (hh.2+(0 - (rm:Int)+d)),.int (z:Int)])=H8 at s8 e8 ⊢;have SI:=jc.trans s7 s8;have Cf:=s8 _ _ BM;refine#[_,rfl,cd,_,rfl,JN.t (k:=k3 dd) (SI _ _ BD) e8,_,rfl,JJ (λhn=>?_) λhy=>?_]
       ·have hf:(!jx kvs dd)=true:=by rw[show jx kvs dd=false from hn];rfl
        refine#[_,rfl,.inl #[rfl,_,jo.of Cf],_,rfl,_,rfl,V9,λpa Hx=>?_];have sA:=jk (o:=.tup [.int hh.1,.int hh.2]) (jc.refl H8) Hx;have eA:upd H8 pa (.tup [.int hh.1,.int hh.2]) pa=some (.tup [.int hh.1,.int hh.2]):=jb;generalize upd H8 pa (.tup [.int hh.1,.int hh.2])=HA at sA eA;refine#[_,rfl,_,rfl,hh.1,_,rfl,rfl,_,rfl,_,rfl,hh.2,_,rfl,rfl,_,rfl,Ul,λpb Fx=>?_];have sB:=jk (o:=.tup [.int (hh.1+(0 - (rm:Int)+a)),.int (hh.2+(0 - (rm:Int)+d)),.int (z:Int)]) (jc.refl HA) Fx;have eB:upd HA pb (.tup [.int (hh.1+(0 - (rm:Int)+a)),.int (hh.2+(0 - (rm:Int)+d)),.int (z:Int)]) pb=some (.tup [.int dd.1,.int dd.2.1,.int dd.2.2]):=Oa jb;show df _ _ _;generalize upd HA pb (.tup [.int (hh.1+(0 - (rm:Int)+a)),.int (hh.2+(0 - (rm:Int)+d)),.int (z:Int)])=HB at sB eB ⊢;refine#[Ul,λpc Ee=>?_];have sC:=jk (o:=.tup [.str "rim",.ref pa,.ref pb]) (jc.refl HB) Ee;have eC:upd HB pc (.tup [.str "rim",.ref pa,.ref pb]) pc=some (.tup [.str "rim",.ref pa,.ref pb]):=jb;generalize upd HB pc (.tup [.str "rim",.ref pa,.ref pb])=HC at sC eC;have SJ:=jc.trans sA (jc.trans sB sC);have WQ:=SJ _ _ Cf;refine#[fa,_,.ref pc,rfl,rfl,WQ,?_,_,DS++[pc],rfl,λx u e=>jw (ji e BC) (SJ _ _ (SI _ _ e)),by rw[jb,yn];rfl,?_]
        ·rw[yb,jv.len Fl,ye,ye,yb];exact yL (show _<=80000 by omega) (by decide)
        ·rw[ar,Kn _ _ _ _ _ true hf,if_pos rfl,xS];exact jv.off (jv.snoc (jv.mono Fl λp xs e=>SJ _ _ (s8 _ _ e)) (f6 eC (sC _ _ (sB _ _ eA)) (sC _ _ eB))) WQ (j6.upd _)
       ·have hf:(!jx kvs dd)=false:=by rw[show jx kvs dd=true from hy];rfl
        refine#[_,DS,rfl,SI,Cf,?_];rw[ar,Kn _ _ _ _ _ false hf,if_neg yo,yB];exact jv.mono Fl λp xs e=>s8 _ _ e
      ·rintro σ H7 ⟨L9,DS,rfl,s7,BM,Fl⟩;exact#[_,_,DS,rfl,s7,BM,by rw[he];exact Fl]
     ·rintro σ H6 ⟨SH,Hv,Dj,rfl,s6,BF,Cp⟩;exact#[_,_,_,Dj,rfl,s6,BF,Cp]
    ·have Cy:jx kvs (hh.1,hh.2,(z:Int))=false:=hf;have:uU hh rm (jx kvs) z=[]:=if_neg (by rw[Cy];exact yo);exact#[_,_,_,DU,rfl,Cz,BJ,by rw[hE,this,yB];exact jv.mono Cg λp xs e=>s5 _ _ e]
   ·rintro σ H4 ⟨Se,Hm,SF,DU,rfl,s4,Bz,Cg⟩;exact#[_,_,_,_,_,DU,rfl,s4,Bz,Cg]
  ·rintro σ H3 ⟨v5,v6,v7,v8,v9,fs,rfl,s3,Br,NA⟩;rw[yb,CB.1,yG] at NA;exact hB _ _ #[_,_,_,_,_,fs,rfl,s3,Br,NA]
 rintro σ H2 ⟨v5,v6,v7,v8,v9,fs,rfl,s2,BH,NA⟩;exact#[_,rfl,q fa fs H2 s2 BC BH NA]
variable {P:Be}{w:World}{K:AQ}{mg:AT}{base:Heap}{t:Adr}
def VN (c:jf) (k:K5):Bool:=decide (k.2.2.2.2=c.2.2/\k.1<=c.1/\c.1<k.1+k.2.2.1)
def gT (c:jf) (k:K5):Bool:=decide (k.2.1<=c.2.1/\c.2.1<k.2.1+k.2.2.2.1)
theorem qd (c:jf) (k:K5):(gT c k&&VN c k)=vC c k:=by
 unfold VN gT vC;rw[yR];simp only[Qz,decide_eq_true_eq];exact#[λ⟨⟨a,b⟩,c,d,e⟩=>#[d,e,a,b,c.symm],λ⟨d,e,a,b,c⟩=>#[#[a,b],c.symm,d,e]]
theorem Zj {α:Type} (l:List α) (p:α->Bool):(l.filter p).isEmpty=!l.any p:=by
 induction l with
 | nil=>rfl
 | cons a l ih =>
  cases h:p a with
  | true=>rw[Qg h];simp [h]
  | false=>rw[Qf (by rw[h];exact yo),ih];simp [h]
def pA (c:jf) (n:Nat) (k:Nat):List jf:=(List.range k).map λ(j:Nat)=>(c.1+(j:Int) / (n:Int),c.2.1+(j:Int) % (n:Int),c.2.2)
theorem wj (c:jf) (h1:1<=n) (h3:n<=3):pA c n (n*n)=JM c n:=by
 have:n=1\/n=2\/n=3:=by omega
 unfold pA JM nZ vJ;rcases this with rfl|rfl|rfl<;>simp [Qe]
theorem bO {a:Addr}{o:Obj}{xs:List (List Key×Addr×Value)}{g:TG}{tc:TT}{te:TE} (F:Fz P w H a o kvs xs) (ek:kvs.map (·.1)=dc.map k3) (f:jf->Bool) (gN:jf->Nk)
  (hg:∀(r:Addr) (c:jf) (H':Hp) (Qy:VK) (Qn:Hp->Prop),jc H H'->H' r=some (.tup [.int c.1,.int c.2.1,.int c.2.2])->(f c=true->∀H2 p,jc H' H2->nO.V_ H2 (.ref p) (gN c)->Qy (.ref p) H2)->(f c=false->∀H2,jc H' H2->Qn H2)->g (.ref r) (σ++List.replicate k none) H' λσ2 H2=>(∃zs,σ2=σ++zs/\zs.length=k)/\tc σ2 H2 λb H3=>if b=true then te σ2 H3 Qy else Qn H3)
  (q:∀D rs H',jc H H'->H D=none->H' D=some (.lst (rs.map V.ref))->jv nO H' rs ((dc.filter f).map gN)->Q (.ref D) H'):vb k g tc te σ Q (Mb a o xs) H:=by
 refine pR F (λD i ys H'=>A5 (H D=none) (jc H H') (H' D=some (.lst ys)) (ys.length<=i) (∃rs:List Addr,ys=rs.map V.ref/\jv nO H' rs (((dc.take i).filter f).map gN))) (λD hD=>#[hD,jk (jc.refl _) hD,jb,yg _,[],rfl,.nil]) (λD i ys H' h_=>by obtain⟨_,d2,e,l,_⟩:=h_;exact#[e,l,d2 _ _ F.e]) ?_ ?_
 ·rintro D i kv p ys H' Qy Qn hx hp ⟨d1,d2,d3,d4,rs,rfl,C'⟩ hy hn;obtain⟨hi,e1⟩:=MT ek hx;rw[e1] at hp;have hs:=yc hi;have er:H' p=some (.tup [.int dc[i].1,.int dc[i].2.1,.int dc[i].2.2]):=d2 _ _ hp;have tk:∀b:Bool,f dc[i]=b->((dc.take (i+1)).filter f).map gN=((dc.take i).filter f).map gN++(if b=true then [gN dc[i]] else []):=λb hb=>by
   rw[List.take_add_one,hs,Qv,yn];congr 1;cases b<;>simp [hb]
  generalize dc[i]=cc at er tk;refine hg p cc H' Qy Qn d2 er (λhb H2 p s2 hp=>?_) λhb H2 s2=>?_
  ·have BG:=s2 _ _ d3;refine hy _ _ BG #[d1,λb u e=>?_,jb,by rw[ye];exact Q3 d4,rs++[p],by rw[yn];rfl,?_]
   ·rw[jl (ji e d1)];exact s2 _ _ (d2 _ _ e)
   ·rw[tk true hb,if_pos rfl];exact jv.off (jv.snoc (jv.mono C' λp xs e=>s2 _ _ e) hp) BG (j6.upd _)
  ·refine hn _ #[d1,jc.trans d2 s2,s2 _ _ d3,by omega,rs,rfl,?_];rw[tk false hb,if_neg (by decide),yB];exact jv.mono C' λp xs e=>s2 _ _ e
 ·rintro D ys H3 hD ⟨d1,d2,d3,d4,rs,rfl,C'⟩;rw[vM ek,yG] at C';exact q D rs H3 d2 d1 d3 C'
def qQ:Sp:=λvs H Q _=>E6 λ(cd kl:Addr) (kvs:jG) (dc:List jf) (ps:AX) (ks:List K5)=>A8 (vs=[.ref cd,.ref kl]) (H cd=some (.dT kvs)) (kvs.map (·.1)=dc.map k3) (dc.length<=1000) (H kl=some (.lst (ps.map V.ref))) (JK H ps ks) (ks.length<=12) (∀(r:Addr) (fs:AX) (H':Hp),jc H H'->H r=none->H' r=some (.lst (fs.map V.ref))->jv nO H' fs (JT dc ks)->Q (.ref r) H')
theorem NT (T:Txt K mg t):jR P w K mg base 1 "_law_kept" ["_law_copper_here","_law_keeps_here"] qQ:=by
 refine T.bD.ok ["_law_copper_here","_law_keeps_here","_law_found","_law_x","_law_y","_law_z","_law_some"] ?_;rintro _ H Q E ⟨cd,kl,kvs,dc,ps,ks,rfl,BD,ek,ldc,Hy,CK,OS,q⟩;refine#[rfl,λBk A outer s hr=>#[_,(jh (jz 2 (j5 je)) (jh (kK (jS jH (zC rfl (pv 0)) (Vy (Jc (js 3) (Jc (js 4) (Jc (js 5) vy)))) (jh (aT 6 (own:=["_law_one"]) (vc (cl:=[("_law_z",_),("_law_x",_)])) (jN (pv 1)) (λ_ _ _ _ _=>js 7) (λ_ _ _ _ _=>Uv (vK (jQ GT (jt jy (pv 7) jg) (pv 5)) (vK (jQ vg (jt jy (pv 7) jg) (pv 3)) (V8 (jQ Uj (pv 3) (ju jP (jt jy (pv 7) jg) (jt jy (pv 7) jg)))))).pt) (λ_ _ _ _ _=>(pv 7))) (jj (jX (jQ (Kw hr.units0) (JE (own:=["_law_one"]) (vc (cl:=[("_law_y",_)])) (jN (pv 6)) (λ_ _ _ _ _=>js 7) (λ_ _ _ _ _=>Uv (vK (jQ vg (jt jy (pv 7) jg) (pv 4)) (V8 (jQ Uj (pv 4) (ju jP (jt jy (pv 7) jg) (jt jy (pv 7) jg))))).pt) (λ_ _ _ _ _=>(pv 7))) (j5 je)) (jj (jE (JO PySem.F.plainAttrs_list PySem.F.slot_list_append PySem.F.type_list_append JH (pv 2) (ja (jJ (ja vH (ja (jJ (ja (pv 3) (ja (pv 4) (ja (pv 5) je)))) je))) je)))) jL))))) (jj (jB (pv 2))))),?_]];refine uP (λ(fa:Addr)=>[oR cd,oR kl,oR fa,none,none,none,none]) (λfa H'=>A3 (jc H H') (H fa=none) (H' fa=some (.lst []))) (λB hB=>#[zV,λfa hf=>hB fa _ #[jk (jc.refl H) hf,hf,jb]]) ?_;rintro fa H1 ⟨s1,BC,ef⟩;have lz:(ps.map V.ref).length<=sizeLine:=by rw[yb,CK.len];exact yp OS (by decide)
 refine tT (λ(v3 v4 v5 v6:Option V) (fs:AX)=>[oR cd,oR kl,oR fa,v3,v4,v5,v6]) (λ_ _ _ _ fs H'=>A3 (jc H H') (H' fa=some (.lst (fs.map V.ref))) (jv nO H' fs (JT dc ks))) (λB' hB=>?_) ?_
 ·have Dm:=s1 _ _ BD;refine#[_,rfl,cd,kvs,rfl,Dm,λob xs hz hm kt dr=>?_];obtain⟨Z,zs,zn,zt⟩:=zl Dm hz hm kt dr;have cf:cd≠fa:=jq Dm ef;have Br:=zs _ _ (yP cf) ef;have kf:kl≠cd:=jq Hy BD;have Ob:=zs _ _ kf (s1 _ _ Hy);have SM:JK (upd H1 cd (UC cd ob)) ps ks:=#[CK.1,λi p xs h1 h2=>zs _ _ (jq (CK.2 i p xs h1 h2) BD) (s1 _ _ (CK.2 i p xs h1 h2))];generalize upd H1 cd (UC cd ob)=H3 at Z zs zn zt Br Ob SM;have E₂:kl≠fa:=ji Hy BC;refine gR Z (λi σ H'=>E5 λ(v3 v4 v5 v6:Option V) (fs:AX)=>A4 (σ=[oR cd,oR kl,oR fa,v3,v4,v5,v6]) (j6 fa H3 H') (H' fa=some (.lst (fs.map V.ref))) (jv nO H' fs (JT (dc.take i) ks))) #[_,_,_,_,[],rfl,j6.refl _ _,Br,.nil] (λi σ H' _ h=>by obtain⟨_,_,_,_,_,_,k,_⟩:=h;exact k _ _ cf Z.e) ?_ ?_
  ·rintro i kv p σ H4 Bv hp ⟨v3,v4,v5,v6,fs,rfl,off,Bz,NA⟩;obtain⟨hi,e1⟩:=MT ek Bv;rw[e1] at hp;have BN:H4 p=some (.tup [.int dc[i].1,.int dc[i].2.1,.int dc[i].2.2]):=off _ _ (jq hp Br) hp;have tk:dc.take (i+1)=dc.take i++[dc[i]]:=by rw[y7,yc hi];rfl
   have lk:=ve (dc.take i) ks;have Io:(dc.take i).length<=1000:=by rw[yO];omega
   have kS:∀cc:jf,JT (dc.take i++[cc]) ks=JT (dc.take i) ks++(if ks.any (vC cc)=true then [GD cc] else []):=λcc=>by
    unfold JT;rw[Qv,yn];congr 1;cases h:ks.any (vC cc)<;>simp [h]
   rw[tk,kS];generalize dc[i]=cc at BN;have Oc:=off _ _ E₂ Ob;have SN:JK H4 ps ks:=#[CK.1,λi p xs h1 h2=>off _ _ (jq (SM.2 i p xs h1 h2) Br) (SM.2 i p xs h1 h2)];refine#[p,_,rfl,jD.of BN,rfl,_,_,rfl,_,_,rfl,_,_,rfl,rfl,?_];refine uP (λ(so:Addr)=>[oR cd,oR kl,oR fa,oI cc.1,oI cc.2.1,oI cc.2.2,oR so]) (λso H'=>jc H4 H'/\H' so=some (.lst ((ps.map V.ref).filter λv=>VN cc (Ju H4 v)))) (λB hB=>#[_,rfl,kl,rfl,#[_,jo.of Oc],Ke (xs:=ps.map V.ref) (λv=>VN cc (Ju H4 v)) (λv=>v) (jo.of Oc) lz (λx hx H' Qy Qn s' hy hn=>?_) λD H' hD s' eD=>hB D H' #[s',by rw[eD,List.map_id']]]) ?_
   ·obtain⟨r,hr,rfl⟩:=yf.mp hx;obtain⟨k5,_,ee⟩:=SN.mem hr;rw[VE ee] at hy hn;have S:=jD.of (K:=K) (s' _ _ ee);refine#[#[_,rfl,rfl],Jz (.int k5.2.2.2.2) S #[_,rfl,rfl,_,rfl,JS (λh1=>Jz (.int k5.1) S #[_,rfl,k5.1,cc.1,rfl,rfl,_,rfl,JS (λh2=>#[_,rfl,Jz (.int k5.1) S (Jz (.int k5.2.2.1) S #[k5.1,k5.2.2.1,rfl,rfl,cc.1,_,rfl,rfl,_,rfl,JS (λh3=>#[_,rfl,hy (decide_eq_true #[V.int.inj h1,h2,h3]) _ (jc.refl _)]) λh3=>hn (decide_eq_false λz=>h3 z.2.2) _ (jc.refl _)])]) λh2=>JB (hn (decide_eq_false λz=>h2 z.2.1) _ (jc.refl _))]) λh1=>JB (hn (decide_eq_false λz=>h1 (by rw[z.1])) _ (jc.refl _))]]
   rintro so H5 ⟨s5,es⟩;have F':((ps.map V.ref).filter λv=>VN cc (Ju H4 v)).length<=sizeLine:=yp (yX _ _) lz;refine#[_,rfl,so,rfl,#[_,jo.of es],Ke (xs:=(ps.map V.ref).filter λv=>VN cc (Ju H4 v)) (λv=>gT cc (Ju H4 v)) (λv=>v) (jo.of es) F' (λx hx H' Qy Qn s' hy hn=>?_) λD H6 hD s6 eD=>?_]
   ·obtain⟨r,hr,rfl⟩:=yf.mp (yZ.mp hx).1;obtain⟨k5,_,ee⟩:=SN.mem hr;rw[VE ee] at hy hn;have S:=jD.of (K:=K) (s' _ _ (s5 _ _ ee));refine#[#[_,rfl,rfl],Jz (.int k5.2.1) S #[_,rfl,k5.2.1,cc.2.1,rfl,rfl,_,rfl,JS (λh2=>#[_,rfl,Jz (.int k5.2.1) S (Jz (.int k5.2.2.2.1) S #[k5.2.1,k5.2.2.2.1,rfl,rfl,cc.2.1,_,rfl,rfl,_,rfl,JS (λh3=>#[_,rfl,hy (decide_eq_true #[h2,h3]) _ (jc.refl _)]) λh3=>hn (decide_eq_false λz=>h3 z.2) _ (jc.refl _)])]) λh2=>JB (hn (decide_eq_false λz=>h2 z.1) _ (jc.refl _))]]
   refine#[zV,λp7 He=>?_];have s7:=jk (o:=.lst []) (jc.refl H6) He;have e7:upd H6 p7 (.lst []) p7=some (.lst []):=jb;generalize upd H6 p7 (.lst [])=H7 at s7 e7;have em:((((ps.map V.ref).filter λv=>VN cc (Ju H4 v)).filter λv=>gT cc (Ju H4 v)).map λv=>v).isEmpty=!ks.any (vC cc):=by
    rw[List.map_id',List.filter_filter,Zj];have:(ps.map V.ref).any (λv=>gT cc (Ju H4 v)&&VN cc (Ju H4 v))=ks.any (vC cc):=by
     have h0:(λv=>gT cc (Ju H4 v)&&VN cc (Ju H4 v))=λv=>vC cc (Ju H4 v):=funext λv=>qd cc (Ju H4 v);have h1:(ps.map V.ref).any (λv=>gT cc (Ju H4 v)&&VN cc (Ju H4 v))=((ps.map V.ref).map λv=>vC cc (Ju H4 v)).any id:=by
      rw[h0];generalize ps.map V.ref=L;rw[List.any_map]
      rfl
     rw[h1,SN.map λk=>vC cc k,List.any_map]
     rfl
    rw[this]
   refine#[D,p7,_,rfl,rfl,jo.of (s7 _ _ eD),jo.of e7,_,rfl,?_];rw[em,Bool.not_not];have FA:=jc.trans s5 (jc.trans s6 s7);have BM:=FA _ _ Bz;refine UK (λht=>?_) λhf=>?_
   ·refine#[_,rfl,.inl #[rfl,_,jo.of BM],_,rfl,_,rfl,_,rfl,Ul,λpa Hx=>?_];have sA:=jk (o:=.tup [.int cc.1,.int cc.2.1,.int cc.2.2]) (jc.refl H7) Hx;have eA:upd H7 pa (.tup [.int cc.1,.int cc.2.1,.int cc.2.2]) pa=some (.tup [.int cc.1,.int cc.2.1,.int cc.2.2]):=jb;generalize upd H7 pa (.tup [.int cc.1,.int cc.2.1,.int cc.2.2])=HA at sA eA;refine#[V9,λpb Fx=>?_];have sB:=jk (o:=.tup [.str "keep",.ref pa]) (jc.refl HA) Fx;have eB:upd HA pb (.tup [.str "keep",.ref pa]) pb=some (.tup [.str "keep",.ref pa]):=jb;generalize upd HA pb (.tup [.str "keep",.ref pa])=HB at sB eB;have SO:=jc.trans FA (jc.trans sA sB);have Fy:=SO _ _ Bz;refine#[fa,_,.ref pb,rfl,rfl,Fy,?_,_,_,_,_,fs++[pb],rfl,λx u n e=>jw n (SO _ _ (off x u n e)),by rw[jb,yn];rfl,?_]
    ·rw[yb,jv.len NA];exact yL (show _<=1000 by omega) (by decide)
    ·rw[if_pos ht];exact jv.off (jv.snoc (jv.mono NA λp xs e=>SO _ _ e) (aC eB (sB _ _ eA))) Fy (j6.upd _)
   ·refine#[_,_,_,_,fs,rfl,λx u n e=>FA _ _ (off x u n e),BM,?_];rw[if_neg (by rw[hf];exact yo),yB];exact jv.mono NA λp xs e=>FA _ _ e
  ·rintro σ H4 ⟨v3,v4,v5,v6,fs,rfl,off,Bz,NA⟩;rw[vM ek,yG] at NA;have Z4:Fz P w H4 cd ob kvs xs:=#[off _ _ cf Z.e,Z.hm,Z.kt.keeps λb ys e=>off _ _ (jq e Br) e,Z.dr,Z.hz];refine#[cd,ob,kvs,xs,Z4,hB v3 v4 v5 v6 fs _ #[λx u e=>?_,jw (yP cf) Bz,jv.mono NA λp xs e=>jw (jq e Z4.e) e]];by_cases h:x=cd
   ·subst h;rw[BD] at e;cases e;exact jb
   ·rw[jl h];exact off x u (ji e BC) (zs _ _ h (s1 _ _ e))
 rintro v3 v4 v5 v6 fs H2 ⟨s2,BH,NA⟩;exact#[_,rfl,q fa fs H2 s2 BC BH NA]
variable {P:Be}{w:World}{K:AQ}{mg:AT}{base:Heap}{t:Adr}
def t7:Sp:=λvs H Q _=>E5 λ(sz cd:Addr) (n:Nat) (kvs:jG) (dc:List jf)=>A7 (vs=[.ref sz,.ref cd,.int n]) (H cd=some (.dT kvs)) (kvs.map (·.1)=dc.map k3) (dc.length<=1000) (1<=n) (n<=3) (∀(r:Addr) (fs:AX) (H':Hp),jc H H'->H r=none->H' r=some (.lst (fs.map V.ref))->jv nO H' fs (UV dc dc (jx kvs) n)->Q (.ref r) H')
theorem kH (T:Txt K mg t):jR P w K mg base 1 "_law_squares" ["_law_size","_law_copper_here","_law_width"] t7:=by
 refine T.KW.ok ["_law_size","_law_copper_here","_law_width","_law_wide","_law_x","_law_y","_law_z","_law_square","_law_one"] ?_;rintro _ H Q E ⟨sz,cd,n,kvs,dc,rfl,BD,ek,ldc,n1,n3,q⟩;refine#[rfl,λBk A outer s hr=>#[_,(jh (jz 3 UY) (jh (kK (jS jH (zC rfl (pv 1)) (Vy (Jc (js 4) (Jc (js 5) (Jc (js 6) vy)))) (jh (aT 7 (own:=["_law_k"]) (vc (cl:=[("_law_z",_),("_law_y",_),("_law_x",_),("_law_width",_)])) (JV rfl T.Jv (ja (ju UQ (pv 2) (pv 2)) je)) (λ_ _ _ _ _=>js 9) (λ_ _ _ _ _=>vI) (λ_ _ _ _ _=>(jJ (ja (ju jP (pv 4) (ju Vh (pv 9) (pv 2))) (ja (ju jP (pv 5) (ju vD (pv 9) (pv 2))) (ja (pv 6) je)))))) (jj (jX (jQ (fL hr.units0) (zA (N0:=["_law_size","_law_copper_here","_law_width","_law_wide","_law_x","_law_y","_law_z","_law_square","._law_one"]) (own:=["_law_one"]) (vc (cl:=[("_law_copper_here",_)])) (jN (pv 7)) (λ_ _ _ _ _=>js 9) (λ_ _ _ _ _=>Uv (uh (gr (P:=P) (w:=w) rfl rfl (vA hr) (pv 9) (pv 1)))) (λ_ _ _ _ _=>(pv 9))) (j5 je)) (jj (jS jH (jN (pv 7)) (js 8) (jj (UA (pv 3) (pv 8) Uk)))) jL))))) (jj (jB (qu (JE (own:=["_law_cell_here"]) (vc (cl:=[("_law_wide",_)])) (zC rfl (pv 1)) (λ_ _ _ _ _=>js 9) (λ_ _ _ _ _=>Uv (uh (gr (P:=P) (w:=w) rfl rfl (vA hr) (pv 9) (pv 3)))) (λ_ _ _ _ _=>(jJ (ja vH (ja (pv 9) je)))))))))),?_]];refine uP (λ(wa:Addr)=>[oR sz,oR cd,oI n,oR wa,none,none,none,none,none]) (λwa H'=>A3 (jc H H') (H wa=none) (H' wa=some (.dT []))) (λB hB=>λwa hf=>hB wa _ #[jk (jc.refl H) hf,hf,jb]) ?_;rintro wa H1 ⟨s1,CT,ew⟩;refine Ua (λσ H'=>E6 λ(v4 v5 v6 v7 v8:Option V) (wt:jG)=>A4 (σ=[oR sz,oR cd,oI n,oR wa,v4,v5,v6,v7,v8]) (jc H H') (H' wa=some (.dT wt)) (∀e,(jM wt (k3 e)).isSome=VC dc (jx kvs) n e)) (λB' hB=>?_) ?_
 ·have Dm:=s1 _ _ BD;refine#[_,rfl,cd,kvs,rfl,Dm,λob xs hz hm kt dr=>?_];obtain⟨Z,zs,zn,zt⟩:=zl Dm hz hm kt dr;have cf:cd≠wa:=ji BD CT;have FC:=zs _ _ (yP cf) ew;generalize upd H1 cd (UC cd ob)=H3 at Z zs zn zt FC;refine gR Z (λi σ H'=>E6 λ(v4 v5 v6 v7 v8:Option V) (wt:jG)=>A5 (σ=[oR sz,oR cd,oI n,oR wa,v4,v5,v6,v7,v8]) (j6 wa H3 H') (H' wa=some (.dT wt)) (wt.length<=i*9) (∀e,(jM wt (k3 e)).isSome=VC (dc.take i) (jx kvs) n e)) #[_,_,_,_,_,[],rfl,j6.refl _ _,FC,yV _,λe=>rfl] (λi σ H' _ h=>by obtain⟨_,_,_,_,_,_,_,k,_⟩:=h;exact k _ _ cf Z.e) ?_ ?_
  ·rintro i kv p σ H4 Bv hp ⟨v4,v5,v6,v7,v8,wt,rfl,off,O0,lw,iw⟩;obtain⟨hi,e1⟩:=MT ek Bv;rw[e1] at hp;have BN:H4 p=some (.tup [.int dc[i].1,.int dc[i].2.1,.int dc[i].2.2]):=off _ _ (jq hp FC) hp;have tk:dc.take (i+1)=dc.take i++[dc[i]]:=by rw[y7,yc hi];rfl
   rw[tk];generalize dc[i]=cc at BN;have F₁:H4 cd=some (UC cd ob):=off _ _ cf Z.e;refine#[p,_,rfl,jD.of BN,rfl,_,_,rfl,_,_,rfl,_,_,rfl,rfl,?_];refine KA (λ(sq:Addr) (ps:AX)=>[oR sz,oR cd,oI n,oR wa,oI cc.1,oI cc.2.1,oI cc.2.2,oR sq,v8]) (λsq ps H'=>A4 (jc H4 H') (H4 sq=none) (H' sq=some (.lst (ps.map V.ref))) (jp H' ps (JM cc n))) (λB hB=>?_) ?_
   ·have nn:n*n<=9:=yQ n3 n3;have nz:(n:Int)*(n:Int)=((n*n:Nat):Int):=(Int.natCast_mul n n).symm;refine#[_,rfl,_,rfl,(n:Int),(n:Int),rfl,rfl,.inl #[by omega,by omega],(n:Int)*(n:Int),rfl,by omega,by omega,?_];rw[nz,Q0];refine vW (lo:=0) (n:=n*n) (λD k ys H'=>A5 (H4 D=none) (jc H4 H') (H' D=some (.lst ys)) (ys.length=k) (∃qs:List Addr,ys=qs.map V.ref/\jp H' qs (pA cc n k))) (yp nn (by decide)) (λD hD=>#[hD,jk (jc.refl _) hD,jb,rfl,[],rfl,#[rfl,(λi p c h=>nomatch h)]]) (λD k ys H' h_=>by obtain⟨_,_,e,l,_⟩:=h_;exact#[e,l]) ?_ ?_
    ·rintro D k ys H5 Qy Qn hk ⟨d1,d2,d3,d4,qs,rfl,C5⟩ hy;have e2:(0:Int)+(k:Int)=(k:Int):=by omega
     rw[e2];refine#[#[_,rfl,rfl],Ub #[_,rfl,_,rfl,_,rfl,(k:Int),(n:Int),rfl,rfl,#[by omega,by omega],cc.1,_,rfl,rfl,_,rfl,_,rfl,_,rfl,(k:Int),(n:Int),rfl,rfl,(show (0:Int)<n by omega),cc.2.1,_,rfl,rfl,_,rfl,Ul,λp4 BN=>?_]];have s5:=jk (o:=.tup [.int (cc.1+(k:Int) / (n:Int)),.int (cc.2.1+(k:Int) % (n:Int)),.int cc.2.2]) (jc.refl H5) BN;have BG:=s5 _ _ d3;refine hy _ _ BG #[d1,λx u e=>jw (ji e d1) (s5 _ _ (d2 _ _ e)),jb,by rw[ye,d4];rfl,qs++[p4],by rw[yn];rfl,?_];unfold pA;rw[Qe,yn];exact ((C5.same s5).snoc (c:=(cc.1+(k:Int) / (n:Int),cc.2.1+(k:Int) % (n:Int),cc.2.2)) jb).wr BG
    ·rintro D ys H5 hD ⟨d1,d2,d3,d4,qs,rfl,C5⟩;rw[wj cc n1 n3] at C5;exact hB D qs H5 #[d2,d1,d3,C5]
   rintro sq ps H5 ⟨s5,i₁,es,C5⟩;have ls:(JM cc n).length<=9:=by
    unfold JM;rw[kO];exact yQ n3 n3
   have WR:=s5 _ _ O0;have Z4:Fz P w H4 cd ob kvs xs:=#[F₁,Z.hm,Z.kt.keeps λb ys e=>off _ _ (jq e FC) e,Z.dr,Z.hz];refine#[_,rfl,sq,rfl,#[_,jo.of es],Kf (λe=>!jx kvs e) (yp ls (by decide)) es C5 (λr ee H' Qy Qn s' er hy hn=>?_) λD rs H6 s6 hD eD C6=>?_]
   ·have sA:=jc.trans s5 s';have Z':Fz P w H' cd ob kvs xs:=#[sA _ _ Z4.e,Z4.hm,Z4.kt.keeps λb ys e=>sA _ _ e,Z4.dr,Z4.hz];refine#[#[_,rfl,rfl],_,rfl,_,rfl,cd,_,rfl,UF.z (k:=k3 ee) Z' er,_,rfl,?_];refine UK (λht=>?_) λhf=>hn hf H' (jc.refl _);exact#[_,rfl,hy ht H' (jc.refl _)]
   refine#[zV,λp7 He=>?_];have s7:=jk (o:=.lst []) (jc.refl H6) He;have e7:upd H6 p7 (.lst []) p7=some (.lst []):=jb;generalize upd H6 p7 (.lst [])=H7 at s7 e7;have em:(rs.map V.ref).isEmpty=(JM cc n).all (jx kvs):=by
    have l:(rs.map V.ref).isEmpty=((JM cc n).filter λe=>!jx kvs e).isEmpty:=by
     have:=C6.1;cases rs with
     | nil=>cases h:(JM cc n).filter λe=>!jx kvs e with
      | nil=>rfl
      | cons a l=>rw[h] at this;cases this
     | cons r rs=>cases h:(JM cc n).filter λe=>!jx kvs e with
      | nil=>rw[h] at this;cases this
      | cons a l=>rfl
    rw[l,Zj];generalize JM cc n=L
    induction L with
    | nil=>rfl
    | cons a L ih=>rw[List.any_cons,List.all_cons,Bool.not_or,Bool.not_not,ih]
   refine#[D,p7,_,rfl,rfl,jo.of (s7 _ _ eD),jo.of e7,_,rfl,?_];rw[em];have FA:=jc.trans s5 (jc.trans s6 s7);have Fp:=FA _ _ O0;refine UK (λht=>?_) λhf=>?_
   ·have EE:=s7 _ _ (s6 _ _ es);have C5:=C5.same (jc.trans s6 s7);have RX:sq≠wa:=jq EE Fp;refine#[_,rfl,sq,rfl,#[_,jo.of EE],jY (xs:=ps.map V.ref) (λj σ H'=>E2 λ(v8:Option V) (Hf:jG)=>A5 (σ=[oR sz,oR cd,oI n,oR wa,oI cc.1,oI cc.2.1,oI cc.2.2,oR sq,v8]) (j6 wa H7 H') (H' wa=some (.dT Hf)) (Hf.length<=i*9+j) (∀e,(jM Hf (k3 e)).isSome=(VC (dc.take i) (jx kvs) n e||decide (e∈(JM cc n).take j)))) #[_,wt,rfl,j6.refl _ _,Fp,lw,λe=>by rw[iw e];simp] (λj σ H' _ h=>by obtain⟨_,_,_,k,_⟩:=h;exact jo.of (k _ _ RX EE)) ?_ ?_]
    ·rintro j v σ H8 hx ⟨Hm,Hg,rfl,Bp,Dk,LO,BR⟩;rw[yj] at hx;obtain⟨r,f1,rfl⟩:=yl.mp hx;have hj:j<(JM cc n).length:=by rw[<-C5.1];exact (yi.mp f1).1
     have f2:=yc hj;have er:=C5.2 j r _ f1 f2;have F9:(JM cc n).take (j+1)=(JM cc n).take j++[(JM cc n)[j]]:=by rw[y7,f2];rfl
     rw[F9];generalize (JM cc n)[j]=ee at er;have Ip:=Bp _ _ (jq er Fp) er;refine#[_,rfl,_,rfl,wa,_,rfl,vn.t (k:=k3 ee) Dk Ip (yL (show _<=60000 by omega) (by decide)),?_];refine#[_,_,rfl,λx u n e=>jw n (Bp x u n e),jb,by have:=u6 Hg (k3 ee) (.bl true);omega,λe=>?_];rw[VA];by_cases Hh:e=ee
     ·subst Hh;rw[if_pos rfl];simp
     ·rw[if_neg (λz=>Hh (uv z)),BR e];simp [Hh]
    ·rintro σ H8 ⟨Hm,Hg,rfl,Bp,Dk,LO,BR⟩;rw[yb,C5.1] at LO BR;rw[yG] at BR;refine#[_,_,_,_,_,Hg,rfl,λx u n e=>Bp x u n (FA _ _ (off x u n e)),Dk,by omega,λe=>?_];rw[BR e,zh,ht,QI]
   ·refine#[_,_,_,_,_,wt,rfl,λx u n e=>FA _ _ (off x u n e),Fp,by omega,λe=>?_];rw[iw e,zh,hf,QJ,Bool.or_false]
  ·rintro σ H4 ⟨v4,v5,v6,v7,v8,wt,rfl,off,O0,lw,iw⟩;rw[vM ek,yG] at iw;have Z4:Fz P w H4 cd ob kvs xs:=#[off _ _ cf Z.e,Z.hm,Z.kt.keeps λb ys e=>off _ _ (jq e FC) e,Z.dr,Z.hz];refine#[cd,ob,kvs,xs,Z4,hB _ _ #[v4,v5,v6,v7,v8,wt,rfl,λx u e=>?_,jw (yP cf) O0,iw]];by_cases h:x=cd
   ·subst h;rw[BD] at e;cases e;exact jb
   ·rw[jl h];exact off x u (ji e CT) (zs _ _ h (s1 _ _ e))
 rintro σ H2 ⟨v4,v5,v6,v7,v8,wt,rfl,s2,ew2,iw⟩;have Oe:=s2 _ _ BD;refine#[_,rfl,cd,kvs,rfl,Oe,λob xs hz hm kt dr=>?_];obtain⟨Z,zs,zn,zt⟩:=zl Oe hz hm kt dr;have cf:cd≠wa:=ji BD CT;have FC:=zs _ _ (yP cf) ew2;generalize upd H2 cd (UC cd ob)=H3 at Z zs zn zt FC;refine bO Z ek (λe=>!VC dc (jx kvs) n e) Ng (λr cc H4 Qy Qn s4 er hy hn=>?_) λD rs H4 s4 hD eD NA=>?_
 ·refine#[#[_,rfl,rfl],_,rfl,_,rfl,wa,_,rfl,UF.t (k:=k3 cc) (s4 _ _ FC) er,_,rfl,?_];rw[iw cc];refine UK (λht=>?_) λhf=>hn hf H4 (jc.refl _);refine#[_,rfl,V9,λp hp=>?_];have s5:=jk (o:=.tup [.str "width",.ref r]) (jc.refl H4) hp;exact hy ht _ p s5 (ix jb (s5 _ _ er))
 ·have Z4:Fz P w H4 cd ob kvs xs:=#[s4 _ _ Z.e,Z.hm,Z.kt.keeps λb ys e=>s4 _ _ e,Z.dr,Z.hz];have cD:cd≠D:=ji Z.e hD;exact#[cd,ob,kvs,xs,Z4.e,Z4.hm,Z4.kt,Z4.dr,Z4.hz,q D rs _ (jc.trans s2 (zt _ s4)) (none_of s2 (zn _ hD)) (jw (yP cD) eD) (jv.mono NA λp xs e=>jw (jq e Z4.e) e)]
variable {P:Be}{w:World}{K:AQ}{mg:AT}{base:Heap}{t:Adr}
structure LL (H:Hp) (sz ca b:Addr) (wd hg l:Nat) (pc qs:AX) (cl cells:List jf) (hl:AS) (N:jf->List jf):Prop where
 sz:H sz=some (.tup [.int wd,.int hg,.int l])
 ca:H ca=some (.lst (pc.map V.ref))
 c:jp H pc cl
 b:H b=some (.lst (qs.map V.ref))
 q:j9 H qs hl
 pm:cl.Perm cells
 nd:cells.Nodup
 up:(cells.map k3).Pairwise λa b=>lx b a=false
 len:cells.length<=1000
 lenh:hl.length<=1000
 l3:l<=3
 nb:Nb N cells
 near:∀c∈cells,∀e,e∈N c↔(e∈UI c\/((c.1,c.2.1)∈hl/\e∈JD c 3))/\e∈cells
theorem LL.same {H':Hp}{sz ca b:Addr}{wd hg l:Nat}{pc:AX}{cells:List jf} (X:LL H sz ca b wd hg l pc qs cl cells hl N) (s:jc H H'):LL H' sz ca b wd hg l pc qs cl cells hl N :=
 #[s _ _ X.sz,s _ _ X.ca,X.c.same s,s _ _ X.b,X.q.same s,X.pm,X.nd,X.up,X.len,X.lenh,X.l3,X.nb,X.near]
structure z8 (H:Hp) (to kl:Addr) (g n rm:Nat) (ps:AX) (ks:List K5):Prop where
 o:H to=some (.lst [.int g,.int n,.int rm,.ref kl])
 k:H kl=some (.lst (ps.map V.ref))
 kk:JK H ps ks
 b:g<=2/\1<=n/\n<=3/\rm<=1/\ks.length<=12
theorem z8.same {H':Hp} (X:z8 H to kl g n rm ps ks) (s:jc H H'):z8 H' to kl g n rm ps ks:=#[s _ _ X.o,s _ _ X.k,X.kk.same s,X.b]
def uo (cl:List jf):jG:=cl.map λc=>(k3 c,.bl true)
theorem Vz (cl:List jf):(uo cl).map (·.1)=cl.map k3:=by unfold uo;rw[Qr];rfl
theorem Kg {cells:List jf} (pm:cl.Perm cells):jx (uo cl)=λe=>decide (e∈cells):=by
 funext e;unfold jx;rw[yR,vz,Vz,decide_eq_true_iff,<-pm.mem_iff];constructor
 ·intro h;obtain⟨d,hd,q⟩:=yf.mp h;rw[<-uv q];exact hd
 ·exact λh=>yf.mpr #[e,h,rfl]
theorem iH {α:Type}{l m:List α} (pm:l.Perm m) (p:α->Bool):l.any p=m.any p:=by
 rw[yR,Q2,Q2];exact#[λ⟨x,h,e⟩=>#[x,pm.mem_iff.mp h,e],λ⟨x,h,e⟩=>#[x,pm.mem_iff.mpr h,e]]
theorem NM {cells:List jf} (pm:cl.Perm cells) (ks:List K5):(JT cl ks).Perm (JT cells ks):=(pm.filter _).map _
theorem dk {cells:List jf} (pm:cl.Perm cells) (cop:jf->Bool) (n:Nat):(UV cl cl cop n).Perm (UV cells cells cop n):=by
 have:VC cl cop n=VC cells cop n:=funext λe=>iH pm _;unfold UV;rw[this];exact (pm.filter _).map _
theorem xc {α:Type}{a b c d b' d':List α} (pb:b'.Perm b) (pd:d'.Perm d):(((a++d')++c)++b').Perm (((a++b)++c)++d):=by
 have h1:(((a++d')++c)++b').Perm (((a++d)++c)++b):=((pd.append_left a).append_right c).append pb;refine h1.trans ?_;rw[yt,yt,yt,yt];refine List.Perm.append_left a ?_;rw[<-yt,<-yt];refine (QW (l₁:=d++c) (l₂:=b)).trans ?_;rw[yt];exact List.Perm.append_left b QW
theorem zN {j:Int} (v:V) (e:jo K H p xs) (q:Q v H) (e0:σ[i]?=some (oR p):=by rfl) (a:ga xs j=some v:=by first|rfl|exact vp rfl):bi (tM K) (kT i) (tC (.int j)) σ H Q:=#[_,e0,p,xs,j,v,rfl,rfl,e,a,q]
def cY:Sp:=λvs H Q _=>xz λ(sz ca b to kl:Addr) (wd hg l g n rm:Nat) (pc qs ps:AX) (cl cells:List jf) (hl:AS) (ks:List K5) (N:jf->List jf)=>A4 (vs=[.ref sz,.ref ca,.ref b,.ref to]) (LL H sz ca b wd hg l pc qs cl cells hl N) (z8 H to kl g n rm ps ks) (∀(r:Addr) (fs:AX) (bk:List Nk) (H':Hp),jc H H'->H r=none->H' r=some (.lst (fs.map V.ref))->jv nO H' fs bk->bk.Perm (bL cells hl (fG N cells) (λe=>decide (e∈cells)) l g n rm ks)->(bk.Pairwise λa b=>JC gl b a=false)->Q (.ref r) H')
theorem cO (T:Txt K mg t):jR P w K mg base 4 "_law_due" ["_law_size","_law_copper_here","_law_holes_here","_law_told"] cY:=by
 refine T.dy.ok ["_law_size","_law_copper_here","_law_holes_here","_law_told","_law_cells","_law_found"] ?_;rintro _ H Q E ⟨sz,ca,b,to,kl,wd,hg,l,g,n,rm,pc,qs,ps,cl,cells,hl,ks,N,rfl,X,Y,q⟩;refine#[rfl,λBk A outer s hr=>#[_,(jh (jz 4 (vG (bM rfl hr.units) (by rfl) T.tw rP (ja (JE (own:=["_law_cell_here"]) (vc (cl:=[])) (jN (pv 1)) (λ_ _ _ _ _=>js 6) (λ_ _ _ _ _=>vI) (λ_ _ _ _ _=>(jJ (ja (pv 6) (ja Uk je))))) je))) (jh (jz 5 (ju Vu (jm (NS T) (ja (pv 4) (ja (pv 2) (ja (jt jU (pv 3) jg) je)))) (jm (kH T) (ja (pv 0) (ja (pv 4) (ja (jt jU (pv 3) jg) je)))))) (jj (jB (jT (Ze (O:=JG uw) (hd:=VO uw) hr.units (by decide)) (by rfl) T.uG uD (ja (ju Vu (ju Vu (pv 5) (jm (NV T) (ja (pv 0) (ja (pv 4) (ja (pv 2) (ja (jt jU (pv 3) jg) je)))))) (jm (NT T) (ja (pv 4) (ja (jt jU (pv 3) jg) je)))) je)))))),?_]];have LX:=X.pm.length_eq;have lcs:=X.len;refine uP (λ(cd:Addr)=>[oR sz,oR ca,oR b,oR to,oR cd,none]) (λcd H'=>A3 (jc H H') (H cd=none) (H' cd=some (.dT (uo cl)))) (λB hB=>?_) ?_
 ·refine#[_,rfl,ca,rfl,#[_,jo.of X.ca],vB (xs:=pc.map V.ref) (λD i ys H'=>A5 (H D=none) (jc H H') (H' D=some (.lst ys)) (ys.length=i) (∃rs:List Addr,ys=rs.map V.ref/\∀(j:Nat) (q b:Addr),rs[j]?=some q->pc[j]?=some b->H' q=some (.tup [.ref b,.bl true]))) (by rw[yb,X.c.1];exact yp (show _<=1000 by omega) (by decide)) (λD hD=>#[hD,jk (jc.refl _) hD,jb,rfl,[],rfl,λj q b h=>nomatch h]) (λD i ys H' hv=>#[hv.3,Nat.le_of_eq hv.4,jo.of (hv.2 _ _ X.ca)]) ?_ ?_]
  ·rintro D i v ys H' Qy Qn hx ⟨d1,d2,d3,d4,rs,rfl,C'⟩ hy hn;rw[yj] at hx;obtain⟨r,Ed,rfl⟩:=yl.mp hx;refine#[#[_,rfl,rfl],Ub #[_,rfl,V9,λp4 BN=>?_]];have s5:=jk (o:=.tup [.ref r,.bl true]) (jc.refl H') BN;have e5:upd H' p4 (.tup [.ref r,.bl true]) p4=some (.tup [.ref r,.bl true]):=jb;have BG:=s5 _ _ d3;refine hy _ _ BG #[d1,λx u e=>jw (ji e d1) (s5 _ _ (d2 _ _ e)),jb,by rw[ye,d4];rfl,rs++[p4],by rw[yn];rfl,λj q b h1 h2=>?_];rw[yb] at d4;by_cases hj:j<rs.length
   ·rw[yK hj] at h1;have:=s5 _ _ (C' j q b h1 h2);rw[jl (jq this BG)];exact this
   ·rw[yS (by omega)] at h1;have:j - rs.length=0:=by
     cases hh:j - rs.length with
     | zero=>rfl
     | succ n=>rw[hh] at h1;cases h1
    rw[this] at h1;cases h1;obtain rfl:j=i:=by omega
    rw[Ed] at h2;cases h2;rw[jl (jq e5 BG)];exact e5
  ·rintro D ys H2 hD ⟨d1,d2,d3,d4,rs,rfl,C2⟩;rw[yb,yb] at d4;have l2:(uo cl).length=cl.length:=by unfold uo;rw[yb]
   refine#[D,rs,pc,uo cl,rfl,d3,by rw[l2,d4,X.c.1],by rw[l2,X.c.1],λi q b kv h1 h2 h3=>?_,?_,λl hl=>hB l _ #[jc.trans d2 (jk (jc.refl _) hl),none_of d2 hl,jb]]
   ·unfold uo at h3;rw[yj] at h3;obtain⟨c,h4,rfl⟩:=yl.mp h3;exact#[C2 i q b h1 h2,d2 _ _ (X.c.2 i b c h2 h4)]
   ·rw[Vz];exact Qo.mpr ((X.pm.nodup_iff.mpr X.nd).imp λh z=>h (uv z))
 rintro cd H1 ⟨s1,BD,ed⟩;refine KA (λ(fo:Addr) (fs:AX)=>[oR sz,oR ca,oR b,oR to,oR cd,oR fo]) (λfo fs H'=>A3 (jc H1 H') (H' fo=some (.lst (fs.map V.ref))) (jv nO H' fs (Jo cells g (fG N cells)++UV cl cl (jx (uo cl)) n))) (λB hB=>?_) ?_
 ·have X1:=X.same s1;have Y1:=Y.same s1;have cE:=Kg X.pm
  have D1:LD H1 cd b (uo cl) qs hl cells N:=#[ed,X1.b,X1.q,by rw[Vz];exact X.pm.map k3,X.nd,X.up,X.len,X.nb,λc hc e=>by
   have:=congrFun cE e;unfold jx at this;rw[this,decide_eq_true_iff];exact X.near c hc e]
  refine#[_,rfl,_,rfl,zN (.int g) (jo.of Y1.o) #[cd,b,g,uo cl,qs,hl,cells,N,rfl,D1,Y.b.1,λra fa Ha sa F₂ era IA=>?_]];have Ya:=Y1.same sa;refine#[_,rfl,_,rfl,zN (.int n) (jo.of Ya.o) #[sz,cd,n,uo cl,cl,rfl,sa _ _ ed,Vz cl,by omega,Y.b.2.1,Y.b.2.2.1,λrb fb Hb sb hrb H₁ WS=>?_]];refine#[ra,rb,_,_,rfl,rfl,sb _ _ era,H₁,?_,λp hp=>hB p (fa++fb) _ #[jc.trans sa (jc.trans sb (jk (jc.refl _) hp)),by rw[jb,yn],?_]]
  ·rw[yb,yb,jv.len IA,jv.len WS];have:=U2 Y.b.1 (fG N cells) cells;have:=ZI cl cl (jx (uo cl)) n;exact yp (show _<=60000 by omega) (by decide)
  ·exact jv.mono (jv.app (jv.mono IA λp xs e=>sb _ _ e) WS) λp xs e=>jk (jc.refl _) hp _ _ e
 rintro fo fs H2 ⟨s2,ef,NA⟩;have Fe:=jc.trans s1 s2;have X2:=X.same Fe;have Y2:=Y.same Fe;have cE:=Kg X.pm;have o₂:(Jg hl l rm (jx (uo cl))).length<=75000:=by
  have lr:=U7 (L:=l) (show rm<=2 by have:=Y.b.2.2.2.1;omega) (jx (uo cl)) hl;exact yp lr (yp (yQ X.lenh (show l*25<=75 by have:=X.l3;omega)) (by decide))
 have lg:=U2 Y.b.1 (fG N cells) cells;have lw:=ZI cl cl (jx (uo cl)) n;refine#[_,rfl,_,rfl,_,rfl,_,rfl,zN (.int rm) (jo.of Y2.o) #[sz,cd,b,wd,hg,l,rm,uo cl,qs,hl,rfl,X2.sz,s2 _ _ ed,X2.b,X2.q,X.lenh,X.l3,by have:=Y.b.2.2.2.1;omega,λra fa Ha sa F₂ era IA=>?_]];refine#[fo,ra,_,_,rfl,rfl,sa _ _ ef,era,?_,λpa Hx=>?_]
 ·rw[yb,yb,jv.len IA,jv.len NA,ye];exact yp (show _<=150000 by omega) (by decide)
 have sb:=jk (o:=.lst (fs.map V.ref++fa.map V.ref)) (jc.refl Ha) Hx;have eb:upd Ha pa (.lst (fs.map V.ref++fa.map V.ref)) pa=some (.lst (fs.map V.ref++fa.map V.ref)):=jb;generalize upd Ha pa (.lst (fs.map V.ref++fa.map V.ref))=Hb at sb eb;have WT:=jc.trans sa sb;have Yb:=Y2.same WT;refine#[_,rfl,zN (.ref kl) (jo.of Yb.o) #[cd,kl,uo cl,cl,ps,ks,rfl,WT _ _ (s2 _ _ ed),Vz cl,by omega,Yb.k,Yb.kk,Y.b.2.2.2.2,λrc fc Hc sc hrc H₂ WU=>?_]];have lk:=ve cl ks;refine#[pa,rc,_,_,rfl,rfl,sc _ _ eb,H₂,?_,λpd O1=>?_]
 ·rw[ye,yb,yb,yb,jv.len IA,jv.len NA,jv.len WU,ye];exact yp (show _<=160000 by omega) (by decide)
 have sd:=jk (o:=.lst ((fs.map V.ref++fa.map V.ref)++fc.map V.ref)) (jc.refl Hc) O1;have e4:upd Hc pd (.lst ((fs.map V.ref++fa.map V.ref)++fc.map V.ref)) pd=some (.lst (((fs++fa)++fc).map V.ref)):=by rw[jb,yn,yn]
 generalize upd Hc pd (.lst ((fs.map V.ref++fa.map V.ref)++fc.map V.ref))=H4 at sd e4;have SQ:=jc.trans sb (jc.trans sc sd);have Cg:jv nO H4 ((fs++fa)++fc) (((Jo cells g (fG N cells)++UV cl cl (jx (uo cl)) n)++Jg hl l rm (jx (uo cl)))++JT cl ks):=jv.app (jv.app (jv.mono NA λp xs e=>SQ _ _ (sa _ _ e)) (jv.mono IA λp xs e=>SQ _ _ e)) (jv.mono WU λp xs e=>sd _ _ e);have aB:=lv (Zl (cl:=cells) (g:=g) (f:=fG N cells)) (ZH (cl:=cl) (cells:=cl) (cop:=jx (uo cl)) (n:=n)) (ZD (hl:=hl) (L:=l) (rm:=rm) (cop:=jx (uo cl))) (zp (cl:=cl) (ks:=ks));refine#[pd,_,_,false,rfl,e4,Cg,λk hk=>av (aB k hk),λa ha b hb=>ag (aB a ha) (aB b hb),λr BQ Bm LU EG RZ R0=>?_];have s5:=jk (o:=.lst (BQ.map V.ref)) (jc.refl H4) LU;have DQ:=jc.trans Fe (jc.trans sa SQ);refine q r BQ Bm _ (jc.trans DQ s5) (none_of DQ LU) jb (jv.mono EG λp xs e=>s5 _ _ e) (RZ.trans ?_) R0;rw[cE];exact xc (NM X.pm ks) (dk X.pm _ n)
variable {P:Be}{w:World}{K:AQ}{mg:AT}{base:Heap}{t:Adr}
theorem Zf {O:Od} (h:∀a,O.cmp a a):∀l,uM O l l
 | []=>trivial
 | a::l=>#[h a,λ_=>Zf h l]
theorem Mo:∀a,(JG gl).cmp a a:=λa=>Zf (O:=gl) (λx=>by
 cases x with
 | inl k=>exact (rfl:k.isLeft=k.isLeft)
 | inr l=>exact Zf (O:=uw) (λ_=>rfl) l) a
theorem sk {k:Nk} (h:Vq k) (v:nO.V_ H (.ref p) k):∃(s:Str) (q:Addr) (rest ys:List V),H p=some (.tup (.str s::.ref q::rest))/\H q=some (.tup ys):=by
 obtain⟨p',vs,e,hp,pr⟩:=v;cases e;have key:∀(s:Str) (l:List Key) (r:Nk),k=.inl (.inr s)::.inr l::r->∃(s:Str) (q:Addr) (rest ys:List V),H p=some (.tup (.str s::.ref q::rest))/\H q=some (.tup ys):=λs l r e=>by
  subst e;cases pr with
  | cons r1 t1 =>
   cases t1 with
   | cons r2 t2 =>
    obtain⟨q,ys,e2,hq,_⟩:=r2;have r1:_=V.str s:=r1;subst r1;subst e2;exact#[s,q,_,ys,hp,hq]
 rcases h with ⟨p,rfl⟩|⟨p,rfl⟩|⟨p,rfl⟩|⟨p,rfl⟩<;>exact key _ _ _ rfl
def kN (K:AQ) (t:Adr):Sp:=λvs H Q _=>xA λ(o dx c d ru B8 kp da:Addr) (w h l g n rm:Nat) (cs ds:jG) (ps ws:AX) (kv:V) (ks:List K5) (bd:List Nk)=>rj (vs=[.ref o,.ref ru,.ref da]) (Bd t.jr H o dx c d w h l cs ds) (l<=3) (cs.length<=1000) (ds.length<=1000) (Vj K t.Jk H ru B8 kp ps g n rm kv ks) (H da=some (.lst (ws.map V.ref))) (jv nO H ws bd) (bd.Pairwise λa b=>JC gl b a=false) (∀k∈bd,Vq k) (∀(cells:List jf) (hl:AS),CL cs w h l cells->(hl.map k2).Perm (ds.map (·.1))->bd.Perm (bL cells hl (fG (Jh cs ds w h l) cells) (jx cs) l g n rm ks)) (∀H',jc H H'->Q (.bl true) H')
theorem ni (T:Txt K mg t):jR P w K mg base 11 "_law_right" ["_law_board_here","_law_rules","_law_due_here"] (kN K t):=by
 refine T.No.ok ["_law_board_here","_law_rules","_law_due_here","_law_found","_law_one"] ?_;rintro _ H Q E ⟨o,dx,c,d,ru,B8,kp,da,wd,hg,l,g,n,rm,cs,ds,ps,ws,kv,ks,bd,rfl,B,l3,lc,ld,R,WV,NW,up,bB,WW,q⟩;refine#[rfl,λBk A outer s hr=>#[_,(jh (jz 3 (jm (fF T) (ja (pv 0) (ja (pv 1) je)))) (jh (jX (UU (JF (Jr (jT Uq (by rfl) T.JU JQ (ja (pv 3) (ja (U6 (v:=.ty "list") (by rfl) T.M2 Mh rfl) je))))) (US (jQ (fN (JG gl) hr.units (by decide) Mo) (pv 3) (pv 2)))).pt (jj (jB Uk)) jL) (jh (jS jH (jN (pv 3)) (js 4) (jj (jX (UU (JF (Jr (jT Uq (by rfl) T.JU JQ (ja (pv 4) (ja (U6 (v:=.ty "tuple") (by rfl) T.Vg Ve rfl) je))))) (US (JF (Jr (jT Uq (by rfl) T.JU JQ (ja (jt jy (pv 4) jg) (ja (U6 (v:=.ty "tuple") (by rfl) T.Vg Ve rfl) je))))))).pt (jj (jB Uk)) jL))) (jh (jE (fQ PySem.F.plainAttrs_list PySem.F.slot_list_clear PySem.F.type_list_clear lA (pv 3))) (jj (jB (kJ (fJ (JG gl) hr.units (by decide) Mo) (jm (fF T) (ja (pv 0) (ja (pv 1) je))) (pv 2)))))))),?_]];refine KA (λ(fa:Addr) (fs:AX)=>[oR o,oR ru,oR da,oR fa,none]) (λfa fs H'=>A4 (jc H H') (H fa=none) (H' fa=some (.lst (fs.map V.ref))) (jv nO H' fs bd)) (λB' hB=>#[_,rfl,_,rfl,o,dx,c,d,ru,B8,kp,wd,hg,l,g,n,rm,cs,ds,ps,kv,ks,rfl,B,l3,lc,ld,R,λcells hl r fs bk H' L EF s' hr er NA pm Dx=>hB r fs _ #[s',hr,er,by rw[G3 (M:=nO) ((WW cells hl L EF).trans pm.symm) up Dx];exact NA]]) ?_;rintro fa fs H1 ⟨s1,BC,ef,NA⟩;refine vV [oR o,oR ru,oR da,oR fa,none] (λH'=>H'=H1) (λB' hB=>?_) ?_
 ·refine#[_,rfl,.ref fa,.ty "list",_,_,true,rfl,.lst ef,.ty _,by kernel_rfl,true,rfl,JB ?_];exact#[_,rfl,_,rfl,fa,da,fs,ws,bd,rfl,rfl,jo.of ef,jo.of (s1 _ _ WV),NA,jv.mono NW λp xs e=>s1 _ _ e,_,rfl,JB (hB _ rfl)]
 rintro H2 rfl;refine uP (λ(v4:Option V)=>[oR o,oR ru,oR da,oR fa,v4]) (λ_ H'=>H'=H2) (λB' hB=>?_) ?_
 ·refine#[_,rfl,fa,rfl,#[_,jo.of ef],jY (xs:=fs.map V.ref) (λi σ H'=>∃(v4:Option V),σ=[oR o,oR ru,oR da,oR fa,v4]/\H'=H2) #[_,rfl,rfl] (λi σ H' _ h=>by obtain⟨_,_,rfl⟩:=h;exact jo.of ef) ?_ ?_]
  ·rintro i v σ H3 hx ⟨v4,rfl,rfl⟩;obtain⟨p,hp,rfl⟩:=yf.mp (yT hx);obtain⟨k,hk,vk⟩:=VP NA hp;obtain⟨s,q1,rest,ys,e1,e2⟩:=sk (bB k hk) vk;refine#[_,rfl,.ref p,.ty "tuple",_,_,true,rfl,.tup e1,.ty _,by kernel_rfl,true,rfl,JB ?_];refine Jz (.ref q1) (jD.of e1) #[.ref q1,.ty "tuple",_,_,true,rfl,.tup e2,.ty _,by kernel_rfl,true,rfl,JB #[_,rfl,rfl]]
  ·rintro σ H3 ⟨v4,rfl,rfl⟩;exact hB v4 _ rfl
 rintro v4 H3 rfl;refine vV [oR o,oR ru,oR da,oR fa,v4] (λH'=>jc H H') (λB' hB=>#[_,rfl,.inl #[rfl,_,jo.of ef],fa,_,rfl,rfl,ef,hB _ λx u e=>jw (ji e BC) (s1 _ _ e)]) ?_;rintro H4 s4;refine#[_,rfl,_,rfl,o,dx,c,d,ru,B8,kp,wd,hg,l,g,n,rm,cs,ds,ps,kv,ks,rfl,B.same s4,l3,lc,ld,R.same s4,λcells hl r fr bk H5 L EF s5 hr er EG pm Dx=>?_];have eb:bd=bk:=G3 (M:=nO) ((WW cells hl L EF).trans pm.symm) up Dx;subst eb;have SR:=jc.trans s4 s5;exact#[_,rfl,r,da,fr,ws,bd,rfl,rfl,jo.of er,jo.of (SR _ _ WV),EG,jv.mono NW λp xs e=>SR _ _ e,q _ SR]
variable {P:Be}{w:World}{K:AQ}{mg:AT}{base:Heap}{t:Adr}
def GK (k:K5):Prop:=(0<=k.1/\k.1<UL)/\(0<=k.2.1/\k.2.1<UL)/\(1<=k.2.2.1/\k.2.2.1<UL)/\(1<=k.2.2.2.1/\k.2.2.2.1<UL)/\(0<=k.2.2.2.2/\k.2.2.2.2<UL)
theorem JK.snoc {k:K5} (C:JK H ps ks) (hp:H p=some (.tup (U3 k))):JK H (ps++[p]) (ks++[k]):=by
 have l:=C.len;refine#[by rw[ye,yb,ye,l];rfl,λi q xs h1 h2=>?_];rw[yn] at h2;by_cases hi:i<ps.length
 ·rw[yK hi] at h1;rw[yK (by rw[yb,<-l];exact hi)] at h2;exact C.2 i q xs h1 h2
 ·rw[yS (by omega)] at h1;rw[yS (by rw[yb,<-l];omega),yb,<-l] at h2;have:i - ps.length=0:=by
   cases hh:i - ps.length with
   | zero=>rfl
   | succ n=>rw[hh] at h1;cases h1
  rw[this] at h1 h2;cases h1;cases h2;exact hp
theorem JK.kp {a:Addr}{H':Hp} (C:JK H ps ks) (ha:H a=some (.lst ys)) (k:Js a H H'):JK H' ps ks:=#[C.1,λi p xs h1 h2=>k _ _ (jq (C.2 i p xs h1 h2) ha) (C.2 i p xs h1 h2)]
def rp:Int:=1000000000000000000000000000000000000000
theorem xI:(10:Int)^(39:Int).toNat=rp:=by decide
def K4 (xs:List V):Prop:=∃x y ww hh:Int,xs=[.int x,.int y,.int ww,.int hh]/\(0<=x/\x<UL)/\(0<=y/\y<UL)/\(1<=ww/\ww<UL)/\(1<=hh/\hh<UL)
theorem K4.set {x y ww hh at_ r:Int} (x0:0<=x) (x8:x<10) (y0:0<=y) (y8:y<10) (w0:1<=ww) (w9:ww<10) (h0:1<=hh) (h9:hh<10) (a0:0<=at_) (a4:at_<4) (r0:0<=r) (r9:r<9) :
  ∃(v:Int) (j:Nat),ga [V.int x,.int y,.int ww,.int hh] at_=some (.int v)/\Kq 4 at_=some j/\K4 ([V.int x,.int y,.int ww,.int hh].set j (.int (v+rp - r))):=by
 have hE:rp=1000000000000000000000000000000000000000:=rfl;have hB:UL=10000000000000000000000000000000000000000:=rfl;have:at_=0\/at_=1\/at_=2\/at_=3:=by omega
 rcases this with rfl|rfl|rfl|rfl
 ·exact#[x,0,rfl,rfl,_,_,_,_,rfl,by omega,by omega,by omega,by omega]
 ·exact#[y,1,rfl,rfl,_,_,_,_,rfl,by omega,by omega,by omega,by omega]
 ·exact#[ww,2,rfl,rfl,_,_,_,_,rfl,by omega,by omega,by omega,by omega]
 ·exact#[hh,3,rfl,rfl,_,_,_,_,rfl,by omega,by omega,by omega,by omega]
def oo:Sp:=λvs H Q _=>∃(a:Addr),A3 (vs=[.ref a]) (Ja H a) (∀D ps ks H',Js a H H'->Ja H' a->H D=none->H' D=some (.lst (ps.map V.ref))->JK H' ps ks->(∀k∈ks,GK k)->ks.length<=12->Q (.ref D) H')
theorem ng (T:Txt K mg t):jR P w K mg base 4 "_law_keeps" ["_law_well_here"] oo:=by
 refine T.Nm.ok ["_law_well_here","_law_found","_law_k","_law_keep","_law_at"] ?_;rintro _ H Q E ⟨a,rfl,W,q⟩;refine#[rfl,λBk A outer s hr=>#[_,(jh (jz 1 (j5 je)) (jh (jS jH (JV rfl T.Jv (ja (jt jU (j5 (ja (jm (UP T) (ja (pv 0) (ja jg je))) (ja jg je))) (ju Vh (jm (UP T) (ja (pv 0) (ja jg je))) jg)) je)) (js 2) (jh (jz 3 (j5 (ja (jm (UP T) (ja (pv 0) (ja jg je))) (ja (jm (UP T) (ja (pv 0) (ja jg je))) (ja (ju jP jg (jm (UP T) (ja (pv 0) (ja jg je)))) (ja (ju jP jg (jm (UP T) (ja (pv 0) (ja jg je)))) je)))))) (jh (jX (jQ GT (jm (UP T) (ja (pv 0) (ja jg je))) jg) (jh (jz 4 (jm (UP T) (ja (pv 0) (ja jg je)))) (jj (GX (ju uA (ju jP (jt jU (pv 3) (pv 4)) (ju fP jg jg)) (jm (UP T) (ja (pv 0) (ja jg je)))) (nF (pv 3) (pv 4) gY)))) jL) (jj (jE (JO PySem.F.plainAttrs_list PySem.F.slot_list_append PySem.F.type_list_append JH (pv 1) (ja (vG zM (by rfl) T.Vg Ve (ja (ju Vu (pv 3) (j5 (ja (jm (UP T) (ja (pv 0) (ja jg je))) je))) je)) je))))))) (jj (jB (pv 1))))),?_]];refine uP (λ(fa:Addr)=>[oR a,oR fa,none,none,none]) (λfa H'=>A4 (jc H H') (H fa=none) (H' fa=some (.lst [])) (Ja H' a)) (λB hB=>#[zV,λfa hf=>hB fa _ #[jk (jc.refl H) hf,hf,jb,W.new hf]]) ?_;rintro fa H1 ⟨s1,BC,ef,W1⟩;have af:fa≠a:=λz=>by have:=W.ne BC;exact this z.symm
 refine Ua (λσ H'=>E5 λ(v2 v3 v4:Option V) (ps:AX) (ks:List K5)=>A7 (σ=[oR a,oR fa,v2,v3,v4]) (Js a H H') (Ja H' a) (H' fa=some (.lst (ps.map V.ref))) (JK H' ps ks) (∀k∈ks,GK k) (ks.length<=12)) (λB' hB=>?_) ?_
 ·refine#[_,rfl,a,7,rfl,W1,by decide,by decide,λr1 H2 a1 b1 W2 k2=>#[V9,λp2 BV=>?_]];have s3:=jk (o:=.lst [.int r1,.int 12]) (jc.refl H2) BV;have e3:upd H2 p2 (.lst [.int r1,.int 12]) p2=some (.lst [.int r1,.int 12]):=jb;have W3:Ja (upd H2 p2 (.lst [.int r1,.int 12])) a:=W2.new BV;have pa:p2≠a:=λz=>W2.ne BV z.symm;generalize upd H2 p2 (.lst [.int r1,.int 12])=H3 at s3 e3 W3;refine#[_,rfl,a,8,rfl,W3,by decide,by decide,λr2 H4 a2 b2 W4 k4=>?_];have e4:=k4 _ _ pa e3;obtain⟨m,hm,m0,m12⟩:∃m:Int,ga [V.int r1,.int 12] (r2 / 7)=some (.int m)/\0<=m/\m<=12:=by
   have:r2 / 7=0\/r2 / 7=1:=by omega
   rcases this with h|h
   ·exact#[r1,by rw[h];rfl,by omega,by omega]
   ·exact#[12,by rw[h];rfl,by omega,by omega]
  have Bz:H4 fa=some (.lst []):=k4 _ _ af (s3 _ _ (k2 _ _ af ef));have I₁:Js a H H4:=((jc.kp s1).trans k2).trans ((jc.kp s3).trans k4);refine#[r2,7,rfl,rfl,#[by decide,by decide],p2,_,_,.int m,rfl,rfl,jo.of e4,hm,m,rfl,by omega,by omega,?_];refine JR (lo:=0) (n:=m.toNat) (λi σ H'=>E5 λ(v2 v3 v4:Option V) (ps:AX) (ks:List K5)=>A7 (σ=[oR a,oR fa,v2,v3,v4]) (Js a H H') (Ja H' a) (H' fa=some (.lst (ps.map V.ref))) (JK H' ps ks) (∀k∈ks,GK k) (ks.length=i)) #[_,_,_,[],[],rfl,I₁,W4,Bz,#[rfl,λi p c h=>nomatch h],(λk hk=>nomatch hk),rfl] ?_ ?_
  ·rintro i σ H5 hi ⟨v2,v3,v4,ps,ks,rfl,k5,W5,BJ,KP,gk,lk⟩;refine uP (λ(pk:Addr)=>[oR a,oR fa,oI (0+(i:Int)),oR pk,v4]) (λpk H'=>E4 λ(x y ww hh:Int)=>rj (0<=x) (x<10) (0<=y) (y<10) (1<=ww) (ww<10) (1<=hh) (hh<10) (H' pk=some (.lst [.int x,.int y,.int ww,.int hh])) (Js a H5 H') (H5 pk=none) (Ja H' a)) (λB hB=>?_) ?_
   ·refine#[_,rfl,a,8,rfl,W5,by decide,by decide,λx H6 x0 x8 W6 k6=>#[_,rfl,a,8,rfl,W6,by decide,by decide,λy H7 y0 y8 W7 k7=>#[_,rfl,a,9,rfl,W7,by decide,by decide,λu H8 u0 u9 W8 k8=>#[1,u,rfl,rfl,_,rfl,a,9,rfl,W8,by decide,by decide,λz H9 z0 z9 W9 k9=>#[1,z,rfl,rfl,?_]]]]];refine#[pj,λpk FD=>hB pk _ #[x,y,1+u,1+z,x0,by omega,y0,by omega,by omega,by omega,by omega,by omega,jb,?_,?_,W9.new FD]]
    ·exact (((k6.trans k7).trans k8).trans k9).new FD
    ·exact (((k6.trans k7).trans k8).trans k9).fresh W9 FD
   rintro pk H6 ⟨x,y,ww,hh,x0,x8,y0,y8,w0,w9,h0,h9,ek,k6,FD,W6⟩;have IB:pk≠a:=λz=>W5.ne (z▸FD) rfl;have WX:pk≠fa:=λz=>by rw[z,BJ] at FD;cases FD
   obtain⟨yw,WR⟩:=W5.lst;have O3:JK H6 ps ks:=KP.kp WR k6;have BF:=k6 _ _ af BJ;refine uP (λ(v4:Option V)=>[oR a,oR fa,oI (0+(i:Int)),oR pk,v4]) (λ_ H'=>∃xs:List V,A4 (K4 xs) (H' pk=some (.lst xs)) (Ja H' a) (∀b u,b≠a->b≠pk->H6 b=some u->H' b=some u)) (λB hB=>?_) ?_
   ·refine#[_,rfl,a,4,rfl,W6,by decide,by decide,λr H7 r0 r4 W7 k7=>#[rfl,_,rfl,UK (λ_=>?_) λ_=>?_]]
    ·refine uP (λ(at_:Int)=>[oR a,oR fa,oI (0+(i:Int)),oR pk,oI at_]) (λat_ H'=>A4 (0<=at_) (at_<4) (Js a H6 H') (Ja H' a)) (λB hB=>#[_,rfl,a,4,rfl,W7,by decide,by decide,λat_ H8 a0 a4 W8 k8=>hB at_ _ #[a0,a4,k7.trans k8,W8]]) ?_;rintro at_ H8 ⟨a0,a4,k8,W8⟩;have Ik:=k8 _ _ IB ek;obtain⟨v0,j0,SS,_⟩:=K4.set x0 x8 y0 y8 w0 w9 h0 h9 a0 a4 (Int.le_refl 0) (by decide:(0:Int)<9);refine#[_,rfl,_,rfl,pk,_,_,.int v0,rfl,rfl,jo.of Ik,SS,10,39,rfl,rfl,#[by decide,by decide,by decide],v0,_,rfl,rfl,_,rfl,a,9,rfl,W8,by decide,by decide,λr9 H9 c0 c9 W9 k9=>?_];have I₂:=k9 _ _ IB Ik;obtain⟨v,j,hv,hj,k4⟩:=K4.set x0 x8 y0 y8 w0 w9 h0 h9 a0 a4 c0 c9;obtain rfl:v=v0:=by rw[hv] at SS;cases SS;rfl
     rw[xI];refine#[_,r9,rfl,rfl,_,rfl,_,rfl,pk,_,_,j,rfl,rfl,I₂,hj,hB _ _ #[_,k4,jb,?_,λb u n1 n2 e=>?_]]
     ·obtain⟨m,c,j,e⟩:=W9;exact#[m,c,j,jw (yP IB) e]
     ·rw[jl n2];exact k9 _ _ n1 (k8 _ _ n1 e)
    ·have SV:UL=10000000000000000000000000000000000000000:=rfl;exact hB _ _ #[_,#[x,y,ww,hh,rfl,by omega,by omega,by omega,by omega],k7 _ _ IB ek,W7,λb u n1 n2 e=>k7 _ _ n1 e]
   rintro WB H7 ⟨xs,⟨x,y,ww,hh,rfl,bx,bY,bw,bh⟩,Dw,W7,k7⟩;have BM:=k7 _ _ af (yP WX) BF;refine#[_,rfl,.inl #[rfl,_,jo.of BM],_,rfl,_,rfl,a,3,rfl,W7,by decide,by decide,λz H8 z0 z3 W8 k8=>#[nU,λpb Fx=>?_]];have s9:=jk (o:=.lst [.int z]) (jc.refl H8) Fx;have e9:upd H8 pb (.lst [.int z]) pb=some (.lst [.int z]):=jb;have W9:Ja (upd H8 pb (.lst [.int z])) a:=W8.new Fx;generalize upd H8 pb (.lst [.int z])=H9 at s9 e9 W9;refine#[pk,pb,_,_,rfl,rfl,s9 _ _ (k8 _ _ IB Dw),e9,yp (show 5<=1000 by decide) (by decide),λpc Ee=>?_];have WY:=jk (o:=.lst ([.int x,.int y,.int ww,.int hh]++[.int z])) (jc.refl H9) Ee;have EW:upd H9 pc (.lst ([.int x,.int y,.int ww,.int hh]++[.int z])) pc=some (.lst ([.int x,.int y,.int ww,.int hh]++[.int z])):=jb;have WZ:Ja (upd H9 pc (.lst ([.int x,.int y,.int ww,.int hh]++[.int z]))) a:=W9.new Ee;generalize upd H9 pc (.lst ([.int x,.int y,.int ww,.int hh]++[.int z]))=Cq at WY EW WZ;refine#[pc,_,rfl,.inl #[jo.of EW,λpd O1=>?_]];have L₁:=jk (o:=.tup (U3 (x,y,ww,hh,z))) (jc.refl Cq) O1;have IZ:upd Cq pd (.tup (U3 (x,y,ww,hh,z))) pd=some (.tup (U3 (x,y,ww,hh,z))):=jb;have L₂:Ja (upd Cq pd (.tup (U3 (x,y,ww,hh,z)))) a:=WZ.new O1;have all:∀b u,b≠a->b≠pk->H6 b=some u->upd Cq pd (.tup (U3 (x,y,ww,hh,z))) b=some u:=λb u n1 n2 e=>L₁ _ _ (WY _ _ (s9 _ _ (k8 _ _ n1 (k7 b u n1 n2 e))));have Fy:=all _ _ af (yP WX) BF;have xI:upd Cq pd (.tup [.int x,.int y,.int ww,.int hh,.int z])=upd Cq pd (.tup (U3 (x,y,ww,hh,z))):=rfl;refine#[fa,_,.ref pd,rfl,rfl,Fy,?_,?_]
   ·rw[yb,KP.len];exact yL (show _<=1000 by omega) (by decide)
   refine#[_,_,_,ps++[pd],ks++[(x,y,ww,hh,z)],rfl,λb u n e=>?_,?_,by rw[jb,yn];rfl,?_,λk hk=>?_,by rw[ye,lk];rfl]
   ·have h6:=k6 _ _ n (k5 b u n e);rw[jl (ji e BC)];exact all _ _ n (λz=>by rw[z] at e;have:=k5 _ _ IB e;rw[FD] at this;cases this) h6
   ·obtain⟨m,c,j,e⟩:=L₂;exact#[m,c,j,jw (yP af) e]
   ·have O₁:JK (upd Cq pd (.tup (U3 (x,y,ww,hh,z)))) ps ks:=#[O3.1,λi p xs h1 h2=>by
     obtain⟨yw,OW⟩:=W6.lst;exact all _ _ (jq (O3.2 i p xs h1 h2) OW) (jq (O3.2 i p xs h1 h2) ek) (O3.2 i p xs h1 h2)]
    exact JK.kp (O₁.snoc IZ) Fy (Js.upd _)
   ·rcases ym.mp hk with hk|hk
    ·exact gk k hk
    ·rw[yx.mp hk];have SV:UL=10000000000000000000000000000000000000000:=rfl;exact#[bx,bY,bw,bh,z0,show z<UL by omega]
  ·rintro σ H5 ⟨v2,v3,v4,ps,ks,rfl,k5,W5,BJ,KP,gk,lk⟩;exact hB _ _ #[_,_,_,ps,ks,rfl,k5,W5,BJ,KP,gk,by omega]
 rintro σ H2 ⟨v2,v3,v4,ps,ks,rfl,k2,W2,BH,KP,gk,lk⟩;exact#[_,rfl,q fa ps ks H2 k2 W2 BC BH KP gk lk]
variable {P:Be}{w:World}{K:AQ}{mg:AT}{base:Heap}{t:Adr}
theorem iu {cs:jG} (e:cs.map (·.1)=cl.map k3) (c:jf):jx cs c=decide (c∈cl):=by
 unfold jx;rw[yR,vz,e,decide_eq_true_iff];constructor
 ·intro h;obtain⟨d,hd,q⟩:=yf.mp h;rw[<-uv q];exact hd
 ·exact λh=>yf.mpr #[c,h,rfl]
theorem qI (cl:List jf):∃cells:List jf,cells.Perm cl/\(cells.map k3).Pairwise λa b=>lx b a=false:=by
 refine#[cl.mergeSort λa b=>!lx (k3 b) (k3 a),List.mergeSort_perm _ _,?_];have:=List.pairwise_mergeSort (le:=λa b:jf=>!lx (k3 b) (k3 a)) (λa b c h1 h2=>?_) (λa b=>?_) cl
 ·exact Qo.mpr (this.imp λh=>by simpa using h)
 ·rw[Bool.not_eq_true'] at h1 h2 ⊢;cases h:lx (k3 c) (k3 a) with
  | false=>rfl
  | true =>
   rcases fi (b:=k3 b) h with z|z
   ·rw[h2] at z;cases z
   ·rw[h1] at z;cases z
 ·cases h1:lx (k3 b) (k3 a) with
  | false=>rfl
  | true =>
   cases h2:lx (k3 a) (k3 b) with
   | false=>rfl
   | true =>
    have:=zr h1 h2;rw[GJ] at this;cases this
structure LS (C:Addr) (H:Hp) (o dx c d sz ca b:Addr) (wd hg l:Nat) (cs ds:jG) (pc qs:AX) (cl:List jf) (hl:AS):Prop where
 wB:wd<=12
 hB:hg<=12
 lB:1<=l/\l<=3
 B:Bd C H o dx c d wd hg l cs ds
 esz:H sz=some (.tup [.int wd,.int hg,.int l])
 eca:H ca=some (.lst (pc.map V.ref))
 cC:jp H pc cl
 eb:H b=some (.lst (qs.map V.ref))
 cQ:j9 H qs hl
 ek:cs.map (·.1)=cl.map k3
 eh:ds.map (·.1)=hl.map k2
 nab:ca≠b
 ncd:c≠d
section
variable {C:Addr}{H H':Hp}{o dx c d sz ca b:Addr}{wd hg l:Nat}{cs ds:jG}{pc qs:AX}{cl:List jf}{hl:AS}
theorem LS.same (X:LS C H o dx c d sz ca b wd hg l cs ds pc qs cl hl) (s:jc H H'):LS C H' o dx c d sz ca b wd hg l cs ds pc qs cl hl :=
 #[X.wB,X.hB,X.lB,X.B.same s,s _ _ X.esz,s _ _ X.eca,X.cC.same s,s _ _ X.eb,X.cQ.same s,X.ek,X.eh,X.nab,X.ncd]
theorem tx (h:(cl.map k3).Nodup):cl.Nodup:=(Qo.mp h).imp λh z=>h (by rw[z])
theorem fy {cl:AS} (h:(cl.map k2).Nodup):cl.Nodup:=(Qo.mp h).imp λh z=>h (by rw[z])
theorem LS.nd (X:LS C H o dx c d sz ca b wd hg l cs ds pc qs cl hl):cl.Nodup:=tx (by rw[<-X.ek];exact X.B.C.nd)
theorem LS.ndh (X:LS C H o dx c d sz ca b wd hg l cs ds pc qs cl hl):hl.Nodup:=fy (by rw[<-X.eh];exact X.B.D.nd)
theorem LS.on (X:LS C H o dx c d sz ca b wd hg l cs ds pc qs cl hl) (h:e∈cl):m9 wd hg l e:=by
 have:k3 e∈cs.map (·.1):=by rw[X.ek];exact yf.mpr #[e,h,rfl]
 obtain⟨kv,Bv,q⟩:=yf.mp this;obtain⟨x,y,z,hx,hy,hz,e1⟩:=X.B.C.key kv Bv;exact#[x,y,z,hx,hy,hz,uv (q.symm.trans e1)]
theorem LS.onh (X:LS C H o dx c d sz ca b wd hg l cs ds pc qs cl hl) {e:Int×Int} (h:e∈hl):Ma wd hg e:=by
 have:k2 e∈ds.map (·.1):=by rw[X.eh];exact yf.mpr #[e,h,rfl]
 obtain⟨kv,Bv,q⟩:=yf.mp this;obtain⟨x,y,hx,hy,e1⟩:=X.B.D.key kv Bv;exact#[x,y,hx,hy,VX (q.symm.trans e1)]
theorem LS.len (X:LS C H o dx c d sz ca b wd hg l cs ds pc qs cl hl):cl.length<=432:=by
 refine yp (vY (b:=uk wd hg l) X.nd λe he=>?_) ?_
 ·obtain⟨x,y,z,hx,hy,hz,e1⟩:=X.on he;exact U4.mpr #[x,y,z,hx,hy,hz,e1]
 ·rw[U1];exact yQ X.wB (yQ X.hB X.lB.2)
theorem LS.lenh (X:LS C H o dx c d sz ca b wd hg l cs ds pc qs cl hl):hl.length<=432:=by
 have h1:(hl.map λe=>((e.1,e.2,(0:Int)):jf)).Nodup:=Qo.mpr (X.ndh.imp λh z=>h (by
  injection z with z1 z2
  injection z2 with z2 z3
  exact Prod.ext z1 z2))
 have h2:=vY (b:=uk wd hg l) h1 λe he=>by
  obtain⟨p,hp,rfl⟩:=yf.mp he;obtain⟨x,y,hx,hy,e1⟩:=X.onh hp;subst e1;exact U4.mpr #[x,y,0,hx,hy,X.lB.1,rfl]
 rw[yb,U1] at h2;exact yp h2 (yQ X.wB (yQ X.hB X.lB.2))
theorem LS.lcs (X:LS C H o dx c d sz ca b wd hg l cs ds pc qs cl hl):cs.length<=1000:=by
 have:=congrArg List.length X.ek;rw[yb,yb] at this;have:=X.len;omega
theorem LS.lds (X:LS C H o dx c d sz ca b wd hg l cs ds pc qs cl hl):ds.length<=1000:=by
 have:=congrArg List.length X.eh;rw[yb,yb] at this;have:=X.lenh;omega
theorem LS.cells (X:LS C H o dx c d sz ca b wd hg l cs ds pc qs cl hl):∃cells,cl.Perm cells/\CL cs wd hg l cells:=by
 obtain⟨cells,pm,up⟩:=qI cl;obtain⟨c2,e,L,_⟩:=CL.of X.B.C (ks:=cells.map k3) (by rw[X.ek];exact pm.map k3) up;rw[zo e] at pm;exact#[c2,pm.symm,L]
theorem LS.near (X:LS C H o dx c d sz ca b wd hg l cs ds pc qs cl hl) {cells:List jf} (L:CL cs wd hg l cells) (pm:cl.Perm cells) {f:jf} (he:e∈cells):f∈Jh cs ds wd hg l e↔(f∈UI e\/((e.1,e.2.1)∈hl/\f∈JD e 3))/\f∈cells:=by
 obtain⟨x,y,z,hx,hy,hz,rfl⟩:=X.on (pm.mem_iff.mpr he);have i1:jO (x:Int) (wd:Int)=true:=by unfold jO;simp;omega
 have i2:jO (y:Int) (hg:Int)=true:=by unfold jO;simp;omega
 have hv:(jM ds [.inl (x:Int),.inl (y:Int)]).isSome=decide (((x:Int),(y:Int))∈hl):=by
  rw[yR,decide_eq_true_iff];exact KM X.eh (c:=((x:Int),(y:Int)))
 unfold Jh Vd;rw[yZ,<-L.mem f,ym];show (f∈UI _\/f∈(if (jO (x:Int) (wd:Int)&&jO (y:Int) (hg:Int)&&(jM ds [.inl (x:Int),.inl (y:Int)]).isSome)=true then JD _ l else []))/\f∈cells↔_;rw[i1,i2,hv,QI,QI];constructor
 ·rintro⟨h|h,hf⟩
  ·exact#[.inl h,hf]
  ·split at h
   ·rename_i h1;refine#[.inr #[of_decide_eq_true h1,?_],hf];unfold JD at h ⊢;obtain⟨k,hk,rfl⟩:=yf.mp h;have hk:=yZ.mp hk;have:=Qa.mp hk.1;have:=X.lB.2;exact yf.mpr #[k,yZ.mpr #[Qa.mpr (by omega),hk.2],rfl]
   ·cases h
 ·rintro⟨h|⟨h1,h⟩,hf⟩
  ·exact#[.inl h,hf]
  ·refine#[.inr ?_,hf];rw[if_pos (decide_eq_true h1)];obtain⟨x',y',z',_,_,TH,rfl⟩:=X.on (pm.mem_iff.mpr hf);unfold JD at h ⊢;obtain⟨k,hk,e1⟩:=yf.mp h;have hk:=yZ.mp hk;injection e1 with e1 e2
   injection e2 with e2 e3
   have e3:(k:Int)=(z':Int):=e3;exact yf.mpr #[k,yZ.mpr #[Qa.mpr (by omega),hk.2],by rw[e3];exact Prod.ext e1 (Prod.ext e2 rfl)]
theorem LS.ll (X:LS C H o dx c d sz ca b wd hg l cs ds pc qs cl hl) {cells:List jf} (L:CL cs wd hg l cells) (pm:cl.Perm cells):LL H sz ca b wd hg l pc qs cl cells hl (Jh cs ds wd hg l) :=
 #[X.esz,X.eca,X.cC,X.eb,X.cQ,pm,L.nd,L.up,by have:=X.len;have:=pm.length_eq;omega,by have:=X.lenh;omega,X.lB.2,V4 L.mem,λe he f=>X.near L pm he]
theorem cU (pm:hl.Perm Ck) (L rm:Nat) (cop:jf->Bool):(Jg hl L rm cop).Perm (Jg Ck L rm cop):=List.Perm.flatMap_right _ pm
theorem qg (pm:(hl.map k2).Perm (Ck.map k2)) (n1:hl.Nodup) (n2:Ck.Nodup):hl.Perm Ck:=(Qq n1 n2).mpr λe=>by
 have h1:∀{m:AS},k2 e∈m.map k2↔e∈m:=λ{m}=>#[λh=>by
  obtain⟨x,hx,q⟩:=yf.mp h;rw[<-VX q];exact hx,λh=>yf.mpr #[e,h,rfl]]
 rw[<-h1,<-h1,pm.mem_iff]
theorem LS.ask {B8 kp:Addr}{W0:AX}{kv:V}{E':XK} (X:LS t.jr H o dx c d sz ca b wd hg l cs ds pc qs cl hl) (R:Vj K t.Jk H ru B8 kp W0 g n rm kv ks) (Y:z8 H to kl g n rm ps ks) (q:∀H',jc H H'->Q (.bl true) H') :
  cY [.ref sz,.ref ca,.ref b,.ref to] H (λv H'=>kN K t [.ref o,.ref ru,v] H' Q E) E':=by
 obtain⟨cells,pm,L⟩:=X.cells;refine#[sz,ca,b,to,kl,wd,hg,l,g,n,rm,pc,qs,ps,cl,cells,hl,ks,_,rfl,X.ll L pm,Y,λr fs bk H' s' hr er NA Xa up=>?_];have cE:jx cs=λe=>decide (e∈cells):=funext λe=>by
  rw[iu X.ek e,yR,decide_eq_true_iff,decide_eq_true_iff,pm.mem_iff]
 refine#[o,dx,c,d,ru,B8,kp,r,wd,hg,l,g,n,rm,cs,ds,W0,fs,kv,ks,bk,rfl,X.B.same s',X.lB.2,X.lcs,X.lds,R.same s',er,NA,up,λk hk=>iK k (Xa.mem_iff.mp hk),λc2 h2 L2 p2=>Xa.trans ?_,λH2 s2=>q _ (jc.trans s' s2)];obtain rfl:=L.uniq L2;rw[cE];rw[X.eh] at p2;have n2:h2.Nodup:=fy (p2.nodup_iff.mpr (by rw[<-X.eh];exact X.B.D.nd));exact ((cU (qg p2.symm X.ndh n2) l rm _).append_left _).append_right _
end
variable {P:Be}{w:World}{K:AQ}{mg:AT}{base:Heap}{t:Adr}
theorem Zg {α:Type} [DecidableEq α]:∀{l:List α} {j:Nat} {a:α},l.Nodup->l[j]?=some a->l.eraseIdx j=l.filter λx=>decide (x≠a)
 | [],j,a,_,h=>by cases h
 | x::l,0,a,nd,h=>by
  cases h;rw[List.eraseIdx_cons_zero,Qf (by simp)];refine (Wo.mpr λy hy=>?_).symm;have:=(Qu.mp nd).1;simp only[decide_eq_true_eq];exact λz=>this (z▸hy)
 | x::l,j+1,a,nd,h=>by
  have h':l[j]?=some a:=h;have hx:x≠a:=λz=>(Qu.mp nd).1 (z▸yT h');rw[List.eraseIdx_cons_succ,Qg (by simpa using hx),Zg (Qu.mp nd).2 h']
theorem vN {α:Type} [DecidableEq α] {f:α->List Key} (inj:∀{x y},f x=f y->x=y) (a:α):∀l:List α,(l.map f).filter (λk=>decide (k≠f a))=(l.filter λx=>decide (x≠a)).map f
 | []=>rfl
 | x::l=>by
  by_cases h:x=a
  ·subst h;rw[yH,Qf (by simp),Qf (by simp),vN inj]
  ·rw[yH,Qg (by simpa using λz=>h (inj z)),Qg (by simpa using h),yH,vN inj]
theorem gL (k:List Key):∀t:jG,(uJ t k).map (·.1)=(t.map (·.1)).filter λx=>decide (x≠k)
 | []=>rfl
 | kv::t=>by
  unfold uJ;by_cases h:kv.1=k
  ·rw[Qf (by simpa using h),yH,Qf (by simpa using h)];exact gL k t
  ·rw[Qg (by simpa using h),yH,yH,Qg (by simpa using h)];exact congrArg _ (gL k t)
theorem Ki {α:Type} [DecidableEq α] {f:α->List Key} (inj:∀{x y},f x=f y->x=y) {tab:jG} {l:List α} {a:α} (e:tab.map (·.1)=l.map f) (nd:l.Nodup) (hj:l[j]?=some a):(uJ tab (f a)).map (·.1)=(l.eraseIdx j).map f:=by
 rw[gL,e,vN inj,Zg nd hj]
theorem MG {α:Type}{l:List α}{a:α} (nd:l.Nodup) (hj:l[j]?=some a) {f:α->List Key} (inj:∀{x y},f x=f y->x=y):∀m,m<j->(l.map f)[m]?≠some (f a):=λm hm z=>by
 rw[yj] at z;obtain⟨b,hb,e⟩:=yl.mp z;obtain⟨h1,e1⟩:=yi.mp hb;obtain⟨h2,e2⟩:=yi.mp hj;have:=(QM.mp nd) m j h1 h2 hm;rw[e1,e2] at this;exact this (inj e)
theorem Mf {α:Type}{l:List α}:(l.eraseIdx j)[i]?=if i<j then l[i]? else l[i+1]?:=List.getElem?_eraseIdx
theorem j9.erase (C:j9 H ps pl) (j:Nat):j9 H (ps.eraseIdx j) (pl.eraseIdx j):=#[by rw[We,We,C.1],λi p c h1 h2=>by
 rw[Mf] at h1 h2
 split at h1
 ·rename_i h;rw[if_pos h] at h2;exact C.2 _ p c h1 h2
 ·rename_i h;rw[if_neg h] at h2;exact C.2 _ p c h1 h2]
theorem jp.erase {pl:List jf} (C:jp H ps pl) (j:Nat):jp H (ps.eraseIdx j) (pl.eraseIdx j):=#[by rw[We,We,C.1],λi p c h1 h2=>by
 rw[Mf] at h1 h2
 split at h1
 ·rename_i h;rw[if_pos h] at h2;exact C.2 _ p c h1 h2
 ·rename_i h;rw[if_neg h] at h2;exact C.2 _ p c h1 h2]
theorem j9.off {H':Hp}{a:Addr}{u:jG} (C:j9 H ps pl) (ha:H a=some (.lst ys)) (hd:H d=some (.dT u)) (k:JW a d H H'):j9 H' ps pl:=#[C.1,λi p c h1 h2=>k _ _ (jq (C.2 i p c h1 h2) ha) (jq (C.2 i p c h1 h2) hd) (C.2 i p c h1 h2)]
theorem jp.off {H':Hp}{a:Addr}{pl:List jf}{u:jG} (C:jp H ps pl) (ha:H a=some (.lst ys)) (hd:H d=some (.dT u)) (k:JW a d H H'):jp H' ps pl:=#[C.1,λi p c h1 h2=>k _ _ (jq (C.2 i p c h1 h2) ha) (jq (C.2 i p c h1 h2) hd) (C.2 i p c h1 h2)]
section
variable {C:Addr}{H H':Hp}{o dx c d sz ca b:Addr}{wd hg l:Nat}{cs ds:jG}{pc qs:AX}{cl:List jf}{hl:AS}
theorem LS.holes (X:LS C H o dx c d sz ca b wd hg l cs ds pc qs cl hl) {Du:jG} {Hz:AX} (k:JW b d H H') (eb:H' b=some (.lst (Hz.map V.ref))) (ed:H' d=some (.dT Du)) (D:UH Du wd hg) (P:j9 H' Hz Ck) (eh:Du.map (·.1)=Ck.map k2):LS C H' o dx c d sz ca b wd hg l cs Du pc Hz cl Ck :=
 have nb:∀{x:Addr} {u:HO},H x=some u->(∀ys,u≠.lst ys)->x≠b:=λhx hu z=>by rw[z,X.eb] at hx;cases hx;exact hu _ rfl
 have nd:∀{x:Addr} {u:HO},H x=some u->(∀ys,u≠.dT ys)->x≠d:=λhx hu z=>by rw[z,X.B.d] at hx;cases hx;exact hu _ rfl
 #[X.wB,X.hB,X.lB,#[k _ _ (nb X.B.o λ_ z=>nomatch z) (nd X.B.o λ_ z=>nomatch z) X.B.o,k _ _ (nb X.B.c λ_ z=>nomatch z) X.ncd X.B.c,ed,X.B.C,D],k _ _ (nb X.esz λ_ z=>nomatch z) (nd X.esz λ_ z=>nomatch z) X.esz,k _ _ X.nab (nd X.eca λ_ z=>nomatch z) X.eca,X.cC.off X.eb X.B.d k,eb,P,X.ek,eh,X.nab,X.ncd]
theorem LS.copper (X:LS C H o dx c d sz ca b wd hg l cs ds pc qs cl hl) {Ff:jG} {SW:AX} {SX:List jf} (k:JW ca c H H') (eb:H' ca=some (.lst (SW.map V.ref))) (ed:H' c=some (.dT Ff)) (D:ue Ff wd hg l) (P:jp H' SW SX) (eh:Ff.map (·.1)=SX.map k3):LS C H' o dx c d sz ca b wd hg l Ff ds SW qs SX hl :=
 have nb:∀{x:Addr} {u:HO},H x=some u->(∀ys,u≠.lst ys)->x≠ca:=λhx hu z=>by rw[z,X.eca] at hx;cases hx;exact hu _ rfl
 have nd:∀{x:Addr} {u:HO},H x=some u->(∀ys,u≠.dT ys)->x≠c:=λhx hu z=>by rw[z,X.B.c] at hx;cases hx;exact hu _ rfl
 #[X.wB,X.hB,X.lB,#[k _ _ (nb X.B.o λ_ z=>nomatch z) (nd X.B.o λ_ z=>nomatch z) X.B.o,ed,k _ _ (nb X.B.d λ_ z=>nomatch z) (yP X.ncd) X.B.d,D,X.B.D],k _ _ (nb X.esz λ_ z=>nomatch z) (nd X.esz λ_ z=>nomatch z) X.esz,eb,P,k _ _ (yP X.nab) (nd X.eb λ_ z=>nomatch z) X.eb,X.cQ.off X.eca X.B.c k,eh,X.eh,X.nab,X.ncd]
end
def oA (C:Addr):Sp:=λvs H Q _=>rn λ(o dx c d sz ca b p:Addr) (wd hg l:Nat) (cs ds:jG) (pc qs:AX) (cl:List jf) (hl:AS) (h:Int×Int)=>A5 (vs=[.ref o,.ref b,.ref p]) (LS C H o dx c d sz ca b wd hg l cs ds pc qs cl hl) (H p=some (.tup [.int h.1,.int h.2])) (Ma wd hg h) (∀(H':Hp) (Du:jG) (Hz:AX) (Ck:AS),LS C H' o dx c d sz ca b wd hg l cs Du pc Hz cl Ck->JW b d H H'->Q .non H')
theorem Zx (T:Txt K mg t):jR P w K mg base 5 "_law_hole_turned" ["_law_board_here","_law_holes_here","_law_hole"] (oA t.jr):=by
 refine T.ZZ.ok ["_law_board_here","_law_holes_here","_law_hole"] ?_;rintro _ H Q E ⟨o,dx,c,d,sz,ca,b,p,wd,hg,l,cs,ds,pc,qs,cl,hl,h,rfl,X,hp,ih,q⟩;refine#[rfl,λBk A outer s hr=>#[_,(jj (jX (jQ (nu hr.units) (pv 2) (pv 1)) (jh (jE (JO PySem.F.plainAttrs_list PySem.F.slot_list_remove PySem.F.type_list_remove (Ku hr.units) (pv 1) (ja (pv 2) je))) (jj (jE (Jf (pv 0) (mj T) (ja (jt jy (pv 2) jg) (ja (jt jy (pv 2) jg) je)))))) (jh (jE (JO PySem.F.plainAttrs_list PySem.F.slot_list_append PySem.F.type_list_append JH (pv 1) (ja (pv 2) je))) (jj (jE (Jf (pv 0) (V5 T) (ja (jt jy (pv 2) jg) (ja (jt jy (pv 2) jg) je)))))))),?_]];have OT:(jO h.1 (wd:Int)&&jO h.2 (hg:Int))=true:=by
  obtain⟨x,y,hx,hy,rfl⟩:=ih;rw[u5 hx,u5 hy];rfl
 have O₂:∀{a b:Int×Int},l2 a=l2 b->a=b:=λ{a b} e=>by
  unfold l2 at e;injection e with e1 e2
  injection e2 with e2 _
  exact Prod.ext e1 e2
 have hm:decide ([h.1,h.2]∈hl.map l2)=decide (h∈hl):=by
  rw[yR,decide_eq_true_iff,decide_eq_true_iff];constructor
  ·intro z;obtain⟨x,hx,e⟩:=yf.mp z;rw[<-O₂ (b:=h) e];exact hx
  ·exact λz=>yf.mpr #[h,z,rfl]
 have pb:p≠b:=jq hp X.eb;have db:d≠b:=jq X.B.d X.eb;have ob:o≠b:=jq X.B.o X.eb;refine#[_,rfl,_,rfl,p,b,[h.1,h.2],hl.map l2,rfl,rfl,jD.of hp,X.cQ.lt X.eb,_,rfl,?_];show if (decide ([h.1,h.2]∈hl.map l2))=true then _ else _
 rw[hm];refine JS (λBn=>?_) λBn=>?_
 ·obtain⟨j,hj,ej⟩:=Qj Bn;have HE:hl[j]?=some h:=by rw[yc hj,ej]
  refine vV [oR o,oR b,oR p] (λH'=>H'=upd H b (.lst ((qs.eraseIdx j).map V.ref))) (λB hB=>#[_,rfl,.inl #[rfl,_,jo.of X.eb],_,rfl,b,p,qs,hl.map k2,k2 h,j,rfl,rfl,X.eb,X.cQ.key,hp,by rw[yj,HE];rfl,MG X.ndh HE VX,hB _ rfl]) ?_;rintro H1 rfl;have k1:∀x u,x≠b->H x=some u->upd H b (.lst ((qs.eraseIdx j).map V.ref)) x=some u:=λx u n e=>by rw[jl n];exact e
  have e1:upd H b (.lst ((qs.eraseIdx j).map V.ref)) b=some (.lst ((qs.eraseIdx j).map V.ref)):=jb;generalize upd H b (.lst ((qs.eraseIdx j).map V.ref))=H1 at k1 e1;refine ZS (k1 _ _ ob X.B.o) (Jz (.int h.1) (jD.of (k1 _ _ pb hp)) (Jz (.int h.2) (jD.of (k1 _ _ pb hp)) #[o,dx,c,d,wd,hg,l,h.1,h.2,ds,rfl,k1 _ _ ob X.B.o,OT,k1 _ _ db X.B.d,λp4 BN=>?_]));have s4:=jk (o:=.tup [.int h.1,.int h.2]) (jc.refl H1) BN;generalize upd H1 p4 (.tup [.int h.1,.int h.2])=H4 at s4;have k4:JW b d H (upd H4 d (.dT (uJ ds [.inl h.1,.inl h.2]))):=λx u n1 n2 e=>by rw[jl n2];exact s4 _ _ (k1 x u n1 e)
  exact q _ _ (qs.eraseIdx j) (hl.eraseIdx j) (X.holes k4 (jw (yP db) (s4 _ _ e1)) jb (X.B.D.drop _) ((X.cQ.erase j).off X.eb X.B.d k4) (Ki VX X.eh X.ndh HE)) k4
 ·have lq:qs.length<=432:=by rw[X.cQ.1];exact X.lenh
  refine vV [oR o,oR b,oR p] (λH'=>H'=upd H b (.lst (qs.map V.ref++[.ref p]))) (λB hB=>#[_,rfl,.inl #[rfl,_,jo.of X.eb],_,rfl,b,_,.ref p,rfl,rfl,X.eb,by rw[yb];exact yL lq (by decide),hB _ rfl]) ?_;rintro H1 rfl;have k1:∀x u,x≠b->H x=some u->upd H b (.lst (qs.map V.ref++[.ref p])) x=some u:=λx u n e=>by rw[jl n];exact e
  have e1:upd H b (.lst (qs.map V.ref++[.ref p])) b=some (.lst ((qs++[p]).map V.ref)):=by rw[jb,yn];rfl
  generalize upd H b (.lst (qs.map V.ref++[.ref p]))=H1 at k1 e1;refine ZS (k1 _ _ ob X.B.o) (Jz (.int h.1) (jD.of (k1 _ _ pb hp)) (Jz (.int h.2) (jD.of (k1 _ _ pb hp)) #[o,dx,c,d,wd,hg,l,h.1,h.2,ds,rfl,k1 _ _ ob X.B.o,k1 _ _ db X.B.d,X.lds,OT,λp4 BN=>?_]));have s4:=jk (o:=.tup [.int h.1,.int h.2]) (jc.refl H1) BN;generalize upd H1 p4 (.tup [.int h.1,.int h.2])=H4 at s4;have k4:JW b d H (upd H4 d (.dT (j4 ds [.inl h.1,.inl h.2] (.bl true)))):=λx u n1 n2 e=>by rw[jl n2];exact s4 _ _ (k1 x u n1 e)
  have TD:UH (j4 ds [.inl h.1,.inl h.2] (.bl true)) wd hg:=by
   obtain⟨x,y,hx,hy,rfl⟩:=ih;exact X.B.D.put hx hy
  exact q _ _ (qs++[p]) (hl++[h]) (X.holes k4 (jw (yP db) (s4 _ _ e1)) jb TD ((X.cQ.off X.eb X.B.d k4).snoc (k4 _ _ pb (jq hp X.B.d) hp)) (Ky X.eh Bn)) k4
variable {P:Be}{w:World}{K:AQ}{mg:AT}{base:Heap}{t:Adr}
theorem z8.off2 {H':Hp}{b:Addr}{u:jG} (Y:z8 H to kl g n rm ps ks) (hb:H b=some (.lst ys)) (hd:H d=some (.dT u)) (tb:to≠b) (kb:kl≠b) (k:JW b d H H'):z8 H' to kl g n rm ps ks :=
 #[k _ _ tb (jq Y.o hd) Y.o,k _ _ kb (jq Y.k hd) Y.k,#[Y.kk.1,λi p xs h1 h2=>k _ _ (jq (Y.kk.2 i p xs h1 h2) hb) (jq (Y.kk.2 i p xs h1 h2) hd) (Y.kk.2 i p xs h1 h2)],Y.b]
theorem Vj.off2 {C b:Addr}{u:jG}{H':Hp}{kp:Addr}{kv:V} (X:Vj K C H ru dx kp ps g n rm kv ks) (hb:H b=some (.lst ys)) (hd:H d=some (.dT u)) (k:JW b d H H'):Vj K C H' ru dx kp ps g n rm kv ks :=
 #[k _ _ (jq X.o hb) (jq X.o hd) X.o,k _ _ (jq X.k hb) (jq X.k hd) X.k,#[X.kk.1,λi p xs h1 h2=>k _ _ (jq (X.kk.2 i p xs h1 h2) hb) (jq (X.kk.2 i p xs h1 h2) hd) (X.kk.2 i p xs h1 h2)],X.b]
theorem wk {H':Hp}{a:Addr} (h:jo K H a xs) (k:∀u,H a=some u->H' a=some u):jo K H' a xs:=by
 rcases h with (h|⟨o,h⟩)|h
 ·exact .inl (.inl (k _ h))
 ·exact .inl (.inr #[o,k _ h])
 ·exact .inr h
def l5 (k:K5):List Int:=[k.1,k.2.1,k.2.2.1,k.2.2.2.1,k.2.2.2.2]
theorem JK.tups (C:JK H ps ks):Za K H ps (ks.map l5):=#[by rw[C.len,yb],λi p ns h1 h2=>by
 rw[yj] at h2;obtain⟨k,hk,rfl⟩:=yl.mp h2;exact jD.of (C.at_ h1 hk)]
theorem j9.tups (C:j9 H ps pl):Za K H ps (pl.map l2):=#[by rw[C.1,yb],λi p ns h1 h2=>by
 rw[yj] at h2;obtain⟨k,hk,rfl⟩:=yl.mp h2;exact jD.of (C.2 i p k h1 hk)]
theorem GK.good (h:∀k∈ks,GK k) (l:ks.length<=12):m6 (ks.map U3):=#[by rw[yb];exact l,λxs hx=>by
 obtain⟨k,hk,rfl⟩:=yf.mp hx;obtain⟨h1,h2,h3,h4,h5⟩:=h k hk;exact#[k.1,k.2.1,k.2.2.1,k.2.2.2.1,k.2.2.2.2,rfl,h1,h2,h3,h4,h5]]
theorem M1 (Y:z8 H to kl g n rm ps ks) (gk:∀k∈ks,GK k) {o:Addr} (ho:H o=none) (Di:H dx=none) (Dc:dx≠o)
  (q:∀lk kp H',jc H H'->Vj K t.Jk H' o dx kp ps g n rm (.ref lk) ks->H' lk=some (.lst (ps.map V.ref))->Q .non H'):aZ t.Jk [.ref o,.int g,.int n,.int rm,.ref kl] (upd (upd H dx (.own o)) o (.ins t.Jk dx [])) Q E:=by
 have s1:jc H (upd (upd H dx (.own o)) o (.ins t.Jk dx [])):=λx u e=>by rw[jl (ji e ho),jl (ji e Di)];exact e
 obtain⟨b1,b2,b3,b4,b5⟩:=Y.b;refine#[o,dx,g,n,rm,kl,ps,ks.map U3,rfl,jb,s1 _ _ Y.k,Y.kk.same s1,#[by omega,by omega],#[by omega,by omega],#[by omega,by omega],GK.good gk b5,λlk kp H' bt hl hk nl el ek eo=>?_];have s2:jc H H':=λx u e=>bt _ _ (ji e ho) (s1 _ _ e);exact q lk kp H' s2 #[eo,ek,Y.kk.same s2,Y.b] el
theorem xT:gJ (ps.map V.ref) (some 1) none=(ps.drop 1).map V.ref:=by
 have h1:HT.sIx (ps.map V.ref).length 0 (some 1)=min 1 ps.length:=by
  unfold HT.sIx;simp
 have h2:HT.sIx (ps.map V.ref).length (ps.map V.ref).length none=ps.length:=by
  unfold HT.sIx;simp
 unfold gJ;rw[h1,h2];cases ps with
 | nil=>rfl
 | cons p ps =>
  have:(ps.map V.ref).length=ps.length:=yb ..;simp;rw[<-this,yG]
theorem xU (p:Addr) (m:Nat) (h:m<=12):gJ [V.ref p] (some ((m:Int) / 12)) none=(if m=12 then [] else [p]).map V.ref:=by
 by_cases h12:m=12
 ·subst h12;rw[if_pos rfl]
  rfl
 ·rw[if_neg h12];have:(m:Int) / 12=0:=by omega
  rw[this]
  rfl
theorem JK.drop1 (C:JK H ps ks):JK H (ps.drop 1) (ks.drop 1):=#[by rw[yb,Qw,Qw,C.len],λi p xs h1 h2=>by
 rw[yj,List.getElem?_drop] at h2;rw[List.getElem?_drop] at h1
 exact C.2 (1+i) p xs h1 (by rw[yj];exact h2)]
def VI (ks:List K5):List K5:=ks.drop 1++(if ks.length=12 then [] else [((0,0,2,2,0):K5)])
theorem im (h:ks.length<=12):(VI ks).length<=12:=by
 unfold VI;rw[ye,Qw];split
 ·simp;omega
 ·simp;omega
theorem dh (h:∀k∈ks,GK k):∀k∈VI ks,GK k:=λk hk=>by
 unfold VI at hk;rcases ym.mp hk with hk|hk
 ·exact h k (Q9 hk)
 ·split at hk
  ·cases hk
  ·rw[yx.mp hk];unfold GK UL;decide
theorem oF (C:JK H ps ks) (hp:H p=some (.tup (U3 (0,0,2,2,0)))):JK H (ps.drop 1++(if ps.length=12 then [] else [p])) (VI ks):=by
 unfold VI;rw[C.len];split
 ·rw[yB,yB];exact C.drop1
 ·exact C.drop1.snoc hp
variable {P:Be}{w:World}{K:AQ}{mg:AT}{base:Heap}{t:Adr}
theorem vL {H1 H2:Hp}{wl:Addr} (s:jc H H1) (h:H wl=none) (k:Js wl H1 H2):jc H H2:=λx u e=>k _ _ (ji e h) (s _ _ e)
section
seal kN cY
variable {P:Be}{w:World}{K:AQ}{mg:AT}{base:Heap}{t:Adr}
def c5 (K:AQ):Sp:=λvs H Q _=>E2 λ(a:Addr) (sc:List Int)=>A4 (vs=[.ref a]) (jo K H a (sc.map V.int)) (sc.length<=63) (∀H',Q (.bl true) H')
theorem law_fn (T:Txt K mg t):∃fd:FuncData,(∀(s:Shared) (u:Value),BindsTo s fd #[[u],[]] [("_law_script",u)])/\∀base:Heap,K.In base->base.Ns mainGlobals mg->UG P w K mg base (XC P w) 12 t.bV fd ["_law_script"] (c5 K):=by
 obtain⟨fd,F,b⟩:=T.wE;refine#[fd,b,λbase _ _=>?_];refine F.okY (N:=["_law_script","_law_well_here","_law_size","_law_holes_here","_law_told","_law_copper_here","_law_board_here","_law_rules","_law_turned","_law_other","_law_hole","_law_cell_here"]) ?_;rintro _ H Q E ⟨a,sc,rfl,ha,O4,q⟩;refine#[rfl,λBk A outer s hr=>#[_,(jh (jz 1 (jm (gq T) (ja (pv 0) (ja jg je)))) (jh (jz 2 (jm (np T) (ja (pv 1) je))) (jh (jz 3 (jm (M8 T) (ja (pv 1) (ja (pv 2) je)))) (jh (jz 4 (j5 (ja (jm (UP T) (ja (pv 1) (ja jg je))) (ja (ju jP jg (jm (UP T) (ja (pv 1) (ja jg je)))) (ja (jm (UP T) (ja (pv 1) (ja jg je))) (ja (jm (ng T) (ja (pv 1) je)) je)))))) (jh (jz 5 (jm (my T) (ja (pv 0) (ja (pv 2) je)))) (jh (jz 6 (jm (M7 T) (ja (pv 2) (ja (pv 5) (ja (pv 3) je))))) (jh (jz 7 (zB (mq T) (ja (jt jU (pv 4) jg) (ja (jt jU (pv 4) jg) (ja (jt jU (pv 4) jg) (ja (jt jU (pv 4) jg) je)))))) (jh (jX (JF (Jr (jm (ni T) (ja (pv 6) (ja (pv 7) (ja (jm (cO T) (ja (pv 2) (ja (pv 5) (ja (pv 3) (ja (pv 4) je))))) je)))))) (jj (jB Uk)) jL) (jh (jX (UU (jQ (kI hr.units) (uQ (GM (Uz T)) (pv 6)) (jT Zd (by rfl) T.uG uD (ja (pv 5) je))) (UU (jQ (kI hr.units) (uQ (cG (V6 T)) (pv 6)) (pv 3)) (US (jQ (kI hr.units) (Jd (pv 7)) (jt jU (pv 4) jg))))).pt (jj (jB Uk)) jL) (jh (jz 8 (j5 (ja (ju uA jg (jt jU (pv 4) jg)) (ja (ju uA jg (jt jU (pv 4) jg)) (ja (ju uA jg (jt jU (pv 4) jg)) (ja (ju Vu (nE aX (jt jU (pv 4) jg) (aS jg) aR) (nE aX (j5 (ja (jJ (ja jg (ja jg (ja jg (ja jg (ja jg je)))))) je)) (aS (ju Vh (jT Ur (by rfl) T.GN Gg (ja (jt jU (pv 4) jg) je)) jg)) aR)) je)))))) (jh (jz 9 (zB (mq T) (ja (jt jU (pv 8) jg) (ja (jt jU (pv 8) jg) (ja (jt jU (pv 8) jg) (ja (jt jU (pv 8) jg) je)))))) (jh (jX (JF (Jr (jm (ni T) (ja (pv 6) (ja (pv 9) (ja (jm (cO T) (ja (pv 2) (ja (pv 5) (ja (pv 3) (ja (pv 8) je))))) je)))))) (jj (jB Uk)) jL) (jh (jX (JF (Jr (jm (ni T) (ja (pv 6) (ja (pv 7) (ja (jm (cO T) (ja (pv 2) (ja (pv 5) (ja (pv 3) (ja (pv 4) je))))) je)))))) (jj (jB Uk)) jL) (jh (jz 1 (jm (gq T) (ja (pv 0) (ja jg je)))) (jh (jz 10 (jJ (ja (jm (UP T) (ja (pv 1) (ja (jt jy (pv 2) jg) je))) (ja (jm (UP T) (ja (pv 1) (ja (jt jy (pv 2) jg) je))) je)))) (jh (jE (jm (Zx T) (ja (pv 6) (ja (pv 3) (ja (pv 10) je))))) (jh (jX (JF (Jr (jm (ni T) (ja (pv 6) (ja (pv 7) (ja (jm (cO T) (ja (pv 2) (ja (pv 5) (ja (pv 3) (ja (pv 4) je))))) je)))))) (jj (jB Uk)) jL) (jh (jz 11 (jt jU (jm (gp T) (ja (pv 2) je)) (jm (UP T) (ja (jm (gq T) (ja (pv 0) (ja jg je))) (ja (ju UQ (ju UQ (jt jy (pv 2) jg) (jt jy (pv 2) jg)) (jt jy (pv 2) jg)) je))))) (jh (jX (jQ (nu hr.units) (pv 11) (pv 5)) (jh (jE (JO PySem.F.plainAttrs_list PySem.F.slot_list_remove PySem.F.type_list_remove (Ku hr.units) (pv 5) (ja (pv 11) je))) (jj (jE (Jf (pv 6) (mn T) (ja (j5 (ja (pv 11) je)) je))))) (jh (jE (JO PySem.F.plainAttrs_list PySem.F.slot_list_append PySem.F.type_list_append JH (pv 5) (ja (pv 11) je))) (jj (jE (Jf (pv 6) (Zw T) (ja (j5 (ja (pv 11) je)) je)))))) (jj (jB (jm (ni T) (ja (pv 6) (ja (pv 7) (ja (jm (cO T) (ja (pv 2) (ja (pv 5) (ja (pv 3) (ja (pv 4) je))))) je))))))))))))))))))))))))),?_]];refine uP (λ(wl:Addr)=>[oR a,oR wl,none,none,none,none,none,none,none,none,none,none]) (λwl H'=>A3 (jc H H') (H wl=none) (Ja H' wl)) (λB hB=>#[_,rfl,a,sc,1,rfl,ha,by decide,by decide,O4,λp m c hp=>hB p _ #[jk (jc.refl H) hp,hp,m,c,0,jb]]) ?_;rintro wl H1 ⟨s1,FQ,W1⟩;refine G1 (λ(sz:Addr) (wd hg l:Nat)=>[oR a,oR wl,oR sz,none,none,none,none,none,none,none,none,none]) (λsz wd hg l H'=>A9 (jc H H') (Ja H' wl) (1<=wd) (wd<=7) (1<=hg) (hg<=8) (1<=l) (l<=3) (H' sz=some (.tup [.int wd,.int hg,.int l]))) (λB hB=>#[_,rfl,wl,rfl,W1,λsz wd hg l H2 w1 w7 h1 h8 l1 l3 k W2 hsz esz=>hB sz wd hg l H2 #[vL s1 FQ k,W2,w1,w7,h1,h8,l1,l3,esz]]) ?_;rintro sz wd hg l H2 ⟨s2,W2,w1,w7,h1,h8,l1,l3,HG⟩;refine KB (λ(b:Addr) (qs:AX) (hl:AS)=>[oR a,oR wl,oR sz,oR b,none,none,none,none,none,none,none,none]) (λb qs hl H'=>rh (jc H H') (Ja H' wl) (H b=none) (H' sz=some (.tup [.int wd,.int hg,.int l])) (H' b=some (.lst (qs.map V.ref))) (wl≠b) (j9 H' qs hl) hl.Nodup (∀c∈hl,Ma wd hg c) (hl.length<=7) ((hl.map k2).Pairwise λa b=>lx b a=false)) (λB hB=>#[_,rfl,_,rfl,wl,sz,wd,hg,l,rfl,W2,HG,w1,h1,by omega,by omega,λb qs hl H3 k W3 hb eb CB Iz onB lb up=>hB b qs hl H3 #[vL s2 FQ k,W3,none_of s2 hb,k _ _ (by obtain⟨y,e⟩:=W2.lst;exact jq HG e) HG,eb,W2.ne hb,CB,Iz,onB,lb,up]]) ?_;rintro b qs hl H3 ⟨s3,W3,hb,Of,ED,wb,SY,Iz,onB,lb,up⟩;refine tT (λ(to kl:Addr) (nn:Nat×Nat×Nat) (ps:AX) (ks:List K5)=>[oR a,oR wl,oR sz,oR b,oR to,none,none,none,none,none,none,none]) (λto kl nn ps ks H'=>A8 (jc H H') (z8 H' to kl nn.1 nn.2.1 nn.2.2 ps ks) (∀k∈ks,GK k) (to≠b) (kl≠b) (H' sz=some (.tup [.int wd,.int hg,.int l])) (H' b=some (.lst (qs.map V.ref))) (j9 H' qs hl)) (λB hB=>?_) ?_
 ·refine#[_,rfl,wl,3,rfl,W3,by decide,by decide,λg Ha g0 g3 Wa ka=>#[_,rfl,wl,3,rfl,Wa,by decide,by decide,λn' Hb n0 n3 Wb kb=>#[1,n',rfl,rfl,_,rfl,wl,2,rfl,Wb,by decide,by decide,λr Hc r0 r2 Wc kc=>#[_,rfl,wl,rfl,Wc,λkl ps ks Hd kd Wd Hy P' KP gk lk=>#[pj,λto O5=>?_]]]]];have Xb:=(ka.trans kb).trans kc;have O6:=Xb.trans kd;have bw:b≠wl:=yP wb;have S0:sz≠wl:=by obtain⟨y,e⟩:=W3.lst;exact jq Of e
  have sN:=jk (o:=.lst [.int g,.int (1+n'),.int r,.ref kl]) (jc.refl Hd) O5;have eN:upd Hd to (.lst [.int g,.int (1+n'),.int r,.ref kl]) to=some (.lst [.int g,.int (1+n'),.int r,.ref kl]):=jb;have eg:(g.toNat:Int)=g:=by omega
  have en:((1+n').toNat:Int)=1+n':=by omega
  have er:(r.toNat:Int)=r:=by omega
  have Og:=O6 _ _ bw ED;refine hB to kl (g.toNat,(1+n').toNat,r.toNat) ps ks _ #[jc.trans (vL s3 FQ O6) sN,#[by rw[eg,en,er];exact eN,sN _ _ P',KP.same sN,show g.toNat<=2 by omega,show 1<=(1+n').toNat by omega,show (1+n').toNat<=3 by omega,show r.toNat<=1 by omega,lk],gk,?_,?_,sN _ _ (O6 _ _ S0 Of),sN _ _ Og,#[SY.1,λi p c h1 h2=>?_]]
  ·exact λz=>by rw[z] at O5;rw[Og] at O5;cases O5
  ·exact λz=>by have:=Xb _ _ bw ED;rw[z] at Hy;rw[this] at Hy;cases Hy
  ·obtain⟨y,e⟩:=W3.lst;exact sN _ _ (O6 _ _ (jq (SY.2 i p c h1 h2) e) (SY.2 i p c h1 h2))
 rintro to kl ⟨g,n,rm⟩ ps ks H4 ⟨s4,Y4,gk,tb,kb,HH,LN,Xc⟩;dsimp only at Y4;refine KB (λ(ca:Addr) (pc:AX) (cl:List jf)=>[oR a,oR wl,oR sz,oR b,oR to,oR ca,none,none,none,none,none,none]) (λca pc cl H'=>A6 (jc H4 H') (H4 ca=none) (H' ca=some (.lst (pc.map V.ref))) (jp H' pc cl) cl.Nodup (∀c∈cl,m9 wd hg l c)) (λB hB=>#[_,rfl,_,rfl,a,sz,sc,wd,hg,l,rfl,zI s4 ha,O4,HH,by omega,by omega,l3,λca pc cl H5 s5 IC eca CA Iy Ho=>hB ca pc cl H5 #[s5,IC,eca,CA,Iy,Ho]]) ?_;rintro ca pc cl H5 ⟨s5,IC,eca,CA,Iy,Ho⟩;have tc:to≠ca:=ji Y4.o IC;have kc:kl≠ca:=ji Y4.k IC;have nab:ca≠b:=λz=>by rw[z,LN] at IC;cases IC
 have Cz:=jc.trans s4 s5;refine Ua (λσ H'=>E6 λ(o dx c d:Addr) (cs ds:jG)=>A4 (σ=[oR a,oR wl,oR sz,oR b,oR to,oR ca,oR o,none,none,none,none,none]) (jc H5 H') (H d=none) (LS t.jr H' o dx c d sz ca b wd hg l cs ds pc qs cl hl)) (λB hB=>#[_,rfl,_,rfl,_,rfl,sz,ca,b,pc,qs,cl,hl,wd,hg,l,rfl,s5 _ _ HH,w1,by omega,h1,by omega,l1,l3,eca,CA,Iy,Ho,s5 _ _ LN,Xc.same s5,Iz,onB,by omega,λo dx c d cs ds H6 s6 ho hc hd ncd Bo ek eh=>hB _ _ #[o,dx,c,d,cs,ds,rfl,s6,none_of Cz hd,#[by omega,by omega,#[l1,l3],Bo,s6 _ _ (s5 _ _ HH),s6 _ _ eca,CA.same s6,s6 _ _ (s5 _ _ LN),(Xc.same s5).same s6,ek,eh,nab,ncd]]]) ?_;rintro σ H6 ⟨o,dx,c,d,cs,ds,rfl,s6,hd,X6⟩;have Xd:=jc.trans s5 s6;have Y6:=Y4.same Xd;have P₁:=jc.trans s4 Xd;refine G1 (λ(ru B8 lk kp:Addr)=>[oR a,oR wl,oR sz,oR b,oR to,oR ca,oR o,oR ru,none,none,none,none]) (λru B8 lk kp H'=>A3 (jc H6 H') (Vj K t.Jk H' ru B8 kp ps g n rm (.ref lk) ks) (H' lk=some (.lst (ps.map V.ref)))) (λB hB=>?_) ?_
 ·exact zN (.int g) (jo.of Y6.o) (zN (.int n) (jo.of Y6.o) (zN (.int rm) (jo.of Y6.o) (zN (.ref kl) (jo.of Y6.o) λru B8 S3 Di Dc=>M1 Y6 gk S3 Di Dc λlk kp H7 s7 R el=>#[rfl,hB ru B8 lk kp _ #[s7,R,el]])))
 rintro ru B8 lk kp H7 ⟨s7,R7,P₂⟩;have X7:=X6.same s7;have Y7:=Y6.same s7;refine vV [oR a,oR wl,oR sz,oR b,oR to,oR ca,oR o,oR ru,none,none,none,none] (λH'=>jc H7 H') (λB hB=>#[_,rfl,_,rfl,_,rfl,_,rfl,_,rfl,_,rfl,X7.ask R7 Y7 λH' s'=>#[true,rfl,JB (hB _ s')]]) ?_;rintro H8 s8;have X8:=X7.same s8;have Y8:=Y7.same s8;have R8:=R7.same s8;have Q₂:=s8 _ _ P₂;have up8:=up;refine vV [oR a,oR wl,oR sz,oR b,oR to,oR ca,oR o,oR ru,none,none,none,none] (λH'=>jc H8 H') (λB hB=>?_) ?_
 ·refine#[_,rfl,o,dx,_,rfl,X8.B.o,rfl,o,dx,c,d,wd,hg,l,cs,rfl,X8.B.o,X8.B.c,X8.B.C.sds,λkq bs kk BU ka pm Dx=>?_];obtain⟨cells,rfl,L,_⟩:=CL.of X8.B.C pm Dx;have s9:=jk (o:=.lst (bs.map V.ref)) (jc.refl H8) BU;have e9:upd H8 kq (.lst (bs.map V.ref)) kq=some (.lst (bs.map V.ref)):=jb;have C9:=(jp.of_key ka).same s9;generalize upd H8 kq (.lst (bs.map V.ref))=H9 at s9 e9 C9;have X9:=X8.same s9;refine#[_,rfl,ca,pc,cl.map k3,[true,true,true],rfl,X9.eca,X9.cC.key,cy cl,by decide,λl' BQ Bm Ck R' SE S4=>?_];obtain rfl:Bm=cells.map k3:=uR (SE.trans (by rw[<-X8.ek];exact pm.symm)) S4 Dx;have sA:=jk (o:=.lst (BQ.map V.ref)) (jc.refl H9) Ck;have eA:upd H9 l' (.lst (BQ.map V.ref)) l'=some (.lst (BQ.map V.ref)):=jb;have Xe:=(jp.of_key R').same sA;generalize upd H9 l' (.lst (BQ.map V.ref))=HA at sA eA Xe;have XA:=X9.same sA;have R₁:=jc.trans s9 sA;refine#[kq,l',bs,BQ,cells.map K33.l3,cells.map K33.l3,rfl,rfl,jo.of (sA _ _ e9),jo.of eA,(C9.same sA).tups,Xe.tups,_,rfl,JJ (λz=>absurd rfl (of_decide_eq_false z)) λ_=>?_];refine#[_,rfl,o,dx,_,rfl,XA.B.o,rfl,o,dx,c,d,wd,hg,l,ds,rfl,XA.B.o,XA.B.d,XA.B.D.sds,λO7 Cv R₂ S5 Lp Dt Ep=>?_];obtain rfl:R₂=hl.map k2:=uR (Dt.trans (by rw[X8.eh])) Ep up;have sB:=jk (o:=.lst (Cv.map V.ref)) (jc.refl HA) S5;have eB:upd HA O7 (.lst (Cv.map V.ref)) O7=some (.lst (Cv.map V.ref)):=jb;have Xf:=(j9.of_key Lp).same sB;generalize upd HA O7 (.lst (Cv.map V.ref))=HB at sB eB Xf;have XB:=XA.same sB;have EM:=jc.trans R₁ sB;refine#[_,rfl,O7,b,Cv,qs,hl.map l2,hl.map l2,rfl,rfl,jo.of eB,jo.of XB.eb,Xf.tups,XB.cQ.tups,_,rfl,JJ (λz=>absurd rfl (of_decide_eq_false z)) λ_=>?_];have RB:=R8.same EM;have YB:=Y8.same EM;exact#[_,rfl,ru,_,B8,_,.ref lk,rfl,RB.o,T.uE,T.V2,by kernel_rfl,_,rfl,to,_,3,.ref kl,rfl,rfl,jo.of YB.o,rfl,lk,kl,ps,ps,ks.map l5,ks.map l5,rfl,rfl,jo.of (EM _ _ Q₂),jo.of YB.k,YB.kk.tups,YB.kk.tups,_,rfl,JJ (λz=>absurd rfl (of_decide_eq_false z)) λ_=>hB _ EM]
 rintro H9 s9;have X9:=X8.same s9;have Y9:=Y8.same s9;have R9:=R8.same s9;obtain⟨y1,y2,y3,y4,y5⟩:=Y4.b;refine KB (λ(tu k2:Addr) (Hq:AX)=>[oR a,oR wl,oR sz,oR b,oR to,oR ca,oR o,oR ru,oR tu,none,none,none]) (λtu k2 Hq H'=>jc H9 H'/\z8 H' tu k2 (2 - g) (4 - n) (1 - rm) Hq (VI ks)) (λB hB=>?_) ?_
 ·refine#[_,rfl,to,_,0,.int g,rfl,rfl,jo.of Y9.o,rfl,2,(g:Int),rfl,rfl,_,rfl,to,_,1,.int n,rfl,rfl,jo.of Y9.o,rfl,4,(n:Int),rfl,rfl,_,rfl,to,_,2,.int rm,rfl,rfl,jo.of Y9.o,rfl,1,(rm:Int),rfl,rfl,_,rfl,to,_,3,.ref kl,rfl,rfl,jo.of Y9.o,rfl,1,rfl,kl,_,rfl,jo.of Y9.k,λp1 Dd=>?_];rw[xT];have sA:=jk (o:=.lst ((ps.drop 1).map V.ref)) (jc.refl H9) Dd;have eA:upd H9 p1 (.lst ((ps.drop 1).map V.ref)) p1=some (.lst ((ps.drop 1).map V.ref)):=jb;generalize upd H9 p1 (.lst ((ps.drop 1).map V.ref))=HA at sA eA;refine#[yp (show 5<=1000 by decide) (by decide),λpt S'=>?_];have sB:=jk (o:=.tup (U3 (0,0,2,2,0))) (jc.refl HA) S';have eB:upd HA pt (.tup (U3 (0,0,2,2,0))) pt=some (.tup (U3 (0,0,2,2,0))):=jb;have S₁:upd HA pt (.tup [.int 0,.int 0,.int 2,.int 2,.int 0])=upd HA pt (.tup (U3 (0,0,2,2,0))):=rfl;rw[S₁];generalize upd HA pt (.tup (U3 (0,0,2,2,0)))=HB at sB eB;refine#[nU,λpl Bx=>?_];have sC:=jk (o:=.lst [.ref pt]) (jc.refl HB) Bx;have eC:upd HB pl (.lst [.ref pt]) pl=some (.lst [.ref pt]):=jb;generalize upd HB pl (.lst [.ref pt])=HC at sC eC;have Xg:=jc.trans sA (jc.trans sB sC);have YC:=Y9.same Xg;refine#[_,rfl,to,_,3,.ref kl,rfl,rfl,jo.of YC.o,rfl,kl,_,rfl,.inl (jo.of YC.k),((ps.map V.ref).length:Int),12,rfl,rfl,#[by decide,by decide],_,rfl,pl,_,rfl,jo.of eC,λp2 BV=>?_];rw[yb,xU pt ps.length (by rw[YC.kk.len];exact y5)];have sD:=jk (o:=.lst ((if ps.length=12 then [] else [pt]).map V.ref)) (jc.refl HC) BV;have eD:upd HC p2 (.lst ((if ps.length=12 then [] else [pt]).map V.ref)) p2=some (.lst ((if ps.length=12 then [] else [pt]).map V.ref)):=jb;generalize upd HC p2 (.lst ((if ps.length=12 then [] else [pt]).map V.ref))=HD at sD eD;have lps:=YC.kk.len;refine#[p1,p2,_,_,rfl,rfl,sD _ _ (sC _ _ (sB _ _ eA)),eD,?_,λp3 Cw=>?_]
  ·rw[yb,yb,Qw];have:(if ps.length=12 then ([]:AX) else [pt]).length<=1:=by split<;>simp
   exact yp (show _<=1000 by omega) (by decide)
  have S₂:(ps.drop 1).map V.ref++(if ps.length=12 then [] else [pt]).map V.ref=(ps.drop 1++(if ps.length=12 then [] else [pt])).map V.ref:=by rw[yn]
  rw[S₂];have sF:=jk (o:=.lst ((ps.drop 1++(if ps.length=12 then [] else [pt])).map V.ref)) (jc.refl HD) Cw;have eF:upd HD p3 (.lst ((ps.drop 1++(if ps.length=12 then [] else [pt])).map V.ref)) p3=some (.lst ((ps.drop 1++(if ps.length=12 then [] else [pt])).map V.ref)):=jb;generalize upd HD p3 (.lst ((ps.drop 1++(if ps.length=12 then [] else [pt])).map V.ref))=HF at sF eF;refine#[pj,λtu T'=>?_];have sG:=jk (o:=.lst [.int (2 - (g:Int)),.int (4 - (n:Int)),.int (1 - (rm:Int)),.ref p3]) (jc.refl HF) T';have eG:upd HF tu (.lst [.int (2 - (g:Int)),.int (4 - (n:Int)),.int (1 - (rm:Int)),.ref p3]) tu=some (.lst [.int (2 - (g:Int)),.int (4 - (n:Int)),.int (1 - (rm:Int)),.ref p3]):=jb;have S6:=jc.trans sD (jc.trans sF sG);refine hB tu p3 _ _ #[jc.trans Xg S6,#[?_,sG _ _ eF,oF (YC.kk.same S6) (S6 _ _ (sC _ _ eB)),by omega,by omega,by omega,by omega,im y5]];rw[eG,show ((2 - g:Nat):Int)=2 - (g:Int) by omega,show ((4 - n:Nat):Int)=4 - (n:Int) by omega,show ((1 - rm:Nat):Int)=1 - (rm:Int) by omega]
 rintro tu k2 Hq HT ⟨sT,YT⟩;have XT:=X9.same sT;refine G1 (λ(ot S7 S8 Eo:Addr)=>[oR a,oR wl,oR sz,oR b,oR to,oR ca,oR o,oR ru,oR tu,oR ot,none,none]) (λot S7 S8 Eo H'=>jc HT H'/\Vj K t.Jk H' ot S7 Eo Hq (2 - g) (4 - n) (1 - rm) (.ref S8) (VI ks)) (λB hB=>?_) ?_
 ·exact zN (.int (2 - g:Nat)) (jo.of YT.o) (zN (.int (4 - n:Nat)) (jo.of YT.o) (zN (.int (1 - rm:Nat)) (jo.of YT.o) (zN (.ref k2) (jo.of YT.o) λru B8 S3 Di Dc=>M1 YT (dh gk) S3 Di Dc λlk kp H7 s7 R el=>#[rfl,hB ru B8 lk kp _ #[s7,R]])))
 rintro ot S7 S8 Eo HU ⟨sU,RU⟩;have XU:=XT.same sU;have YU:=YT.same sU;refine vV [oR a,oR wl,oR sz,oR b,oR to,oR ca,oR o,oR ru,oR tu,oR ot,none,none] (λH'=>jc HU H') (λB hB=>#[_,rfl,_,rfl,_,rfl,_,rfl,_,rfl,_,rfl,XU.ask RU YU λH' s'=>#[true,rfl,JB (hB _ s')]]) ?_;rintro HV sV;have O8:=jc.trans sT (jc.trans sU sV);have XV:=X9.same O8;have YV:=Y9.same O8;have RV:=R9.same O8;refine vV [oR a,oR wl,oR sz,oR b,oR to,oR ca,oR o,oR ru,oR tu,oR ot,none,none] (λH'=>jc HV H') (λB hB=>#[_,rfl,_,rfl,_,rfl,_,rfl,_,rfl,_,rfl,XV.ask RV YV λH' s'=>#[true,rfl,JB (hB _ s')]]) ?_;rintro HW sW;have O9:=jc.trans O8 sW;have Xh:jc H HW:=jc.trans P₁ (jc.trans s7 (jc.trans s8 (jc.trans s9 O9)));have XW:=X9.same O9;have YW:=Y9.same O9;have RW:=R9.same O9;clear XV YV RV XU YU RU XT YT X9 Y9 R9 X8 Y8 R8 X7 Y7 R7 X6 Y6;refine uP (λ(w2:Addr)=>[oR a,oR w2,oR sz,oR b,oR to,oR ca,oR o,oR ru,oR tu,oR ot,none,none]) (λw2 H'=>A3 (jc HW H') (HW w2=none) (Ja H' w2)) (λB hB=>#[_,rfl,a,sc,3,rfl,zI Xh ha,by decide,by decide,O4,λp m c hp=>hB p _ #[jk (jc.refl HW) hp,hp,m,c,0,jb]]) ?_;rintro w2 I1 ⟨i1,Xi,V1⟩;refine KB (λ(ph:Addr) (x y:Int)=>[oR a,oR w2,oR sz,oR b,oR to,oR ca,oR o,oR ru,oR tu,oR ot,oR ph,none]) (λph x y H'=>A3 (jc HW H') (H' ph=some (.tup [.int x,.int y])) (Ma wd hg (x,y))) (λB hB=>?_) ?_
 ·have Oh:=i1 _ _ XW.esz;have S0:sz≠w2:=ji XW.esz Xi;refine#[_,rfl,Jz (.int wd) (jD.of Oh) #[w2,wd,rfl,V1,by omega,by omega,λx Ia x0 xw Va ka=>?_]];refine#[_,rfl,Jz (.int hg) (jD.of (ka _ _ S0 Oh)) #[w2,hg,rfl,Va,by omega,by omega,λy Ib y0 yh Vb T₁=>#[V9,λph T₂=>?_]]];exact hB ph x y _ #[jc.trans (vL i1 Xi (ka.trans T₁)) (jk (jc.refl Ib) T₂),jb,x.toNat,y.toNat,by omega,by omega,by rw[show (x.toNat:Int)=x by omega,show (y.toNat:Int)=y by omega]]
 rintro ph x y I2 ⟨i2,W₁,W₂⟩;have X2:=XW.same i2;have Y2:=YW.same i2;have R2:=RW.same i2;refine Ua (λσ H'=>E3 λ(ds:jG) (qs:AX) (hl:AS)=>A3 (σ=[oR a,oR w2,oR sz,oR b,oR to,oR ca,oR o,oR ru,oR tu,oR ot,oR ph,none]) (LS t.jr H' o dx c d sz ca b wd hg l cs ds pc qs cl hl) (JW b d I2 H')) (λB hB=>#[_,rfl,_,rfl,_,rfl,o,dx,c,d,sz,ca,b,ph,wd,hg,l,cs,ds,pc,qs,cl,hl,(x,y),rfl,X2,W₁,W₂,λH' Du Hz Ck X' k'=>hB _ _ #[Du,Hz,Ck,rfl,X',k']]) ?_;rintro σ I3 ⟨ds3,qs3,F7,rfl,X3,Iw⟩;have Y3:=Y2.off2 X2.eb X2.B.d tb kb Iw;have R3:=R2.off2 X2.eb X2.B.d Iw;have X₁:jo K I3 a (sc.map V.int):=wk ha λu e=>Iw _ _ (ji e hb) (ji e hd) (i2 _ _ (Xh _ _ e));refine vV [oR a,oR w2,oR sz,oR b,oR to,oR ca,oR o,oR ru,oR tu,oR ot,oR ph,none] (λH'=>jc I3 H') (λB hB=>#[_,rfl,_,rfl,_,rfl,_,rfl,_,rfl,_,rfl,X3.ask R3 Y3 λH' s'=>#[true,rfl,JB (hB _ s')]]) ?_;rintro I4 i4;have X4:=X3.same i4;have X₂:=Y3.same i4;have R4:=R3.same i4;refine KA (λ(pe:Addr) (e:jf)=>[oR a,oR w2,oR sz,oR b,oR to,oR ca,oR o,oR ru,oR tu,oR ot,oR ph,oR pe]) (λpe e H'=>A3 (jc I4 H') (H' pe=some (.tup [.int e.1,.int e.2.1,.int e.2.2])) (m9 wd hg l e)) (λB hB=>?_) ?_
 ·refine#[_,rfl,sz,wd,hg,l,rfl,X4.esz,by omega,by omega,l3,λD fp Ia sa hD eD CD=>?_];refine#[_,rfl,a,sc,2,rfl,zI (jc.trans i4 sa) X₁,by decide,by decide,O4,λwv m c' Pa=>?_];have sb:=jk (o:=.lst [.int m,.int c',.int 0]) (jc.refl Ia) Pa;have Wb:Ja (upd Ia wv (.lst [.int m,.int c',.int 0])) wv:=#[m,c',0,jb];generalize upd Ia wv (.lst [.int m,.int c',.int 0])=Ib at sb Wb;have Sz:=jD.of (K:=K) (sb _ _ (sa _ _ X4.esz));have nz:(wd:Int)*(hg:Int)*(l:Int)=((wd*(hg*l):Nat):Int):=by rw[Int.natCast_mul,Int.natCast_mul,Int.mul_assoc]
  have m1:0<wd*(hg*l):=Nat.mul_pos w1 (Nat.mul_pos h1 l1);have m2:wd*(hg*l)<=7*(8*3):=yQ w7 (yQ h8 l3);refine#[_,rfl,sz,_,0,.int wd,rfl,rfl,Sz,rfl,_,rfl,sz,_,1,.int hg,rfl,rfl,Sz,rfl,(wd:Int),(hg:Int),rfl,rfl,.inl #[by omega,by omega],_,rfl,sz,_,2,.int l,rfl,rfl,Sz,rfl,(wd:Int)*(hg:Int),(l:Int),rfl,rfl,.inr #[by omega,by omega],wv,(wd:Int)*(hg:Int)*(l:Int),rfl,Wb,by omega,by omega,λr Ic r0 r1 Wc S9=>?_];have FY:r.toNat<(uk wd hg l).length:=by rw[U1];omega
  have Ll:r.toNat<fp.length:=by rw[CD.1];exact FY
  have f1:=yc Ll;have f2:=yc FY;have eD':=S9 _ _ (ji eD Pa) (sb _ _ eD);have eC:=CD.2 _ _ _ f1 f2;have eC':=S9 _ _ (ji eC Pa) (sb _ _ eC);obtain⟨x,y,z,hx,hy,hz,ee⟩:=U4.mp (yY FY);refine#[D,_,r,.ref fp[r.toNat],rfl,rfl,jo.of eD',?_,hB fp[r.toNat] (uk wd hg l)[r.toNat] _ #[vL (jc.trans sa sb) (none_of sa Pa) S9,eC',x,y,z,hx,hy,hz,ee]];have:=vp (xs:=fp.map V.ref) (j:=r.toNat) (v:=.ref fp[r.toNat]) (by rw[yj,f1];rfl);rw[show ((r.toNat:Nat):Int)=r by omega] at this;exact this
 rintro pe e I5 ⟨i5,BZ,Xj⟩;have X5:=X4.same i5;have Y5:=X₂.same i5;have R5:=R4.same i5;refine Ua (λσ H'=>E3 λ(cs:jG) (pc:AX) (cl:List jf)=>A3 (σ=[oR a,oR w2,oR sz,oR b,oR to,oR ca,oR o,oR ru,oR tu,oR ot,oR ph,oR pe]) (LS t.jr H' o dx c d sz ca b wd hg l cs ds3 pc qs3 cl F7) (JW ca c I5 H')) (λB hB=>?_) ?_
 ·have hm:decide (K33.l3 e∈cl.map K33.l3)=decide (e∈cl):=by
   rw[yR,decide_eq_true_iff,decide_eq_true_iff];constructor
   ·intro z;obtain⟨x,hx,e1⟩:=yf.mp z;rw[<-MV e1];exact hx
   ·exact λz=>yf.mpr #[e,z,rfl]
  have Xk:[e].all (K33.onB wd hg l)=true:=fI λc hc=>by
   rw[yx.mp hc];exact Xj
  have pb:pe≠ca:=jq BZ X5.eca;have db:c≠ca:=jq X5.B.c X5.eca;have ob:o≠ca:=jq X5.B.o X5.eca;have lcs:cs.length<=432:=by
   have h1:=congrArg List.length X5.ek;rw[yb,yb] at h1;have:=X5.len;omega
  refine#[_,rfl,_,rfl,pe,ca,K33.l3 e,cl.map K33.l3,rfl,rfl,jD.of BZ,X5.cC.lt X5.eca,_,rfl,?_];show if (decide (K33.l3 e∈cl.map K33.l3))=true then _ else _
  rw[hm];refine JS (λBn=>?_) λBn=>?_
  ·obtain⟨j,hj,ej⟩:=Qj Bn;have HE:cl[j]?=some e:=by rw[yc hj,ej]
   refine vV [oR a,oR w2,oR sz,oR b,oR to,oR ca,oR o,oR ru,oR tu,oR ot,oR ph,oR pe] (λH'=>H'=upd I5 ca (.lst ((pc.eraseIdx j).map V.ref))) (λB hB=>#[_,rfl,.inl #[rfl,_,jo.of X5.eca],_,rfl,ca,pe,pc,cl.map K33.k3,K33.k3 e,j,rfl,rfl,X5.eca,X5.cC.key,BZ,by rw[yj,HE];rfl,MG X5.nd HE uv,hB _ rfl]) ?_;rintro J1 rfl;have k1:∀x u,x≠ca->I5 x=some u->upd I5 ca (.lst ((pc.eraseIdx j).map V.ref)) x=some u:=λx u n e=>by rw[jl n];exact e
   have e1:upd I5 ca (.lst ((pc.eraseIdx j).map V.ref)) ca=some (.lst ((pc.eraseIdx j).map V.ref)):=jb;generalize upd I5 ca (.lst ((pc.eraseIdx j).map V.ref))=J1 at k1 e1;refine ZS (k1 _ _ ob X5.B.o) #[_,rfl,nU,λpl Bx=>?_];have Dp:=jk (o:=.lst [.ref pe]) (jc.refl J1) Bx;have Oi:upd J1 pl (.lst [.ref pe]) pl=some (.lst [.ref pe]):=jb;generalize upd J1 pl (.lst [.ref pe])=J2 at Dp Oi;refine#[o,dx,c,d,pl,[pe],[e],wd,hg,l,cs,rfl,Dp _ _ (k1 _ _ ob X5.B.o),Oi,#[rfl,λi p c h1 h2=>?_],Dp _ _ (k1 _ _ db X5.B.c),Xk,?_]
   ·cases i with
    | zero=>cases h1;cases h2;exact Dp _ _ (k1 _ _ pb BZ)
    | succ i=>cases h1
   have Ta:vq cs [e]=uJ cs (K33.k3 e):=rfl;rw[Ta];have k4:JW ca c I5 (upd J2 c (.dT (uJ cs (K33.k3 e)))):=λx u n1 n2 e=>by rw[jl n2];exact Dp _ _ (k1 x u n1 e)
   exact hB _ _ #[_,pc.eraseIdx j,cl.eraseIdx j,rfl,X5.copper k4 (jw (yP db) (Dp _ _ e1)) jb (X5.B.C.drop _) ((X5.cC.erase j).off X5.eca X5.B.c k4) (Ki uv X5.ek X5.nd HE),k4]
  ·have lq:pc.length<=432:=by rw[X5.cC.1];exact X5.len
   refine vV [oR a,oR w2,oR sz,oR b,oR to,oR ca,oR o,oR ru,oR tu,oR ot,oR ph,oR pe] (λH'=>H'=upd I5 ca (.lst (pc.map V.ref++[.ref pe]))) (λB hB=>#[_,rfl,.inl #[rfl,_,jo.of X5.eca],_,rfl,ca,_,.ref pe,rfl,rfl,X5.eca,by rw[yb];exact yL lq (by decide),hB _ rfl]) ?_;rintro J1 rfl;have k1:∀x u,x≠ca->I5 x=some u->upd I5 ca (.lst (pc.map V.ref++[.ref pe])) x=some u:=λx u n e=>by rw[jl n];exact e
   have e1:upd I5 ca (.lst (pc.map V.ref++[.ref pe])) ca=some (.lst ((pc++[pe]).map V.ref)):=by rw[jb,yn];rfl
   generalize upd I5 ca (.lst (pc.map V.ref++[.ref pe]))=J1 at k1 e1;refine ZS (k1 _ _ ob X5.B.o) #[_,rfl,nU,λpl Bx=>?_];have Dp:=jk (o:=.lst [.ref pe]) (jc.refl J1) Bx;have Oi:upd J1 pl (.lst [.ref pe]) pl=some (.lst [.ref pe]):=jb;generalize upd J1 pl (.lst [.ref pe])=J2 at Dp Oi;refine#[o,dx,c,d,pl,[pe],[e],wd,hg,l,cs,rfl,Dp _ _ (k1 _ _ ob X5.B.o),Oi,#[rfl,λi p c h1 h2=>?_],Dp _ _ (k1 _ _ db X5.B.c),by simp;omega,Xk,?_]
   ·cases i with
    | zero=>cases h1;cases h2;exact Dp _ _ (k1 _ _ pb BZ)
    | succ i=>cases h1
   have Ta:JY cs [e]=j4 cs (K33.k3 e) (.bl true):=rfl;rw[Ta];have k4:JW ca c I5 (upd J2 c (.dT (j4 cs (K33.k3 e) (.bl true)))):=λx u n1 n2 e=>by rw[jl n2];exact Dp _ _ (k1 x u n1 e)
   have TD:ue (j4 cs (K33.k3 e) (.bl true)) wd hg l:=by
    obtain⟨x,y,z,hx,hy,hz,rfl⟩:=Xj;exact X5.B.C.put hx hy hz
   exact hB _ _ #[_,pc++[pe],cl++[e],rfl,X5.copper k4 (jw (yP db) (Dp _ _ e1)) jb TD ((X5.cC.off X5.eca X5.B.c k4).snoc (k4 _ _ pb (jq BZ X5.B.c) BZ)) (zG X5.ek Bn),k4]
 rintro σ I6 ⟨cs6,pc6,cl6,rfl,X6,k6⟩;have Y6:=Y5.off2 X5.eca X5.B.c tc kc k6;have R6:=R5.off2 X5.eca X5.B.c k6;exact#[_,rfl,_,rfl,_,rfl,_,rfl,_,rfl,_,rfl,X6.ask R6 Y6 λH' s'=>q H']
end
variable {P:Be}{w:World}{K:AQ}{mg:AT}{base:Heap}{t:Adr}
theorem walk {l:PySem.W.OpenLaw}{q:Be}{loose:A1}{XP:(Str->Option Value)->Heap->Prop}{YP:World->Heap->Prop}{d:DefRec}{K:Params->Frag} (hn:l.most=some 63) (IX:d.params.defaults=[])
  (hY:∀(w:World) (h:Heap),YP w h->(K w.params).In h)
  (F:∀(w:World) (mg:AT) (fa:Addr) (h:Heap),(K w.params).In h->h.Ns mainGlobals mg->mg d.name=some (.ref fa) ->
   ∃fd:FuncData,(∀(s:Shared) (u:Value),BindsTo s fd #[[u],[]] [("_law_script",u)])/\∀base:Heap,(K w.params).In base->base.Ns mainGlobals mg->UG l.prog w (K w.params) mg base (XC l.prog w) 12 fa fd ["_law_script"] (c5 (K w.params))) :
  PySem.W.WalkO q loose XP YP l.row.toRowW d [] (λf vs=>PySem.call f vs) :=
 L2.walk_of (n:=63) (k:=12) (x:="_law_script") (CX:=λw=>XC l.prog w) (sp:=λw=>c5 (K w.params)) hn (by decide) IX #[λ_=>rfl,by decide,by decide] hY F (λ_ _ a ns hl _ hS=>#[a,ns,rfl,hS,hl,λ_=>rfl]) λw H s e s' z=>by
  obtain⟨_,_,_,_,_,_,_,_,_,q⟩:=z;exact q
end K33
end
open PySem PySem.W PyProof.Rows
set_option maxRecDepth 100000 in
set_option maxHeartbeats 0 in
theorem PySem.Challenge.cw_copperbook_k33_whole_all_breaks_holds : PySem.Challenge.rw_copperbook_k33_whole_all_breaks.Holds := by
 w_on;o_law;k_head;(case hw=>w_witness2)
 k_fill
 refine K33.walk (l:=PySem.Challenge.rw_copperbook_k33_whole_all_breaks) rfl rfl (fun w h Y=>kIn_of Y) ?F
 case F =>
  intro w mg fa h KX G hmg
  have TT:∃t:K33.Adr,K33.Txt (L2.KOf KX) mg t:=by
   dsimp only [L2.KOf]
   open L2 K33 in refine' ⟨⟨_,_,_,_,_,_,_,_,_,_,_,_,_,_,_,_,_,_,_,_,_,_,_,_,_,_,_,_,_,_,_,_,_,_,_,_,_,_,_,_,_,_,_,_,_,_,_,_,_,_,_,_,_,_,_,_,_,_,_,_,_,_,_,_,_,_,_,_,_,_,_,_⟩,⟨mg_of KX G ?_,mg_of KX G ?_,mg_of KX G ?_,⟨?_,?_,?_,?_⟩,VG ?_,VG ?_,VG ?_,VG ?_,VG ?_,⟨?_,?_,?_,?_⟩,VG ?_,VG ?_,VG ?_,VG ?_,⟨?_,?_,?_,?_⟩,VG ?_,VG ?_,VG ?_,VG ?_,VG ?_,⟨mg_of KX G ?_,j7 ?_ ?_ ?_⟩,⟨mg_of KX G ?_,j7 ?_ ?_ ?_⟩,⟨mg_of KX G ?_,j7 ?_ ?_ ?_⟩,⟨mg_of KX G ?_,j7 ?_ ?_ ?_⟩,⟨mg_of KX G ?_,j7 ?_ ?_ ?_⟩,⟨mg_of KX G ?_,j7 ?_ ?_ ?_⟩,⟨mg_of KX G ?_,j7 ?_ ?_ ?_⟩,⟨mg_of KX G ?_,j7 ?_ ?_ ?_⟩,⟨mg_of KX G ?_,j7 ?_ ?_ ?_⟩,⟨mg_of KX G ?_,j7 ?_ ?_ ?_⟩,⟨mg_of KX G ?_,j7 ?_ ?_ ?_⟩,⟨⟨?_,?_,?_,?_⟩,j7 ?_ ?_ ?_⟩,⟨⟨?_,?_,?_⟩,j7 ?_ ?_ ?_⟩,⟨mg_of KX G ?_,j7 ?_ ?_ ?_⟩,⟨mg_of KX G ?_,j7 ?_ ?_ ?_⟩,⟨mg_of KX G ?_,j7 ?_ ?_ ?_⟩,⟨mg_of KX G ?_,j7 ?_ ?_ ?_⟩,⟨mg_of KX G ?_,j7 ?_ ?_ ?_⟩,⟨mg_of KX G ?_,j7 ?_ ?_ ?_⟩,⟨mg_of KX G ?_,j7 ?_ ?_ ?_⟩,⟨mg_of KX G ?_,j7 ?_ ?_ ?_⟩,⟨mg_of KX G ?_,j7 ?_ ?_ ?_⟩,⟨⟨?_,?_,?_,?_⟩,xH ?_ ?_ ?_ ?_⟩,⟨⟨?_,?_,?_⟩,AB ?_ ?_ ?_ ?_⟩,⟨⟨?_,?_,?_⟩,j7 ?_ ?_ ?_⟩,⟨⟨?_,?_,?_⟩,j7 ?_ ?_ ?_⟩,⟨⟨?_,?_,?_⟩,j7 ?_ ?_ ?_⟩,⟨⟨?_,?_,?_⟩,j7 ?_ ?_ ?_⟩,⟨⟨?_,?_,?_⟩,j7 ?_ ?_ ?_⟩,⟨⟨?_,?_,?_⟩,xH ?_ ?_ ?_ ?_⟩,⟨⟨?_,?_,?_⟩,j7 ?_ ?_ ?_⟩,⟨⟨?_,?_,?_⟩,j7 ?_ ?_ ?_⟩,⟨⟨?_,?_,?_⟩,j7 ?_ ?_ ?_⟩,⟨⟨?_,?_,?_⟩,j7 ?_ ?_ ?_⟩,⟨⟨?_,?_,?_⟩,j7 ?_ ?_ ?_⟩,⟨⟨?_,?_,?_⟩,j7 ?_ ?_ ?_⟩,⟨mg_of KX G ?_,j7 ?_ ?_ ?_⟩,⟨⟨?_,?_,?_,?_⟩,j7 ?_ ?_ ?_⟩,⟨mg_of KX G ?_,j7 ?_ ?_ ?_⟩,⟨mg_of KX G ?_,j7 ?_ ?_ ?_⟩,⟨mg_of KX G ?_,j7 ?_ ?_ ?_⟩,⟨mg_of KX G ?_,j7 ?_ ?_ ?_⟩,⟨mg_of KX G ?_,j7 ?_ ?_ ?_⟩,⟨mg_of KX G ?_,j7 ?_ ?_ ?_⟩,⟨mg_of KX G ?_,j7 ?_ ?_ ?_⟩,⟨mg_of KX G ?_,j7 ?_ ?_ ?_⟩,⟨mg_of KX G ?_,j7 ?_ ?_ ?_⟩,⟨mg_of KX G ?_,j7 ?_ ?_ ?_⟩,⟨mg_of KX G ?_,j7 ?_ ?_ ?_⟩,⟨mg_of KX G ?_,j7 ?_ ?_ ?_⟩,⟨mg_of KX G ?_,j7 ?_ ?_ ?_⟩,⟨mg_of KX G ?_,j7 ?_ ?_ ?_⟩,⟨mg_of KX G ?_,j7 ?_ ?_ ?_⟩,⟨mg_of KX G ?_,j7 ?_ ?_ ?_⟩,⟨mg_of KX G ?_,j7 ?_ ?_ ?_⟩,⟨mg_of KX G ?_,j7 ?_ ?_ ?_⟩,⟨mg_of KX G ?_,j7 ?_ ?_ ?_⟩,⟨mg_of KX G ?_,j7 ?_ ?_ ?_⟩,⟨mg_of KX G ?_,j7 ?_ ?_ ?_⟩,⟨mg_of KX G ?_,j7 ?_ ?_ ?_⟩,⟨mg_of KX G ?_,j7 ?_ ?_ ?_⟩,mg_of KX G ?_,⟨_,ZO (dV:=.none) ?_ ?_ ?_,fun s u=>.of_eq rfl⟩,mg_none_of KX G ?_,mg_none_of KX G ?_,mg_none_of KX G ?_,mg_none_of KX G ?_,mg_none_of KX G ?_,mg_none_of KX G ?_,mg_none_of KX G ?_,mg_none_of KX G ?_,mg_none_of KX G ?_,mg_none_of KX G ?_,mg_none_of KX G ?_,mg_none_of KX G ?_,mg_none_of KX G ?_,mg_none_of KX G ?_,mg_of KX G ?_,mg_of KX G ?_,mg_of KX G ?_,mg_of KX G ?_,mg_of KX G ?_,mg_of KX G ?_,mg_of KX G ?_⟩⟩
   all_goals
    try dsimp only
    first|k_is|k_exc|exact⟨_,rfl⟩|exact rfl|kernel_rfl|skip
  obtain⟨t,T⟩:=TT
  have e:=hmg.symm.trans T.wQ
  cases e
  exact K33.law_fn T
